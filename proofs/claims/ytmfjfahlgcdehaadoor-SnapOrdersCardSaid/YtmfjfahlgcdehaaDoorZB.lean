import Derived.Test.YtmfjfahlgcdehaaDoorZA
import Derived.Test.YtmfjfahlgcdehaaDoorJF

/- Rows of snapshots; one built. -/
namespace Go.Proofs.YtmfjfahlgcdehaaDoor
open Go.RowKit Go.Lib Go.Sort Go.Shelf

theorem Grown.load {w v : World} {k b : Nat} {cs : List Value} (h : Grown w v) (hl : cs.length = k) (hc : ∀ (j : Nat) u, cs[j]? = some u → w.cell? ((⟨b, 0, none⟩ : Addr).add j) = some u) (P : Program) :
    Sem.run P (loadCellsFrom ⟨b, 0, none⟩ 0 k #[]) v = .ok cs.toArray v :=
  run_loadCellsFrom_list P _ _ _ k hl (fun j u hj => (h.kept.cell (World.block_lt_of_cell? w _ (hc j u hj)) (by simp)).trans (hc j u hj))
theorem Grown.of (w : World) (n : Nat) (os : Array Obj) : Grown w (grow (w.drewN n) os) := ⟨n, os, rfl⟩

theorem Snaps.kept {S : List Nat} {w w' : World} {a : Option Addr} {c : Nat} {xs : List Sq} (h : Snaps w a c xs) (hk : Kept S w w') (hx : ∀ x, a = some x → x.block ∉ S) : Snaps w' a c xs :=
  ⟨h.le, h.max, h.nil, fun x e i s hs j v hv => by
    have hc := h.at_ x e i s hs j v hv
    refine (hk.cell (World.block_lt_of_cell? w _ hc) ?_).trans hc
    rw [add_block]; exact hx x e⟩
theorem snaps_of_row {W : World} {base : Nat} {a : Option Addr} {c : Nat} {xs : List Sq} (ho : W.ownsRow base 28 37 (.slice a xs.length c) xs.length (xs.flatMap encQ)) : Snaps W a c xs ∧ ∀ x, a = some x → base ≤ x.block := by
  rcases ho.2 with ⟨h1, h2⟩ | ⟨g, cap, cur, hv, hg, hh, hc, hm, hs, ht⟩
  · simp at h1
    obtain ⟨rfl, h1, rfl⟩ := h1
    have h3 : xs = [] := List.eq_nil_of_length_eq_zero h2
    subst h3
    exact ⟨⟨by simp, by omega, fun _ => ⟨rfl, rfl⟩, fun x hx => by simp at hx⟩, fun x hx => by simp at hx⟩
  · simp at hv
    obtain ⟨rfl, rfl⟩ := hv
    have hH := own_holds ho rfl
    have h2 := holds_snaps (c := c) hH (by simpa using hc) (by unfold maxLen at hm; omega)
    exact ⟨by simpa using h2, fun x hx => by simp at hx; subst hx; exact hg⟩
set_option maxRecDepth 100000 in
theorem build_snap' (t f b : Int) (h g : ByteArray) (b0 b1 b2 b3 b4 b5 b6 b7 b8 b9 b10 b11 b12 b13 b14 b15 b16 b17 b18 b19 b20 b21 b22 b23 b24 b25 b26 b27 b28 b29 b30 b31 : UInt8) (W : World) :
    (Instr.buildSlice 22 1 #[(0, .agg ([Value.int .i64 t, .string h, .string g] ++ [b0, b1, b2, b3, b4, b5, b6, b7, b8, b9, b10, b11, b12, b13, b14, b15, b16, b17, b18, b19, b20, b21, b22, b23, b24, b25, b26, b27, b28, b29, b30, b31].map B ++ [Value.int .i64 f, Value.int .i64 b]).toArray)]).run Tryd.prog W = .ok (.slice (some ⟨W.heap.size, 0, none⟩) 1 1) (W.alloc (.cells ([Value.int .i64 t, .string h, .string g] ++ [b0, b1, b2, b3, b4, b5, b6, b7, b8, b9, b10, b11, b12, b13, b14, b15, b16, b17, b18, b19, b20, b21, b22, b23, b24, b25, b26, b27, b28, b29, b30, b31].map B ++ [Value.int .i64 f, Value.int .i64 b]).toArray 28)) := by kernel_rfl
theorem build_snap (s : Sp) (h : s.root.length = 32) (W : World) : (Instr.buildSlice 22 1 #[(0, .agg s.cells.toArray)]).run Tryd.prog W = .ok (.slice (some ⟨W.heap.size, 0, none⟩) 1 1) (W.alloc (.cells s.cells.toArray 28)) := by
  obtain ⟨t, host, tag, root, f, b⟩ := s
  unfold Sp.cells
  match root, h with
  | [b0, b1, b2, b3, b4, b5, b6, b7, b8, b9, b10, b11, b12, b13, b14, b15, b16, b17, b18, b19, b20, b21, b22, b23, b24, b25, b26, b27, b28, b29, b30, b31], _ => exact build_snap' t f b (S host) (S tag) b0 b1 b2 b3 b4 b5 b6 b7 b8 b9 b10 b11 b12 b13 b14 b15 b16 b17 b18 b19 b20 b21 b22 b23 b24 b25 b26 b27 b28 b29 b30 b31 W
theorem enc_at {w : World} {p : Nat} {cs : List Value} (h : w.heap[p]? = some (.cells cs.toArray 28 (0, 0))) (j : Nat) (v : Value) (hj : cs[j]? = some v) : w.cell? ((⟨p, 0, none⟩ : Addr).add j) = some v := by
  rw [plain_add, Nat.zero_add, cell_of_row w _ j _ _ _ h]; simpa using hj
theorem load_kept {w : World} {k : Nat} {ad : Addr} {cs : List Value} (hl : cs.length = k) (hc : ∀ (j : Nat) u, cs[j]? = some u → w.cell? (ad.add j) = some u) (P : Program) :
    Sem.run P (loadCellsFrom ad 0 k #[]) w = .ok cs.toArray w :=
  run_loadCellsFrom_list P _ _ _ k hl hc
theorem ownsK_ge {w : World} {base : Nat} {e : TypeId} {size : Nat} {v : Value} {n : Nat} {xs : List Value} (h : w.ownsRow base e size v n xs) {g : Nat} (hg : v.ownBlock = some g) : base ≤ g := by
  rcases h.2 with ⟨rfl, _⟩ | ⟨g', _, _, rfl, hb, _⟩
  · simp [Value.ownBlock] at hg
  · simp [Value.ownBlock] at hg; omega

end Go.Proofs.YtmfjfahlgcdehaaDoor
