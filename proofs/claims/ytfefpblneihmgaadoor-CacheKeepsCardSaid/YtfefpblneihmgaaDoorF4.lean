import Derived.Test.YtfefpblneihmgaaDoorMF
import Derived.Test.YtfefpblneihmgaaDoorMS
import Derived.Test.YtfefpblneihmgaaDoorMI

/- cache: the state; New, Len, Size, drop. -/
namespace Go.Proofs.YtfefpblneihmgaaDoor
open Go.RowKit Go.Lib Go.Maps
/-- The block of a row has its type. -/
theorem ow_type {w : World} {base : Nat} {e : TypeId} {size : Nat} {v : Value} {n : Nat} {xs : List Value} (h : w.ownsRow base e size v n xs) {g : Nat} (hg : v.ownBlock = some g) : ∃ cur, w.heap[g]? = some (.cells cur e (0, 0)) := by
  rcases h.2 with ⟨rfl, _⟩ | ⟨g', cap, cur, rfl, _, hh, _⟩
  · simp [Value.ownBlock] at hg
  · simp [Value.ownBlock] at hg; subst hg; exact ⟨cur, hh⟩
def sizeK (ns : List Kn) : Nat := (ns.map (·.bs.length)).sum
def pairK (ns : List Kn) : List (List UInt8 × Nat) := ns.map fun n => (n.id, n.b)
/-- A cache at p; U: its blocks, none below D. -/
structure Ca (D : Nat) (w : World) (U : List Nat) (p : Nat) (lim : Int) (ns : List Kn) : Prop where
  row : ∃ mv, CaAt w p lim (sizeK ns) mv (fstP ns none) (lstP none ns) ∧ IM w mv (pairK ns) ∧ ∀ b, mv = .map (some b) → b ∈ U
  links : Lk w none ns none
  data : ∀ n ∈ ns, w.ownsRow D 5 1 n.v n.bs.length (n.bs.map B) ∧ ∀ g, n.v.ownBlock = some g → g ∈ U
  apart : ns.Pairwise (fun a b => ∀ g, a.v.ownBlock = some g → b.v.ownBlock ≠ some g)
  pU : p ∈ U
  nU : ∀ n ∈ ns, n.b ∈ U
  bound : ∀ x ∈ U, D ≤ x ∧ x < w.heap.size
  lim0 : 0 ≤ lim ∧ lim ≤ 9223372036854775807
theorem Ca.kept {D : Nat} {w w' : World} {U S : List Nat} {p : Nat} {lim : Int} {ns : List Kn} (h : Ca D w U p lim ns) (hk : Kept S w w') (hd : ∀ x ∈ U, x ∉ S) : Ca D w' U p lim ns := by
  obtain ⟨⟨mv, h1, h2, h3⟩, h4, h5, h6, h7, h8, h9, h10⟩ := h
  exact ⟨⟨mv, hk.at h1 (hd p h7), h2.kept hk (fun b hb => hd b (h3 b hb)), h3⟩, h4.kept hk (fun n hn => hd _ (h8 n hn)), fun n hn => ⟨hk.owns (h5 n hn).1 (fun g hg => hd g ((h5 n hn).2 g hg)), (h5 n hn).2⟩, h6, h7, h8, fun x hx => ⟨(h9 x hx).1, Nat.lt_of_lt_of_le (h9 x hx).2 hk.size⟩, h10⟩
theorem Ca.ids {D : Nat} {w : World} {U : List Nat} {p : Nat} {lim : Int} {ns : List Kn} (h : Ca D w U p lim ns) : (ns.map (·.id)).Nodup := by
  obtain ⟨⟨mv, _, h2, _⟩, _⟩ := h
  rcases h2 with ⟨_, h2⟩ | ⟨b, _, h2⟩
  · cases ns with
    | nil => simp
    | cons n r => simp [pairK] at h2
  · have := h2.2.1
    simpa [pairK, List.map_map, Function.comp_def] using this
theorem lk_nd {w : World} {ns : List Kn} (hl : Lk w none ns none) (hi : (ns.map (·.id)).Nodup) : (ns.map (·.b)).Nodup := by
  rw [List.Nodup, List.pairwise_map] at hi ⊢
  refine List.Pairwise.imp_of_mem (fun {x y} hx hy hne e => ?_) hi
  obtain ⟨a, b, h1⟩ := hl.mem hx
  obtain ⟨c, d, h2⟩ := hl.mem hy
  have h3 := h1.2
  rw [e, h2.2] at h3
  simp [knL] at h3
  have h4 := congrArg (List.take 32) h3
  rw [List.take_left' (by simp [h2.1]), List.take_left' (by simp [h1.1])] at h4
  exact hne (List.map_inj_right (fun a b h => by
    unfold B at h
    have : (a.toNat : Int) = b.toNat := by simpa using h
    exact UInt8.toNat_inj.1 (by omega)) |>.1 h4).symm
theorem Ca.nd {D : Nat} {w : World} {U : List Nat} {p : Nat} {lim : Int} {ns : List Kn} (h : Ca D w U p lim ns) : (ns.map (·.b)).Nodup := lk_nd h.links h.ids
theorem info_idN : (Tryd.prog.info? 34).map (·.size) = some 32 := by kernel_rfl
theorem ld_idA (W : World) (x : Addr) (id : List UInt8) (h32 : id.length = 32) (h : ∀ (j : Nat) v, (id.map B)[j]? = some v → W.cell? (x.add j) = some v) : (loadVar 34 x).run Tryd.prog W = .ok (.agg (id.map B).toArray) W :=
  run_loadVar_cells W _ _ (id.map B) _ Tryd.underlying34 rfl (by rw [List.length_map, h32]; exact info_idN) h
theorem ld_idB (W : World) (g : Nat) (id : List UInt8) (h32 : id.length = 32) (h : W.heap[g]? = some (.cells (id.map B).toArray 34 (0, 0))) : (loadVar 34 ⟨g, 0, none⟩).run Tryd.prog W = .ok (.agg (id.map B).toArray) W :=
  ld_idA W _ id h32 (fun j v hj => by
    have e : (⟨g, 0, none⟩ : Addr).add j = ⟨g, j, none⟩ := by unfold Addr.add; split <;> simp_all
    rw [e, cell_of_row _ _ j _ _ _ h]; simpa using hj)

theorem ca_fresh (D : Nat) (lim : Int) (h0 : 0 ≤ lim ∧ lim ≤ 9223372036854775807) (w : World) (hD : D ≤ w.heap.size) :
    Ca D (w.alloc (.cells #[.int .i64 lim, .int .i64 0, .map none, .pointer none, .pointer none] 67)) [w.heap.size] w.heap.size lim [] := by
  refine ⟨⟨.map none, ?_, Or.inl ⟨rfl, rfl⟩, by simp⟩, trivial, by simp, by simp, by simp, by simp, fun x hx => ?_, h0⟩
  · exact heap_alloc_at rfl
  · simp at hx
    subst hx
    simp
    exact hD
theorem ca_new (D : Nat) (l : Int) (hl : l ≤ 9223372036854775807) (w : World) (hD : D ≤ w.heap.size) :
    Calls Tryd.prog 10 #[.int .i64 l] w fun e w' => e = .returned (.pointer (some ⟨w.heap.size, 0, none⟩)) ∧ Kept [] w w' ∧ Ca D w' [w.heap.size] w.heap.size (max l 0) [] := by
  rcases Int.lt_or_le 0 l with h | h
  · have e : max l 0 = l := by omega
    have hf := ca_fresh D l (by omega) w hD
    rw [e]
    go_enter Tryd.func10, Tryd.ntmps10
    go_wp2
    go_ret
    exact ⟨rfl, (Kept.refl [] w).alloc _, hf⟩
  · have e : max l 0 = 0 := by omega
    have hf := ca_fresh D 0 (by omega) w hD
    rw [e]
    go_enter Tryd.func10, Tryd.ntmps10
    go_wp2
    · go_ret
      exact ⟨rfl, (Kept.refl [] w).alloc _, hf⟩
    · have hl0 : l = 0 := by omega
      subst hl0
      go_ret
      exact ⟨rfl, (Kept.refl [] w).alloc _, hf⟩
theorem ca_len (D : Nat) (w : World) (U : List Nat) (p : Nat) (lim : Int) (ns : List Kn) (h : Ca D w U p lim ns) :
    Calls Tryd.prog 22 #[.pointer (some ⟨p, 0, none⟩)] w fun e w' => e = .returned (.int .i64 ns.length) ∧ w = w' := by
  obtain ⟨⟨mv, h1, h2, _⟩, _⟩ := h
  obtain ⟨_, _, c2, _⟩ := ca_cells h1
  have hl := fun ty => im_len h2 ty
  have e : (pairK ns).length = ns.length := by simp [pairK]
  rw [e] at hl
  clear h1 h2 e
  go_enter Tryd.func22, Tryd.ntmps22
  go_wp2
  go_ret
  exact ⟨rfl, rfl⟩
theorem ca_size (D : Nat) (w : World) (U : List Nat) (p : Nat) (lim : Int) (ns : List Kn) (h : Ca D w U p lim ns) :
    Calls Tryd.prog 23 #[.pointer (some ⟨p, 0, none⟩)] w fun e w' => e = .returned (.int .i64 (sizeK ns)) ∧ w = w' := by
  obtain ⟨⟨mv, h1, h2, _⟩, _⟩ := h
  obtain ⟨_, c1, _⟩ := ca_cells h1
  clear h1 h2
  go_enter Tryd.func23, Tryd.ntmps23
  go_wp2
  go_ret
  exact ⟨rfl, rfl⟩
end Go.Proofs.YtfefpblneihmgaaDoor
