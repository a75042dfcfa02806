import Derived.Test.YtmfjfahlgcdehaaDoorZA
import Derived.Test.YtmfjfahlgcdehaaDoorJF
import Derived.Test.YtmfjfahlgcdehaaDoorHL
import Derived.Test.YtmfjfahlgcdehaaDoorZD

/- coldstoreref11.Sort: one by one. -/
namespace Go.Proofs.YtmfjfahlgcdehaaDoor
open Go.RowKit Go.Lib Go.Sort Go.Shelf

abbrev Rising (ys : List Sq) : Prop := ys.Pairwise (fun p q => ltOf cmpQ q p = false)
theorem ltQ_asym {x y : Sq} (h : ltOf cmpQ x y = true) : ltOf cmpQ y x = false := by
  cases e : ltOf cmpQ y x
  · rfl
  · have h1 := swoQ.trans x y x h e
    rw [swoQ.irrefl] at h1; cases h1
theorem rising_insert (s : Sq) (ys : List Sq) (p : Nat) (hpl : p ≤ ys.length) (hs : Rising ys) (ha : ∀ m y, p ≤ m → ys[m]? = some y → ltOf cmpQ s y = true) (hb : ∀ m y, m + 1 = p → ys[m]? = some y → ltOf cmpQ s y = false) : Rising (ys.take p ++ s :: ys.drop p) := by
  unfold Rising
  rw [List.pairwise_append]
  have hcat : (ys.take p ++ ys.drop p).Pairwise (fun p q => ltOf cmpQ q p = false) := by rw [List.take_append_drop]; exact hs
  rw [List.pairwise_append] at hcat
  refine ⟨hcat.1, List.pairwise_cons.2 ⟨fun y hy => ?_, hcat.2.1⟩, fun x hx y hy => ?_⟩
  · obtain ⟨m, hm⟩ := List.mem_iff_getElem?.1 hy
    rw [List.getElem?_drop] at hm
    exact ltQ_asym (ha _ y (by omega) hm)
  · rcases List.mem_cons.1 hy with rfl | hy
    · obtain ⟨m, hm⟩ := List.mem_iff_getElem?.1 hx
      rw [List.getElem?_take] at hm
      split at hm
      · rename_i hmp
        by_cases hl : m + 1 = p
        · exact hb m x hl hm
        · have hp : p - 1 < ys.length := by omega
          have hz : ys[p - 1]? = some ys[p - 1] := List.getElem?_eq_getElem hp
          have h1 := hb (p - 1) _ (by omega) hz
          have h2 := List.pairwise_iff_getElem.1 hs m (p - 1) (by have := (List.getElem?_eq_some_iff.1 hm).1; omega) hp (by omega)
          have e : ys[m]'(List.getElem?_eq_some_iff.1 hm).1 = x := (List.getElem?_eq_some_iff.1 hm).2
          rw [e] at h2
          exact swoQ.ntrans _ _ _ h1 h2
      · cases hm
    · exact hcat.2.2 x hx y hy
theorem rsnap_zero : (Tryd.prog.info? 29).map (fun i => (i.zero, i.size, i.bytes)) = some (some (.agg zSnap.toArray), 37, 88) := by kernel_rfl
theorem rsnap_info : (Tryd.prog.info? 29).map (·.size) = some 37 := by kernel_rfl
set_option maxRecDepth 100000 in
theorem build_rsnap' (t f b : Int) (h g : ByteArray) (b0 b1 b2 b3 b4 b5 b6 b7 b8 b9 b10 b11 b12 b13 b14 b15 b16 b17 b18 b19 b20 b21 b22 b23 b24 b25 b26 b27 b28 b29 b30 b31 : UInt8) (W : World) :
    (Instr.buildSlice 24 1 #[(0, .agg ([Value.int .i64 t, .string h, .string g] ++ [b0, b1, b2, b3, b4, b5, b6, b7, b8, b9, b10, b11, b12, b13, b14, b15, b16, b17, b18, b19, b20, b21, b22, b23, b24, b25, b26, b27, b28, b29, b30, b31].map B ++ [Value.int .i64 f, Value.int .i64 b]).toArray)]).run Tryd.prog W = .ok (.slice (some ⟨W.heap.size, 0, none⟩) 1 1) (W.alloc (.cells ([Value.int .i64 t, .string h, .string g] ++ [b0, b1, b2, b3, b4, b5, b6, b7, b8, b9, b10, b11, b12, b13, b14, b15, b16, b17, b18, b19, b20, b21, b22, b23, b24, b25, b26, b27, b28, b29, b30, b31].map B ++ [Value.int .i64 f, Value.int .i64 b]).toArray 29)) := by kernel_rfl
theorem build_rsnap (s : Sp) (h : s.root.length = 32) (W : World) : (Instr.buildSlice 24 1 #[(0, .agg s.cells.toArray)]).run Tryd.prog W = .ok (.slice (some ⟨W.heap.size, 0, none⟩) 1 1) (W.alloc (.cells s.cells.toArray 29)) := by
  obtain ⟨t, host, tag, root, f, b⟩ := s
  unfold Sp.cells
  match root, h with
  | [b0, b1, b2, b3, b4, b5, b6, b7, b8, b9, b10, b11, b12, b13, b14, b15, b16, b17, b18, b19, b20, b21, b22, b23, b24, b25, b26, b27, b28, b29, b30, b31], _ => exact build_rsnap' t f b (S host) (S tag) b0 b1 b2 b3 b4 b5 b6 b7 b8 b9 b10 b11 b12 b13 b14 b15 b16 b17 b18 b19 b20 b21 b22 b23 b24 b25 b26 b27 b28 b29 b30 b31 W
theorem renc_at {w : World} {p : Nat} {cs : List Value} (h : w.heap[p]? = some (.cells cs.toArray 29 (0, 0))) (j : Nat) (v : Value) (hj : cs[j]? = some v) : w.cell? ((⟨p, 0, none⟩ : Addr).add j) = some v := by
  rw [plain_add, Nat.zero_add, cell_of_row w _ j _ _ _ h]; simpa using hj
theorem elem_rsnap : Tryd.prog.elem 24 = 29 := by simp [Program.elem, Tryd.underlying24]
theorem rsnap_sz (W : World) : (sizeOf 29).run Tryd.prog W = .ok 37 W := by kernel_rfl
theorem rcut_head (g m n c : Nat) (h : m ≤ c) (W : World) : (Instr.sliceAt 24 (.slice (some ⟨g, 0, none⟩) n c) none (some (.int .i64 (m : Int))) none).run Tryd.prog W = .ok (.slice (some ⟨g, 0, none⟩) m c) W := by
  rw [run_sliceAt_slice W 24 _ _ _ _ (by simp [Program.elem, Tryd.underlying24])]
  rw [run_slice_h W 24 _ _ _ (by simp [Program.elem, Tryd.underlying24]) .i64 (m : Int) (by omega) (by omega)]
  have ha : (⟨g, 0, none⟩ : Addr).add 0 = ⟨g, 0, none⟩ := by unfold Addr.add; split <;> simp_all
  rw [elem_rsnap, rsnap_sz]
  simp [Result.andThen, sliced, ha]
theorem rcut_tail (g i n c : Nat) (h : i ≤ n) (hc : n ≤ c) (W : World) : (Instr.sliceAt 24 (.slice (some ⟨g, 0, none⟩) n c) (some (.int .i64 (i : Int))) none none).run Tryd.prog W = .ok (.slice (some (if c = i then ⟨g, 0, none⟩ else ⟨g, i * 37, none⟩)) (n - i) (c - i)) W := by
  rw [run_sliceAt_slice W 24 _ _ _ _ (by simp [Program.elem, Tryd.underlying24])]
  rw [run_slice_l W 24 _ _ _ (by simp [Program.elem, Tryd.underlying24]) .i64 (i : Int) (by omega) (by omega)]
  rw [elem_rsnap, rsnap_sz]
  have ha : (⟨g, 0, none⟩ : Addr).add (i * 37) = ⟨g, i * 37, none⟩ := by rw [plain_add, Nat.zero_add]
  simp [Result.andThen, sliced, ha]
  split <;> simp_all
/-- A row that is not nil, its block and cells. -/
theorem row_some {w : World} {base size : Nat} {e : TypeId} {v : Value} {n : Nat} {xs : List Value} (h : w.ownsRow base e size v n xs) (hv : v ≠ .slice none 0 0) : ∃ g cap, v = .slice (some ⟨g, 0, none⟩) n cap ∧ base ≤ g ∧ n ≤ cap ∧ cap ≤ maxLen ∧ g < w.heap.size ∧ ∀ (j : Nat) u, xs[j]? = some u → w.cell? ⟨g, j, none⟩ = some u := by
  rcases h.2 with ⟨h2, _⟩ | ⟨g, cap, cur, h2, hb, hh, hc, hm, _, _⟩
  · exact absurd h2 hv
  · refine ⟨g, cap, h2, hb, hc, hm, lt_of_block hh, fun j u hj => ?_⟩
    subst h2
    have := h.cells (g := g) rfl j u hj
    rwa [plain_add, Nat.zero_add] at this

theorem ownsE_ge {w : World} {base : Nat} {e : TypeId} {size : Nat} {v : Value} {n : Nat} {xs : List Value} (h : w.ownsRow base e size v n xs) {g : Nat} (hg : v.ownBlock = some g) : base ≤ g := by
  rcases h.2 with ⟨rfl, _⟩ | ⟨g', _, _, rfl, hb, _⟩
  · simp [Value.ownBlock] at hg
  · simp [Value.ownBlock] at hg; omega
section
variable {P : Program} {md : Region.Mode} {Q : Exit → Act → World → Prop} {S : World → Prop} {l rest : List Oper} {oi : Oper} {fuel : Nat} {listed : Array Bool} {a : Act} {w : World}
theorem skipC (i : Nat) (hi : l.drop i = oi :: rest) (hr : Region.ready md l.toArray listed = [i]) (hw : Region.wanted oi (yielded l.toArray a.tmps) = false) (hS : S w)
    (h : wpAnyH P md l.toArray Q S fuel (listed.setIfInBounds i true) (a.put oi.dst undef) w) : wpAnyH P md l.toArray Q S (fuel + 1) listed a w := by
  refine wpAnyH_ready hr (by simp) (AllReadyH.cons (getL_of_drop hi) (fun K hK => ?_) AllReadyH.nil)
  rw [if_neg (by simp [hw])]
  exact hK.out _ _ hS (fun _ => h)
end
theorem snaps_keep {w w' : World} {a : Option Addr} {c : Nat} {xs : List Sq} (h : Snaps w a c xs) (hk : Kept [] w w') : Snaps w' a c xs :=
  ⟨h.le, h.max, h.nil, fun x e i s hs j v hv => by
    have hc := h.at_ x e i s hs j v hv
    exact (hk.cell (World.block_lt_of_cell? w _ hc) (by simp)).trans hc⟩
theorem snapsR_of_row {W : World} {base : Nat} {a : Option Addr} {c : Nat} {xs : List Sq} {e : TypeId} (ho : W.ownsRow base e 37 (.slice a xs.length c) xs.length (xs.flatMap encQ)) : Snaps W a c xs := by
  rcases ho.2 with ⟨h1, h2⟩ | ⟨g, cap, cur, hv, hg, hh, hc, hm, hs, ht⟩
  · simp at h1
    obtain ⟨rfl, h1, rfl⟩ := h1
    have h3 : xs = [] := List.eq_nil_of_length_eq_zero h2
    subst h3
    exact ⟨by simp, by omega, fun _ => ⟨rfl, rfl⟩, fun x hx => by simp at hx⟩
  · simp at hv
    obtain ⟨rfl, rfl⟩ := hv
    refine ⟨hc, by unfold maxLen at hm; omega, fun h => by simp at h, fun x hx i s hs' j v hv => ?_⟩
    simp at hx
    subst hx
    have hj : j < 37 := by have := (List.getElem?_eq_some_iff.1 hv).1; rw [encQ_len] at this; exact this
    exact ho.cells (g := g) rfl _ _ (by rw [flat_get encQ 37 encQ_len xs i j s hs' hj]; exact hv)

set_option maxRecDepth 100000 in
set_option maxHeartbeats 16000000 in
theorem ref_sort (a : Option Addr) (c : Nat) (xs : List Sq) (w : World) (h : Snaps w a c xs) (hl : xs.length ≤ 1000) :
    Calls Tryd.prog 12 #[.slice a xs.length c] w fun e w' => ∃ a2 c2 ys, e = .returned (.slice a2 ys.length c2) ∧ Kept [] w w' ∧ Snaps w' a2 c2 ys ∧ ys.Perm xs ∧ Rising ys := by
  obtain ⟨i0, hi0, hz0, hz1, hz2⟩ := info_parts rsnap_zero
  have H := hid (fun wr (hk : Kept [] w wr) => snaps_keep h hk)
  have hmx := h.max; have hle := h.le
  obtain ⟨n, hn⟩ : ∃ n, n = xs.length := ⟨_, rfl⟩
  rw [← hn] at hle hl ⊢
  have HN := hid hn
  clear h hn
  have hst := hid (show Kept [] w (w.alloc (.cells #[] 29)) ∧ (w.alloc (.cells #[] 29)).ownsRow w.heap.size 29 37 (.slice (some ⟨w.heap.size, 0, none⟩) 0 0) 0 [] from
    ⟨(Kept.refl [] w).alloc _, by simp, Or.inr ⟨w.heap.size, 0, #[], rfl, Nat.le_refl _, heap_alloc_at rfl, by simp, by unfold maxLen; omega, by simp, by simp⟩⟩)
  go_enter Tryd.func12, Tryd.ntmps12
  go_wp2_with fail
  go_loopw [3, 4] (fun v t wr => ∃ (i : Nat) (ys : List Sq), i ≤ n ∧ t = .int .i64 i ∧ Hid (v ≠ .slice none 0 0) ∧ Hid (ys.length = i) ∧ Hid (ys.Perm (xs.take i)) ∧ Hid (Rising ys) ∧ Hid (Kept [] w wr) ∧ Hid (wr.ownsRow w.heap.size 29 37 v i (ys.flatMap encQ))) (fun _ t _ => n - (intOf t).toNat)
  case atStart => exact ⟨0, [], Nat.zero_le _, rfl, hid (by simp), hid rfl, hid (by simp), hid List.Pairwise.nil, hid hst.out.1, hid (by simpa using hst.out.2)⟩
  case round =>
    obtain ⟨i, ys, hi, rfl, Hnn, Hyl, Hp, Hr, HK, Ho⟩ := hrel
    rename World => wo
    obtain ⟨g, cap, rfl, hgb, hgc, hgm, hgs, hgx⟩ := row_some Ho.out Hnn.out
    have HG := hid hgx; have Hgs := hid hgs; have Hgb := hid hgb; have hgm' : cap ≤ 9223372036854775807 := by unfold maxLen at hgm; exact hgm
    clear hgx hgs hgb hgm
    by_cases hlt : i < n
    · have Hlt := hid hlt
      have hltz : (i : Int) < (n : Int) := by omega
      obtain ⟨sq, hsq⟩ : ∃ sq, xs[i]? = some sq := ⟨xs[i]'(by have := HN.out; omega), by simp⟩
      have hSx := hid (H.out wo HK.out)
      cases a with
      | none => exact absurd (hSx.out.nil rfl).1 (fun e => by have := HN.out; rw [e] at this; simp at this; omega)
      | some x =>
        obtain ⟨cs, hcs⟩ : ∃ cs, cs = encQ sq := ⟨_, rfl⟩
        have lcs := hid (show cs.length = 37 by rw [hcs, encQ_len])
        have hsz := hid (show (Tryd.prog.info? 29).map (·.size) = some cs.length by rw [lcs.out]; exact rsnap_info)
        have hreads := hid (show ∀ wv, Kept [] wo wv → ∀ (k : Nat) v, cs[k]? = some v → wv.cell? ((x.add (i * 37)).add k) = some v from fun wv hk k v hv => by
          rw [snap_add_add]; exact (snaps_keep hSx.out hk).at_ x rfl i sq hsq k v (by rw [← hcs]; exact hv))
        have hone := hid (show ∀ u ∈ cs, u.oneCell' = true by rw [hcs]; exact sq.1.one)
        have hbn := hid (fun W => build_rsnap sq.1 sq.2.root W)
        have hcs2 : cs = sq.1.cells := hcs
        rw [← hcs2] at hbn
        have Hsq := hid hsq; have Hcs := hid hcs
        clear hsq hcs hcs2 hlt hSx
        go_wp2_with fail
        go_loopw [5] (fun t wq => ∃ p : Nat, p ≤ i ∧ t = .int .i64 p ∧ Hid (Kept [] wo wq) ∧ Hid (∀ m y, p ≤ m → ys[m]? = some y → ltOf cmpQ sq y = true)) (fun t _ => (intOf t).toNat)
        case atStart => exact ⟨i, Nat.le_refl _, rfl, hid (Kept.refl _ _), hid (fun m y hm hy => by have h1 := (List.getElem?_eq_some_iff.1 hy).1; have := Hyl.out; omega)⟩
        case round =>
          obtain ⟨p, hpi, rfl, HKq, Hab⟩ := hrel
          rename World => wq
          go_upto_region 6 with fail
          go_cut [29] (fun t wx => ∃ q : Bool, t = .bool q ∧ Hid (Kept [] wq wx) ∧ Hid ((q = true → ∃ m y, p = m + 1 ∧ ys[m]? = some y ∧ ltOf cmpQ sq y = true) ∧ (q = false → ∀ m y, m + 1 = p → ys[m]? = some y → ltOf cmpQ sq y = false)))
          case first =>
            cases p with
            | zero =>
              have z0 : decide (0 < (0 : Nat)) = false := by simp
              have hdec := hid (show ((false = true → ∃ m y, 0 = m + 1 ∧ ys[m]? = some y ∧ ltOf cmpQ sq y = true) ∧ (false = false → ∀ m y, m + 1 = 0 → ys[m]? = some y → ltOf cmpQ sq y = false)) from ⟨by simp, by simp⟩)
              refine wp_region_held_drew (S := Kept [] wq) (by kernel_rfl) (Kept.refl [] wq).drew (fun hH => ?_)
              refine takeH 0 (.int .i64 ((0 : Nat) : Int)) rfl (by kernel_rfl) (by kernel_rfl) (by kernel_rfl) (fun _ _ _ h => h) (by rfl) (fun v hv => by go_simp) hH ?_
              simp only [Act.put, List.setIfInBounds_toArray, List.set_cons_succ, List.set_cons_zero]
              refine takeH 1 (.bool false) rfl (by kernel_rfl) (by kernel_rfl) (by kernel_rfl) (fun _ _ _ h => h) (by rfl) (fun v hv => by go_simp) hH ?_
              simp only [Act.put, List.setIfInBounds_toArray, List.set_cons_succ, List.set_cons_zero]
              refine takeH 2 (.bool false) rfl (by kernel_rfl) (by kernel_rfl) (by kernel_rfl) (fun _ _ _ h => h) (by rfl) (fun v hv => by go_simp) hH ?_
              simp only [Act.put, List.setIfInBounds_toArray, List.set_cons_succ, List.set_cons_zero]
              refine skipH 3 rfl (by kernel_rfl) (by kernel_rfl) (by kernel_rfl) (fun _ _ _ h => h) (by rfl) hH ?_
              simp only [Act.put, List.setIfInBounds_toArray, List.set_cons_succ, List.set_cons_zero]
              refine skipH 4 rfl (by kernel_rfl) (by kernel_rfl) (by kernel_rfl) (fun _ _ _ h => h) (by rfl) hH ?_
              simp only [Act.put, List.setIfInBounds_toArray, List.set_cons_succ, List.set_cons_zero]
              refine skipH 5 rfl (by kernel_rfl) (by kernel_rfl) (by kernel_rfl) (fun _ _ _ h => h) (by rfl) hH ?_
              simp only [Act.put, List.setIfInBounds_toArray, List.set_cons_succ, List.set_cons_zero]
              refine skipH 6 rfl (by kernel_rfl) (by kernel_rfl) (by kernel_rfl) (fun _ _ _ h => h) (by rfl) hH ?_
              simp only [Act.put, List.setIfInBounds_toArray, List.set_cons_succ, List.set_cons_zero]
              refine skipH 7 rfl (by kernel_rfl) (by kernel_rfl) (by kernel_rfl) (fun _ _ _ h => h) (by rfl) hH ?_
              simp only [Act.put, List.setIfInBounds_toArray, List.set_cons_succ, List.set_cons_zero]
              refine skipH 8 rfl (by kernel_rfl) (by kernel_rfl) (by kernel_rfl) (fun _ _ _ h => h) (by rfl) hH ?_
              simp only [Act.put, List.setIfInBounds_toArray, List.set_cons_succ, List.set_cons_zero]
              refine skipH 9 rfl (by kernel_rfl) (by kernel_rfl) (by kernel_rfl) (fun _ _ _ h => h) (by rfl) hH ?_
              simp only [Act.put, List.setIfInBounds_toArray, List.set_cons_succ, List.set_cons_zero]
              refine skipH 10 rfl (by kernel_rfl) (by kernel_rfl) (by kernel_rfl) (fun _ _ _ h => h) (by rfl) hH ?_
              simp only [Act.put, List.setIfInBounds_toArray, List.set_cons_succ, List.set_cons_zero]
              refine skipH 11 rfl (by kernel_rfl) (by kernel_rfl) (by kernel_rfl) (fun _ _ _ h => h) (by rfl) hH ?_
              simp only [Act.put, List.setIfInBounds_toArray, List.set_cons_succ, List.set_cons_zero]
              refine skipC 12 rfl (by kernel_rfl) (by rfl) hH ?_
              simp only [Act.put, List.setIfInBounds_toArray, List.set_cons_succ, List.set_cons_zero]
              refine takeH 13 (.bool false) rfl (by kernel_rfl) (by kernel_rfl) (by kernel_rfl) (fun _ _ _ h => h) (by rfl) (fun v hv => by go_simp) hH ?_
              simp only [Act.put, List.setIfInBounds_toArray, List.set_cons_succ, List.set_cons_zero]
              refine wpAnyH_done (by kernel_rfl) ?_ _
              go_wp2_with fail
              go_meet
              exact ⟨false, rfl, hid hH, hid ⟨by simp, by simp⟩⟩
            | succ m =>
              obtain ⟨y, hy⟩ : ∃ y, ys[m]? = some y := ⟨ys[m]'(by have := Hyl.out; omega), by simp⟩
              obtain ⟨cy, hcy⟩ : ∃ cy, cy = encQ y := ⟨_, rfl⟩
              obtain ⟨q, hq⟩ : ∃ q, q = ltOf cmpQ sq y := ⟨_, rfl⟩
              have lx := hid (show ∀ wv, Kept [] wq wv → (loadVar 29 (x.add (i * 37))).run Tryd.prog wv = .ok (.agg cs.toArray) wv from fun wv hk => run_loadVar_cells wv _ _ cs _ Tryd.underlying29 rfl hsz.out (hreads.out wv (HKq.out.trans hk)))
              have ly := hid (show ∀ wv, Kept [] wq wv → (loadVar 29 ⟨g, m * 37, none⟩).run Tryd.prog wv = .ok (.agg cy.toArray) wv from fun wv hk => run_loadVar_cells wv _ _ cy _ Tryd.underlying29 rfl (by rw [hcy, encQ_len]; exact rsnap_info) (fun k v hv => by
                have hk37 : k < 37 := by have := (List.getElem?_eq_some_iff.1 hv).1; rw [hcy, encQ_len] at this; exact this
                have hc := HG.out (m * 37 + k) v (by rw [flat_get encQ 37 encQ_len ys m k y hy hk37, ← hcy]; exact hv)
                rw [plain_add]
                exact ((HKq.out.trans hk).cell (World.block_lt_of_cell? wo _ hc) (by simp)).trans hc))
              have hless := hid (show ∀ W, Calls Tryd.prog 39 #[.agg cs.toArray, .agg cy.toArray] W fun e w' => e = .returned (.bool q) ∧ Kept [] W w' from fun W => by
                rw [Hcs.out, hcy, hq]; exact ref_less sq.1 y.1 sq.2 y.2 W)
              have hdec := hid (show ((q = true → ∃ m' y, m + 1 = m' + 1 ∧ ys[m']? = some y ∧ ltOf cmpQ sq y = true) ∧ (q = false → ∀ m' y, m' + 1 = m + 1 → ys[m']? = some y → ltOf cmpQ sq y = false)) from
                ⟨fun e => ⟨m, y, rfl, hy, by rw [← hq]; exact e⟩, fun e m' y' hm' hy' => by
                  obtain rfl : m' = m := by omega
                  rw [hy] at hy'; cases hy'; rw [← hq]; exact e⟩)
              have hmz : (m : Int) < (i : Int) := by omega
              have wm1 : IntKind.i64.wrap (((m + 1 : Nat) : Int) - 1) = (m : Int) := by rw [IntKind.wrap_i64]; omega
              have wm2 : IntKind.i64.wrap (((m : Int) + 1) - 1) = (m : Int) := by rw [IntKind.wrap_i64]; omega
              have wm3 : IntKind.i64.wrap (m : Int) = (m : Int) := by rw [IntKind.wrap_i64]; omega
              have z0 : decide (0 < m + 1) = true := by simp
              clear hy hcy hq
              refine wp_region_held_drew (S := Kept [] wq) (by kernel_rfl) (Kept.refl [] wq).drew (fun hH => ?_)
              refine takeH 0 (.int .i64 ((m + 1 : Nat) : Int)) rfl (by kernel_rfl) (by kernel_rfl) (by kernel_rfl) (fun _ _ _ h => h) (by rfl) (fun v hv => by go_simp) hH ?_
              simp only [Act.put, List.setIfInBounds_toArray, List.set_cons_succ, List.set_cons_zero]
              refine takeH 1 (.bool true) rfl (by kernel_rfl) (by kernel_rfl) (by kernel_rfl) (fun _ _ _ h => h) (by rfl) (fun v hv => by go_simp) hH ?_
              simp only [Act.put, List.setIfInBounds_toArray, List.set_cons_succ, List.set_cons_zero]
              refine takeH 2 (.bool true) rfl (by kernel_rfl) (by kernel_rfl) (by kernel_rfl) (fun _ _ _ h => h) (by rfl) (fun v hv => by go_simp) hH ?_
              simp only [Act.put, List.setIfInBounds_toArray, List.set_cons_succ, List.set_cons_zero]
              refine takeH 3 (.slice (some x) n c) rfl (by kernel_rfl) (by kernel_rfl) (by kernel_rfl) (fun _ _ _ h => h) (by rfl) (fun v hv => by go_simp) hH ?_
              simp only [Act.put, List.setIfInBounds_toArray, List.set_cons_succ, List.set_cons_zero]
              refine takeH 4 (.int .i64 (i : Int)) rfl (by kernel_rfl) (by kernel_rfl) (by kernel_rfl) (fun _ _ _ h => h) (by rfl) (fun v hv => by go_simp) hH ?_
              simp only [Act.put, List.setIfInBounds_toArray, List.set_cons_succ, List.set_cons_zero]
              refine takeH 5 (.pointer (some (x.add (i * 37)))) rfl (by kernel_rfl) (by kernel_rfl) (by kernel_rfl) (fun _ _ _ h => h) (by rfl) (fun v hv => by go_simp) hH ?_
              simp only [Act.put, List.setIfInBounds_toArray, List.set_cons_succ, List.set_cons_zero]
              refine takeH 6 (.agg cs.toArray) rfl (by kernel_rfl) (by kernel_rfl) (by kernel_rfl) (fun _ _ _ h => h) (by rfl) (fun v hv => by have h := lx.out v hv; unfold execOp; simp [Instr.loadAt, Instr.sureAddr, Sem.run_bind, Sem.run_pure, Result.andThen_ok, Act.eval, h]) hH ?_
              simp only [Act.put, List.setIfInBounds_toArray, List.set_cons_succ, List.set_cons_zero]
              refine takeH 7 (.slice (some ⟨g, 0, none⟩) i cap) rfl (by kernel_rfl) (by kernel_rfl) (by kernel_rfl) (fun _ _ _ h => h) (by rfl) (fun v hv => by go_simp) hH ?_
              simp only [Act.put, List.setIfInBounds_toArray, List.set_cons_succ, List.set_cons_zero]
              refine takeH 8 (.int .i64 ((m + 1 : Nat) : Int)) rfl (by kernel_rfl) (by kernel_rfl) (by kernel_rfl) (fun _ _ _ h => h) (by rfl) (fun v hv => by go_simp) hH ?_
              simp only [Act.put, List.setIfInBounds_toArray, List.set_cons_succ, List.set_cons_zero]
              refine takeH 9 (.int .i64 (m : Int)) rfl (by kernel_rfl) (by kernel_rfl) (by kernel_rfl) (fun _ _ _ h => h) (by rfl) (fun v hv => by go_simp) hH ?_
              simp only [Act.put, List.setIfInBounds_toArray, List.set_cons_succ, List.set_cons_zero]
              refine takeH 10 (.pointer (some ⟨g, m * 37, none⟩)) rfl (by kernel_rfl) (by kernel_rfl) (by kernel_rfl) (fun _ _ _ h => h) (by rfl) (fun v hv => by go_simp) hH ?_
              simp only [Act.put, List.setIfInBounds_toArray, List.set_cons_succ, List.set_cons_zero]
              refine takeH 11 (.agg cy.toArray) rfl (by kernel_rfl) (by kernel_rfl) (by kernel_rfl) (fun _ _ _ h => h) (by rfl) (fun v hv => by have h := ly.out v hv; unfold execOp; simp [Instr.loadAt, Instr.sureAddr, Sem.run_bind, Sem.run_pure, Result.andThen_ok, Act.eval, h]) hH ?_
              simp only [Act.put, List.setIfInBounds_toArray, List.set_cons_succ, List.set_cons_zero]
              refine callH 12 rfl (by kernel_rfl) (by rfl) 39 #[.agg cs.toArray, .agg cy.toArray] (by go_simp) (.bool q) hH (fun hS => (hless.out _).mono fun e w' h => ⟨h.1, hS.trans h.2⟩) ?_
              clear hH
              intro vv hH
              simp only [Act.put, List.setIfInBounds_toArray, List.set_cons_succ, List.set_cons_zero]
              refine takeH 13 (.bool q) rfl (by kernel_rfl) (by kernel_rfl) (by kernel_rfl) (fun _ _ _ h => h) (by rfl) (fun v hv => by go_simp) hH ?_
              simp only [Act.put, List.setIfInBounds_toArray, List.set_cons_succ, List.set_cons_zero]
              refine wpAnyH_done (by kernel_rfl) ?_ _
              go_wp2_with fail
              go_meet
              exact ⟨q, rfl, hid hH, hdec⟩

          case rest =>
            obtain ⟨q, rfl, hkc, hq⟩ := hcut
            have hKc := hid (HKq.out.trans hkc.out)
            cases q
            · have hb := hid (hq.out.2 rfl)
              have hcutA := rcut_head g p i cap (by omega)
              obtain ⟨ax, hcutB, hax⟩ : ∃ ax, (∀ W, (Instr.sliceAt 24 (.slice (some ⟨g, 0, none⟩) i cap) (some (.int .i64 (p : Int))) none none).run Tryd.prog W = .ok (.slice (some ax) (i - p) (cap - p)) W) ∧ (cap ≠ p → ax = ⟨g, p * 37, none⟩) := ⟨_, rcut_tail g p i cap hpi hgc, fun h => if_neg h⟩
              have Hax := hid hax
              clear hax
              have hKW := hid (HK.out.trans hKc.out)
              obtain ⟨B, hB⟩ : ∃ B, B = wc.heap.size := ⟨_, rfl⟩
              have hBw := hid (show w.heap.size ≤ B by rw [hB]; exact hKW.out.size)
              have hgB := hid (show g < B by rw [hB]; have h1 := hKc.out.size; have h2 := Hgs.out; omega)
              have hst8 := hid (show Kept [] wo (wc.alloc (.cells #[] 29)) ∧ (wc.alloc (.cells #[] 29)).ownsRow B 29 37 (.slice (some ⟨wc.heap.size, 0, none⟩) 0 0) 0 [] from
                ⟨hKc.out.alloc _, by simp, Or.inr ⟨wc.heap.size, 0, #[], rfl, by omega, heap_alloc_at rfl, by simp, by unfold maxLen; omega, by simp, by simp⟩⟩)
              have hBr := hid (show wo.heap.size ≤ B by rw [hB]; exact hKc.out.size)
              have hBs := hid (show B ≤ (wc.alloc (.cells #[] 29)).heap.size by simp; omega)
              have hrow := hid (show ∀ wv, Kept [] wo wv → ∀ (j : Nat) u, (ys.flatMap encQ)[j]? = some u → wv.cell? ⟨g, j, none⟩ = some u from fun wv hk j u hj => by
                have hc := HG.out j u hj
                exact (hk.cell (World.block_lt_of_cell? wo _ hc) (by simp)).trans hc)
              have Hr2 := hid (rising_insert sq ys p (by have := Hyl.out; omega) Hr.out Hab.out hb.out)
              have Hp2 := hid (show (ys.take p ++ sq :: ys.drop p).Perm (xs.take (i + 1)) from by
                have h1 : xs.take (i + 1) = xs.take i ++ [sq] := by rw [List.take_add_one, Hsq.out]; rfl
                rw [h1]
                refine List.Perm.trans ?_ (Hp.out.append_right [sq])
                refine List.Perm.trans List.perm_middle ?_
                rw [List.take_append_drop]
                exact (List.perm_append_comm (l₁ := [sq]) (l₂ := ys)))
              have Hl2 := hid (show (ys.take p ++ sq :: ys.drop p).length = i + 1 from by have := Hyl.out; simp; omega)
              clear hq hkc hB
              obtain ⟨wa, hwa⟩ : ∃ wa, wa = wc.alloc (.cells #[] 29) := ⟨_, rfl⟩
              go_wp2_with (at_builtin; refine halt ?_)
              refine Halt.mk ?_
              rw [← hwa] at hst8 hBs ⊢
              refine wpList_append_k _ rfl _ _ _ rfl B 29 i0 _ 37 88 Tryd.underlying24 hi0 hz0 hz1 hz2 (by rw [Value.cells, List.size_toArray, zSnap_len]) (by decide) (.slice (some ⟨wc.heap.size, 0, none⟩) 0 0) 0 [] rfl hst8.out.2 (.slice (some ⟨g, 0, none⟩) p cap) p ((ys.take p).flatMap encQ) rfl (Or.inr ⟨_, _, rfl, fun j u hj => ?_⟩) (by rw [flat_len encQ 37 encQ_len, List.length_take]; have := Hyl.out; rw [Nat.min_eq_left (by omega)]) (encs_one _) (by unfold maxLen; omega) (by omega) hBs.out ?_
              · rw [plain_add, Nat.zero_add]
                refine hrow.out wa hst8.out.1 j u ?_
                have e : (ys.flatMap encQ) = (ys.take p).flatMap encQ ++ (ys.drop p).flatMap encQ := by rw [← List.flatMap_append, List.take_append_drop]
                rw [e, List.getElem?_append_left (List.getElem?_eq_some_iff.1 hj).1]; exact hj
              intro v1 w1 hown1 hgrow1 hnil1 hf1
              have hk1 : Hid (Kept [] wo w1) := hid (hst8.out.1.trans' (Kept.of_row hgrow1) (fun y hy hm => by
                simp [Value.ownBlock] at hm; have h4 := hBr.out; have h3 := hKc.out.size; omega))
              have hv1 := hid (show v1 ≠ .slice none 0 0 from fun e => by have := hnil1.1 e; simp at this)
              have hs1 := hid (show B ≤ w1.heap.size from Nat.le_trans hBs.out hgrow1.size)
              simp only [Nat.zero_add, List.nil_append] at hown1
              have Ho1 := hid hown1
              clear hown1 hgrow1 hnil1 hf1 hst8 hBs hwa
              go_wp2_with (first | (refine wpList_load_cells rfl 29 (.tmp 40) rfl (x.add (i * 37)) rfl cs _ Tryd.underlying29 rfl hsz.out (hreads.out w1 hk1.out) ?_) | (refine wpList_buildSlice rfl _ _ _ rfl (.slice (some ⟨w1.heap.size, 0, none⟩) 1 1) (w1.alloc (.cells cs.toArray 29)) (by have h := hbn.out w1; unfold execOp; simp [Act.eval, Act.put, h]) ?_; refine halt ?_))
              refine Halt.mk ?_
              obtain ⟨wb, hwb⟩ : ∃ wb : World, wb = w1.alloc (.cells cs.toArray 29) := ⟨_, rfl⟩
              rw [← hwb]
              have hkb := hid (show Kept [] w1 wb from by rw [hwb]; exact (Kept.refl [] w1).alloc _)
              have hnew := hid (show ∀ (j : Nat) u, cs[j]? = some u → wb.cell? ((⟨w1.heap.size, 0, none⟩ : Addr).add j) = some u from fun j u hu => renc_at (by rw [hwb]; exact heap_alloc_at rfl) j u hu)
              have ho2 := hid (hkb.out.owns Ho1.out (by simp))
              have hs2 := hid (show B ≤ wb.heap.size from Nat.le_trans hs1.out hkb.out.size)
              clear hwb
              go_wp2_with (at_builtin; refine halt ?_)
              refine Halt.mk ?_
              refine wpList_append_k _ rfl _ _ _ rfl B 29 i0 _ 37 88 Tryd.underlying24 hi0 hz0 hz1 hz2 (by rw [Value.cells, List.size_toArray, zSnap_len]) (by decide) v1 p _ rfl ho2.out (.slice (some ⟨w1.heap.size, 0, none⟩) 1 1) 1 cs rfl (Or.inr ⟨_, _, rfl, hnew.out⟩) (by rw [lcs.out]) hone.out (by unfold maxLen; omega) (by omega) hs2.out ?_
              intro v2 w2 hown2 hgrow2 hnil2 hf2
              have hk2 : Hid (Kept [] wo w2) := hid ((hk1.out.trans hkb.out).trans' (Kept.of_row hgrow2) (fun y hy hm => by
                rw [Option.mem_toList] at hm
                have h1 := ownsE_ge Ho1.out hm; have h2 := hgB.out; have h3 := hKc.out.size; have h4 := hBr.out; omega))
              have hv2 := hid (show v2 ≠ .slice none 0 0 from fun e => hv1.out (hnil2.1 e).1)
              have hs3 := hid (show B ≤ w2.heap.size from Nat.le_trans hs2.out hgrow2.size)
              have Ho2 := hid hown2
              clear hown2 hgrow2 hnil2 hf2 ho2 hnew
              go_wp2_with (at_builtin; refine halt ?_)
              refine Halt.mk ?_
              refine wpList_append_k _ rfl _ _ _ rfl B 29 i0 _ 37 88 Tryd.underlying24 hi0 hz0 hz1 hz2 (by rw [Value.cells, List.size_toArray, zSnap_len]) (by decide) v2 (p + 1) _ rfl Ho2.out (.slice (some ax) (i - p) (cap - p)) (i - p) ((ys.drop p).flatMap encQ) rfl (Or.inr ⟨_, _, rfl, fun j u hj => ?_⟩) (by rw [flat_len encQ 37 encQ_len, List.length_drop, Hyl.out]) (encs_one _) (by unfold maxLen; omega) (by omega) hs3.out ?_
              · have hjl := (List.getElem?_eq_some_iff.1 hj).1
                rw [flat_len encQ 37 encQ_len, List.length_drop, Hyl.out] at hjl
                rw [Hax.out (by omega), plain_add]
                refine hrow.out w2 hk2.out _ u ?_
                have e : (ys.flatMap encQ) = (ys.take p).flatMap encQ ++ (ys.drop p).flatMap encQ := by rw [← List.flatMap_append, List.take_append_drop]
                have el : ((ys.take p).flatMap encQ).length = p * 37 := by rw [flat_len encQ 37 encQ_len, List.length_take]; have := Hyl.out; rw [Nat.min_eq_left (by omega)]
                rw [e, List.getElem?_append_right (by omega), el, Nat.add_sub_cancel_left]; exact hj
              intro v3 w3 hown3 hgrow3 hnil3 hf3
              have hk3 : Hid (Kept [] wo w3) := hid (hk2.out.trans' (Kept.of_row hgrow3) (fun y hy hm => by
                rw [Option.mem_toList] at hm
                have h1 := ownsE_ge Ho2.out hm; have h4 := hBr.out; omega))
              have hv3 := hid (show v3 ≠ .slice none 0 0 from fun e => hv2.out (hnil3.1 e).1)
              have efl : (ys.take p).flatMap encQ ++ cs ++ (ys.drop p).flatMap encQ = (ys.take p ++ sq :: ys.drop p).flatMap encQ := by rw [Hcs.out]; simp
              rw [efl, show p + 1 + (i - p) = i + 1 by omega] at hown3
              have Ho3 := hid (owns_lower hown3 hBw.out)
              have hin := Hlt.out
              clear hown3 hgrow3 hnil3 hf3 efl
              go_wp2
              go_roundw
              case rel => exact ⟨i + 1, _, hin, by go_num, hv3, Hl2, Hp2, Hr2, hid (HK.out.trans hk3.out), Ho3⟩
              case measure => simp [intOf]; omega
            · obtain ⟨m, y, hpm, hy, hly⟩ := hq.out.1 rfl
              subst hpm
              have wm1 : IntKind.i64.wrap (((m + 1 : Nat) : Int) - 1) = (m : Int) := by rw [IntKind.wrap_i64]; omega
              have wm2 : IntKind.i64.wrap (((m : Int) + 1) - 1) = (m : Int) := by rw [IntKind.wrap_i64]; omega
              have hab2 := hid (show ∀ m' y', m ≤ m' → ys[m']? = some y' → ltOf cmpQ sq y' = true from fun m' y' h1 h2 => by
                rcases Nat.lt_or_ge m m' with h3 | h3
                · exact Hab.out m' y' h3 h2
                · obtain rfl : m' = m := by omega
                  rw [hy] at h2; cases h2; exact hly)
              clear hq hy hly
              go_wp2
              go_roundw
              case rel => exact ⟨m, by omega, rfl, hKc, hab2⟩
              case measure => simp [intOf]
    · obtain rfl : i = n := by omega
      have hs := snapsR_of_row (xs := ys) (by rw [Hyl.out]; exact Ho.out)
      have HS := hid hs; have hz := hid (show Ending.returned (.slice (some ⟨g, 0, none⟩) i cap) = .returned (.slice (some ⟨g, 0, none⟩) ys.length cap) by rw [Hyl.out])
      clear hs hlt
      go_wp2
      go_ret
      exact ⟨_, _, ys, hz.out, HK.out, HS.out, by have := Hp.out; rwa [List.take_of_length_le (by have := HN.out; omega)] at this, Hr.out⟩
end Go.Proofs.YtmfjfahlgcdehaaDoor
