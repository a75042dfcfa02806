import Derived.Test.YtmholofhmpplcaaMX
import Derived.Test.YtmholofhmpplcaaOZ
import Derived.Test.YtmholofhmpplcaaWK

/- A reference's row of things: two cells a thing, of its own; slices of it. -/
namespace Go.Proofs.Ytmholofhmpplcaa
open Go.RowKit Go.Lib Go.Maps

def thE (e : Ent) : List Value := [.string (S e.name), e.v]
def thC (es : List Ent) : List Value := es.flatMap thE
theorem thC_len (es : List Ent) : (thC es).length = es.length * 2 := flat_len thE 2 (fun _ => rfl) es
theorem thC_take (es : List Ent) (n : Nat) : thC (es.take n) = (thC es).take (n * 2) := by
  unfold thC
  induction es generalizing n with
  | nil => simp
  | cons e r ih =>
    cases n with
    | zero => simp
    | succ n =>
      rw [List.take_succ_cons, List.flatMap_cons, List.flatMap_cons, ih, show (n + 1) * 2 = (n * 2).succ.succ by omega]
      rfl
theorem thC_drop (es : List Ent) (n : Nat) : thC (es.drop n) = (thC es).drop (n * 2) := by
  unfold thC
  induction es generalizing n with
  | nil => simp
  | cons e r ih =>
    cases n with
    | zero => simp
    | succ n =>
      rw [List.drop_succ_cons, List.flatMap_cons, ih, show (n + 1) * 2 = (n * 2).succ.succ by omega]
      rfl
theorem thC_one (es : List Ent) (h : ∀ e ∈ es, ∃ a n c, e.v = .slice a n c) : ∀ u ∈ thC es, u.oneCell' = true := by
  intro u hu
  obtain ⟨e, he, hu⟩ := List.mem_flatMap.1 hu
  obtain ⟨a, n, c, hv⟩ := h e he
  unfold thE at hu
  simp at hu
  rcases hu with rfl | rfl
  · rfl
  · rw [hv]; rfl
theorem info_thing : (Try.prog.info? 75).map (fun i => (i.zero, i.size, i.bytes)) = some (some (.agg #[.string ⟨#[]⟩, .slice none 0 0]), 2, 40) := by kernel_rfl
theorem size_thing (W : World) : (sizeOf 75).run Try.prog W = .ok 2 W := by kernel_rfl
theorem elem_thing : Try.prog.elem 33 = 75 := by simp [Program.elem, Try.underlying33]
/-- The first few things. -/
theorem th_take (rv : Value) (es : List Ent) (w : World) (base : Nat) (h : w.ownsRow base 75 2 rv es.length (thC es)) (n : Nat) (hn : n ≤ es.length) :
    ∃ a c, (∀ W, (Instr.sliceAt 33 rv none (some (.int .i64 (n : Int))) none).run Try.prog W = .ok (.slice a n c) W) ∧
      ∀ W, W.ownsRow base 75 2 rv es.length (thC es) → Src W (.slice a n c) n (thC (es.take n)) := by
  rcases h.2 with ⟨rfl, h0⟩ | ⟨g, cap, cur, rfl, h1, h2, h3, h4, _⟩
  · obtain rfl : n = 0 := by omega
    refine ⟨none, 0, fun W => ?_, fun W _ => Or.inl ⟨rfl, rfl, by simp [thC]⟩⟩
    rw [run_sliceAt_slice W 33 _ _ _ _ (by simp [Program.elem, Try.underlying33])]
    rw [run_slice_h W 33 _ _ _ (by simp [Program.elem, Try.underlying33]) .i64 (((0 : Nat) : Int)) (by simp) (by simp), elem_thing, size_thing]
    simp [Result.andThen, sliced]
  · refine ⟨some ⟨g, 0, none⟩, cap, fun W => ?_, fun W hW => Or.inr ⟨_, _, rfl, fun j u hj => ?_⟩⟩
    · rw [run_sliceAt_slice W 33 _ _ _ _ (by simp [Program.elem, Try.underlying33])]
      rw [run_slice_h W 33 _ _ _ (by simp [Program.elem, Try.underlying33]) .i64 ((n : Int)) (by omega) (by omega), elem_thing, size_thing]
      simp [Result.andThen, sliced, Addr.add]
    · rw [thC_take, List.getElem?_take] at hj
      split at hj
      · exact hW.cells (g := g) rfl j u hj
      · simp at hj
/-- All but the first few things. -/
theorem th_drop (rv : Value) (es : List Ent) (w : World) (base : Nat) (h : w.ownsRow base 75 2 rv es.length (thC es)) (n : Nat) (hn : n ≤ es.length) :
    ∃ a c, (∀ W, (Instr.sliceAt 33 rv (some (.int .i64 (n : Int))) none none).run Try.prog W = .ok (.slice a (es.length - n) c) W) ∧
      ∀ W, W.ownsRow base 75 2 rv es.length (thC es) → Src W (.slice a (es.length - n) c) (es.length - n) (thC (es.drop n)) := by
  rcases h.2 with ⟨rfl, h0⟩ | ⟨g, cap, cur, rfl, h1, h2, h3, h4, _⟩
  · obtain rfl : n = 0 := by omega
    refine ⟨none, 0, fun W => ?_, fun W _ => Or.inl ⟨by rw [h0], by omega, by rw [List.eq_nil_of_length_eq_zero h0]; rfl⟩⟩
    rw [run_sliceAt_slice W 33 _ _ _ _ (by simp [Program.elem, Try.underlying33])]
    rw [run_slice_l W 33 _ _ _ (by simp [Program.elem, Try.underlying33]) .i64 (((0 : Nat) : Int)) (by simp) (by simp), elem_thing, size_thing]
    simp [Result.andThen, sliced, h0]
  · refine ⟨some (if cap = n then ⟨g, 0, none⟩ else (⟨g, 0, none⟩ : Addr).add (n * 2)), cap - n, fun W => ?_, fun W hW => Or.inr ⟨_, _, rfl, fun j u hj => ?_⟩⟩
    · rw [run_sliceAt_slice W 33 _ _ _ _ (by simp [Program.elem, Try.underlying33])]
      rw [run_slice_l W 33 _ _ _ (by simp [Program.elem, Try.underlying33]) .i64 ((n : Int)) (by omega) (by omega), elem_thing, size_thing]
      simp [Result.andThen, sliced]
      split <;> simp_all <;> omega
    · rw [thC_drop, List.getElem?_drop] at hj
      have hlt := (List.getElem?_eq_some_iff.1 hj).1
      rw [thC_len] at hlt
      rw [if_neg (by omega), addr_two]
      exact hW.cells (g := g) rfl _ u hj
/-- What a reference's functions ask of its row. -/
theorem rowT_of_owns {w : World} {base : Nat} {a : Option Addr} {c : Nat} {es : List Ent} (h : w.ownsRow base 75 2 (.slice a es.length c) es.length (thC es)) (ht : ∀ e ∈ es, ∃ a c, e.v = .slice a e.b.length c ∧ Src w e.v e.b.length (e.b.map B)) : RowT w a es := by
  refine ⟨fun ha => ?_, fun x hx i e he => ?_⟩
  · rcases h.2 with ⟨_, h0⟩ | ⟨g, cap, cur, hv, _⟩
    · exact List.eq_nil_of_length_eq_zero h0
    · simp at hv; rw [hv.1] at ha; simp at ha
  · obtain ⟨g, rfl⟩ : ∃ g, x = ⟨g, 0, none⟩ := by
      subst hx
      rcases h.2 with ⟨hv, _⟩ | ⟨g, cap, cur, hv, _⟩
      · simp at hv
      · simp at hv; exact ⟨g, hv.1⟩
    subst hx
    have h0 : (thC es)[i * 2 + 0]? = (thE e)[0]? := flat_get thE 2 (fun _ => rfl) es i 0 e he (by omega)
    have h1 : (thC es)[i * 2 + 1]? = (thE e)[1]? := flat_get thE 2 (fun _ => rfl) es i 1 e he (by omega)
    have c0 := h.cells (g := g) rfl (i * 2 + 0) _ (h0.trans rfl)
    have c1 := h.cells (g := g) rfl (i * 2 + 1) _ (h1.trans rfl)
    obtain ⟨a, c', hv, hs⟩ := ht e (List.mem_of_getElem? he)
    rw [add_plain] at c0 c1
    rw [add_plain]
    exact ⟨c0, c1, a, c', hv, hs⟩
end Go.Proofs.Ytmholofhmpplcaa


/- ref06.without. -/
namespace Go.Proofs.Ytmholofhmpplcaa
open Go.RowKit Go.Lib Go.Maps

/-- What a reference's store has: its row, of its own; the things' bytes as they were handed. -/
structure Rf (w : World) (base : Nat) (rv : Value) (es : List Ent) : Prop where
  row : w.ownsRow base 75 2 rv es.length (thC es)
  th : ∀ e ∈ es, ∃ a c, e.v = .slice a e.b.length c ∧ Src w e.v e.b.length (e.b.map B)
  low : base ≤ w.heap.size
theorem Src.keep {w w' : World} {v : Value} {n : Nat} {xs : List Value} (h : Src w v n xs) (hk : Kept [] w w') : Src w' v n xs := by
  rcases h with g | ⟨y, c, g1, g2⟩
  · exact Or.inl g
  · exact Or.inr ⟨y, c, g1, fun j u hj => (hk.cell (World.block_lt_of_cell? w _ (g2 j u hj)) (by simp)).trans (g2 j u hj)⟩
theorem Rf.keep {w w' : World} {base : Nat} {rv : Value} {es : List Ent} (h : Rf w base rv es) (hk : Kept [] w w') : Rf w' base rv es :=
  ⟨hk.owns h.row (by simp), fun e he => by obtain ⟨a, c, h1, h2⟩ := h.th e he; exact ⟨a, c, h1, h2.keep hk⟩, Nat.le_trans h.low hk.size⟩
theorem Rf.slice {w : World} {base : Nat} {rv : Value} {es : List Ent} (h : Rf w base rv es) : ∃ a c, rv = .slice a es.length c := owns_slice h.row
theorem Rf.rowT {w : World} {base : Nat} {a : Option Addr} {c : Nat} {es : List Ent} (h : Rf w base (.slice a es.length c) es) : RowT w a es := rowT_of_owns h.row h.th
theorem one_of {es : List Ent} {w : World} (h : ∀ e ∈ es, ∃ a c, e.v = .slice a e.b.length c ∧ Src w e.v e.b.length (e.b.map B)) : ∀ u ∈ thC es, u.oneCell' = true := thC_one es (fun e he => by obtain ⟨a, c, h1, _⟩ := h e he; exact ⟨a, _, c, h1⟩)
theorem cells_of {W : World} {b T : Nat} {cs : List Value} (h : W.heap[b]? = some (.cells cs.toArray T (0, 0))) : ∀ (j : Nat) v, cs[j]? = some v → W.cell? ((⟨b, 0, none⟩ : Addr).add j) = some v := fun j v hj => by rw [add_plain, cell_of_row _ _ j _ _ _ h]; simpa using hj
theorem one5 {flv : Value} (h : ∃ a n c, flv = .slice a n c) (a : Option Addr) (n c : Nat) (q k left : Int) : ∀ v ∈ [.slice a n c, .int .i64 q, .int .i64 k, .int .i64 left, flv], v.oneCell' = true := by
  obtain ⟨x, y, z, rfl⟩ := h
  intro v hv
  simp at hv
  rcases hv with rfl | rfl | rfl | rfl | rfl <;> rfl
set_option maxRecDepth 100000 in
set_option maxHeartbeats 2000000 in
theorem ref_without (rv : Value) (es : List Ent) (q k left : Int) (flv : Value) (base : Nat) (w : World) (h : Rf w base rv es) (at0 : Nat) (hat : at0 < es.length) (hm : es.length ≤ 5000) (hflv : ∃ a n c, flv = .slice a n c) :
    Calls Try.prog 46 #[stR rv q k left flv, .int .i64 (at0 : Int)] w fun e w' => ∃ rv', e = .returned (stR rv' q k left flv) ∧ Kept [] w w' ∧ Rf w' w.heap.size rv' (es.take at0 ++ es.drop (at0 + 1)) := by
  obtain ⟨i0, hi0, hz0, hz1, hz2⟩ := info_split info_thing
  obtain ⟨a1, c1, hs1, hv1⟩ := th_take rv es w base h.row at0 (by omega)
  obtain ⟨a2, c2, hs2, hv2⟩ := th_drop rv es w base h.row (at0 + 1) (by omega)
  have H := hid h; have HV1 := hid hv1; have HV2 := hid hv2
  obtain ⟨ra, rc, rfl⟩ := h.slice
  obtain ⟨n, hn⟩ : ∃ n, n = es.length := ⟨_, rfl⟩
  have HN := hid hn
  rw [← hn] at hs1 hs2 HV1 HV2 hm hat H ⊢
  have hs2' : ∀ W, (Instr.sliceAt 33 (.slice ra n rc) (some (.int .i64 ((at0 : Int) + 1))) none none).run Try.prog W = .ok (.slice a2 (n - (at0 + 1)) c2) W := fun W => by have := hs2 W; push_cast at this; exact this
  have HAT := hid hat
  have hat5 : at0 ≤ 5000 := by omega
  have hrowH := hid (show w.ownsRow base 75 2 (.slice ra n rc) n (thC es) from by have := H.out.row; rw [← HN.out] at this; exact this)
  clear h hn hv1 hv2 hs2 hat
  unfold stR
  obtain ⟨W, hW⟩ : ∃ W, W = ((w.alloc (.cells #[.slice ra n rc, .int .i64 q, .int .i64 k, .int .i64 left, flv] 35)).alloc (.cells #[.slice none 0 0, .int .i64 0, .int .i64 0, .int .i64 0, .slice none 0 0] 35)).alloc (.cells #[] 75) := ⟨_, rfl⟩
  have HW := hid hW
  have hk := hid (show Kept [] w W from hW ▸ (((Kept.refl [] w).alloc _).alloc _).alloc _)
  have hb0 := hid (show W.heap[w.heap.size]? = some (.cells #[.slice ra n rc, .int .i64 q, .int .i64 k, .int .i64 left, flv] 35 (0, 0)) from hW ▸ heap_alloc_old (heap_alloc_old (heap_alloc_at rfl)))
  have hb1 := hid (show W.heap[w.heap.size + 1]? = some (.cells #[.slice none 0 0, .int .i64 0, .int .i64 0, .int .i64 0, .slice none 0 0] 35 (0, 0)) from hW ▸ heap_alloc_old (heap_alloc_at (by simp)))
  have hb2 := hid (show W.heap[w.heap.size + 2]? = some (.cells #[] 75 (0, 0)) from hW ▸ heap_alloc_at (by simp))
  have hsz := hid (show W.heap.size = w.heap.size + 3 from by rw [hW]; simp)
  clear hW
  go_enter Try.func46, Try.ntmps46
  go_wp2_with (at_builtin; refine halt ?_)
  refine Halt.mk ?_
  rw [← HW.out]
  have hown0 : W.ownsRow w.heap.size 75 2 (.slice (some ⟨w.heap.size + 1 + 1, 0, none⟩) 0 0) 0 [] := ⟨by simp, Or.inr ⟨w.heap.size + 2, 0, #[], rfl, by omega, hb2.out, by simp, by unfold maxLen; omega, by simp, by simp⟩⟩
  have hone1 := one_of (es := es.take at0) (w := w) (fun e he => H.out.th e (List.mem_of_mem_take he))
  have hone2 := one_of (es := es.drop (at0 + 1)) (w := w) (fun e he => H.out.th e (List.mem_of_mem_drop he))
  refine wpList_append_k _ rfl _ _ _ rfl w.heap.size 75 i0 _ 2 40 Try.underlying33 hi0 hz0 hz1 hz2 rfl (by decide) (.slice (some ⟨w.heap.size + 1 + 1, 0, none⟩) 0 0) 0 [] rfl hown0 (.slice a1 at0 c1) at0 (thC (es.take at0)) rfl (HV1.out W (hk.out.owns hrowH.out (by simp))) (by rw [thC_len, List.length_take]; have := HAT.out; have := HN.out; omega) hone1 (by unfold maxLen; have := HAT.out; omega) (by have := HAT.out; omega) (by have := hsz.out; omega) ?_
  intro v4 w4 hown4 hgr4 _ hf4
  obtain ⟨a4, c4, hv4⟩ := owns_slice hown4
  rw [Nat.zero_add] at hv4
  subst hv4
  have k4 := hid (show Kept [w.heap.size + 2] W w4 from Kept.of_row hgr4)
  have kw4 := hid (show Kept [] w w4 from hk.out.trans' k4.out (fun x hx hm => by simp at hm; omega))
  have hown4' := hid (show w4.ownsRow w.heap.size 75 2 (.slice a4 at0 c4) at0 (thC (es.take at0)) from by simpa using hown4)
  have hb04 := hid (k4.out.at hb0.out (by simp))
  have hb14 := hid (k4.out.at hb1.out (by simp))
  have hbl4 := hid (show ∀ g, (Value.slice a4 at0 c4).ownBlock = some g → g ≠ w.heap.size ∧ g ≠ w.heap.size + 1 from fun g hg => by
    rcases hf4 g hg with g1 | g1
    · simp [Value.ownBlock] at g1; omega
    · have := hsz.out; omega)
  have hr0 : w4.cell? ⟨w.heap.size, 0, none⟩ = some (.slice ra n rc) := by rw [cell_of_row _ _ 0 _ _ _ hb04.out]; rfl
  clear hown4 hgr4 hf4 hown0 hone1
  go_wp2_with (at_builtin; refine halt ?_)
  refine Halt.mk ?_
  refine wpList_append_k _ rfl _ _ _ rfl w.heap.size 75 i0 _ 2 40 Try.underlying33 hi0 hz0 hz1 hz2 rfl (by decide) (.slice a4 at0 c4) at0 (thC (es.take at0)) rfl hown4'.out (.slice a2 (n - (at0 + 1)) c2) (n - (at0 + 1)) (thC (es.drop (at0 + 1))) rfl (HV2.out w4 (kw4.out.owns hrowH.out (by simp))) (by rw [thC_len, List.length_drop, HN.out]) hone2 (by unfold maxLen; have := HAT.out; omega) (by have := HAT.out; omega) (by have := kw4.out.size; omega) ?_
  intro v5 w5 hown5 hgr5 _ hf5
  obtain ⟨m, hmm⟩ : ∃ m, m = at0 + (n - (at0 + 1)) := ⟨_, rfl⟩
  rw [← hmm] at hown5
  obtain ⟨a5, c5, hv5⟩ := owns_slice hown5
  subst hv5
  have HMM := hid hmm
  have k5 := hid (show Kept (Value.slice a4 at0 c4).ownBlock.toList w4 w5 from Kept.of_row hgr5)
  have hb05 := hid (k5.out.at hb04.out (by intro hm; exact (hbl4.out _ (by simpa using hm)).1 rfl))
  have hb15 := hid (k5.out.at hb14.out (by intro hm; exact (hbl4.out _ (by simpa using hm)).2 rfl))
  have hr05 : w5.cell? ⟨w.heap.size, 0, none⟩ = some (.slice ra n rc) := by rw [cell_of_row _ _ 0 _ _ _ hb05.out]; rfl
  have hf05 : w5.frozen? ⟨w.heap.size, 0, none⟩ = false := free_of_row' hb05.out 0
  have OW5 := hid hown5
  have kw5 := hid (show Kept [] w w5 from kw4.out.trans' k5.out (fun x hx hm => by
    exfalso
    have hm' : (Value.slice a4 at0 c4).ownBlock = some x := by simpa using hm
    have := hown4'.out.lt x hm'
    omega))
  have hb5l := hid (show ∀ g, (Value.slice a5 m c5).ownBlock = some g → w.heap.size ≤ g ∧ g ≠ w.heap.size ∧ g ≠ w.heap.size + 1 from fun g hg => by
    have h1 := (hown5.lt g hg).1
    rcases hf5 g hg with g1 | g1
    · exact ⟨h1, hbl4.out g g1⟩
    · have := hsz.out; have := k4.out.size; omega)
  have hb06 := hid (show (w5.setCell ⟨w.heap.size, 0, none⟩ (.slice a5 m c5)).heap[w.heap.size]? = some (.cells [.slice a5 m c5, .int .i64 q, .int .i64 k, .int .i64 left, flv].toArray 35 (0, 0)) from by
    rw [Go.heap_setCell_same w5 w.heap.size 0 _ _ _ hb05.out]; rfl)
  have k6 := hid (show Kept [w.heap.size] w5 (w5.setCell ⟨w.heap.size, 0, none⟩ (.slice a5 m c5)) from (Kept.refl _ _).setCell (p := ⟨w.heap.size, 0, none⟩) (fun _ => by simp) _)
  have hb16 := hid (show (w5.setCell ⟨w.heap.size, 0, none⟩ (.slice a5 m c5)).heap[w.heap.size + 1]? = some (.cells [.slice none 0 0, .int .i64 0, .int .i64 0, .int .i64 0, .slice none 0 0].toArray 35 (0, 0)) from k6.out.at hb15.out (by simp))
  have k7 := hid (show Kept [w.heap.size, w.heap.size + 1] w5 ((w5.setCell ⟨w.heap.size, 0, none⟩ (.slice a5 m c5)).setRow (w.heap.size + 1) (splice [.slice none 0 0, .int .i64 0, .int .i64 0, .int .i64 0, .slice none 0 0] 0 [.slice a5 m c5, .int .i64 q, .int .i64 k, .int .i64 left, flv]).toArray) from (k6.out.wider (fun x _ hx => by simp at hx; simp [hx])).setRow (fun _ => by simp) _)
  have hld := hid (ref_st ((w5.setCell ⟨w.heap.size, 0, none⟩ (.slice a5 m c5)).setRow (w.heap.size + 1) (splice [.slice none 0 0, .int .i64 0, .int .i64 0, .int .i64 0, .slice none 0 0] 0 [.slice a5 m c5, .int .i64 q, .int .i64 k, .int .i64 left, flv]).toArray) (w.heap.size + 1) (.slice a5 m c5) q k left flv (setRow_heap _ _ _ _ _ _ hb16.out))
  have hfin := hid (show Kept [] w ((w5.setCell ⟨w.heap.size, 0, none⟩ (.slice a5 m c5)).setRow (w.heap.size + 1) (splice [.slice none 0 0, .int .i64 0, .int .i64 0, .int .i64 0, .slice none 0 0] 0 [.slice a5 m c5, .int .i64 q, .int .i64 k, .int .i64 left, flv]).toArray) from kw5.out.trans' k7.out (fun x hx hm => by simp at hm; omega))
  clear hown5 hgr5 hf5 hone2 hr0 hmm
  go_wp2_with (refine wpList_load_cells rfl 35 (.tmp 2) rfl ⟨w.heap.size, 0, none⟩ rfl [.slice a5 m c5, .int .i64 q, .int .i64 k, .int .i64 left, flv] _ Try.underlying35 rfl (by kernel_rfl) (cells_of hb06.out) ?_; refine halt ?_)
  refine Halt.mk ?_
  go_wp2_with (refine wpList_store_at rfl 35 (.tmp 4) (.tmp 20) rfl (w.heap.size + 1) 0 [.slice a5 m c5, .int .i64 q, .int .i64 k, .int .i64 left, flv] rfl rfl 35 [.slice none 0 0, .int .i64 0, .int .i64 0, .int .i64 0, .slice none 0 0] hb16.out (by kernel_rfl) (by simp) (one5 hflv _ _ _ _ _ _) ?_; refine halt ?_)
  refine Halt.mk ?_
  go_wp2_with fail
  refine bodyPost_ret (v := stR (.slice a5 m c5) q k left flv) (results_cell Try.results46 rfl hld.out) rfl ?_
  refine ⟨_, rfl, hfin.out, ⟨?_, fun e he => ?_, hfin.out.size⟩⟩
  · have e1 : thC (es.take at0 ++ es.drop (at0 + 1)) = thC (es.take at0) ++ thC (es.drop (at0 + 1)) := by unfold thC; exact List.flatMap_append
    have e2 : (es.take at0 ++ es.drop (at0 + 1)).length = m := by rw [List.length_append, List.length_take, List.length_drop, HMM.out]; have := HAT.out; have := HN.out; omega
    rw [e1, e2]
    exact k7.out.owns OW5.out (fun g hg hm => by
      have := hb5l.out g hg
      simp at hm
      omega)
  · have he2 : e ∈ es := by
      rcases List.mem_append.1 he with g | g
      · exact List.mem_of_mem_take g
      · exact List.mem_of_mem_drop g
    obtain ⟨a, c, h1, h2⟩ := H.out.th e he2
    exact ⟨a, c, h1, h2.keep hfin.out⟩
end Go.Proofs.Ytmholofhmpplcaa
