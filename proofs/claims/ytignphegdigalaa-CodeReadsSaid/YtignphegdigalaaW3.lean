/- coldstoreref02.Get. -/
import Derived.Deep.RegionLaw
import Derived.Deep.RegionHeld3
import Derived.Test.YtignphegdigalaaW2
namespace Go.Proofs.Ytignphegdigalaa
open Go.RowKit Go.Lib

theorem heldR (size : Int) (w : World) : Calls Try.prog 64 #[.int .i64 size, .int .i64 1, .int .i64 8] w fun e w' => e = .returned (.int .i64 (sz size)) ∧ w = w' := by
  by_cases h1 : size < 1
  · have e : sz size = 1 := by unfold sz; rw [if_pos h1]
    have h2 : ¬ 8 < size := by omega
    rw [e]
    go_enter Try.func64, Try.ntmps64
    go_wp2
    go_ret
    exact ⟨by simp, rfl⟩
  · by_cases h2 : 8 < size
    · have e : sz size = 8 := by unfold sz; rw [if_neg h1, if_pos h2]
      rw [e]
      go_enter Try.func64, Try.ntmps64
      go_wp2
      go_ret
      exact ⟨by simp, rfl⟩
    · have e : (sz size : Int) = size := by unfold sz; rw [if_neg h1, if_neg h2]; omega
      rw [e]
      go_enter Try.func64, Try.ntmps64
      go_wp2
      go_ret
      exact ⟨by simp, rfl⟩



theorem step_callf {P : Program} {ops : Array Oper} {o : Oper} {a : Act} {w : World} {K : Act → World → Prop} {Q : Exit → Act → World → Prop} {E : Prop} {xs : Array Operand} {ts : Array TypeId} (hg : o.guard = none ∨ Region.wanted o (yielded ops a.tmps) = true) (f : FuncId) (_ : o.op = .call { callee := .value (.func f), args := xs, argTypes := ts }) (args : Array Value)
    (hrun : (execOp a.eval o).run P w = .ok (.enter f args) w) (R : Value → World → Prop) (h : Calls P f args w fun e w' => ∃ v, e = .returned v ∧ R v w')
    (hK : ∀ v w', R v w' → K (a.put o.dst v) w') : if Region.wanted o (yielded ops a.tmps) = true then Oper.wp P o a w K Q else E := by
  have hw : Region.wanted o (yielded ops a.tmps) = true := by
    rcases hg with hg | hg
    · simp [Region.wanted, hg]
    · exact hg
  rw [if_pos hw]
  unfold Oper.wp
  rw [hrun]
  exact h.mono fun e w' ⟨v, he, hr⟩ => by subst he; exact hK v w' hr

theorem two_set {W : World} {b : Nat} {x y : Value} {t : TypeId} (h : W.heap[b]? = some (.cells #[x, y] t (0, 0))) (u v : Value) :
    ((W.setCell ⟨b, 0, none⟩ u).setCell ⟨b, 1, none⟩ v).heap[b]? = some (.cells #[u, v] t (0, 0)) ∧ Kept [b] W ((W.setCell ⟨b, 0, none⟩ u).setCell ⟨b, 1, none⟩ v) := by
  have h1 : (W.setCell ⟨b, 0, none⟩ u).heap[b]? = some (.cells #[u, y] t (0, 0)) := by rw [Go.heap_setCell_same W _ 0 _ _ _ h]; rfl
  refine ⟨by rw [Go.heap_setCell_same _ _ 1 _ _ _ h1]; rfl, ?_⟩
  exact ((Kept.refl [b] W).setCell (p := ⟨b, 0, none⟩) (fun _ => by simp) _).setCell (p := ⟨b, 1, none⟩) (fun _ => by simp) _

set_option maxRecDepth 100000 in
set_option maxHeartbeats 2000000 in
theorem refget_short (a : Option Addr) (len c : Nat) (size : Int) (hs : len < sz size) (hc : len ≤ c) (hx : c ≤ 9223372036854775807) (w : World) :
    Calls Try.prog 44 #[rdV a len c 0, .int .i64 size] w fun e w' => e = .returned (.tuple #[rdV a len c 20, .int .u64 0]) ∧ Kept [] w w' := by
  obtain ⟨w2, hw2⟩ : ∃ w2, w2 = (w.alloc (.cells #[.slice a len c, .int .i64 0] 28)).alloc (.cells #[.slice none 0 0, .int .i64 0] 28) := ⟨_, rfl⟩
  have k2 := hid (show Kept [] w w2 from hw2 ▸ ((Kept.refl [] w).alloc _).alloc _)
  have hb := hid (show w2.heap[w.heap.size]? = some (.cells #[.slice a len c, .int .i64 0] 28 (0, 0)) from hw2 ▸ heap_alloc_old (heap_alloc_at rfl))
  have hr := hid (show w2.heap[w.heap.size + 1]? = some (.cells #[.slice none 0 0, .int .i64 0] 28 (0, 0)) from hw2 ▸ heap_alloc_at (by simp))
  have e0 := cell_of_row _ _ 0 _ _ _ hb.out
  have e1 := cell_of_row _ _ 1 _ _ _ hb.out
  have hH := hid (heldR size w2.drew)
  have hR := hid ((refraw_any a len c (sz size) hc hx w2.drew))
  rw [if_neg (by omega)] at hR
  go_enter Try.func44, Try.ntmps44
  go_wp2_with fail
  rw [← hw2]
  clear hw2
  go_region_law
    ((first
      | (refine step_callf (.inl rfl) 64 rfl #[.int .i64 size, .int .i64 1, .int .i64 8] (by go_simp) (fun v w' => v = .int .i64 (sz size) ∧ w2.drew = w') (hH.out.mono fun e w' h => ⟨_, h.1, rfl, h.2⟩) ?_
         rintro _ w1 ⟨rfl, rfl⟩)
      | (refine step_callf (.inl rfl) 47 rfl #[rdV a len c 0, .int .i64 (sz size)] (by go_simp) (fun v w' => v = .tuple #[rdV a len c 20, .slice none 0 0] ∧ Kept [] w2.drew w') (hR.out.mono fun e w' h => ⟨_, h.1, rfl, h.2⟩) ?_
         rintro _ w3 ⟨rfl, k3⟩
         have hb3 := hid (((Kept.of_drew [] w2).trans k3).at hb.out (by simp))
         have g0 := cell_of_row _ _ 0 _ _ _ hb3.out
         have g1 := cell_of_row _ _ 1 _ _ _ hb3.out
         have f0 := frozen_of_row _ _ 0 _ _ hb3.out
         have f1 := frozen_of_row _ _ 1 _ _ hb3.out)))
  all_goals
    go_wp2_with fail
    obtain ⟨h4, k34⟩ := two_set hb3.out (.slice a len c) (.int .i64 20)
    obtain ⟨w4, hw4⟩ : ∃ w4, w4 = (w3.setCell ⟨w.heap.size, 0, none⟩ (.slice a len c)).setCell ⟨w.heap.size, 1, none⟩ (.int .i64 20) := ⟨_, rfl⟩
    rw [← hw4] at h4 k34 ⊢
    have K4 := hid (show Kept [] w w4 from (k2.out.trans ((Kept.of_drew [] w2).trans k3)).trans' k34 (fun x hx hm => by simp at hm; omega))
    have hr4 := hid (show w4.heap[w.heap.size + 1]? = some (.cells #[.slice none 0 0, .int .i64 0] 28 (0, 0)) from k34.at (((Kept.of_drew [] w2).trans k3).at hr.out (by simp)) (by simp))
    have H4 := hid h4
    clear hw4 k34 k3 g0 g1 f0 f1 e0 e1 h4 hb hb3 hH hR hr k2
    have g0 := cell_of_row _ _ 0 _ _ _ H4.out
    have g1 := cell_of_row _ _ 1 _ _ _ H4.out
    have r0 := cell_of_row _ _ 0 _ _ _ hr4.out
    have r1 := cell_of_row _ _ 1 _ _ _ hr4.out
    have q0 := frozen_of_row _ _ 0 _ _ hr4.out
    have q1 := frozen_of_row _ _ 1 _ _ hr4.out
    obtain ⟨h5, k45⟩ := two_set hr4.out (.slice a len c) (.int .i64 20)
    have z0 := cell_of_row _ _ 0 _ _ _ h5
    have z1 := cell_of_row _ _ 1 _ _ _ h5
    have K45 := hid k45
    clear h5 k45 hr4 H4
    refine wp_loop_rounds 1 ?_
    rw [rounds_succ]
    go_wp2
    refine bodyPost_ret (v := .tuple #[rdV a len c 20, .int .u64 0]) ?_ rfl ?_
    · simp [results, Try.f44, go_sem, z0, z1]
    · exact ⟨rfl, K4.out.trans' K45.out (fun x hx hm => by simp at hm; omega)⟩

set_option maxRecDepth 100000 in
set_option maxHeartbeats 2000000 in
theorem refget_ok (w : World) (a : Option Addr) (len c : Nat) (xs : List UInt8) (hlx : len = xs.length) (size : Int) (hs : sz size ≤ len) (hrb : Rb w a c xs) :
    Calls Try.prog 44 #[rdV a len c 0, .int .i64 size] w fun e w' => e = .returned (.tuple #[rdV (behind a c (sz size)) (len - sz size) (c - sz size) 0, .int .u64 (numOf (xs.take (sz size)) : Nat)]) ∧ Kept [] w w' := by
  have hc : len ≤ c := hlx ▸ hrb.le
  have hx := hrb.max
  have hsz := sz_le size
  have HRb := hid hrb
  clear hrb
  obtain ⟨w2, hw2⟩ : ∃ w2, w2 = (w.alloc (.cells #[.slice a len c, .int .i64 0] 28)).alloc (.cells #[.slice none 0 0, .int .i64 0] 28) := ⟨_, rfl⟩
  have k2 := hid (show Kept [] w w2 from hw2 ▸ ((Kept.refl [] w).alloc _).alloc _)
  have hb := hid (show w2.heap[w.heap.size]? = some (.cells #[.slice a len c, .int .i64 0] 28 (0, 0)) from hw2 ▸ heap_alloc_old (heap_alloc_at rfl))
  have hr := hid (show w2.heap[w.heap.size + 1]? = some (.cells #[.slice none 0 0, .int .i64 0] 28 (0, 0)) from hw2 ▸ heap_alloc_at (by simp))
  have e0 := cell_of_row _ _ 0 _ _ _ hb.out
  have e1 := cell_of_row _ _ 1 _ _ _ hb.out
  have hH := hid (heldR size w2.drew)
  have hR := hid ((refraw_any a len c (sz size) hc hx w2.drew))
  rw [if_pos (by omega)] at hR
  rw [Int.toNat_natCast] at hR
  obtain ⟨m, hm⟩ : ∃ m, m = sz size := ⟨_, rfl⟩
  obtain ⟨b, hbe⟩ : ∃ b, b = behind a c m := ⟨_, rfl⟩
  obtain ⟨l2, hl2⟩ : ∃ l, l = len - m := ⟨_, rfl⟩
  obtain ⟨c2, hc2⟩ : ∃ l, l = c - m := ⟨_, rfl⟩
  rw [← hm, ← hbe, ← hl2, ← hc2] at hR ⊢
  rw [← hm] at hH hs hsz
  have HM := hid hm; have HL := hid hlx
  clear hm hbe hl2 hc2 hlx
  go_enter Try.func44, Try.ntmps44
  go_wp2_with fail
  rw [← hw2]
  clear hw2
  go_region_law
    ((first
      | (refine step_callf (.inl rfl) 64 rfl #[.int .i64 size, .int .i64 1, .int .i64 8] (by go_simp) (fun v w' => v = .int .i64 (m : Int) ∧ w2.drew = w') (hH.out.mono fun e w' h => ⟨_, h.1, rfl, h.2⟩) ?_
         rintro _ w1 ⟨rfl, rfl⟩)
      | (refine step_callf (.inl rfl) 47 rfl #[rdV a len c 0, .int .i64 (m : Int)] (by go_simp) (fun v w' => v = .tuple #[rdV b l2 c2 0, .slice a m c] ∧ Kept [] w2.drew w') (hR.out.mono fun e w' h => ⟨_, h.1, rfl, h.2⟩) ?_
         rintro _ w3 ⟨rfl, k3⟩
         have hb3 := hid (((Kept.of_drew [] w2).trans k3).at hb.out (by simp))
         have g0 := cell_of_row _ _ 0 _ _ _ hb3.out
         have g1 := cell_of_row _ _ 1 _ _ _ hb3.out
         have f0 := frozen_of_row _ _ 0 _ _ hb3.out
         have f1 := frozen_of_row _ _ 1 _ _ hb3.out)))
  all_goals
    go_wp2_with fail
    obtain ⟨h4, k34⟩ := two_set hb3.out (.slice b l2 c2) (.int .i64 0)
    obtain ⟨w4, hw4⟩ : ∃ w4, w4 = (w3.setCell ⟨w.heap.size, 0, none⟩ (.slice b l2 c2)).setCell ⟨w.heap.size, 1, none⟩ (.int .i64 0) := ⟨_, rfl⟩
    rw [← hw4] at h4 k34 ⊢
    have K4 := hid (show Kept [] w w4 from (k2.out.trans ((Kept.of_drew [] w2).trans k3)).trans' k34 (fun x hx hm => by simp at hm; omega))
    have hr4 := hid (show w4.heap[w.heap.size + 1]? = some (.cells #[.slice none 0 0, .int .i64 0] 28 (0, 0)) from k34.at (((Kept.of_drew [] w2).trans k3).at hr.out (by simp)) (by simp))
    have H4 := hid h4
    clear hw4 k34 k3 g0 g1 f0 f1 e0 e1 h4 hb hb3 hH hR hr k2
    have g0 := cell_of_row _ _ 0 _ _ _ H4.out
    have g1 := cell_of_row _ _ 1 _ _ _ H4.out
    have r0 := cell_of_row _ _ 0 _ _ _ hr4.out
    have r1 := cell_of_row _ _ 1 _ _ _ hr4.out
    have q0 := frozen_of_row _ _ 0 _ _ hr4.out
    have q1 := frozen_of_row _ _ 1 _ _ hr4.out
    obtain ⟨h5, k45⟩ := two_set hr4.out (.slice b l2 c2) (.int .i64 0)
    have z0 := cell_of_row _ _ 0 _ _ _ h5
    have z1 := cell_of_row _ _ 1 _ _ _ h5
    have K45 := hid k45
    clear h5 k45 hr4 H4
    have hrd4 := hid (HRb.out.kept K4.out (by simp))
    have hml : m ≤ xs.length := by rw [← HL.out]; exact hs
    go_loopw [7, 8] (fun v i wr => ∃ (t q : Nat), t ≤ m ∧ i = .int .i64 ((t : Int) - 1) ∧ v = .int .u64 (q : Int) ∧ Hid (q = numOf ((xs.take m).drop t)) ∧ w4 = wr) (fun _ i _ => (intOf i + 1).toNat)
    case atStart => exact ⟨m, 0, Nat.le_refl _, rfl, rfl, hid (by rw [List.drop_eq_nil_of_le (by rw [List.length_take]; omega)]; rfl), rfl⟩
    case round =>
      obtain ⟨t, q, ht, rfl, rfl, hq, rfl⟩ := hrel
      by_cases ht0 : t = 0
      · subst ht0
        have hq2 := hid (show q = numOf (xs.take m) by rw [hq.out]; rfl)
        clear hq
        go_wp2
        refine bodyPost_ret (v := .tuple #[rdV b l2 c2 0, .int .u64 (q : Int)]) ?_ rfl ?_
        · simp [results, Try.f44, go_sem, z0, z1]
        · exact ⟨by rw [hq2.out], K4.out.trans' K45.out (fun x hx hm => by simp at hm; omega)⟩
      · obtain ⟨j, rfl⟩ : ∃ j, t = j + 1 := ⟨t - 1, by omega⟩
        have hjx : j < (xs.take m).length := by rw [List.length_take]; omega
        obtain ⟨y, hy⟩ : ∃ y, xs[j]? = some y := ⟨xs[j]'(by omega), List.getElem?_eq_getElem _⟩
        have hdr : (xs.take m).drop j = y :: (xs.take m).drop (j + 1) := by
          rw [List.drop_eq_getElem_cons hjx]
          congr 1
          rw [List.getElem_take]
          have := List.getElem?_eq_getElem (show j < xs.length by omega)
          rw [hy] at this; simpa using this.symm
        have hqn := hid (show 256 * q + y.toNat = numOf ((xs.take m).drop j) by rw [hdr, hq.out]; simp [numOf]; omega)
        have hqb : q ≤ 72057594037927935 := by
          have h1 := numOf_lt ((xs.take m).drop (j + 1))
          rw [← hq.out] at h1
          have h2 : ((xs.take m).drop (j + 1)).length ≤ 7 := by rw [List.length_drop, List.length_take]; omega
          have h3 := Nat.lt_of_lt_of_le h1 (Nat.pow_le_pow_right (by omega : 0 < 256) h2)
          have h4 : (256 : Nat) ^ 7 = 72057594037927936 := by decide
          omega
        obtain ⟨ad, rfl, hcell⟩ : ∃ ad, a = some ad ∧ w4.cell? (ad.add j) = some (B y) := by
          rcases hrd4.out.bys with ⟨h1, h2, h3⟩ | ⟨ad, c', h1, h2⟩
          · rw [List.eq_nil_of_length_eq_zero h2] at hy; simp at hy
          · simp at h1
            exact ⟨ad, h1.1, h2 j (B y) (by rw [List.getElem?_map, hy]; rfl)⟩
        have hyb := y.toNat_lt
        unfold B at hcell
        obtain ⟨yn, hyn⟩ : ∃ n, n = y.toNat := ⟨_, rfl⟩
        rw [← hyn] at hcell hyb hqn
        have hj1 : ((j + 1 : Nat) : Int) - 1 = (j : Int) := by omega
        rw [hj1]
        clear hjx hdr hy hyn hq hml
        go_wp2_with fail
        exact ⟨⟨j, 256 * q + yn, by omega, by first | rfl | go_num, by first | rfl | go_num | simp, hqn, trivial⟩, by simp [intOf]⟩
end Go.Proofs.Ytignphegdigalaa
