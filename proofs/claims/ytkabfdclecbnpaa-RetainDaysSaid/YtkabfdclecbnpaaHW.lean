import Derived.Test.YtkabfdclecbnpaaHL

/- A drawn region walked by hand, more: an operation that must come now; a call or an operation, whichever comes first. No program is named here. -/
namespace Go.Proofs.Ytkabfdclecbnpaa
open Go.RowKit

theorem runH {P : Program} {md : Region.Mode} {Q : Exit → Act → World → Prop} {S : World → Prop} {l rest : List Oper} {oi : Oper} {fuel : Nat} {listed : Array Bool} {a : Act} {w : World} (i : Nat) (hi : l.drop i = oi :: rest) (hr : Region.ready md l.toArray listed = [i]) (hw : Region.wanted oi (yielded l.toArray a.tmps) = true)
    (v : Value) (w' : World) (hrun : (execOp a.eval oi).run P w = .ok (.value v) w') (hS' : S w') (h : wpAnyH P md l.toArray Q S fuel (listed.setIfInBounds i true) (a.put oi.dst v) w') : wpAnyH P md l.toArray Q S (fuel + 1) listed a w := by
  refine wpAnyH_ready hr (by simp) (AllReadyH.cons (getL_of_drop hi) (fun K hK => ?_) AllReadyH.nil)
  rw [if_pos hw]
  unfold Oper.wp
  rw [hrun]
  exact hK.out _ _ hS' (fun _ => h)

section
variable {P : Program} {md : Region.Mode} {Q : Exit → Act → World → Prop} {S : World → Prop} {l rest rest' : List Oper} {oi oj : Oper} {fuel : Nat} {listed : Array Bool} {a : Act} {w : World}
theorem bothH (i j : Nat) (hi : l.drop i = oi :: rest) (hj : l.drop j = oj :: rest') (hr : Region.ready md l.toArray listed = [i, j]) (hwi : Region.wanted oi (yielded l.toArray a.tmps) = true) (hwj : Region.wanted oj (yielded l.toArray a.tmps) = true)
    (vi : Value) (wi : World) (hri : (execOp a.eval oi).run P w = .ok (.value vi) wi) (hSi : S wi) (vj : Value) (wj : World) (hrj : (execOp a.eval oj).run P w = .ok (.value vj) wj) (hSj : S wj)
    (h1 : wpAnyH P md l.toArray Q S fuel (listed.setIfInBounds i true) (a.put oi.dst vi) wi) (h2 : wpAnyH P md l.toArray Q S fuel (listed.setIfInBounds j true) (a.put oj.dst vj) wj) : wpAnyH P md l.toArray Q S (fuel + 1) listed a w := by
  refine wpAnyH_ready hr (by simp) (AllReadyH.cons (getL_of_drop hi) (fun K hK => ?_) (AllReadyH.cons (getL_of_drop hj) (fun K hK => ?_) AllReadyH.nil))
  · rw [if_pos hwi]; unfold Oper.wp; rw [hri]; exact hK.out _ _ hSi (fun _ => h1)
  · rw [if_pos hwj]; unfold Oper.wp; rw [hrj]; exact hK.out _ _ hSj (fun _ => h2)
theorem callR (i : Nat) (hi : l.drop i = oi :: rest) (hr : Region.ready md l.toArray listed = [i]) (hw : Region.wanted oi (yielded l.toArray a.tmps) = true) (f : FuncId) (args : Array Value)
    (hrun : (execOp a.eval oi).run P w = .ok (.enter f args) w) (val : Value) (R : World → Prop) (hRS : ∀ w', R w' → S w') (hc : Calls P f args w fun e w' => e = .returned val ∧ R w')
    (h : ∀ w', R w' → wpAnyH P md l.toArray Q S fuel (listed.setIfInBounds i true) (a.put oi.dst val) w') : wpAnyH P md l.toArray Q S (fuel + 1) listed a w := by
  refine wpAnyH_ready hr (by simp) (AllReadyH.cons (getL_of_drop hi) (fun K hK => ?_) AllReadyH.nil)
  rw [if_pos hw]; unfold Oper.wp; rw [hrun]
  refine hc.mono ?_
  rintro e w' ⟨rfl, hS'⟩
  exact hK.out _ _ (hRS _ hS') (fun _ => h w' hS')
theorem callOrH (i j : Nat) (hi : l.drop i = oi :: rest) (hj : l.drop j = oj :: rest') (hr : Region.ready md l.toArray listed = [i, j]) (hwi : Region.wanted oi (yielded l.toArray a.tmps) = true) (hwj : Region.wanted oj (yielded l.toArray a.tmps) = true) (f : FuncId) (args : Array Value)
    (hrun : (execOp a.eval oi).run P w = .ok (.enter f args) w) (val : Value) (R : World → Prop) (hRS : ∀ w', R w' → S w') (hc : Calls P f args w fun e w' => e = .returned val ∧ R w')
    (vj : Value) (wj : World) (hrj : (execOp a.eval oj).run P w = .ok (.value vj) wj) (hSj : S wj)
    (h1 : ∀ w', R w' → wpAnyH P md l.toArray Q S fuel (listed.setIfInBounds i true) (a.put oi.dst val) w') (h2 : wpAnyH P md l.toArray Q S fuel (listed.setIfInBounds j true) (a.put oj.dst vj) wj) : wpAnyH P md l.toArray Q S (fuel + 1) listed a w := by
  refine wpAnyH_ready hr (by simp) (AllReadyH.cons (getL_of_drop hi) (fun K hK => ?_) (AllReadyH.cons (getL_of_drop hj) (fun K hK => ?_) AllReadyH.nil))
  · rw [if_pos hwi]; unfold Oper.wp; rw [hrun]
    refine hc.mono ?_
    rintro e w' ⟨rfl, hS'⟩
    exact hK.out _ _ (hRS _ hS') (fun _ => h1 w' hS')
  · rw [if_pos hwj]; unfold Oper.wp; rw [hrj]; exact hK.out _ _ hSj (fun _ => h2)
theorem callOrL (i j : Nat) (hi : l.drop i = oi :: rest) (hj : l.drop j = oj :: rest') (hr : Region.ready md l.toArray listed = [j, i]) (hwi : Region.wanted oi (yielded l.toArray a.tmps) = true) (hwj : Region.wanted oj (yielded l.toArray a.tmps) = true) (f : FuncId) (args : Array Value)
    (hrun : (execOp a.eval oi).run P w = .ok (.enter f args) w) (val : Value) (R : World → Prop) (hRS : ∀ w', R w' → S w') (hc : Calls P f args w fun e w' => e = .returned val ∧ R w')
    (vj : Value) (wj : World) (hrj : (execOp a.eval oj).run P w = .ok (.value vj) wj) (hSj : S wj)
    (h1 : ∀ w', R w' → wpAnyH P md l.toArray Q S fuel (listed.setIfInBounds i true) (a.put oi.dst val) w') (h2 : wpAnyH P md l.toArray Q S fuel (listed.setIfInBounds j true) (a.put oj.dst vj) wj) : wpAnyH P md l.toArray Q S (fuel + 1) listed a w := by
  refine wpAnyH_ready hr (by simp) (AllReadyH.cons (getL_of_drop hj) (fun K hK => ?_) (AllReadyH.cons (getL_of_drop hi) (fun K hK => ?_) AllReadyH.nil))
  · rw [if_pos hwj]; unfold Oper.wp; rw [hrj]; exact hK.out _ _ hSj (fun _ => h2)
  · rw [if_pos hwi]; unfold Oper.wp; rw [hrun]
    refine hc.mono ?_
    rintro e w' ⟨rfl, hS'⟩
    exact hK.out _ _ (hRS _ hS') (fun _ => h1 w' hS')
end
theorem writeH {P : Program} {md : Region.Mode} {Q : Exit → Act → World → Prop} {S : World → Prop} {l rest : List Oper} {oi : Oper} {fuel : Nat} {listed : Array Bool} {a : Act} {w : World} (i : Nat) (hi : l.drop i = oi :: rest) (hr : Region.ready md l.toArray listed = [i]) (hw : Region.wanted oi (yielded l.toArray a.tmps) = true)
    (w' : World) (hrun : (execOp a.eval oi).run P w = .ok .skip w') (hS' : S w') (h : wpAnyH P md l.toArray Q S fuel (listed.setIfInBounds i true) (a.put oi.dst undef) w') : wpAnyH P md l.toArray Q S (fuel + 1) listed a w := by
  refine wpAnyH_ready hr (by simp) (AllReadyH.cons (getL_of_drop hi) (fun K hK => ?_) AllReadyH.nil)
  rw [if_pos hw]
  unfold Oper.wp
  rw [hrun]
  exact hK.out _ _ hS' (fun _ => h)
theorem cell_set_ne {w : World} {p : Nat} {cs : Array Value} {t : TypeId} (h : w.heap[p]? = some (.cells cs t (0, 0))) (i j : Nat) (v : Value) (hij : j ≠ i) : (w.setCell ⟨p, j, none⟩ v).cell? ⟨p, i, none⟩ = w.cell? ⟨p, i, none⟩ := by
  rw [cell_of_row _ _ _ _ _ _ (Go.heap_setCell_same w p j _ _ _ h), cell_of_row _ _ _ _ _ _ h, Array.getElem?_setIfInBounds, if_neg hij]
end Go.Proofs.Ytkabfdclecbnpaa
