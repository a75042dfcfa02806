import Derived.Test.YtkabfdclecbnpaaLib
import Derived.Deep.RegionHeld3

/- A region that draws its order, walked by hand: what yields is taken first, a long array's load too; a call keeps what is held. No program is named here. -/
namespace Go.Proofs.Ytkabfdclecbnpaa
open Go.RowKit

section
variable {P : Program} {md : Region.Mode} {Q : Exit → Act → World → Prop} {S : World → Prop} {l rest : List Oper} {oi : Oper} {fuel : Nat} {listed : Array Bool} {a : Act} {w : World}

theorem getL_of_drop {α : Type} {l rest : List α} {i : Nat} {o : α} (h : l.drop i = o :: rest) : l.toArray[i]? = some o := by
  have := congrArg (fun x => x[0]?) h
  simpa [List.getElem?_drop] using this

theorem takeH (i : Nat) (v : Value) (hi : l.drop i = oi :: rest) (hs : Region.noSelect l.toArray = true) (hf : Region.free md l.toArray listed i = true) (hr : (Region.ready md l.toArray listed).contains i = true)
    (hQ : ∀ c a w, Q (.panic c) (a.put oi.dst v) w → Q (.panic c) a w) (hw : Region.wanted oi (yielded l.toArray a.tmps) = true) (hy : ∀ w, S w → (execOp a.eval oi).run P w = .ok (.value v) w) (hS : S w)
    (h : wpAnyH P md l.toArray Q S fuel (listed.setIfInBounds i true) (a.put oi.dst v) w) : wpAnyH P md l.toArray Q S (fuel + 1) listed a w :=
  wpAnyH_take (getL_of_drop hi) hs hf hr hQ (.inl ⟨hw, hy⟩) hS h

theorem skipH (i : Nat) (hi : l.drop i = oi :: rest) (hs : Region.noSelect l.toArray = true) (hf : Region.free md l.toArray listed i = true) (hr : (Region.ready md l.toArray listed).contains i = true)
    (hQ : ∀ c a w, Q (.panic c) (a.put oi.dst undef) w → Q (.panic c) a w) (hw : Region.wanted oi (yielded l.toArray a.tmps) = false) (hS : S w)
    (h : wpAnyH P md l.toArray Q S fuel (listed.setIfInBounds i true) (a.put oi.dst undef) w) : wpAnyH P md l.toArray Q S (fuel + 1) listed a w :=
  wpAnyH_take (getL_of_drop hi) hs hf hr hQ (.inr ⟨hw, rfl⟩) hS h

theorem loadH (i : Nat) (cs : List Value) (hi : l.drop i = oi :: rest) (hs : Region.noSelect l.toArray = true) (hf : Region.free md l.toArray listed i = true) (hr : (Region.ready md l.toArray listed).contains i = true)
    (hQ : ∀ c a w, Q (.panic c) (a.put oi.dst (.agg cs.toArray)) w → Q (.panic c) a w) (hw : Region.wanted oi (yielded l.toArray a.tmps) = true) (ty : TypeId) (x : Operand) (ho : oi.op = .load ty x)
    (b o : Nat) (hx : a.eval x = .pointer (some ⟨b, o, none⟩)) (d : TypeDesc) (hc : ∀ w, S w → w.rangeAt b o cs)
    (hu : P.underlying ty = some d) (hd : d.isRow = true) (hsz : (P.info? ty).map (·.size) = some cs.length) (hS : S w)
    (h : wpAnyH P md l.toArray Q S fuel (listed.setIfInBounds i true) (a.put oi.dst (.agg cs.toArray)) w) : wpAnyH P md l.toArray Q S (fuel + 1) listed a w :=
  wpAnyH_take (getL_of_drop hi) hs hf hr hQ (yieldsIf_load_mid hw ty x ho b o hx cs d hc hu hd hsz) hS h

theorem callH (i : Nat) (hi : l.drop i = oi :: rest) (hr : Region.ready md l.toArray listed = [i]) (hw : Region.wanted oi (yielded l.toArray a.tmps) = true) (f : FuncId) (args : Array Value)
    (hrun : (execOp a.eval oi).run P w = .ok (.enter f args) w) (val : Value) (hS : S w) (hc : S w → Calls P f args w fun e w' => e = .returned val ∧ S w')
    (h : ∀ w', S w' → wpAnyH P md l.toArray Q S fuel (listed.setIfInBounds i true) (a.put oi.dst val) w') : wpAnyH P md l.toArray Q S (fuel + 1) listed a w := by
  refine wpAnyH_ready hr (by simp) (AllReadyH.cons (getL_of_drop hi) (fun K hK => ?_) AllReadyH.nil)
  rw [if_pos hw]
  unfold Oper.wp
  rw [hrun]
  refine (hc hS).mono ?_
  rintro e w' ⟨rfl, hS'⟩
  exact hK.out _ _ hS' (fun _ => h w' hS')

theorem pairH (i j : Nat) {oj : Oper} {rest' : List Oper} (hi : l.drop i = oi :: rest) (hj : l.drop j = oj :: rest') (hr : Region.ready md l.toArray listed = [i, j]) (hwi : Region.wanted oi (yielded l.toArray a.tmps) = true) (hwj : Region.wanted oj (yielded l.toArray a.tmps) = true)
    (f g : FuncId) (argsi argsj : Array Value) (hruni : (execOp a.eval oi).run P w = .ok (.enter f argsi) w) (hrunj : (execOp a.eval oj).run P w = .ok (.enter g argsj) w) (vi vj : Value) (hS : S w)
    (hci : S w → Calls P f argsi w fun e w' => e = .returned vi ∧ S w') (hcj : S w → Calls P g argsj w fun e w' => e = .returned vj ∧ S w')
    (h1 : ∀ w', S w' → wpAnyH P md l.toArray Q S fuel (listed.setIfInBounds i true) (a.put oi.dst vi) w') (h2 : ∀ w', S w' → wpAnyH P md l.toArray Q S fuel (listed.setIfInBounds j true) (a.put oj.dst vj) w') :
    wpAnyH P md l.toArray Q S (fuel + 1) listed a w := by
  refine wpAnyH_ready hr (by simp) (AllReadyH.cons (getL_of_drop hi) (fun K hK => ?_) (AllReadyH.cons (getL_of_drop hj) (fun K hK => ?_) AllReadyH.nil))
  · rw [if_pos hwi]
    unfold Oper.wp
    rw [hruni]
    refine (hci hS).mono ?_
    rintro e w' ⟨rfl, hS'⟩
    exact hK.out _ _ hS' (fun _ => h1 w' hS')
  · rw [if_pos hwj]
    unfold Oper.wp
    rw [hrunj]
    refine (hcj hS).mono ?_
    rintro e w' ⟨rfl, hS'⟩
    exact hK.out _ _ hS' (fun _ => h2 w' hS')
end
end Go.Proofs.Ytkabfdclecbnpaa
