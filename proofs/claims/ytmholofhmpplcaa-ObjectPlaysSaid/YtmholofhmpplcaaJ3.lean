import Derived.Test.YtmholofhmpplcaaMC
import Derived.Test.YtmholofhmpplcaaHL

/- A reader's fields, each as it may be read or not; a call of a drawn region that may throw. -/
namespace Go.Proofs.Ytmholofhmpplcaa
open Go.RowKit Go.Lib

section
variable {P : Program} {md : Region.Mode} {Q : Exit → Act → World → Prop} {S : World → Prop} {l rest : List Oper} {oi : Oper} {fuel : Nat} {listed : Array Bool} {a : Act} {w : World}
theorem callX (i : Nat) (hi : l.drop i = oi :: rest) (hr : Region.ready md l.toArray listed = [i]) (hw : Region.wanted oi (yielded l.toArray a.tmps) = true) (f : FuncId) (args : Array Value)
    (hrun : (execOp a.eval oi).run P w = .ok (.enter f args) w)
    (hc : Calls P f args w fun e w' => (∃ val, e = .returned val ∧ S w' ∧ wpAnyH P md l.toArray Q S fuel (listed.setIfInBounds i true) (a.put oi.dst val) w') ∨ ∃ ch, e = .panicked ch ∧ Q (.panic ch) a w') :
    wpAnyH P md l.toArray Q S (fuel + 1) listed a w := by
  refine wpAnyH_ready hr (by simp) (AllReadyH.cons (getL_of_drop hi) (fun K hK => ?_) AllReadyH.nil)
  rw [if_pos hw]
  unfold Oper.wp
  rw [hrun]
  refine hc.mono ?_
  rintro e w' (⟨val, rfl, hS, h⟩ | ⟨ch, rfl, h⟩)
  · exact hK.out _ _ hS (fun _ => h)
  · exact h
end

theorem results_cell {P : Program} {fn : Func} {tmps : Array Value} {w : World} {k T : Nat} {x : Addr} {v : Value} (hr : fn.results = #[.cell k T]) (ht : tmps[k]?.getD undef = .pointer (some x)) (hl : (loadVar T x).run P w = .ok v w) : (results fn tmps).run P w = .ok v w := by
  unfold results
  rw [hr]
  simp [Sem.run_bind, ht, asAddr, hl]
theorem results_cell2 {P : Program} {fn : Func} {tmps : Array Value} {w : World} {k j T : Nat} {x : Addr} {v u : Value} (hr : fn.results = #[.cell k T, .tmp j]) (ht : tmps[k]?.getD undef = .pointer (some x)) (hu : tmps[j]?.getD undef = u) (hl : (loadVar T x).run P w = .ok v w) : (results fn tmps).run P w = .ok (.tuple #[v, u]) w := by
  unfold results
  rw [hr]
  simp [Sem.run_bind, ht, hu, asAddr, hl]

def rNum (k : Nat) (xs : List UInt8) : Option (Nat × List UInt8) := if k ≤ xs.length then some (numOf (xs.take k), xs.drop k) else none
def rTxt (most : Nat) (xs : List UInt8) : Option (List UInt8 × List UInt8) := if 4 + said xs ≤ xs.length ∧ said xs ≤ most then some ((xs.drop 4).take (said xs), xs.drop (4 + said xs)) else none
def rRaw (k : Nat) (xs : List UInt8) : Option (List UInt8 × List UInt8) := if k ≤ xs.length then some (xs.take k, xs.drop k) else none
/-- It ends by throwing an error. -/
def Throws (e : Ending) : Prop := ∃ n : Int, n ≠ 0 ∧ Thrown 27 (.int .i64 n) e

end Go.Proofs.Ytmholofhmpplcaa
