import Derived.Test.YtmkdjonlfkfnlaaDoorN4
import Derived.Test.YtmkdjonlfkfnlaaDoorN6

/- coldstorelaw10.as. -/
namespace Go.Proofs.YtmkdjonlfkfnlaaDoor
open Go.RowKit Go.Lib

theorem wpList_buildSlice1 {P : Program} {ops : Array Oper} {rest : List Oper} {o : Oper} {a : Act} {w : World} {Q : Exit → Act → World → Prop} (hgd : o.guard = none) (t n : Nat) (parts : Array (Nat × Operand)) (ho : o.op = .buildSlice t n parts) (v : Value) (w' : World)
    (hrun : (execOp a.eval o).run P w = .ok (.value v) w') (h : wpList P ops Q rest (a.put o.dst v) w') : wpList P ops Q (o :: rest) a w := by
  refine wpList_plain hgd fun K hK => ?_
  unfold Oper.wp
  rw [hrun]
  exact hK _ _ h

/-- A node's cells, thirty-six whatever it is. -/
def c36 (n : NodeR) : List Value := (n.cells ++ zNode).take 36
theorem c36_len (n : NodeR) : (c36 n).length = 36 := by unfold c36; rw [List.length_take, List.length_append, zNode_len]; omega
theorem c36_of {n : NodeR} (h : n.sub.length = 32) : c36 n = n.cells := by unfold c36; rw [List.take_left' (node_size n h)]
theorem c36_one (xs : List NodeR) : ∀ u ∈ xs.flatMap c36, u.oneCell' = true := by
  intro u hu
  obtain ⟨s, _, hs⟩ := List.mem_flatMap.1 hu
  unfold c36 at hs
  rcases List.mem_append.1 (List.mem_of_mem_take hs) with h | h
  · exact node_one s u h
  · exact node_one ⟨⟨#[]⟩, false, 0, none, 0, [], zid⟩ u h
end Go.Proofs.YtmkdjonlfkfnlaaDoor
