import Derived.Test.YtmkdjonlfkfnlaaDoorMJ
import Derived.Test.YtmkdjonlfkfnlaaDoorN1
import Derived.Test.YtmkdjonlfkfnlaaDoorNM

/- tree.isPart; (tree.Node).isFormed; a box that holds a node. -/
namespace Go.Proofs.YtmkdjonlfkfnlaaDoor
open Go.RowKit Go.Lib

theorem n_load_if {P : Program} {ops : Array Oper} {rest : List Oper} {o : Oper} {a : Act} {w : World} {Q : Exit → Act → World → Prop} (hw : Region.wanted o (yielded ops a.tmps) = true) (ty : TypeId) (x : Operand) (ho : o.op = .load ty x)
    (ad : Addr) (hx : a.eval x = .pointer (some ad)) (cs : List Value) (d : TypeDesc) (hu : P.underlying ty = some d) (hd : (match d with | .struct _ | .array _ _ => true | _ => false) = true)
    (hi : (P.info? ty).map (·.size) = some cs.length) (hc : ∀ (j : Nat) v, cs[j]? = some v → w.cell? (ad.add j) = some v)
    (h : wpList P ops Q rest (a.put o.dst (.agg cs.toArray)) w) : wpList P ops Q (o :: rest) a w := by
  unfold wpList
  rw [if_pos hw]
  refine Or.inl ?_
  unfold Oper.wp execOp
  simp only [ho, hx, Instr.loadAt, Instr.sureAddr, Sem.run_bind, Sem.run_pure, Result.andThen_ok, run_loadVar_cells w ty ad cs d hu hd hi hc]
  exact h

theorem S_of (b : ByteArray) : S b.data.toList = b := rfl
theorem NodeR.c0 (n : NodeR) : n.cells[0]? = some (.string n.name) := rfl
theorem NodeR.c1 (n : NodeR) : n.cells[1]? = some (.bool n.dir) := rfl
theorem NodeR.c2 (n : NodeR) : n.cells[2]? = some (.int .i64 n.size) := rfl
theorem NodeR.c3 (n : NodeR) : n.cells[3]? = some (.slice n.pa n.parts.length n.pc) := rfl
theorem NodeR.c4 (n : NodeR) (k : Nat) (b : UInt8) (h : n.sub[k]? = some b) : n.cells[4 + k]? = some (B b) := by
  unfold NodeR.cells
  rw [List.getElem?_append_right (by simp)]
  simp [h]
theorem zid_cells : (zid.map B).toArray = #[.int .u8 0, .int .u8 0, .int .u8 0, .int .u8 0, .int .u8 0, .int .u8 0, .int .u8 0, .int .u8 0, .int .u8 0, .int .u8 0, .int .u8 0, .int .u8 0, .int .u8 0, .int .u8 0, .int .u8 0, .int .u8 0, .int .u8 0, .int .u8 0, .int .u8 0, .int .u8 0, .int .u8 0, .int .u8 0, .int .u8 0, .int .u8 0, .int .u8 0, .int .u8 0, .int .u8 0, .int .u8 0, .int .u8 0, .int .u8 0, .int .u8 0, .int .u8 0] := by kernel_rfl

end Go.Proofs.YtmkdjonlfkfnlaaDoor
