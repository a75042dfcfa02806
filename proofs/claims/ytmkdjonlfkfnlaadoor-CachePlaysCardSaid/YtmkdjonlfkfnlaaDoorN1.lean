import Derived.Test.YtmkdjonlfkfnlaaDoorN0
import Derived.Test.YtmkdjonlfkfnlaaDoorH4

/- coldstorelaw10.few. -/
namespace Go.Proofs.YtmkdjonlfkfnlaaDoor
open Go.RowKit Go.Lib

/-- A node's cells. -/
def NodeR.cells (n : NodeR) : List Value := [.string n.name, .bool n.dir, .int .i64 n.size, .slice n.pa n.parts.length n.pc] ++ n.sub.map B
theorem node_size (n : NodeR) (h : n.sub.length = 32) : n.cells.length = 36 := by unfold NodeR.cells; simp [h]
theorem NodeAt.reads {w : World} {x : Addr} {n : NodeR} (h : NodeAt w x n) : ∀ (j : Nat) v, n.cells[j]? = some v → w.cell? (x.add j) = some v := by
  obtain ⟨h0, h1, h2, h3, h4, _⟩ := h
  intro j v hj
  unfold NodeR.cells at hj
  match j, hj with
  | 0, hj =>
    have e : x.add 0 = x := by unfold Addr.add; simp
    rw [e, h0]; simpa using hj
  | 1, hj => rw [h1]; simpa using hj
  | 2, hj => rw [h2]; simpa using hj
  | 3, hj => rw [h3]; simpa using hj
  | k + 4, hj =>
    have hj2 : (n.sub.map B)[k]? = some v := by simpa using hj
    rw [List.getElem?_map] at hj2
    obtain ⟨b, hb, rfl⟩ := Option.map_eq_some_iff.1 hj2
    rw [show k + 4 = 4 + k by omega]
    exact h4 k b hb
theorem node_one (n : NodeR) : ∀ v ∈ n.cells, v.oneCell' = true := by
  intro v hv
  unfold NodeR.cells at hv
  simp only [List.mem_append, List.mem_cons, List.mem_map, List.not_mem_nil, or_false] at hv
  rcases hv with (rfl | rfl | rfl | rfl) | ⟨b, _, rfl⟩ <;> rfl

def zNode : List Value := [.string ⟨#[]⟩, .bool false, .int .i64 0, .slice none 0 0] ++ List.replicate 32 (.int .u8 0)
theorem zNode_len : zNode.length = 36 := by unfold zNode; simp
theorem splice36 (cur vs : List Value) (h : vs.length = cur.length) : splice cur 0 vs = vs := by
  unfold splice; simp [h]

/-- What few asks of a node, and of a list. -/
def NodeR.few (n : NodeR) : Prop := ¬ ((10 < n.parts.length ∧ n.parts.length ≤ 4096) ∨ 4200 < n.parts.length ∨ 200 < n.name.size)
instance (n : NodeR) : Decidable n.few := by unfold NodeR.few; infer_instance
def Few (ns : List NodeR) : Prop := (∀ n ∈ ns, n.few) ∧ (ns.length ≤ 30 ∨ (512 < ns.length ∧ ns.length < 600))
instance (ns : List NodeR) : Decidable (Few ns) := by unfold Few; infer_instance

end Go.Proofs.YtmkdjonlfkfnlaaDoor
