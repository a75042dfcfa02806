import Derived.Test.YtmkdjonlfkfnlaaDoorN5
import Derived.Test.YtmkdjonlfkfnlaaDoorN6
import Derived.Test.YtmkdjonlfkfnlaaDoorMJ

/- tree.Find. -/
namespace Go.Proofs.YtmkdjonlfkfnlaaDoor
open Go.RowKit Go.Lib

def zNd : NodeR := ⟨⟨#[]⟩, false, 0, none, 0, [], zid⟩
theorem zNd_cells : zNd.cells = zNode := rfl
theorem Ids.kept {L : List Nat} {w w' : World} {a : Option Addr} {c : Nat} {ids : List (List UInt8)} (h : Ids w a c ids) (hk : Kept L w w') (hL : ∀ x, a = some x → x.block ∉ L) : Ids w' a c ids :=
  ⟨h.le, h.max, h.nil, fun x hx i id hi => ⟨(h.at_ x hx i id hi).1, fun k b hb => by
    have h1 := (h.at_ x hx i id hi).2 k b hb
    have e : ((x.add (i * 32)).add k).block = x.block := by unfold Addr.add; split <;> split <;> rfl
    exact (hk.cell (World.block_lt_of_cell? w _ h1) (by rw [e]; exact hL x hx)).trans h1⟩⟩
theorem zNode_one : ∀ v ∈ zNode, v.oneCell' = true := by rw [← zNd_cells]; exact node_one _
theorem n_free_row {W : World} {p : Nat} {cs : Array Value} {t : TypeId} (h : W.heap[p]? = some (.cells cs t (0, 0))) (j : Nat) : W.frozen? ⟨p, j, none⟩ = false := by
  unfold World.frozen?
  simp [h]
/-- What Find finds. -/
def findR (ns : List NodeR) (x : List UInt8) : Option NodeR := ns.find? (fun n => decide (n.nd.name = x))
def Found (w w' : World) (ns : List NodeR) (x : List UInt8) (e : Ending) : Prop :=
  (findR ns x = none ∧ e = .returned (.tuple #[.agg zNode.toArray, .bool false])) ∨
  ∃ n m : NodeR, findR ns x = some n ∧ m.nd = n.nd ∧ e = .returned (.tuple #[.agg m.cells.toArray, .bool true]) ∧ Ids w' m.pa m.pc m.parts ∧ m.sub.length = 32 ∧ ∀ y, m.pa = some y → w.heap.size ≤ y.block ∧ y.spot = none

end Go.Proofs.YtmkdjonlfkfnlaaDoor
