import Derived.Test.YtmkdjonlfkfnlaaDoorFJ

/- A map from sums to texts, of which no more is told than that it is one. -/
namespace Go.Proofs.YtmkdjonlfkfnlaaDoor
open Go.RowKit Go.Lib Go.Maps
def textR (v : Value) : Option (DataW Value × List MemPlace) := match v with
  | .string s => some (.held (.string s), [])
  | _ => none
def TM (w : World) (b n : Nat) : Prop := ∃ D, w.ownsMap Tryd.prog 34 textR b n D
theorem TM.kept {S : List Nat} {w w' : World} {b n : Nat} (h : TM w b n) (hk : Kept S w w') (hb : b ∉ S) : TM w' b n := by
  obtain ⟨D, h1⟩ := h
  exact ⟨D, hk.ownsMap h1 hb⟩
theorem zero_tx (w : World) : (zeroValue 9).run Tryd.prog w = .ok (.string ByteArray.empty) w := by kernel_rfl
theorem tm_made (w : World) : TM (w.alloc (.map #[] 0)) w.heap.size 0 := ⟨_, World.ownsMap_made w _ _ _⟩
end Go.Proofs.YtmkdjonlfkfnlaaDoor
