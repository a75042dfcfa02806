
/- []bool as an argument: the handed row, opened to cells. -/
import Derived.Test.YtnegpggikllopaaOT
namespace Go.Proofs.Ytnegpggikllopaa
open Go.ChangeShapes Go.WideShapes Go.ChangeAt Go.RowKit Go.Deep Go.Lib

def IsBools (w : World) (a : Option Addr) (cap : Nat) (fl : List Bool) : Prop := Src w (.slice a fl.length cap) fl.length (fl.map .bool)
theorem open_bools {H : Type} {enc : TypeId × Value → H} {w : World} {base : Nat} {held : Bool} {fuel : Nat} {a : Option Addr} {len cap : Nat} {y : DataW H × List MemPlace} (h : DataW.trod enc Try.prog w base (fun _ => true) held fuel 22 [.slice a len cap] = some y) :
    ∃ fl : List Bool, fl.length = len ∧ IsBools w a cap fl ∧ len ≤ 9223372036854775807 := by
  have hC : Try.prog.cellsOf 4 = 1 := by kernel_rfl
  rcases open_slice Try.underlying22 h with ⟨hcs, _⟩ | ⟨x, l, c, m, n, D, Pl, hcs, hb, hl, hm, hmm, _, hi⟩
  · simp at hcs
    obtain ⟨rfl, rfl, rfl⟩ := hcs
    exact ⟨[], rfl, Or.inl ⟨rfl, rfl, rfl⟩, by omega⟩
  · simp at hcs
    obtain ⟨rfl, rfl, rfl⟩ := hcs
    obtain ⟨fl, hol, hfl⟩ := list_of6 (p := fun i (o : Bool) => w.cell? (x.add i) = some (.bool o)) len (fun i hil => by
      obtain ⟨cs, hc, ht⟩ := hi i (by simp at hmm; omega)
      rw [hC] at hc
      obtain ⟨_, hcl, hat⟩ := World.cells?_some hc
      match cs, hcl with
      | [v0], _ =>
        have c0 := hat 0 (by omega)
        obtain ⟨d, e0, _⟩ := DataW.trod_bool Try.underlying4 ht
        simp at e0 c0
        subst e0
        refine ⟨d, ?_⟩
        have e1 : (x.add i).add 0 = x.add i := by unfold Addr.add; simp
        rw [Nat.mul_one] at *
        first | exact c0 | (rw [e1] at c0; exact c0) | (simpa [e1] using c0))
    refine ⟨fl, hol, Or.inr ⟨x, cap, by rw [hol], fun j u hj => ?_⟩, by unfold maxLen at hm; omega⟩
    rw [List.getElem?_map] at hj
    cases hf : fl[j]? with
    | none => rw [hf] at hj; simp at hj
    | some d => rw [hf] at hj; simp at hj; rw [← hj]; exact hfl j d hf
end Go.Proofs.Ytnegpggikllopaa
