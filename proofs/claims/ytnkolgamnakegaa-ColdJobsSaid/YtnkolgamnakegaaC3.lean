
/- code.Decode. -/
import Derived.Test.YtnkolgamnakegaaC2
namespace Go.Proofs.Ytnkolgamnakegaa
open Go.RowKit Go.Lib

/-- Bytes of which a reading is made: its error, or else ErrMore, where bytes are left. -/
def Decoded (w : World) (S : List Nat) (Q : Int → List UInt8 → World → Prop) (e : Ending) (w' : World) : Prop :=
  ∃ n rest, e = .returned (.int .i64 (if n = 0 ∧ rest ≠ [] then 22 else n)) ∧ Kept S w w' ∧ Q n rest w'

theorem row_block {W : World} {base : Nat} {a : Option Addr} {c n : Nat} {xs : List Value} (ho : W.ownsRow base 5 1 (.slice a n c) n xs) : ∀ x, a = some x → base ≤ x.block ∧ x.block < W.heap.size := by
  intro x hx
  rcases ho.2 with ⟨h1, h2⟩ | ⟨g, cap, cur, hv, hg, hh, _⟩
  · simp at h1; obtain ⟨rfl, _⟩ := h1; simp at hx
  · simp at hv; obtain ⟨rfl, rfl⟩ := hv; simp at hx; subst hx; exact ⟨hg, lt_of_block hh⟩

/-- Block x is a cell of an error. -/
def ErrAt (W : World) (x : Nat) : Prop := ∃ n : Int, W.heap[x]? = some (.cells #[.int .i64 n] 27 (0, 0))

end Go.Proofs.Ytnkolgamnakegaa
