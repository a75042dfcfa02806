
/- coldstoreref01.Same; bytes that lie plain; where a reader's rest begins. -/
import Derived.Test.YtnkolgamnakegaaC3
namespace Go.Proofs.Ytnkolgamnakegaa
open Go.RowKit Go.Lib

/-- A slice value that reads as bytes: nil or a row of plain cells. -/
def Bys (w : World) (a : Option Addr) (c : Nat) (xs : List UInt8) : Prop := SrcB w (.slice a xs.length c) xs ∧ (∀ x, a = some x → x.spot = none)
theorem Bys.kept {S : List Nat} {w w' : World} {a : Option Addr} {c : Nat} {xs : List UInt8} (h : Bys w a c xs) (hk : Kept S w w') (hS : ∀ x, a = some x → x.block ∉ S) : Bys w' a c xs :=
  ⟨h.1.kept hk (fun y hy => by
    cases a with
    | none => simp [Value.ownBlock] at hy
    | some x => simp [Value.ownBlock] at hy; exact hy ▸ hS x rfl), h.2⟩
theorem bys_of_row {W : World} {base : Nat} {a : Option Addr} {c : Nat} {xs : List UInt8} (ho : W.ownsRow base 5 1 (.slice a xs.length c) xs.length (xs.map B)) : Bys W a c xs := by
  rcases ho.2 with ⟨h1, h2⟩ | ⟨g, cap, cur, hv, hg, hh, hc, hm, hs, ht⟩
  · simp at h1
    obtain ⟨rfl, h1, rfl⟩ := h1
    exact ⟨Or.inl ⟨by simp [h2], h2, by rw [List.eq_nil_of_length_eq_zero h2]; rfl⟩, fun x hx => by simp at hx⟩
  · simp at hv
    obtain ⟨rfl, rfl⟩ := hv
    exact ⟨Or.inr ⟨_, c, rfl, ho.cells (g := g) rfl⟩, fun x hx => by simp at hx; subst hx; rfl⟩
theorem Bys.text {w : World} {a : Option Addr} {c : Nat} {xs : List UInt8} (h : Bys w a c xs) : (convert 36 9 (.slice a xs.length c)).run Try.prog w = .ok (.string ⟨xs.toArray⟩) w := text_of w a c xs h.2 h.1

theorem same_true (a b : Option Addr) (c d : Nat) (xs : List UInt8) (w : World) (ha : Bys w a c xs) (hb : Bys w b d xs) :
    Calls Try.prog 33 #[.slice a xs.length c, .slice b xs.length d] w fun e w' => e = .returned (.bool true) ∧ w = w' := by
  have h1 := ha.text
  have h2 := hb.text
  clear ha hb
  generalize xs.length = n at *
  go_enter Try.func33, Try.ntmps33
  go_wp2
  go_ret
  exact ⟨by simp, rfl⟩

theorem behind_block {a : Option Addr} {c m : Nat} : ∀ x, behind a c m = some x → ∃ y, a = some y ∧ x.block = y.block := by
  intro x hx
  unfold behind at hx
  split at hx
  · exact ⟨x, hx, rfl⟩
  · cases a with
    | none => simp at hx
    | some y => simp at hx; subst hx; exact ⟨y, rfl, add_block y m⟩
end Go.Proofs.Ytnkolgamnakegaa
