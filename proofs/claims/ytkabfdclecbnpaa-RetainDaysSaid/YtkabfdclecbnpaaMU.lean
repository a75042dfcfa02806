import Derived.Test.YtkabfdclecbnpaaMS
import Derived.WalkSpells
import Derived.Deep.QuietTactic
import Derived.BigQuiet
import Derived.Deep.RegionWith
import Derived.StillTailTactics

/- seal.Unseal. -/
namespace Go.Proofs.Ytkabfdclecbnpaa
open Go.RowKit Go.Lib

/-- What unsealing bytes by a kind gives: the error's number, and the bytes. -/
def unsealErr (kind : UInt8) (xs : List UInt8) : Int :=
  if xs.length < 5 then 20 else if numOf (xs.drop (xs.length - 4)) ≠ (Crc.sum (xs.take (xs.length - 4))).toNat then 36 else if xs.head? ≠ some kind then 21 else 0
def unsealed (kind : UInt8) (xs : List UInt8) : List UInt8 := if unsealErr kind xs = 0 then (xs.take (xs.length - 4)).drop 1 else []

/-- Behind the reading: the error, and the body's cell. -/
def UnQ (pd b0 : Nat) (kind : UInt8) (xs : List UInt8) (n : Int) (rest : List UInt8) (W' : World) : Prop :=
  n = unsealErr kind xs ∧ (n = 0 → rest = []) ∧ ∃ a' c', W'.heap[pd]? = some (.cells #[.slice a' (unsealed kind xs).length c'] 85 (0, 0)) ∧ Bys W' a' c' (unsealed kind xs) ∧ ∀ x, a' = some x → b0 ≤ x.block

theorem unQ_none {pd b0 : Nat} {kind : UInt8} {xs : List UInt8} {rest : List UInt8} {n : Int} {W' : World} (he : n = unsealErr kind xs) (hn : n ≠ 0) (hd : W'.heap[pd]? = some (.cells #[.slice none 0 0] 85 (0, 0))) : UnQ pd b0 kind xs n rest W' := by
  have e : unsealed kind xs = [] := by unfold unsealed; rw [if_neg (by rw [← he]; exact hn)]
  refine ⟨he, fun h => absurd h hn, none, 0, by rw [e]; exact hd, ?_, fun x hx => by simp at hx⟩
  rw [e]
  exact ⟨Or.inl ⟨rfl, rfl, rfl⟩, fun x hx => by simp at hx⟩

theorem Bys.drop1 {w : World} {a : Option Addr} {m : Nat} {ys : List UInt8} (h : Bys w a m ys) (hm : ys.length = m) (h1 : 1 ≤ m) : Bys w (behind a m 1) (m - 1) (ys.drop 1) := by
  rcases h.1 with ⟨h1', h2, _⟩ | ⟨x, c', h1', hc⟩
  · omega
  · simp at h1'
    obtain ⟨rfl, rfl⟩ := h1'
    refine ⟨?_, behind_plain h.2⟩
    by_cases hm1 : m = 1
    · subst hm1
      have e : ys.drop 1 = [] := List.drop_eq_nil_of_le (by omega)
      rw [e]
      exact Or.inr ⟨x, 0, by simp [behind], fun j u hj => by simp at hj⟩
    · refine Or.inr ⟨x.add 1, m - 1, by simp [behind, hm1], fun j u hj => ?_⟩
      rw [add_add]
      refine hc (1 + j) u ?_
      rw [List.getElem?_map] at hj ⊢; rw [List.getElem?_drop] at hj; exact hj

end Go.Proofs.Ytkabfdclecbnpaa


/- seal.Unseal: whole. -/
namespace Go.Proofs.Ytkabfdclecbnpaa
open Go.RowKit Go.Lib

/-- What Unseal gives: bytes of its own, and the error's number. -/
def Unsealed (w : World) (kind : UInt8) (xs : List UInt8) (e : Ending) (w' : World) : Prop :=
  ∃ a c, e = .returned (.tuple #[.slice a (unsealed kind xs).length c, .int .i64 (unsealErr kind xs)]) ∧ Kept [] w w' ∧ Bys w' a c (unsealed kind xs) ∧ ∀ x, a = some x → w.heap.size ≤ x.block

end Go.Proofs.Ytkabfdclecbnpaa
