
/- code.Reader.Bytes, at any bytes; guard.Run of a reading. -/
import Derived.Test.YtnkolgamnakegaaCS
namespace Go.Proofs.Ytnkolgamnakegaa
open Go.RowKit Go.Lib

theorem numOf_numB (N k : Nat) : numOf (numB N k) = N % 256 ^ k := by
  induction k with
  | zero => simp [numB, numOf, Nat.mod_one]
  | succ k ih =>
    rw [numB_succ, numOf_snoc, ih, numB_len, Nat.pow_succ, Nat.mod_mul]
    simp

/-- What a field that is asked for is told as. -/
def fieldErr (xs : List UInt8) (most : Int) : Int := if xs.length < 4 then 20 else if max most 0 < (said xs : Int) then 2 else if xs.length < 4 + said xs then 20 else 0

theorem Bys.take {w : World} {a : Option Addr} {c : Nat} {xs : List UInt8} (h : Bys w a c xs) {n : Nat} (hn : n ≤ xs.length) (hne : xs ≠ []) : Bys w a c (xs.take n) := by
  have hl : (xs.take n).length = n := by simp; omega
  rcases h.1 with ⟨h1, h2, _⟩ | ⟨x, c', h1, hc⟩
  · exact absurd (List.eq_nil_of_length_eq_zero h2) hne
  · simp at h1
    obtain ⟨rfl, rfl⟩ := h1
    refine ⟨Or.inr ⟨x, c, rfl, fun j u hj => ?_⟩, h.2⟩
    have hjl : j < n := by
      rcases Nat.lt_or_ge j n with h' | h'
      · exact h'
      · rw [List.getElem?_eq_none (by simp; omega)] at hj; simp at hj
    exact hc j u (by simpa [List.getElem?_take, hjl] using hj)

/-- Bytes don't lie in an error's cell: they read as they did when it is set. -/
theorem Bys.err {w w' : World} {a : Option Addr} {c : Nat} {xs : List UInt8} (h : Bys w a c xs) {x : Nat} (hx : ErrAt w x) (hk : Kept [x] w w') : Bys w' a c xs := by
  cases xs with
  | nil =>
    refine ⟨?_, h.2⟩
    rcases h.1 with h1 | ⟨y, c', h1, _⟩
    · exact Or.inl h1
    · exact Or.inr ⟨y, c', h1, fun j u hj => by simp at hj⟩
  | cons b r =>
    refine h.kept hk (fun y hy hm => ?_)
    simp at hm
    obtain ⟨n, hn⟩ := hx
    rcases h.1 with ⟨_, h2, _⟩ | ⟨z, c', h1, hc⟩
    · simp at h2
    · simp at h1
      obtain ⟨h1, _⟩ := h1
      rw [hy] at h1
      simp at h1
      subst h1
      have h0 := hc 0 (B b) (by simp)
      rw [add_0] at h0
      have hp := h.2 y hy
      obtain ⟨bl, off, sp⟩ := y
      simp at hp hm
      subst hp hm
      unfold World.cell? at h0
      simp [hn] at h0
      rcases off with _ | off
      · simp [B] at h0
      · simp at h0

end Go.Proofs.Ytnkolgamnakegaa
