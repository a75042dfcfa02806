import Derived.Test.YtkabfdclecbnpaaRows
import Derived.Test.YtkabfdclecbnpaaC0
import Derived.WalkSpells
import Derived.Test.YtkabfdclecbnpaaHW
import Derived.Deep.DeepCutAuto
import Derived.Deep.QuietTactic

/- path: rank, Less, Join: what each call answers; texts as lists of bytes. -/
namespace Go.Proofs.Ytkabfdclecbnpaa
open Go.RowKit

/-- A text of bytes. -/
def S (l : List UInt8) : ByteArray := ⟨l.toArray⟩
theorem S_size (l : List UInt8) : (S l).size = l.length := by simp [S, ByteArray.size]
theorem S_inj {a b : List UInt8} (h : S a = S b) : a = b := by
  unfold S at h
  have := congrArg (fun s : ByteArray => s.data.toList) h
  simpa using this
theorem S_append (a b : List UInt8) : S a ++ S b = S (a ++ b) := by
  unfold S
  apply ByteArray.ext
  simp
theorem str_index (bs : List UInt8) (i : Nat) (hi : i < bs.length) (W : World) : (Instr.index 9 (.string (S bs)) (.int .i64 (i : Int))).run Try.prog W = .ok (.int .u8 ((bs.getD i 0).toNat : Int)) W := by
  have h0 : (0 : Int) ≤ (i : Int) := by omega
  have h : (⟨bs.toArray⟩ : ByteArray)[i]? = some (bs.getD i 0) := by
    show (bs.toArray)[i]? = _
    simp [hi]
  simp [S, Instr.index, asIntOf, run_underlying Try.underlying9, Sem.run_bind, h]

/-- Where a byte stands: a separator ahead of all. -/
def rk (c : UInt8) : Int := if c = 47 then -1 else (c.toNat : Int)
/-- One path ahead of another one. -/
def pless : List UInt8 → List UInt8 → Bool
  | [], [] => false
  | [], _ :: _ => true
  | _ :: _, [] => false
  | a :: x, b :: y => if a = b then pless x y else decide (rk a < rk b)

theorem pless_split : ∀ (a b : List UInt8) (i : Nat), i ≤ a.length → i ≤ b.length → (∀ j, j < i → a.getD j 0 = b.getD j 0) → pless a b = pless (a.drop i) (b.drop i)
  | _, _, 0, _, _, _ => rfl
  | [], _, i + 1, h, _, _ => by simp at h
  | _ :: _, [], i + 1, _, h, _ => by simp at h
  | x :: a, y :: b, i + 1, h1, h2, h => by
    have h0 := h 0 (by omega)
    simp at h0
    subst h0
    rw [List.drop_succ_cons, List.drop_succ_cons, ← pless_split a b i (by simpa using h1) (by simpa using h2) (fun j hj => by simpa using h (j + 1) (by omega))]
    show (if x = x then pless a b else _) = _
    rw [if_pos rfl]

theorem pless_at (a b : List UInt8) (i : Nat) (h1 : i < a.length) (h2 : i < b.length) (h : ∀ j, j < i → a.getD j 0 = b.getD j 0) (hne : a.getD i 0 ≠ b.getD i 0) : pless a b = decide (rk (a.getD i 0) < rk (b.getD i 0)) := by
  rw [pless_split a b i (by omega) (by omega) h, List.drop_eq_getElem_cons h1, List.drop_eq_getElem_cons h2]
  have e1 : a.getD i 0 = a[i] := by simp [List.getD, h1]
  have e2 : b.getD i 0 = b[i] := by simp [List.getD, h2]
  rw [e1, e2] at hne ⊢
  show (if a[i] = b[i] then _ else _) = _
  rw [if_neg hne]
theorem pless_end (a b : List UInt8) (m : Nat) (hm : m = min a.length b.length) (h : ∀ j, j < m → a.getD j 0 = b.getD j 0) : pless a b = decide (a.length < b.length) := by
  rw [pless_split a b m (by omega) (by omega) h]
  by_cases h1 : a.length < b.length
  · have e : m = a.length := by omega
    subst e
    rw [List.drop_length, List.drop_eq_getElem_cons (by omega)]
    simp [pless, h1]
  · have e : m = b.length := by omega
    subst e
    rw [List.drop_length]
    rcases hd : a.drop b.length with _ | ⟨x, xs⟩ <;> simp [pless, h1]
end Go.Proofs.Ytkabfdclecbnpaa
