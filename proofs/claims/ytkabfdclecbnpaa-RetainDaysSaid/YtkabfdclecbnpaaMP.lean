import Derived.Test.YtkabfdclecbnpaaP0
import Derived.Lib.Strings
import Derived.Laws.Externs
import Derived.Laws.Runes
import Derived.Lib.Bytealg
import Derived.RangeFuncNested
import Derived.RangeFuncBound
import Derived.RangeFuncCalls
import Derived.RangeFuncLeaves
import Derived.Shelf.Abstract
import Derived.OwnWalkIn
import Derived.TacticsInMore
import Derived.LoopNIn
import Derived.LoopIn

/- strings.HasPrefix, CutPrefix; path.Join, Within: what each call answers. -/
namespace Go.Proofs.Ytkabfdclecbnpaa
open Go.RowKit

theorem S_toList (x : List UInt8) : (S x).toList = x := by
  rw [Lib.toList_data]; simp [S]
theorem S_beq (x y : List UInt8) : ((S x).toList == (S y).toList) = decide (x = y) := by
  rw [S_toList, S_toList]
  by_cases h : x = y
  · subst h; simp
  · rw [decide_eq_false h]; simpa using h
theorem S_extract (l : List UInt8) (a b : Nat) : (S l).extract a b = S ((l.take b).drop a) := by
  apply ByteArray.ext
  rw [ByteArray.data_extract]
  apply Array.ext'
  simp [S, List.drop_take]
theorem cut_to (l : List UInt8) (n : Nat) (h : n ≤ l.length) (W : World) : (Instr.sliceAt 9 (.string (S l)) none (some (.int .i64 (n : Int))) none).run Try.prog W = .ok (.string (S (l.take n))) W := by
  rw [run_sliceAt_string W 9 _ _ _ _ Try.underlying9, run_slice_string_h W 9 _ Try.underlying9 .i64 (n : Int) (by omega) (by rw [S_size]; omega), S_extract]
  simp
theorem cut_from (l : List UInt8) (n : Nat) (h : n ≤ l.length) (W : World) : (Instr.sliceAt 9 (.string (S l)) (some (.int .i64 (n : Int))) none none).run Try.prog W = .ok (.string (S (l.drop n))) W := by
  rw [run_sliceAt_string W 9 _ _ _ _ Try.underlying9, run_slice_string_l W 9 _ Try.underlying9 .i64 (n : Int) (by omega) (by rw [S_size]; omega), S_extract, S_size]
  simp

/-- A text begins so. -/
def pref (p a : List UInt8) : Bool := decide (a.take p.length = p)
theorem pref_len {p a : List UInt8} (h : pref p a = true) : p.length ≤ a.length := by
  have := congrArg List.length (of_decide_eq_true h)
  simp at this; omega

/-- A text is in a directory. -/
def within (p dir : List UInt8) : Bool := dir.isEmpty || (pref dir p && pref [47] (p.drop dir.length))
/-- A directory's name in it. -/
def joinL (d n : List UInt8) : List UInt8 := if d = [] then n else d ++ 47 :: n
end Go.Proofs.Ytkabfdclecbnpaa


/- strings.LastIndex of one byte; path.Parent, Base: what each call answers. -/
namespace Go.Proofs.Ytkabfdclecbnpaa
open Go.RowKit

/-- Behind which place a byte stands last, 0 if nowhere. -/
def lastN : List UInt8 → UInt8 → Nat
  | [], _ => 0
  | x :: a, c => if 0 < lastN a c then lastN a c + 1 else if x = c then 1 else 0
theorem lastN_of (c : UInt8) : ∀ (a : List UInt8) (n : Nat), n ≤ a.length → (∀ j, n ≤ j → j < a.length → a.getD j 0 ≠ c) → (0 < n → a.getD (n - 1) 0 = c) → lastN a c = n
  | [], n, h, _, _ => by simp at h; simp [lastN, h]
  | x :: a, 0, _, h2, _ => by
    have e : lastN a c = 0 := lastN_of c a 0 (by omega) (fun j _ hj => by simpa using h2 (j + 1) (by omega) (by simpa using hj)) (fun h => absurd h (by omega))
    have hx : x ≠ c := by simpa using h2 0 (by omega) (by simp)
    simp [lastN, e, hx]
  | x :: a, 1, h1, h2, h3 => by
    have e : lastN a c = 0 := lastN_of c a 0 (by omega) (fun j _ hj => by simpa using h2 (j + 1) (by omega) (by simpa using hj)) (fun h => absurd h (by omega))
    have hx : x = c := by simpa using h3 (by omega)
    simp [lastN, e, hx]
  | x :: a, n + 2, h1, h2, h3 => by
    have e : lastN a c = n + 1 := lastN_of c a (n + 1) (by simpa using h1) (fun j hj hl => by simpa using h2 (j + 1) (by omega) (by simpa using hl)) (fun _ => by simpa using h3 (by omega))
    simp [lastN, e]
theorem lastN_le (a : List UInt8) (c : UInt8) : lastN a c ≤ a.length := by
  induction a with
  | nil => simp [lastN]
  | cons x a ih => unfold lastN; split <;> (try split) <;> simp <;> omega

/-- All ahead of the last separator, and all behind it. -/
def parentL (p : List UInt8) : List UInt8 := p.take (lastN p 47 - 1)
def baseL (p : List UInt8) : List UInt8 := p.drop (lastN p 47)
end Go.Proofs.Ytkabfdclecbnpaa


/- strings.IndexByte, strings.Cut of one byte; path.isPartByte, isPart: what each call answers. -/
namespace Go.Proofs.Ytkabfdclecbnpaa
open Go.RowKit

/-- What stands ahead of the first such byte, what behind it, and is there one. -/
def cutS : List UInt8 → UInt8 → List UInt8 × List UInt8 × Bool
  | [], _ => ([], [], false)
  | x :: a, c => if x = c then ([], a, true) else (x :: (cutS a c).1, (cutS a c).2.1, (cutS a c).2.2)
def idxS (a : List UInt8) (c : UInt8) : Int := if (cutS a c).2.2 = true then ((cutS a c).1.length : Int) else -1
theorem cutS_false : ∀ (a : List UInt8) (c : UInt8), (cutS a c).2.2 = false → cutS a c = (a, [], false)
  | [], _, _ => rfl
  | x :: a, c, h => by
    unfold cutS at h ⊢
    split
    · rename_i hx; rw [if_pos hx] at h; simp at h
    · rename_i hx
      rw [if_neg hx] at h
      rw [cutS_false a c h]
theorem cutS_true : ∀ (a : List UInt8) (c : UInt8), (cutS a c).2.2 = true → a = (cutS a c).1 ++ c :: (cutS a c).2.1
  | [], _, h => by simp [cutS] at h
  | x :: a, c, h => by
    unfold cutS at h ⊢
    split
    · rename_i hx; simp [hx]
    · rename_i hx
      rw [if_neg hx] at h
      have := cutS_true a c h
      simp only [List.cons_append]
      rw [← this]
theorem idxS_eq : ∀ (a : List UInt8) (c : UInt8), Lib.indexByte a c = idxS a c
  | [], _ => rfl
  | x :: a, c => by
    have ih := idxS_eq a c
    unfold Lib.indexByte
    by_cases hx : x = c
    · have : (x == c) = true := by simpa using hx
      rw [if_pos this]
      unfold idxS cutS
      simp [hx]
    · have hx' : ¬ (x == c) = true := by simpa using hx
      rw [if_neg hx', ih]
      have e : cutS (x :: a) c = (x :: (cutS a c).1, (cutS a c).2.1, (cutS a c).2.2) := by
        show (if x = c then _ else _) = _
        rw [if_neg hx]
      unfold idxS
      rw [e]
      by_cases hf : (cutS a c).2.2 = true
      · have hn : ¬ ((((cutS a c).1.length : Int)) == -1) = true := by first | (simp; done) | (simp; omega)
        simp only [hf, if_true, if_neg hn, List.length_cons]
        first | rfl | omega
      · simp [hf]

/-- A byte that a part may have. -/
def okByte (c : UInt8) : Bool := decide (97 ≤ c.toNat ∧ c.toNat ≤ 122) || decide (48 ≤ c.toNat ∧ c.toNat ≤ 57) || c == 46 || c == 95 || c == 45
theorem signs_idx (c : UInt8) : decide (0 ≤ idxS [46, 95, 45] c) = (c == 46 || c == 95 || c == 45) := by
  unfold idxS cutS cutS cutS cutS
  by_cases h1 : c = 46
  · subst h1; simp
  · by_cases h2 : c = 95
    · subst h2; simp
    · by_cases h3 : c = 45
      · subst h3; simp
      · have e1 : ¬ (46 : UInt8) = c := fun e => h1 e.symm
        have e2 : ¬ (95 : UInt8) = c := fun e => h2 e.symm
        have e3 : ¬ (45 : UInt8) = c := fun e => h3 e.symm
        simp [h1, h2, h3, e1, e2, e3]
end Go.Proofs.Ytkabfdclecbnpaa


/- path.isPart. -/
namespace Go.Proofs.Ytkabfdclecbnpaa
open Go.RowKit

/-- A text that is a part. -/
def okPart (s : List UInt8) : Bool := decide (1 ≤ s.length ∧ s.length ≤ 40) && decide (s ≠ [46]) && decide (s ≠ [46, 46]) && s.all okByte
theorem okPart_of (s : List UInt8) (h1 : 1 ≤ s.length) (h2 : s.length ≤ 40) (h3 : s ≠ [46]) (h4 : s ≠ [46, 46]) : okPart s = s.all okByte := by
  unfold okPart
  rw [decide_eq_true (And.intro h1 h2), decide_eq_true h3, decide_eq_true h4]; simp
theorem okPart_no (s : List UInt8) (h : s.length < 1 ∨ 40 < s.length ∨ s = [46] ∨ s = [46, 46]) : okPart s = false := by
  unfold okPart
  rcases h with h | h | h | h
  · rw [decide_eq_false (p := 1 ≤ s.length ∧ s.length ≤ 40) (by omega)]; simp
  · rw [decide_eq_false (p := 1 ≤ s.length ∧ s.length ≤ 40) (by omega)]; simp
  · simp [h]
  · simp [h]

end Go.Proofs.Ytkabfdclecbnpaa


/- path.Parts: the iterator that it hands back, and what the iterator yields. -/
namespace Go.Proofs.Ytkabfdclecbnpaa
open Go.RowKit
attribute [local go_sem] Oper.semAt_some

/-- The parts of a text: all between two separators. -/
def partsS : List UInt8 → List (List UInt8)
  | [] => [[]]
  | x :: a => if x = 47 then [] :: partsS a else match partsS a with | p :: ps => (x :: p) :: ps | [] => [[x]]
theorem partsS_ne (a : List UInt8) : partsS a ≠ [] := by
  cases a with
  | nil => simp [partsS]
  | cons x a => unfold partsS; split <;> (try split) <;> simp
theorem partsS_cut : ∀ (a : List UInt8), partsS a = (cutS a 47).1 :: (if (cutS a 47).2.2 = true then partsS (cutS a 47).2.1 else [])
  | [] => by simp [partsS, cutS]
  | x :: a => by
    have ih := partsS_cut a
    by_cases hx : x = 47
    · simp [partsS, cutS, hx]
    · simp only [partsS, cutS, if_neg hx]
      rw [ih]
theorem cutS_len : ∀ (a : List UInt8) (c : UInt8), (cutS a c).1.length ≤ a.length ∧ (cutS a c).2.1.length ≤ a.length ∧ ((cutS a c).2.2 = true → (cutS a c).2.1.length < a.length)
  | [], c => by simp [cutS]
  | x :: a, c => by
    have ih := cutS_len a c
    by_cases hx : x = c
    · simp [cutS, hx]
    · simp only [cutS, if_neg hx, List.length_cons]
      refine ⟨by omega, by omega, fun h => ?_⟩
      have := ih.2.2 h
      omega

/-- A text that fits. -/
abbrev Txt := { s : List UInt8 // s.length ≤ 1000000000 }
def lenS : Value → Nat
  | .string b => b.size
  | _ => 0

end Go.Proofs.Ytkabfdclecbnpaa


/- path.Check: every text. -/
namespace Go.Proofs.Ytkabfdclecbnpaa
open Go.RowKit
attribute [local go_sem] Oper.semAt_some

/-- A text that is a path. -/
def okPath (a : List UInt8) : Bool := decide (a.length ≤ 120) && (partsS a).all okPart
def pathErr (a : List UInt8) : Int := if okPath a = true then 0 else 38
theorem pathErr_ok {a : List UInt8} (h : okPath a = true) : pathErr a = 0 := if_pos h
theorem pathErr_no {a : List UInt8} (h : okPath a = false) : pathErr a = 38 := if_neg (by rw [h]; simp)
theorem okPath_no {a x : List UInt8} (h : okPart x = false) (hx : x ∈ partsS a) : okPath a = false := by
  unfold okPath
  rw [show (partsS a).all okPart = false by rw [List.all_eq_false]; exact ⟨x, hx, by rw [h]; simp⟩]; simp

end Go.Proofs.Ytkabfdclecbnpaa
