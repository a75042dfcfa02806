import Derived.Test.YtmholofhmpplcaaP0
import Derived.Lib.Strings

/- strings.HasPrefix, CutPrefix; path.Join, Within: what each call answers. -/
namespace Go.Proofs.Ytmholofhmpplcaa
open Go.RowKit

theorem S_toList (x : List UInt8) : (S x).toList = x := by
  rw [Lib.toList_data]; simp [S]
theorem S_beq (x y : List UInt8) : ((S x).toList == (S y).toList) = decide (x = y) := by
  rw [S_toList, S_toList]
  by_cases h : x = y
  · subst h; simp
  · rw [decide_eq_false h]; simpa using h
theorem S_extract (l : List UInt8) (a b : Nat) : (S l).extract a b = S ((l.take b).drop a) := by
  apply ByteArray.ext
  rw [ByteArray.data_extract]
  apply Array.ext'
  simp [S, List.drop_take]
theorem cut_to (l : List UInt8) (n : Nat) (h : n ≤ l.length) (W : World) : (Instr.sliceAt 9 (.string (S l)) none (some (.int .i64 (n : Int))) none).run Try.prog W = .ok (.string (S (l.take n))) W := by
  rw [run_sliceAt_string W 9 _ _ _ _ Try.underlying9, run_slice_string_h W 9 _ Try.underlying9 .i64 (n : Int) (by omega) (by rw [S_size]; omega), S_extract]
  simp
theorem cut_from (l : List UInt8) (n : Nat) (h : n ≤ l.length) (W : World) : (Instr.sliceAt 9 (.string (S l)) (some (.int .i64 (n : Int))) none none).run Try.prog W = .ok (.string (S (l.drop n))) W := by
  rw [run_sliceAt_string W 9 _ _ _ _ Try.underlying9, run_slice_string_l W 9 _ Try.underlying9 .i64 (n : Int) (by omega) (by rw [S_size]; omega), S_extract, S_size]
  simp

/-- A text begins so. -/
def pref (p a : List UInt8) : Bool := decide (a.take p.length = p)
theorem pref_len {p a : List UInt8} (h : pref p a = true) : p.length ≤ a.length := by
  have := congrArg List.length (of_decide_eq_true h)
  simp at this; omega

theorem hasprefix0 (a p : List UInt8) (w : World) :
    Calls Try.prog 56 #[.string (S a), .string (S p)] w fun e w' => e = .returned (.bool (pref p a)) ∧ w = w' := by
  have sa := S_size a; have sp := S_size p
  by_cases h : p.length ≤ a.length
  · have hc := fun W => cut_to a p.length h W
    have hb := S_beq (a.take p.length) p
    have hr := hid (show pref p a = decide (a.take p.length = p) from rfl)
    go_enter Try.func56, Try.ntmps56
    go_wp2
    go_ret
    exact ⟨by rw [hr.out]; first | rfl | simp, rfl⟩
  · have hr := hid (show pref p a = false by
      unfold pref; rw [decide_eq_false]; intro e; have := congrArg List.length e; simp at this; omega)
    go_enter Try.func56, Try.ntmps56
    go_wp2
    go_ret
    exact ⟨by rw [hr.out]; first | rfl | simp, rfl⟩
theorem hasprefix_any (a p : List UInt8) (w : World) :
    Calls Try.prog 51 #[.string (S a), .string (S p)] w fun e w' => e = .returned (.bool (pref p a)) ∧ w = w' := by
  have h := hid (hasprefix0 a p w)
  go_enter Try.func51, Try.ntmps51
  go_wp2_with fail
  refine h.out.mono ?_
  rintro e w' ⟨rfl, rfl⟩
  go_wp2
  go_ret
  exact ⟨rfl, rfl⟩
/-- A text is in a directory. -/
def within (p dir : List UInt8) : Bool := dir.isEmpty || (pref dir p && pref [47] (p.drop dir.length))
/-- A directory's name in it. -/
def joinL (d n : List UInt8) : List UInt8 := if d = [] then n else d ++ 47 :: n
end Go.Proofs.Ytmholofhmpplcaa
