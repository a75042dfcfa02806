/- strings.HasPrefix, CutPrefix; path.Join, Within: what each call answers. -/
import Derived.Test.YtignphegdigalaaP0
import Derived.Lib.Strings
namespace Go.Proofs.Ytignphegdigalaa
open Go.RowKit

theorem S_toList (x : List UInt8) : (S x).toList = x := by
  rw [Lib.toList_data]; simp [S]
theorem S_beq (x y : List UInt8) : ((S x).toList == (S y).toList) = decide (x = y) := by
  rw [S_toList, S_toList]
  by_cases h : x = y
  · subst h; simp
  · rw [decide_eq_false h]; simpa using h
theorem S_extract (l : List UInt8) (a b : Nat) : (S l).extract a b = S ((l.take b).drop a) := by
  apply ByteArray.ext
  rw [ByteArray.data_extract]
  apply Array.ext'
  simp [S, List.drop_take]
theorem cut_to (l : List UInt8) (n : Nat) (h : n ≤ l.length) (W : World) : (Instr.sliceAt 9 (.string (S l)) none (some (.int .i64 (n : Int))) none).run Try.prog W = .ok (.string (S (l.take n))) W := by
  rw [run_sliceAt_string W 9 _ _ _ _ Try.underlying9, run_slice_string_h W 9 _ Try.underlying9 .i64 (n : Int) (by omega) (by rw [S_size]; omega), S_extract]
  simp
theorem cut_from (l : List UInt8) (n : Nat) (h : n ≤ l.length) (W : World) : (Instr.sliceAt 9 (.string (S l)) (some (.int .i64 (n : Int))) none none).run Try.prog W = .ok (.string (S (l.drop n))) W := by
  rw [run_sliceAt_string W 9 _ _ _ _ Try.underlying9, run_slice_string_l W 9 _ Try.underlying9 .i64 (n : Int) (by omega) (by rw [S_size]; omega), S_extract, S_size]
  simp

/-- A text begins so. -/
def pref (p a : List UInt8) : Bool := decide (a.take p.length = p)
theorem pref_len {p a : List UInt8} (h : pref p a = true) : p.length ≤ a.length := by
  have := congrArg List.length (of_decide_eq_true h)
  simp at this; omega

theorem hasprefix0 (a p : List UInt8) (w : World) :
    Calls Try.prog 74 #[.string (S a), .string (S p)] w fun e w' => e = .returned (.bool (pref p a)) ∧ w = w' := by
  have sa := S_size a; have sp := S_size p
  by_cases h : p.length ≤ a.length
  · have hc := fun W => cut_to a p.length h W
    have hb := S_beq (a.take p.length) p
    have hr := hid (show pref p a = decide (a.take p.length = p) from rfl)
    go_enter Try.func74, Try.ntmps74
    go_wp2
    go_ret
    exact ⟨by rw [hr.out]; first | rfl | simp, rfl⟩
  · have hr := hid (show pref p a = false by
      unfold pref; rw [decide_eq_false]; intro e; have := congrArg List.length e; simp at this; omega)
    go_enter Try.func74, Try.ntmps74
    go_wp2
    go_ret
    exact ⟨by rw [hr.out]; first | rfl | simp, rfl⟩
theorem hasprefix_any (a p : List UInt8) (w : World) :
    Calls Try.prog 59 #[.string (S a), .string (S p)] w fun e w' => e = .returned (.bool (pref p a)) ∧ w = w' := by
  have h := hid (hasprefix0 a p w)
  go_enter Try.func59, Try.ntmps59
  go_wp2_with fail
  refine h.out.mono ?_
  rintro e w' ⟨rfl, rfl⟩
  go_wp2
  go_ret
  exact ⟨rfl, rfl⟩
theorem cutprefix0 (a p : List UInt8) (w : World) :
    Calls Try.prog 73 #[.string (S a), .string (S p)] w fun e w' => e = .returned (.tuple #[.string (S (if pref p a = true then a.drop p.length else a)), .bool (pref p a)]) ∧ w = w' := by
  have sa := S_size a; have sp := S_size p
  have h := hid (hasprefix0 a p w)
  by_cases hp : pref p a = true
  · have hc := fun W => cut_from a p.length (pref_len hp) W
    rw [hp] at h
    rw [if_pos hp, hp]
    clear hp
    go_enter Try.func73, Try.ntmps73
    go_wp2_with fail
    refine h.out.mono ?_
    rintro e w' ⟨rfl, rfl⟩
    go_wp2
    go_ret2
    exact ⟨rfl, rfl⟩
  · have hp' : pref p a = false := by simpa using hp
    rw [hp'] at h
    rw [if_neg hp, hp']
    clear hp hp'
    go_enter Try.func73, Try.ntmps73
    go_wp2_with fail
    refine h.out.mono ?_
    rintro e w' ⟨rfl, rfl⟩
    go_wp2
    go_ret2
    exact ⟨rfl, rfl⟩
theorem cutprefix_any (a p : List UInt8) (w : World) :
    Calls Try.prog 58 #[.string (S a), .string (S p)] w fun e w' => e = .returned (.tuple #[.string (S (if pref p a = true then a.drop p.length else a)), .bool (pref p a)]) ∧ w = w' := by
  have h := hid (cutprefix0 a p w)
  generalize S (if pref p a = true then a.drop p.length else a) = r at *
  go_enter Try.func58, Try.ntmps58
  go_wp2_with fail
  refine h.out.mono ?_
  rintro e w' ⟨rfl, rfl⟩
  go_wp2
  go_ret2
  exact ⟨rfl, rfl⟩

/-- A text is in a directory. -/
def within (p dir : List UInt8) : Bool := dir.isEmpty || (pref dir p && pref [47] (p.drop dir.length))
theorem within_any (p dir : List UInt8) (w : World) :
    Calls Try.prog 27 #[.string (S p), .string (S dir)] w fun e w' => e = .returned (.bool (within p dir)) ∧ w = w' := by
  have h := hid (cutprefix_any p dir w)
  have h2 := hid (hasprefix_any (p.drop dir.length) [47] w)
  have hb : (S dir).toList.isEmpty = dir.isEmpty := by rw [S_toList]
  rw [show S [47] = ⟨#[47]⟩ from rfl] at h2
  by_cases he : dir = []
  · have hr := hid (show within p dir = true by unfold within; simp [he])
    rw [show dir.isEmpty = true by simp [he]] at hb
    clear h h2 he
    go_enter Try.func27, Try.ntmps27
    go_wp2
    go_ret
    exact ⟨by rw [hr.out]; rfl, rfl⟩
  · rw [show dir.isEmpty = false by simpa using he] at hb
    by_cases hp : pref dir p = true
    · have hr := hid (show within p dir = pref [47] (p.drop dir.length) by unfold within; simp [he, hp])
      rw [if_pos hp, hp] at h
      clear hp
      go_enter Try.func27, Try.ntmps27
      go_wp2_with fail
      refine h.out.mono ?_
      rintro e w' ⟨rfl, rfl⟩
      go_wp2_with fail
      refine h2.out.mono ?_
      rintro e w' ⟨rfl, rfl⟩
      go_wp2
      go_ret
      exact ⟨by rw [hr.out]; rfl, rfl⟩
    · have hp' : pref dir p = false := by simpa using hp
      have hr := hid (show within p dir = false by unfold within; simp [he, hp'])
      rw [if_neg hp, hp'] at h
      clear hp hp' h2 he
      go_enter Try.func27, Try.ntmps27
      go_wp2_with fail
      refine h.out.mono ?_
      rintro e w' ⟨rfl, rfl⟩
      go_wp2
      go_ret
      exact ⟨by rw [hr.out]; rfl, rfl⟩

/-- A directory's name in it. -/
def joinL (d n : List UInt8) : List UInt8 := if d = [] then n else d ++ 47 :: n
theorem join_any (d n : List UInt8) (hd : d.length ≤ 1000000000) (hn : n.length ≤ 1000000000) (w : World) :
    Calls Try.prog 24 #[.string (S d), .string (S n)] w fun e w' => e = .returned (.string (S (joinL d n))) ∧ w = w' := by
  have hb : (S d).toList.isEmpty = d.isEmpty := by rw [S_toList]
  have z1 : ¬ 9223372036854775807 < (S d).size + 1 := by rw [S_size]; omega
  have z2 : ¬ 9223372036854775807 < (S (d ++ [47])).size + (S n).size := by rw [S_size, S_size]; simp; omega
  have h1 := S_append d [47]
  have h2 := S_append (d ++ [47]) n
  rw [show S [47] = ⟨#[47]⟩ from rfl] at h1
  by_cases he : d = []
  · have hr := hid (show joinL d n = n by unfold joinL; rw [if_pos he])
    rw [show d.isEmpty = true by simp [he]] at hb
    clear h1 h2 he
    go_enter Try.func24, Try.ntmps24
    go_wp2
    go_ret
    exact ⟨by rw [hr.out]; rfl, rfl⟩
  · have hr := hid (show joinL d n = d ++ 47 :: n by unfold joinL; rw [if_neg he])
    rw [show d.isEmpty = false by simpa using he] at hb
    clear he
    go_enter Try.func24, Try.ntmps24
    go_wp2
    go_ret
    exact ⟨by rw [hr.out]; rfl, rfl⟩
end Go.Proofs.Ytignphegdigalaa
