/- path.follow: what each call does to the row of parts. -/
import Derived.Test.YtignphegdigalaaP6
import Derived.Maps.AppendAt
namespace Go.Proofs.Ytignphegdigalaa
open Go.RowKit

theorem must_thrown (n : Int) (hn : (n == 0) = false) (w : World) :
    Calls Try.prog 52 #[.int .i64 n] w fun e w' => e = .panicked [{ v := .iface 29 (.int .i64 n), recovered := false }] ∧ w = w' := by
  go_enter Try.func52, Try.ntmps52
  go_wp2
  exact ⟨rfl, rfl, rfl⟩

/-- Texts as values. -/
def tS (l : List (List UInt8)) : List Value := l.map fun s => .string (S s)

theorem owns_slice1 {w : World} {base : Nat} {e : TypeId} {size : Nat} {v : Value} {n : Nat} {xs : List Value} (h : w.ownsRow base e size v n xs) : ∃ a c, v = .slice a n c := by
  rcases h.2 with ⟨rfl, rfl⟩ | ⟨g, cap, _, rfl, _⟩
  · exact ⟨none, 0, rfl⟩
  · exact ⟨_, cap, rfl⟩
theorem dots (s : List UInt8) (h : s = [46, 46]) : (S s).toList.isEmpty = false ∧ ((S s).toList == [46]) = false ∧ ((S s).toList == [46, 46]) = true := by
  rw [S_toList, h]; decide
theorem follow_skip (v : Value) (s : List UInt8) (hs : s = [] ∨ s = [46]) (w : World) :
    Calls Try.prog 50 #[v, .string (S s)] w fun e w' => e = .returned v ∧ w = w' := by
  rcases hs with h | h
  · have hb0 : (S s).toList.isEmpty = true := by rw [S_toList, h]; rfl
    clear h
    go_enter Try.func50, Try.ntmps50
    go_wp2
    go_ret
    exact ⟨rfl, rfl⟩
  · have hb0 : (S s).toList.isEmpty = false := by rw [S_toList, h]; rfl
    have hb1 : ((S s).toList == [46]) = true := by rw [S_toList, h]; rfl
    clear h
    go_enter Try.func50, Try.ntmps50
    go_wp2
    go_ret
    exact ⟨rfl, rfl⟩
theorem follow_up (s : List UInt8) (hs : s = [46, 46]) (a : Addr) (n c : Nat) (hn : n < 1000000000) (hc : n + 1 ≤ c) (hcm : c ≤ maxLen) (w : World) :
    Calls Try.prog 50 #[.slice (some a) (n + 1) c, .string (S s)] w fun e w' => e = .returned (.slice (some a) n c) ∧ w = w' := by
  obtain ⟨hb0, hb1, hb2⟩ := dots s hs
  have hz : ((n : Int) + 1 == 0) = false := by simp; omega
  clear hs
  go_enter Try.func50, Try.ntmps50
  go_wp2
  go_ret
  exact ⟨rfl, rfl⟩
theorem follow_none (s : List UInt8) (hs : s = [46, 46]) (a : Option Addr) (c : Nat) (w : World) :
    Calls Try.prog 50 #[.slice a 0 c, .string (S s)] w fun e w' => e = .panicked [{ v := .iface 29 (.int .i64 38), recovered := false }] ∧ w = w' := by
  have hm := hid (must_thrown 38 rfl w)
  obtain ⟨hb0, hb1, hb2⟩ := dots s hs
  clear hs
  go_enter Try.func50, Try.ntmps50
  go_wp2_with fail
  refine hm.out.mono ?_
  rintro e w' ⟨rfl, rfl⟩
  go_wp2
  all_goals exact ⟨rfl, rfl, rfl⟩
theorem follow_bad (v : Value) (s : List UInt8) (hl : s.length ≤ 1000000000) (h1 : s ≠ []) (h2 : s ≠ [46]) (h3 : s ≠ [46, 46]) (h4 : okPart s = false) (w : World) :
    Calls Try.prog 50 #[v, .string (S s)] w fun e w' => e = .panicked [{ v := .iface 29 (.int .i64 38), recovered := false }] ∧ w = w' := by
  have hm := hid (must_thrown 38 rfl w)
  have hi := hid (ispart_any s hl w)
  rw [h4] at hi
  have hb0 : (S s).toList.isEmpty = false := by rw [S_toList]; cases s <;> simp_all
  have hb1 : ((S s).toList == [46]) = false := by rw [S_toList]; simp [h2]
  have hb2 : ((S s).toList == [46, 46]) = false := by rw [S_toList]; simp [h3]
  clear h1 h2 h3 h4
  go_enter Try.func50, Try.ntmps50
  go_wp2_with fail
  refine hi.out.mono ?_
  rintro e w' ⟨rfl, rfl⟩
  go_wp2_with fail
  refine hm.out.mono ?_
  rintro e w' ⟨rfl, rfl⟩
  go_wp2
  all_goals exact ⟨rfl, rfl, rfl⟩
theorem info_str : (Try.prog.info? 9).map (fun i => (i.zero, i.size, i.bytes)) = some (some (.string ⟨#[]⟩), 1, 16) := by kernel_rfl
theorem follow_add (base : Nat) (v : Value) (l : List (List UInt8)) (s : List UInt8) (hl : s.length ≤ 1000000000) (h4 : okPart s = true) (hn : l.length < 1000000000) (w : World) (hb : base ≤ w.heap.size)
    (hown : w.ownsRow base 9 1 v l.length (tS l)) :
    Calls Try.prog 50 #[v, .string (S s)] w fun e w' => ∃ v', e = .returned v' ∧ w'.ownsRow base 9 1 v' (l ++ [s]).length (tS (l ++ [s])) ∧
      (w.alloc (.cells #[.string (S s)] 9)).grownBy w' v.ownBlock := by
  have hi := hid (ispart_any s hl w)
  rw [h4] at hi
  have h1 : s ≠ [] := by rintro rfl; simp [okPart] at h4
  have h2 : s ≠ [46] := by rintro rfl; simp [okPart] at h4
  have h3 : s ≠ [46, 46] := by rintro rfl; simp [okPart] at h4
  have hb0 : (S s).toList.isEmpty = false := by rw [S_toList]; cases s <;> simp_all
  have hb1 : ((S s).toList == [46]) = false := by rw [S_toList]; simp [h2]
  have hb2 : ((S s).toList == [46, 46]) = false := by rw [S_toList]; simp [h3]
  obtain ⟨i0, hi0, hz0, hz1, hz2⟩ := info_parts info_str
  have hown := hid hown
  clear h1 h2 h3 h4
  go_enter Try.func50, Try.ntmps50
  go_wp2_with fail
  refine hi.out.mono ?_
  rintro e w' ⟨rfl, rfl⟩
  go_wp2_with (at_builtin; refine halt ?_)
  refine Halt.mk ?_
  refine wpList_append_own _ rfl _ _ _ rfl base 9 i0 _ 1 16 Try.underlying49 hi0 hz0 hz1 hz2 rfl (by decide) v l.length (tS l) rfl (hown.out.alloc _) ⟨w.heap.size, 0, none⟩ 1 1 [.string (S s)] rfl rfl (cell_one_new _ _ _) (by simp [Value.oneCell']) (by unfold maxLen; omega) (by omega) (by simp; omega) ?_
  intro v2 w2 hown2 hgrow2 _
  obtain ⟨a2, c2, rfl⟩ := owns_slice1 hown2
  go_wp2
  go_ret
  exact ⟨_, rfl, by simpa [tS] using hown2, hgrow2⟩
end Go.Proofs.Ytignphegdigalaa
