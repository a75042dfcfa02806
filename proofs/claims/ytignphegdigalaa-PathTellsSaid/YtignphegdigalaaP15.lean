/- coldstorelaw05.alive: the document's example. -/
import Derived.Test.YtignphegdigalaaP14
namespace Go.Proofs.Ytignphegdigalaa
open Go.RowKit

theorem lparts_len (a : List UInt8) (most : Nat) (h1 : 1 ≤ most) (ha : a.length ≤ 100000000) (hm : most ≤ 1000000) (w : World) :
    Calls Try.prog 30 #[.string (S a), .int .i64 (most : Int)] w fun e w' => ∃ ad c, e = .returned (.slice ad ((partsS a).take most).length c) ∧ Kept [] w w' := by
  refine (lparts_any a most h1 ha hm w).mono ?_
  rintro e w' ⟨v, rfl, ho, hb⟩
  obtain ⟨ad, c, rfl⟩ := owns_slice1 ho
  exact ⟨ad, c, rfl, Kept.of_below hb⟩
theorem check_kept (a : List UInt8) (ha : a.length ≤ 1000000000) (n : Int) (h : pathErr a = n) (w : World) :
    Calls Try.prog 20 #[.string (S a)] w fun e w' => e = .returned (.int .i64 n) ∧ Kept [] w w' :=
  (check_any a ha w).mono fun e w' hh => ⟨h ▸ hh.1, Kept.of_below hh.2⟩

set_option maxRecDepth 100000 in
set_option maxHeartbeats 2000000 in
theorem alive5 (w : World) : Calls Try.prog 15 #[] w fun e w' => e = .returned (.bool true) ∧ Kept [] w w' := by
  have c1 : ∀ w, Calls Try.prog 16 #[.string ⟨#[97, 47, 47, 98, 47, 46, 47, 46, 46, 47, 99]⟩] w fun e w' => e = .returned (.tuple #[.string ⟨#[97, 47, 99]⟩, .int .i64 0]) ∧ Kept [] w w' := fun w =>
    clean_any [97, 47, 47, 98, 47, 46, 47, 46, 46, 47, 99] (by decide) w
  have c2 : ∀ w, Calls Try.prog 16 #[.string ⟨#[97, 47, 46, 46, 47, 46, 46]⟩] w fun e w' => e = .returned (.tuple #[.string ⟨#[]⟩, .int .i64 38]) ∧ Kept [] w w' := fun w =>
    clean_any [97, 47, 46, 46, 47, 46, 46] (by decide) w
  have c3 : ∀ w, Calls Try.prog 20 #[.string ⟨#[97, 47, 99]⟩] w fun e w' => e = .returned (.int .i64 0) ∧ Kept [] w w' := fun w => check_kept [97, 47, 99] (by decide) 0 (by decide) w
  have c4 : ∀ w, Calls Try.prog 20 #[.string ⟨#[97, 47, 47, 99]⟩] w fun e w' => e = .returned (.int .i64 38) ∧ Kept [] w w' := fun w => check_kept [97, 47, 47, 99] (by decide) 38 (by decide) w
  have c5 : ∀ w, Calls Try.prog 22 #[.string ⟨#[97, 47, 98, 47, 99]⟩] w fun e w' => e = .returned (.string ⟨#[97, 47, 98]⟩) ∧ w = w' := fun w => parent_any [97, 47, 98, 47, 99] (by decide) w
  have c6 : ∀ w, Calls Try.prog 23 #[.string ⟨#[97, 47, 98, 47, 99]⟩] w fun e w' => e = .returned (.string ⟨#[99]⟩) ∧ w = w' := fun w => base_any [97, 47, 98, 47, 99] (by decide) w
  have c7 : ∀ w, Calls Try.prog 24 #[.string ⟨#[97]⟩, .string ⟨#[98]⟩] w fun e w' => e = .returned (.string ⟨#[97, 47, 98]⟩) ∧ w = w' := fun w => join_any [97] [98] (by decide) (by decide) w
  have c8 : ∀ w, Calls Try.prog 24 #[.string ⟨#[]⟩, .string ⟨#[98]⟩] w fun e w' => e = .returned (.string ⟨#[98]⟩) ∧ w = w' := fun w => join_any [] [98] (by decide) (by decide) w
  have c9 : ∀ w, Calls Try.prog 25 #[.string ⟨#[97, 47, 98]⟩, .string ⟨#[97, 46, 98]⟩] w fun e w' => e = .returned (.bool true) ∧ Kept [] w w' := fun w => less_any [97, 47, 98] [97, 46, 98] (by decide) (by decide) w
  have ca : ∀ w, Calls Try.prog 27 #[.string ⟨#[97, 47, 98]⟩, .string ⟨#[97]⟩] w fun e w' => e = .returned (.bool true) ∧ w = w' := fun w => within_any [97, 47, 98] [97] w
  have cb : ∀ w, Calls Try.prog 27 #[.string ⟨#[97, 98]⟩, .string ⟨#[97]⟩] w fun e w' => e = .returned (.bool false) ∧ w = w' := fun w => within_any [97, 98] [97] w
  have cc : ∀ w, Calls Try.prog 30 #[.string ⟨#[97, 47, 98]⟩, .int .i64 9] w fun e w' => ∃ ad c, e = .returned (.slice ad 2 c) ∧ Kept [] w w' := fun w => lparts_len [97, 47, 98] 9 (by decide) (by decide) (by decide) w
  go_enter Try.func15, Try.ntmps15
  go_wp2_with fail
  refine (c1 _).mono ?_
  rintro e w1 ⟨rfl, k1⟩
  go_wp2_with fail
  refine (c2 _).mono ?_
  rintro e w2 ⟨rfl, k2⟩
  go_wp2_with fail
  refine (c3 _).mono ?_
  rintro e w3 ⟨rfl, k3⟩
  go_wp2_with fail
  refine (c4 _).mono ?_
  rintro e w4 ⟨rfl, k4⟩
  go_wp2_with fail
  refine (c5 _).mono ?_
  rintro e w5 ⟨rfl, rfl⟩
  go_wp2_with fail
  refine (c6 _).mono ?_
  rintro e w6 ⟨rfl, rfl⟩
  go_wp2_with fail
  refine (c7 _).mono ?_
  rintro e w7 ⟨rfl, rfl⟩
  go_wp2_with fail
  refine (c8 _).mono ?_
  rintro e w8 ⟨rfl, rfl⟩
  go_wp2_with fail
  refine (c9 _).mono ?_
  rintro e w9 ⟨rfl, k9⟩
  go_wp2_with fail
  refine (ca _).mono ?_
  rintro e wa ⟨rfl, rfl⟩
  go_wp2_with fail
  refine (cb _).mono ?_
  rintro e wb ⟨rfl, rfl⟩
  go_wp2_with fail
  refine (cc _).mono ?_
  rintro e wc ⟨ad, c, rfl, kc⟩
  go_wp2
  go_ret
  exact ⟨rfl, ((((k1.trans k2).trans k3).trans k4).trans k9).trans kc⟩
end Go.Proofs.Ytignphegdigalaa
