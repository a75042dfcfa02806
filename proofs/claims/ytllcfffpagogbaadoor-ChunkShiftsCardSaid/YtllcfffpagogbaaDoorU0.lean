/- coldstoreref09: power, Right; the mathematics of the document's own cut. -/
import Derived.Test.YtllcfffpagogbaaDoorQM
import Derived.Test.YtllcfffpagogbaaDoorRL
namespace Go.Proofs.YtllcfffpagogbaaDoor
open Go.RowKit Go.Lib

theorem ctz_mod (x b : Nat) (hx : x < 4294967296) (hb : b ≤ 20) : decide (b ≤ Go.Lib.ctz 32 x) = decide (x % 2 ^ b = 0) := by
  rw [Bool.eq_iff_iff]; simp only [decide_eq_true_eq]
  by_cases h0 : x = 0
  · subst h0; simp [Go.Lib.ctz]; omega
  · obtain ⟨m, hm, hk⟩ := Go.Lib.ctzFrom_spec 32 x (by omega) (by simpa using hx)
    have e : Go.Lib.ctz 32 x = Go.Lib.ctzFrom 32 x := by simp [Go.Lib.ctz, h0]
    rw [e]
    generalize Go.Lib.ctzFrom 32 x = k at *
    constructor
    · intro h
      rw [hm]
      obtain ⟨d, rfl⟩ := Nat.exists_eq_add_of_le h
      rw [Nat.pow_add, Nat.mul_assoc]; exact Nat.mul_mod_right _ _
    · intro h
      rcases Nat.lt_or_ge k b with hlt | hge
      · exfalso
        obtain ⟨d, rfl⟩ := Nat.exists_eq_add_of_lt hlt
        have hd : 2 ^ (k + d + 1) ∣ 2 ^ k * (2 * m + 1) := by rw [← hm]; exact Nat.dvd_of_mod_eq_zero h
        rw [show k + d + 1 = k + (d + 1) by omega, Nat.pow_add] at hd
        have h2 := Nat.dvd_of_mul_dvd_mul_left (Nat.two_pow_pos k) hd
        have h3 : 2 ∣ 2 * m + 1 := Nat.dvd_trans ⟨2 ^ d, by rw [Nat.pow_succ]; omega⟩ h2
        omega
      · exact hge
theorem go_more (E : Nat → Roll.W → Bool) (T : UInt8 → Roll.W) (k : Nat) (ys : List UInt8) (n : Nat) (h : n < ys.length) : Chunk.go E T k (ys.take n) (ys.drop n) = if E (n + 1) (Roll.sum T (Roll.last k (ys.take (n + 1)))) = true then n + 1 else Chunk.go E T k (ys.take (n + 1)) (ys.drop (n + 1)) := by
  rw [List.drop_eq_getElem_cons h, Chunk.go_cons, List.length_take, Nat.min_eq_left (by omega), ← List.take_succ_eq_append_getElem h]
theorem go_end (E : Nat → Roll.W → Bool) (T : UInt8 → Roll.W) (k : Nat) (ys : List UInt8) : Chunk.go E T k (ys.take ys.length) (ys.drop ys.length) = ys.length := by
  rw [List.take_length, List.drop_length]; rfl

set_option maxHeartbeats 1000000 in
theorem power_any (n : Nat) (hn : n ≤ 20) (w : World) :
    Calls Tryd.prog 53 #[.int .i64 (n : Int)] w fun e w' => e = .returned (.int .u32 ((2 ^ n : Nat) : Int)) ∧ w = w' := by
  obtain ⟨r, hr⟩ : ∃ r, r = 2 ^ n := ⟨_, rfl⟩
  rw [← hr]
  have Hr := hid hr
  clear hr
  go_enter Tryd.func53, Tryd.ntmps53
  go_wp2_with fail
  go_loopw [3, 4] (fun v s wr => ∃ i pw : Nat, i ≤ n ∧ s = .int .i64 i ∧ v = .int .u32 (pw : Int) ∧ Hid (pw = 2 ^ i) ∧ pw ≤ 1048576 ∧ w = wr) (fun _ s _ => n - (intOf s).toNat)
  case atStart => exact ⟨0, 1, Nat.zero_le _, rfl, rfl, hid rfl, by omega, rfl⟩
  case round =>
    obtain ⟨i, pw, hi, rfl, rfl, hp, hb, rfl⟩ := hrel
    by_cases hlt : i < n
    · have h1 : pw ≤ 524288 := by
        rw [hp.out]; exact Nat.le_trans (Nat.pow_le_pow_right (by omega) (show i ≤ 19 by omega)) (by decide)
      have hp2 := hid (show 2 * pw = 2 ^ (i + 1) by rw [hp.out, Nat.pow_succ]; omega)
      clear hb
      go_wp2_with fail
      exact ⟨⟨i + 1, 2 * pw, by omega, by go_num, by go_num, hp2, by omega, by first | rfl | trivial⟩, by simp [intOf]; omega⟩
    · obtain rfl : i = n := by omega
      have hpr := hid (show pw = r by rw [hp.out, Hr.out])
      go_wp2
      go_ret
      exact ⟨by rw [hpr.out]; rfl, rfl⟩

set_option maxRecDepth 100000 in
set_option maxHeartbeats 2000000 in
theorem right_ok (P : Chunk.Par) (s : Int) (h : ParOk P) (w : World) :
    Calls Tryd.prog 11 #[parV P.min P.max P.bits P.width s] w fun e w' => e = .returned (.bool true) ∧ Kept [] w w' := by
  have q1 := h.min1; have q2 := h.minmax; have q3 := h.max; have q4 := h.bits; have q5 := h.w1; have q6 := h.w64
  obtain ⟨a, b, d, e⟩ := P
  dsimp only at *
  clear h
  go_enter Tryd.func11, Tryd.ntmps11
  go_wp2
  go_ret
  exact ⟨by simp; omega, (Kept.refl _ _).alloc _⟩

set_option maxRecDepth 100000 in
set_option maxHeartbeats 4000000 in
theorem right_bad (a b d e s : Int) (h : a < 1 ∨ b < a ∨ 65536 < b ∨ d < 0 ∨ 20 < d ∨ e < 1 ∨ 64 < e) (w : World) :
    Calls Tryd.prog 11 #[parV a b d e s] w fun r w' => r = .returned (.bool false) ∧ Kept [] w w' := by
  by_cases h0 : a < 1
  · clear h
    go_enter Tryd.func11, Tryd.ntmps11
    go_wp2
    go_ret
    exact ⟨rfl, (Kept.refl _ _).alloc _⟩
  by_cases h1 : b < a
  · clear h
    go_enter Tryd.func11, Tryd.ntmps11
    go_wp2
    go_ret
    exact ⟨rfl, (Kept.refl _ _).alloc _⟩
  by_cases h2 : 65536 < b
  · clear h
    go_enter Tryd.func11, Tryd.ntmps11
    go_wp2
    go_ret
    exact ⟨rfl, (Kept.refl _ _).alloc _⟩
  by_cases h3 : d < 0
  · clear h
    go_enter Tryd.func11, Tryd.ntmps11
    go_wp2
    go_ret
    exact ⟨rfl, (Kept.refl _ _).alloc _⟩
  by_cases h4 : 20 < d
  · clear h
    go_enter Tryd.func11, Tryd.ntmps11
    go_wp2
    go_ret
    exact ⟨rfl, (Kept.refl _ _).alloc _⟩
  by_cases h5 : e < 1
  · clear h
    go_enter Tryd.func11, Tryd.ntmps11
    go_wp2
    go_ret
    exact ⟨rfl, (Kept.refl _ _).alloc _⟩
  have h6 : 64 < e := by omega
  clear h
  go_enter Tryd.func11, Tryd.ntmps11
  go_wp2
  go_ret
  exact ⟨by simp; omega, (Kept.refl _ _).alloc _⟩
end Go.Proofs.YtllcfffpagogbaaDoor
