import Derived.Test.YtkabfdclecbnpaaC0
import Derived.Test.YtkabfdclecbnpaaProg

/- retain: a time's day, nearness, tags; the same of the reference. -/
namespace Go.Proofs.Ytkabfdclecbnpaa
open Go.RowKit Go.Lib

def I64 (n : Int) : Prop := -9223372036854775808 ≤ n ∧ n ≤ 9223372036854775807
theorem day_parts (t d : Int) (hd : 1 ≤ d) : t / d = (if t.tmod d < 0 then t.tdiv d - 1 else t.tdiv d) ∧ (t.tmod d < 0 ↔ t < 0 ∧ t.tdiv d * d ≠ t) := by
  have h1 := Int.tmod_add_mul_tdiv t d
  have h2 := Int.lt_tmod_of_pos t (show 0 < d by omega)
  have h3 := Int.tmod_lt_of_pos t (show 0 < d by omega)
  constructor
  · split
    · rename_i h
      refine Int.ediv_eq_iff_of_pos (by omega) |>.2 ?_
      constructor
      · have : (t.tdiv d - 1) * d = d * t.tdiv d - d := by rw [Int.sub_mul, Int.mul_comm]; omega
        omega
      · have : (t.tdiv d - 1) * d = d * t.tdiv d - d := by rw [Int.sub_mul, Int.mul_comm]; omega
        omega
    · rename_i h
      refine Int.ediv_eq_iff_of_pos (by omega) |>.2 ?_
      constructor
      · have : t.tdiv d * d = d * t.tdiv d := Int.mul_comm _ _
        omega
      · have : t.tdiv d * d = d * t.tdiv d := Int.mul_comm _ _
        omega
  · have e : t.tdiv d * d = d * t.tdiv d := Int.mul_comm _ _
    constructor
    · intro h
      refine ⟨?_, by omega⟩
      rcases Int.lt_or_le t 0 with h0 | h0
      · exact h0
      · have := Int.tmod_nonneg d h0; omega
    · rintro ⟨h0, hne⟩
      have h5 := Int.tmod_nonneg d (show 0 ≤ -t by omega)
      rw [Int.neg_tmod] at h5
      omega
theorem td_range (t d : Int) (hd : 1 ≤ d) (ht : I64 t) : I64 (t.tdiv d) := by
  obtain ⟨ha, hb⟩ := ht
  have h5 := Int.natAbs_tdiv t d
  have h6 : (t.tdiv d).natAbs ≤ t.natAbs := by rw [h5]; exact Nat.div_le_self _ _
  unfold I64
  rcases Int.lt_or_le t 0 with h0 | h0
  · have h7 : t.tdiv d ≤ 0 := by
      have := Int.tdiv_nonneg (show 0 ≤ -t by omega) (show 0 ≤ d by omega)
      rw [Int.neg_tdiv] at this
      omega
    omega
  · have h7 := Int.tdiv_nonneg h0 (show 0 ≤ d by omega)
    omega
set_option maxHeartbeats 1000000 in
theorem day_of (t d : Int) (hd : 1 ≤ d) (hd2 : d ≤ 9223372036854775807) (ht : I64 t) (w : World) :
    Calls Try.prog 20 #[.int .i64 t, .int .i64 d] w fun e w' => e = .returned (.int .i64 (t / d)) ∧ w' = w := by
  obtain ⟨hq, _⟩ := day_parts t d hd
  have h1 := Int.tmod_add_mul_tdiv t d
  have h2 := Int.lt_tmod_of_pos t (show 0 < d by omega)
  have h3 := Int.tmod_lt_of_pos t (show 0 < d by omega)
  have h4 : t.tdiv d ≤ 9223372036854775807 ∧ -9223372036854775808 ≤ t.tdiv d := by
    obtain ⟨ha, hb⟩ := ht
    have h5 := Int.natAbs_tdiv t d
    have h6 : (t.tdiv d).natAbs ≤ t.natAbs := by rw [h5]; exact Nat.div_le_self _ _
    rcases Int.lt_or_le t 0 with h0 | h0
    · have h7 : t.tdiv d ≤ 0 := by
        have := Int.tdiv_nonneg (show 0 ≤ -t by omega) (show 0 ≤ d by omega)
        rw [Int.neg_tdiv] at this
        omega
      omega
    · have h7 := Int.tdiv_nonneg h0 (show 0 ≤ d by omega)
      omega
  have h8 : t.tmod d < 0 → -9223372036854775808 < t.tdiv d := fun h => by
    have h9 : d * t.tdiv d = t - t.tmod d := by omega
    rcases Int.lt_or_le (-9223372036854775808) (t.tdiv d) with h0 | h0
    · exact h0
    · exfalso
      obtain ⟨ha, hb⟩ := ht
      have h10 : d * t.tdiv d ≤ 1 * t.tdiv d := Int.mul_le_mul_of_nonpos_right hd (by omega)
      omega
  obtain ⟨q, hq0⟩ : ∃ q, q = t.tdiv d := ⟨_, rfl⟩
  obtain ⟨r, hr0⟩ : ∃ r, r = t.tmod d := ⟨_, rfl⟩
  rw [← hq0, ← hr0] at hq h1 h8
  rw [← hr0] at h2 h3
  rw [← hq0] at h4
  have hqd : t.tdiv d = q := hq0.symm
  have hrd : t.tmod d = r := hr0.symm
  have hd0 : (d == 0) = false := by simp; omega
  have hd1 : ¬ d = 0 := by omega
  have w1 : IntKind.i64.wrap q = q := IntWalk.i64_in _ (by omega)
  have w2 : IntKind.i64.wrap r = r := IntWalk.i64_in _ (by obtain ⟨ha, hb⟩ := ht; omega)
  by_cases hneg : r < 0
  · have hb : decide (r < 0) = true := decide_eq_true hneg
    have w3 : IntKind.i64.wrap (q - 1) = q - 1 := IntWalk.i64_in _ (by have := h8 hneg; omega)
    rw [if_pos hneg] at hq
    have HQ := hid hq
    clear hneg h1 h2 h3 h4 h8 hq hq0 hr0 ht
    go_enter Try.func20, Try.ntmps20
    go_wp2
    go_ret
    exact ⟨by rw [HQ.out]; rfl, rfl⟩
  · have hb : decide (r < 0) = false := decide_eq_false hneg
    rw [if_neg hneg] at hq
    have HQ := hid hq
    clear hneg h1 h2 h3 h4 h8 hq hq0 hr0 ht
    go_enter Try.func20, Try.ntmps20
    go_wp2
    go_ret
    exact ⟨by rw [HQ.out]; rfl, rfl⟩
set_option maxHeartbeats 1000000 in
/-- The reference's day is the same. -/
theorem rday_of (t d : Int) (hd : 1 ≤ d) (hd2 : d ≤ 9223372036854775807) (ht : I64 t) (w : World) :
    Calls Try.prog 25 #[.int .i64 t, .int .i64 d] w fun e w' => e = .returned (.int .i64 (t / d)) ∧ w' = w := by
  obtain ⟨hq, hiff⟩ := day_parts t d hd
  have h1 := Int.tmod_add_mul_tdiv t d
  have h2 := Int.lt_tmod_of_pos t (show 0 < d by omega)
  have h3 := Int.tmod_lt_of_pos t (show 0 < d by omega)
  obtain ⟨h6, h5⟩ := td_range t d hd ht
  obtain ⟨ha, hb⟩ := ht
  have h8 : t.tmod d < 0 → -9223372036854775808 < t.tdiv d := fun h => by
    have h9 : d * t.tdiv d = t - t.tmod d := by omega
    rcases Int.lt_or_le (-9223372036854775808) (t.tdiv d) with h0 | h0
    · exact h0
    · exfalso
      have h10 : d * t.tdiv d ≤ 1 * t.tdiv d := Int.mul_le_mul_of_nonpos_right hd (by omega)
      omega
  obtain ⟨q, hq0⟩ : ∃ q, q = t.tdiv d := ⟨_, rfl⟩
  obtain ⟨r, hr0⟩ : ∃ r, r = t.tmod d := ⟨_, rfl⟩
  rw [← hq0, ← hr0] at hq h1 h8 hiff
  rw [← hr0] at h2 h3
  rw [← hq0] at h6 h5
  have hqd : t.tdiv d = q := hq0.symm
  have hd0 : (d == 0) = false := by simp; omega
  have hd1 : ¬ d = 0 := by omega
  obtain ⟨pr, hpr⟩ : ∃ pr, pr = q * d := ⟨_, rfl⟩
  have hpr1 : pr = t - r := by rw [hpr, Int.mul_comm]; omega
  rw [← hpr] at hiff
  have hpq : q * d = pr := hpr.symm
  by_cases h0 : t < 0
  · have w1 : IntKind.i64.wrap q = q := IntWalk.i64_in _ (by omega)
    have w2 : IntKind.i64.wrap pr = pr := IntWalk.i64_in _ (by omega)
    have f0 : decide (t < 0) = true := decide_eq_true h0
    by_cases hne : pr = t
    · have hnr : ¬ r < 0 := fun h => (hiff.1 h).2 hne
      rw [if_neg hnr] at hq
      have HQ := hid hq
      have f1 : (pr == t) = true := by simp [hne]
      clear hiff h1 h2 h3 h5 h6 h8 hq hq0 hr0 hpr hpr1 hnr hne h0 ha hb
      go_enter Try.func25, Try.ntmps25
      go_wp2
      go_ret
      exact ⟨by rw [HQ.out]; rfl, rfl⟩
    · have hr : r < 0 := hiff.2 ⟨h0, hne⟩
      rw [if_pos hr] at hq
      have w3 : IntKind.i64.wrap (q - 1) = q - 1 := IntWalk.i64_in _ (by have := h8 hr; omega)
      have HQ := hid hq
      have f1 : (pr == t) = false := by simp [hne]
      clear hiff h1 h2 h3 h5 h6 h8 hq hq0 hr0 hpr hpr1 hr hne h0 ha hb
      go_enter Try.func25, Try.ntmps25
      go_wp2
      go_ret
      exact ⟨by rw [HQ.out]; rfl, rfl⟩
  · have w1 : IntKind.i64.wrap q = q := IntWalk.i64_in _ (by omega)
    have f0 : decide (t < 0) = false := decide_eq_false h0
    have hnr : ¬ r < 0 := fun h => h0 (hiff.1 h).1
    rw [if_neg hnr] at hq
    have HQ := hid hq
    clear hiff h1 h2 h3 h5 h6 h8 hq hq0 hr0 hpr hpr1 hnr h0 ha hb
    go_enter Try.func25, Try.ntmps25
    go_wp2
    go_ret
    exact ⟨by rw [HQ.out]; rfl, rfl⟩
set_option maxHeartbeats 1000000 in
theorem within_of (t n k : Int) (ht : I64 t) (hn : I64 n) (hk : I64 k) (hle : t ≤ n) (w : World) :
    Calls Try.prog 21 #[.int .i64 t, .int .i64 n, .int .i64 k] w fun e w' => e = .returned (.bool (decide (0 < k ∧ n - t < k))) ∧ w' = w := by
  obtain ⟨t1, t2⟩ := ht
  obtain ⟨n1, n2⟩ := hn
  obtain ⟨k1, k2⟩ := hk
  by_cases h0 : 0 < k
  · obtain ⟨a, ha⟩ : ∃ a, a = IntKind.u64.wrap n := ⟨_, rfl⟩
    obtain ⟨b, hb⟩ : ∃ b, b = IntKind.u64.wrap t := ⟨_, rfl⟩
    have e1 : IntKind.u64.wrap (a - b) = n - t := by rw [ha, hb]; simp only [IntKind.wrap_u64]; omega
    have e2 : IntKind.u64.wrap k = k := by simp only [IntKind.wrap_u64]; omega
    have e3 : IntKind.u64.wrap n = a := ha.symm
    have e4 : IntKind.u64.wrap t = b := hb.symm
    have hd0 : decide (0 < k) = true := decide_eq_true h0
    obtain ⟨c, hc⟩ : ∃ c, c = decide (n - t < k) := ⟨_, rfl⟩
    have hc' := hc.symm
    have HC := hid hc
    have H0 := hid h0
    obtain ⟨m, hm⟩ : ∃ m, m = n - t := ⟨_, rfl⟩
    rw [← hm] at e1 hc' HC
    have HM := hid hm
    clear ha hb hc h0 hle t1 t2 n1 n2 k1 k2 hm
    go_enter Try.func21, Try.ntmps21
    go_wp2
    go_ret
    refine ⟨?_, rfl⟩
    rw [← HM.out]
    simp [H0.out, HC.out]
  · have hd0 : decide (0 < k) = false := decide_eq_false h0
    have H0 := hid h0
    clear h0 hle t1 t2 n1 n2 k1 k2
    go_enter Try.func21, Try.ntmps21
    go_wp2
    go_ret
    exact ⟨by simp [H0.out], rfl⟩
end Go.Proofs.Ytkabfdclecbnpaa
