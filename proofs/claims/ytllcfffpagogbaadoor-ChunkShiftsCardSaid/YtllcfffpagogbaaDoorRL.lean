/- coldstoreref08: At, turn, Sum, Last (beside chunk: no law of layer 8). -/
import Derived.Test.YtllcfffpagogbaaDoorRP
namespace Go.Proofs.YtllcfffpagogbaaDoor
open Go.RowKit

theorem slice_rest (ad : Addr) (m c n : Nat) (h : n ≤ m) (hmc : m ≤ c) : ∃ ad' : Addr, (∀ W, (Instr.sliceAt 25 (.slice (some ad) m c) (some (.int .i64 (n : Int))) none none).run Tryd.prog W = .ok (.slice (some ad') (m - n) (c - n)) W) ∧ (n < m → ad' = ad.add n) ∧ ad'.block = ad.block := by
  refine ⟨if c = n then ad else ad.add n, fun W => ?_, fun h => by rw [if_neg (by omega)], ?_⟩
  · rw [run_sliceAt_slice W 25 _ _ _ _ (by simp [Program.elem, Tryd.underlying25])]
    have hs : (sizeOf 5).run Tryd.prog W = .ok 1 W := by kernel_rfl
    rw [run_slice_l W 25 _ _ _ (by simp [Program.elem, Tryd.underlying25]) .i64 (n : Int) (by omega) (by omega)]
    have he : Tryd.prog.elem 25 = 5 := by simp [Program.elem, Tryd.underlying25]
    rw [he, hs]
    simp [Result.andThen, sliced]
    split <;> rfl
  · split
    · rfl
    · exact add_block _ _

theorem turn_spelled (x : Roll.W) : (x.toNat : Int) * 2 % 4294967296 + (x.toNat : Int) / 2147483648 = ((Roll.turn x 1).toNat : Int) := by
  have hx := x.isLt
  have h : (Roll.turn x 1).toNat = (x.toNat % 2147483648) * 2 + x.toNat / 2147483648 := by
    show (x <<< 1 ||| x >>> 31).toNat = _
    rw [BitVec.toNat_or, BitVec.toNat_shiftLeft, BitVec.toNat_ushiftRight, Nat.shiftRight_eq_div_pow, Nat.shiftLeft_eq]
    have e : x.toNat * 2 ^ 1 % 2 ^ 32 = (x.toNat % 2147483648) <<< 1 := by rw [Nat.shiftLeft_eq]; omega
    rw [e, ← Nat.shiftLeft_add_eq_or_of_lt (by omega), Nat.shiftLeft_eq]
  rw [h]; omega

theorem td_mod (a c : Int) (hc : 0 < c) : (a % 18446744073709551616).tdiv c % 18446744073709551616 = a % 18446744073709551616 / c := by
  have h0 : 0 ≤ a % 18446744073709551616 := by omega
  have h1 : a % 18446744073709551616 < 18446744073709551616 := by omega
  rw [Int.tdiv_eq_ediv_of_nonneg h0]
  have h2 : 0 ≤ a % 18446744073709551616 / c := Int.ediv_nonneg h0 (by omega)
  have h3 : a % 18446744073709551616 / c ≤ a % 18446744073709551616 := Int.ediv_le_self _ h0
  exact Int.emod_eq_of_lt h2 (by omega)
theorem td_xor (a b c : Int) (hc : 0 < c) : (bits .xor .u64 a b).tdiv c % 18446744073709551616 = bits .xor .u64 a b / c := by
  have e : bits .xor .u64 a b = bits .xor .u64 a b % 18446744073709551616 := by
    show IntKind.u64.wrap _ = IntKind.u64.wrap _ % 18446744073709551616
    rw [IntKind.wrap_u64]; omega
  rw [e]; exact td_mod _ c hc

theorem refat_any (s : Int) (c : UInt8) (w : World) (h0 : 0 ≤ s) (h1 : s < 18446744073709551616) :
    Calls Tryd.prog 78 #[.int .u64 s, B c] w fun e w' => e = .returned (U (num s c)) ∧ w = w' := by
  rw [num_spelled]
  have hc := c.toNat_lt
  obtain ⟨n, hn⟩ : ∃ n, n = c.toNat := ⟨_, rfl⟩
  rw [show B c = .int .u8 (n : Int) by rw [hn]; rfl, ← hn]
  rw [← hn] at hc
  clear hn
  go_enter Tryd.func78, Tryd.ntmps78
  go_wp2
  go_ret
  refine ⟨?_, rfl⟩
  unfold numI
  simp only [IntKind.wrap_u64, IntKind.wrap_u32]
  have q1 := fun a => td_mod a 1073741824 (by decide)
  have q2 := fun a => td_mod a 134217728 (by decide)
  have q3 := fun a => td_mod a 2147483648 (by decide)
  have q4 := fun a b => td_xor a b 4294967296 (by decide)
  simp only [q1, q2, q3, q4]
  rfl

theorem refturn_any (x : Roll.W) (n : Nat) (hn : n ≤ 1000000000) (w : World) :
    Calls Tryd.prog 77 #[U x, .int .i64 (n : Int)] w fun e w' => e = .returned (U (Roll.turn x n)) ∧ w = w' := by
  obtain ⟨r, hr⟩ : ∃ r, r = n % 32 := ⟨_, rfl⟩
  have hrem : (n : Int).tmod 32 = (r : Int) := by rw [Int.tmod_eq_emod_of_nonneg (by omega), hr]; omega
  have hr32 : r < 32 := by omega
  have hfin : Roll.turn x n = Roll.turn x r := by rw [hr, Roll.turn_mod]
  rw [hfin]
  clear hr hfin
  go_enter Tryd.func77, Tryd.ntmps77
  go_wp2_with fail
  go_loopw [0, 5] (fun v j wr => ∃ i : Nat, i ≤ r ∧ j = .int .i64 i ∧ v = U (Roll.turn x i) ∧ w = wr) (fun _ j _ => r - (intOf j).toNat)
  case atStart => exact ⟨0, Nat.zero_le _, rfl, by rw [Roll.turn_zero], rfl⟩
  case round =>
    obtain ⟨i, hi, rfl, rfl, rfl⟩ := hrel
    by_cases hlt : i < r
    · have hst := turn_spelled (Roll.turn x i)
      rw [Roll.turn_one] at hst
      have Hst := hid hst
      have hb := (Roll.turn x i).isLt
      clear hst
      generalize Roll.turn x i = y at *
      go_wp2_with fail
      rw [Hst.out]
      exact ⟨⟨i + 1, by omega, by go_num, by first | rfl | trivial, by first | rfl | trivial⟩, by simp [intOf]; omega⟩
    · obtain rfl : r = i := by omega
      go_wp2
      go_ret
      exact ⟨rfl, rfl⟩

theorem psum_step (T : UInt8 → Roll.W) (ys : List UInt8) (i : Nat) (h : i < ys.length) :
    Roll.turn (Roll.sum T (ys.take i)) (ys.length - i) ^^^ Roll.turn (T ys[i]) (ys.length - 1 - i) = Roll.turn (Roll.sum T (ys.take (i + 1))) (ys.length - (i + 1)) := by
  rw [List.take_succ_eq_append_getElem h, Roll.sum_snoc]
  unfold Roll.step
  rw [Roll.turn_xor, Roll.turn_turn, show 1 + (ys.length - (i + 1)) = ys.length - i by omega, show ys.length - 1 - i = ys.length - (i + 1) by omega]

theorem refsum_any (s : Int) (a : Option Addr) (c : Nat) (ys : List UInt8) (w : World) (h0 : 0 ≤ s) (h1 : s < 18446744073709551616) (hr : Reads w a ys) (hl : ys.length ≤ 1000000) :
    Calls Tryd.prog 51 #[.int .u64 s, .slice a ys.length c] w fun e w' => e = .returned (U (Roll.sum (num s) ys)) ∧ w = w' := by
  have Hr := hid hr
  obtain ⟨T, hT⟩ : ∃ T, T = num s := ⟨_, rfl⟩
  have hat := hid (fun (b : UInt8) => refat_any s b w h0 h1)
  rw [← hT] at hat ⊢
  clear hT hr
  go_enter Tryd.func51, Tryd.ntmps51
  go_wp2_with fail
  go_loopw [5, 6] (fun v j wr => ∃ i : Nat, i ≤ ys.length ∧ j = .int .i64 i ∧ v = U (Roll.turn (Roll.sum T (ys.take i)) (ys.length - i)) ∧ w = wr) (fun _ j _ => ys.length - (intOf j).toNat)
  case atStart => exact ⟨0, Nat.zero_le _, rfl, by rw [List.take_zero, Roll.sum_nil, Roll.zero_turn]; rfl, rfl⟩
  case round =>
    obtain ⟨i, hi, rfl, rfl, rfl⟩ := hrel
    by_cases hlt : i < ys.length
    · obtain ⟨ad, rfl, gx⟩ := Hr.out.get i hlt
      have hst := psum_step T ys i hlt
      have hA := hid (hat.out ys[i])
      have hTu := hid (refturn_any (T ys[i]) (ys.length - 1 - i) (by omega) w)
      rw [show ((ys.length - 1 - i : Nat) : Int) = (ys.length : Int) - 1 - (i : Int) by omega] at hTu
      have hx := xor_bv (Roll.turn (Roll.sum T (ys.take i)) (ys.length - i)) (Roll.turn (T ys[i]) (ys.length - 1 - i))
      rw [hst] at hx
      have Hx := hid hx
      clear hst hx
      generalize Roll.turn (T ys[i]) (ys.length - 1 - i) = z at *
      generalize T ys[i] = y at *
      generalize B ys[i] = bv at *
      generalize Roll.turn (Roll.sum T (ys.take i)) (ys.length - i) = u at *
      go_wp2_with fail
      refine hA.out.mono ?_
      rintro e w' ⟨rfl, rfl⟩
      go_wp2_with fail
      refine hTu.out.mono ?_
      rintro e w' ⟨rfl, rfl⟩
      go_wp2_with fail
      rw [Hx.out]
      exact ⟨⟨i + 1, by omega, by go_num, by first | rfl | trivial, by first | rfl | trivial⟩, by simp [intOf]; omega⟩
    · obtain rfl : ys.length = i := by omega
      rw [List.take_length, Nat.sub_self, Roll.turn_zero]
      go_wp2
      go_ret
      exact ⟨rfl, rfl⟩

theorem reflast_any (a : Option Addr) (c : Nat) (ys : List UInt8) (n : Nat) (w : World) (hc : ys.length ≤ c) (hc2 : c ≤ 9223372036854775807) (hl : ys.length ≤ 1000000) (hn : n ≤ 64) (ha : a = none → ys = []) :
    ∃ a2 c2, (Calls Tryd.prog 52 #[.slice a ys.length c, .int .i64 (n : Int)] w fun e w' => e = .returned (.slice a2 (Roll.last n ys).length c2) ∧ w = w') ∧ ∀ W, Reads W a ys → Reads W a2 (Roll.last n ys) := by
  by_cases h : n < ys.length
  · have hll : (Roll.last n ys).length = n := by simp [Roll.last]; omega
    rw [hll]
    cases a with
    | none =>
      rw [ha rfl] at h; simp at h
    | some ad =>
      obtain ⟨ad', hs, h2, _⟩ := slice_rest ad ys.length c (ys.length - n) (by omega) hc
      rw [show ys.length - (ys.length - n) = n by omega, show ((ys.length - n : Nat) : Int) = (ys.length : Int) - (n : Int) by omega] at hs
      refine ⟨some ad', c - (ys.length - n), ?_, fun W hW => ⟨fun e => by simp at e, fun x hx j u hj => ?_⟩⟩
      · go_enter Tryd.func52, Tryd.ntmps52
        go_wp2
        go_ret
        exact ⟨rfl, rfl⟩
      · simp at hx; subst hx
        unfold Roll.last at hj
        by_cases hz : n = 0
        · subst hz; simp at hj
        · rw [h2 (by omega), add_add]
          exact hW.2 ad rfl _ u (by rw [List.getElem?_map, List.getElem?_drop] at hj; rw [List.getElem?_map]; exact hj)
  · rw [Roll.last_short (by omega)]
    refine ⟨a, c, ?_, fun W hW => hW⟩
    go_enter Tryd.func52, Tryd.ntmps52
    go_wp2
    go_ret
    exact ⟨rfl, rfl⟩
end Go.Proofs.YtllcfffpagogbaaDoor
