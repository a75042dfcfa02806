/- coldstorelaw08.RollSums, walked. -/
import Derived.Test.YtieaolnnlfaagaaRA
namespace Go.Proofs.Ytieaolnnlfaagaa
open Go.RowKit

theorem byte_of {a : Int} (h : (Lit.int .u8 a).wf = true) : ∃ k : UInt8, a = (k.toNat : Int) := by
  have hb := bounds_u8 h
  exact ⟨UInt8.ofNat a.toNat, by simp; omega⟩

/-- The table and the window through the loop. -/
def SumR (w : World) (g p n : Nat) (T : UInt8 → Roll.W) (ys : List UInt8) (v : World) : Prop := Kept [] w v ∧ Tb v g 0 T ∧ Win v p T n ys

set_option maxRecDepth 100000 in
set_option maxHeartbeats 4000000 in
theorem roll_sums (s k : Int) (a : Option Addr) (c : Nat) (ys : List UInt8) (cb : UInt8) (w : World) (h0 : 0 ≤ s) (h1 : s < 18446744073709551616) (hr : Reads w a ys) (hc : ys.length ≤ c) (hc2 : c ≤ 9223372036854775807) :
    Calls Try.prog 8 #[.int .u64 s, .int .i64 k, .slice a ys.length c, B cb] w fun e w' => e = .returned (.bool true) ∧ Kept [] w w' := by
  have hal := hid (alive08 w)
  have Hr := hid hr
  have hmk := hid (fun W => make_tb s W h0 h1)
  have hra := hid (fun W => refat_any s cb W h0 h1)
  have hrs := hid (fun (xs : List UInt8) (a : Option Addr) (c : Nat) W (h : Reads W a xs) (hl : xs.length ≤ 1000000) => refsum_any s a c xs W h0 h1 h hl)
  obtain ⟨T, hT⟩ : ∃ T, T = num s := ⟨_, rfl⟩
  rw [← hT] at hmk hra hrs
  have hta := hid (fun g W (h : Tb W g 0 T) => at_any g 0 T cb W h)
  obtain ⟨y0, hy0⟩ : ∃ y, y = cb.toNat := ⟨_, rfl⟩
  have hB0 : B cb = .int .u8 (y0 : Int) := by rw [hy0]; rfl
  rw [hB0] at hra hta ⊢
  clear hT hr hy0 hB0
  by_cases hl : ys.length ≤ 300
  case neg =>
    have hl' : 300 < ys.length := by omega
    go_enter Try.func8, Try.ntmps8
    go_wp2_with fail
    refine hal.out.mono ?_
    rintro e w1 ⟨rfl, hk1⟩
    have Hk1 := hid hk1
    clear hk1
    go_wp2
    go_ret
    exact ⟨rfl, Hk1.out⟩
  generalize T cb = tc at *
  obtain ⟨sg, hsg⟩ : ∃ x, x = Roll.sum T ys := ⟨_, rfl⟩
  have hts := hid (fun g W (h : Tb W g 0 T) (hr : Reads W a ys) => tsum_any g 0 T a c ys W h hr (by omega))
  have hrs0 := hid (fun W (h : Reads W a ys) => hrs.out ys a c W h (by omega))
  rw [← hsg] at hts hrs0
  clear hsg
  by_cases hk : 1 ≤ k ∧ k ≤ 64
  case neg =>
    have hwb := hid (fun g W => window_bad k (by omega) g W)
    by_cases hk1 : k < 1
    · clear hk
      go_enter Try.func8, Try.ntmps8
      go_wp2_with fail
      refine hal.out.mono ?_
      rintro e w1 ⟨rfl, hk1⟩
      have Hk1 := hid hk1
      clear hk1 hal
      go_wp2_with fail
      refine (hmk.out w1).mono ?_
      rintro e w2 ⟨rfl, hk2, ht2⟩
      obtain ⟨g, hg1⟩ : ∃ g, g = w1.heap.size := ⟨_, rfl⟩
      rw [← hg1] at ht2 ⊢
      have Hk2 := hid (Hk1.out.trans hk2)
      have Ht2 := hid ht2
      clear hk2 ht2 hg1 hmk Hk1
      go_wp2_with fail
      refine (hwb.out _ w2).mono ?_
      rintro e w' ⟨rfl, rfl⟩
      go_wp2_with fail
      refine (hta.out _ _ Ht2.out).mono ?_
      rintro e w' ⟨rfl, rfl⟩
      go_wp2_with fail
      refine (hra.out _).mono ?_
      rintro e w' ⟨rfl, rfl⟩
      go_wp2_with fail
      refine (hts.out _ _ Ht2.out (Hr.out.kept Hk2.out (by simp))).mono ?_
      rintro e w' ⟨rfl, rfl⟩
      go_wp2_with fail
      refine (hrs0.out _ (Hr.out.kept Hk2.out (by simp))).mono ?_
      rintro e w' ⟨rfl, rfl⟩
      go_wp2
      go_ret
      exact ⟨rfl, Hk2.out⟩
    · have hk2 : 64 < k := by omega
      clear hk
      go_enter Try.func8, Try.ntmps8
      go_wp2_with fail
      refine hal.out.mono ?_
      rintro e w1 ⟨rfl, hk1⟩
      have Hk1 := hid hk1
      clear hk1 hal
      go_wp2_with fail
      refine (hmk.out w1).mono ?_
      rintro e w2 ⟨rfl, hk2, ht2⟩
      obtain ⟨g, hg1⟩ : ∃ g, g = w1.heap.size := ⟨_, rfl⟩
      rw [← hg1] at ht2 ⊢
      have Hk2 := hid (Hk1.out.trans hk2)
      have Ht2 := hid ht2
      clear hk2 ht2 hg1 hmk Hk1
      go_wp2_with fail
      refine (hwb.out _ w2).mono ?_
      rintro e w' ⟨rfl, rfl⟩
      go_wp2_with fail
      refine (hta.out _ _ Ht2.out).mono ?_
      rintro e w' ⟨rfl, rfl⟩
      go_wp2_with fail
      refine (hra.out _).mono ?_
      rintro e w' ⟨rfl, rfl⟩
      go_wp2_with fail
      refine (hts.out _ _ Ht2.out (Hr.out.kept Hk2.out (by simp))).mono ?_
      rintro e w' ⟨rfl, rfl⟩
      go_wp2_with fail
      refine (hrs0.out _ (Hr.out.kept Hk2.out (by simp))).mono ?_
      rintro e w' ⟨rfl, rfl⟩
      go_wp2
      go_ret
      exact ⟨rfl, Hk2.out⟩
  obtain ⟨n, rfl⟩ : ∃ n : Nat, k = (n : Int) := ⟨k.toNat, by omega⟩
  have hn1 : 1 ≤ n := by omega
  have hn64 : n ≤ 64 := by omega
  clear hk
  go_enter Try.func8, Try.ntmps8
  go_wp2_with fail
  refine hal.out.mono ?_
  rintro e w1 ⟨rfl, hk1⟩
  have Hk1 := hid hk1
  clear hk1 hal
  go_wp2_with fail
  refine (hmk.out w1).mono ?_
  rintro e w2 ⟨rfl, hk2, ht2⟩
  obtain ⟨g, hg1⟩ : ∃ g, g = w1.heap.size := ⟨_, rfl⟩
  rw [← hg1] at ht2 ⊢
  have Hk2 := hid (Hk1.out.trans hk2)
  have Ht2 := hid ht2
  clear hk2 ht2 hg1 hmk Hk1
  go_wp2_with fail
  refine (window_ok g n T w2 hn1 hn64 Ht2.out).mono ?_
  rintro e w3 ⟨rfl, hk3, hw3⟩
  obtain ⟨p, hp⟩ : ∃ p, p = w2.heap.size := ⟨_, rfl⟩
  rw [← hp] at hw3 ⊢
  have HR := hid (show SumR w g p n T (ys.take 0) w3 from ⟨Hk2.out.trans hk3, Ht2.out.kept hk3 (by simp), hw3⟩)
  have Hp := hid (show w.heap.size ≤ p ∧ g ≠ p by rw [hp]; have := Ht2.out.lt; have := Hk2.out.size; omega)
  clear hk3 hw3 hp Ht2 Hk2
  have Hr3 := hid (Hr.out.kept HR.out.1 (by simp))
  go_wp2_with fail
  refine (hta.out _ _ HR.out.2.1).mono ?_
  rintro e w' ⟨rfl, rfl⟩
  go_wp2_with fail
  refine (hra.out _).mono ?_
  rintro e w' ⟨rfl, rfl⟩
  go_wp2_with fail
  refine (hts.out _ _ HR.out.2.1 Hr3.out).mono ?_
  rintro e w' ⟨rfl, rfl⟩
  go_wp2_with fail
  refine (hrs0.out _ Hr3.out).mono ?_
  rintro e w' ⟨rfl, rfl⟩
  go_wp2_with fail
  refine (wsum_any p n T [] w3 HR.out.2.2).mono ?_
  rintro e w' ⟨rfl, rfl⟩
  rw [sum_last_nil]
  go_wp2_with fail
  go_loopw [69] (fun j wr => ∃ i : Nat, i ≤ ys.length ∧ j = .int .i64 i ∧ Hid (SumR w g p n T (ys.take i) wr)) (fun j _ => ys.length - (intOf j).toNat)
  case atStart => exact ⟨0, Nat.zero_le _, rfl, HR⟩
  case round =>
    clear HR Hr3 hta hra hts hrs0
    obtain ⟨i, hi, rfl, hr⟩ := hrel
    by_cases hlt : i < ys.length
    · have Hrr := hid (Hr.out.kept hr.out.1 (by simp))
      obtain ⟨ad, rfl, gx⟩ := Hrr.out.get i hlt
      have hsn : ys.take i ++ [ys[i]] = ys.take (i + 1) := (List.take_succ_eq_append_getElem hlt).symm
      have htl : (ys.take (i + 1)).length = i + 1 := by simp; omega
      have hsl := fun W => slice_up (some ad) ys.length c (i + 1) (by omega) hc W
      rw [show ((i + 1 : Nat) : Int) = (i : Int) + 1 by omega] at hsl
      obtain ⟨a2, c2, hla, hrd⟩ := reflast_any (some ad) c (ys.take (i + 1)) n wr (by omega) hc2 (by omega) hn64 (fun h => by simp at h)
      have hrs1 := hrs.out (Roll.last n (ys.take (i + 1))) a2 c2 wr (hrd wr (Hrr.out.take (i + 1))) (by simp [Roll.last]; omega)
      rw [htl] at hla
      have hpu := push_any p n T (ys.take i) ys[i] wr hr.out.2.2 hn1 hn64
      rw [hsn] at hpu
      have hfin := fun v (hk : Kept [p] wr v) (hw : Win v p T n (ys.take (i + 1))) => show SumR w g p n T (ys.take (i + 1)) v from
        ⟨hr.out.1.trans' hk (fun x hx hm => by have := Hp.out.1; simp at hm; omega), hr.out.2.1.kept hk (by simpa using Hp.out.2), hw⟩
      have hws := fun v (hw : Win v p T n (ys.take (i + 1))) => wsum_any p n T (ys.take (i + 1)) v hw
      obtain ⟨z, hz⟩ : ∃ z, z = Roll.sum T (Roll.last n (ys.take (i + 1))) := ⟨_, rfl⟩
      rw [← hz] at hrs1 hpu hws
      obtain ⟨y, hy⟩ : ∃ y, y = ys[i].toNat := ⟨_, rfl⟩
      have hB : B ys[i] = .int .u8 (y : Int) := by rw [hy]; rfl
      rw [hB] at gx hpu
      have Hla := hid hla; have Hrs1 := hid hrs1; have Hpu := hid hpu; have Hfin := hid hfin; have Hws := hid hws
      clear hla hrs1 hpu hfin hws hrd hsn htl hz hy hB
      go_wp2_with fail
      refine Hla.out.mono ?_
      rintro e w' ⟨rfl, rfl⟩
      clear hsl
      go_wp2_with fail
      refine Hrs1.out.mono ?_
      rintro e w' ⟨rfl, rfl⟩
      go_wp2_with fail
      refine Hpu.out.mono ?_
      rintro e w5 ⟨rfl, hk5, hw5⟩
      have Hw5 := hid hw5
      have HR5 := hid (Hfin.out _ hk5 hw5)
      clear hk5 hw5
      go_wp2_with fail
      refine (Hws.out _ Hw5.out).mono ?_
      rintro e w' ⟨rfl, rfl⟩
      go_wp2_with fail
      exact ⟨⟨i + 1, by omega, by go_num, HR5⟩, by simp [intOf]; omega⟩
    · have hk := hid hr.out.1
      clear hr
      go_wp2
      go_ret
      exact ⟨rfl, hk.out⟩
end Go.Proofs.Ytieaolnnlfaagaa
