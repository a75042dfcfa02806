/- coldstorelaw08.RollSeeds, walked. -/
import Derived.Test.YtieaolnnlfaagaaR6
namespace Go.Proofs.Ytieaolnnlfaagaa
open Go.RowKit

theorem elem_u8 : Try.prog.elem 42 = 5 := by simp [Program.elem, Try.underlying42]
theorem slice_up (a : Option Addr) (m c n : Nat) (h : n ≤ m) (hmc : m ≤ c) (W : World) : (Instr.sliceAt 42 (.slice a m c) none (some (.int .i64 (n : Int))) none).run Try.prog W = .ok (.slice a n c) W := by
  rw [run_sliceAt_slice W 42 _ _ _ _ (by simp [Program.elem, Try.underlying42])]
  have hs : (sizeOf 5).run Try.prog W = .ok 1 W := by kernel_rfl
  rw [run_slice_h W 42 _ _ _ (by simp [Program.elem, Try.underlying42]) .i64 (n : Int) (by omega) (by omega), elem_u8, hs]
  cases a <;> simp [Result.andThen, sliced, Addr.add]
theorem Reads.take {w : World} {a : Option Addr} {ys : List UInt8} (h : Reads w a ys) (n : Nat) : Reads w a (ys.take n) :=
  ⟨fun e => by rw [h.1 e]; simp, fun ad had j u hj => h.2 ad had j u (by
    rw [List.getElem?_map, List.getElem?_take] at hj
    rw [List.getElem?_map]
    split at hj
    · exact hj
    · simp at hj)⟩

/-- What holds through the window's loop. -/
def SeedR (w : World) (p g1 g2 : Nat) (T : UInt8 → Roll.W) (ys : List UInt8) (v : World) : Prop :=
  Kept [] w v ∧ Win v p T 64 ys ∧ Tb v g1 0 T ∧ Tb v g2 0 T
theorem SeedR.drew {w v : World} {p g1 g2 : Nat} {T : UInt8 → Roll.W} {ys : List UInt8} (h : SeedR w p g1 g2 T ys v) : SeedR w p g1 g2 T ys v.drew :=
  ⟨h.1.drew, h.2.1, h.2.2.1, h.2.2.2⟩
theorem SeedR.push {w v : World} {p g1 g2 : Nat} {T : UInt8 → Roll.W} {ys : List UInt8} (h : SeedR w p g1 g2 T ys v) (hp : w.heap.size ≤ p) (h1 : g1 ≠ p) (h2 : g2 ≠ p) (c : UInt8) :
    Calls Try.prog 37 #[.pointer (some ⟨p, 0, none⟩), B c] v fun e w' => e = .returned (U (Roll.sum T (Roll.last 64 (ys ++ [c])))) ∧ SeedR w p g1 g2 T (ys ++ [c]) w' :=
  (push_any p 64 T ys c v h.2.1 (by omega) (by omega)).mono fun e w' ⟨he, hk, hw⟩ =>
    ⟨he, h.1.trans' hk (fun x hx hm => by simp at hm; omega), hw, h.2.2.1.kept hk (by simpa using h1), h.2.2.2.kept hk (by simpa using h2)⟩

set_option maxRecDepth 100000 in
set_option maxHeartbeats 2000000 in
theorem roll_seeds (s : Int) (a : Option Addr) (c : Nat) (ys : List UInt8) (k : Int) (w : World) (h0 : 0 ≤ s) (h1 : s < 18446744073709551616) (hr : Reads w a ys) (hc : ys.length ≤ c) (hc2 : c ≤ 9223372036854775807) :
    Calls Try.prog 11 #[.int .u64 s, .slice a ys.length c, .int .i64 k] w fun e w' => e = .returned (.bool true) ∧ Kept [] w w' := by
  have hal := hid (alive08 w)
  have Hr := hid hr
  have hmk := hid (fun W => make_tb s W h0 h1)
  obtain ⟨T, hT⟩ : ∃ T, T = num s := ⟨_, rfl⟩
  rw [← hT] at hmk
  clear hT hr
  by_cases hl : ys.length ≤ 64
  case neg =>
    have hl' : 64 < ys.length := by omega
    go_enter Try.func11, Try.ntmps11
    go_wp2_with fail
    refine hal.out.mono ?_
    rintro e w1 ⟨rfl, hk1⟩
    have Hk1 := hid hk1
    clear hk1
    go_wp2
    go_ret
    exact ⟨rfl, Hk1.out⟩
  go_enter Try.func11, Try.ntmps11
  go_wp2_with fail
  refine hal.out.mono ?_
  rintro e w1 ⟨rfl, hk1⟩
  have Hk1 := hid hk1
  clear hk1 hal
  go_wp2_with fail
  refine (hmk.out w1).mono ?_
  rintro e w2 ⟨rfl, hk2, ht2⟩
  obtain ⟨g1, hg1⟩ : ∃ g, g = w1.heap.size := ⟨_, rfl⟩
  rw [← hg1] at ht2 ⊢
  have Hk2 := hid (Hk1.out.trans hk2)
  have Ht2 := hid ht2
  have Hg1 := hid (show w.heap.size ≤ g1 by rw [hg1]; exact Hk1.out.size)
  clear hk2 ht2 hg1
  go_wp2_with fail
  refine (hmk.out w2).mono ?_
  rintro e w3 ⟨rfl, hk3, ht3⟩
  obtain ⟨g2, hg2⟩ : ∃ g, g = w2.heap.size := ⟨_, rfl⟩
  rw [← hg2] at ht3 ⊢
  have Hk3 := hid (Hk2.out.trans hk3)
  have Ht3 := hid ht3
  have Ht1 := hid (Ht2.out.kept hk3 (by simp))
  have Hg2 := hid (show w.heap.size ≤ g2 by rw [hg2]; exact Hk2.out.size)
  clear hk3 ht3 hg2 Ht2 hmk
  go_wp2_with fail
  go_loopw [25] (fun j wr => ∃ i : Nat, i ≤ 256 ∧ j = .int .i64 i ∧ w3 = wr) (fun j _ => 256 - (intOf j).toNat)
  case atStart => exact ⟨0, by omega, rfl, rfl⟩
  case round =>
    obtain ⟨i, hi, rfl, rfl⟩ := hrel
    by_cases hlt : i < 256
    · obtain ⟨cb, hcb⟩ : ∃ cb : UInt8, (i : Int) = (cb.toNat : Int) := ⟨UInt8.ofNat i, by simp; omega⟩
      have hA := hid (fun (g : Nat) (h : Tb w3 g 0 T) => show Calls Try.prog 31 #[.pointer (some ⟨g, 0, none⟩), .int .u8 (i : Int)] w3 fun e w' => e = .returned (U (T cb)) ∧ w3 = w' from by rw [hcb]; exact at_any g 0 T cb w3 h)
      clear hcb
      generalize T cb = tb at *
      go_wp2_with fail
      refine (hA.out g1 Ht1.out).mono ?_
      rintro e w' ⟨rfl, rfl⟩
      go_wp2_with fail
      refine (hA.out g2 Ht3.out).mono ?_
      rintro e w' ⟨rfl, rfl⟩
      go_wp2_with fail
      exact ⟨⟨i + 1, by omega, by go_num, by first | rfl | trivial⟩, by simp [intOf]; omega⟩
    · obtain rfl : i = 256 := by omega
      go_wp2_with fail
      refine (window_ok g1 64 T w3 (by omega) (by omega) Ht1.out).mono ?_
      rintro e w4 ⟨rfl, hk4, hw4⟩
      obtain ⟨p, hp⟩ : ∃ p, p = w3.heap.size := ⟨_, rfl⟩
      rw [← hp] at hw4 ⊢
      have Hp := hid (show w.heap.size ≤ p by rw [hp]; exact Hk3.out.size)
      have Hp1 := hid (show g1 ≠ p by rw [hp]; have := Ht1.out.lt; omega)
      have Hp2 := hid (show g2 ≠ p by rw [hp]; have := Ht3.out.lt; omega)
      have HS := hid (show SeedR w p g1 g2 T (ys.take 0) w4 from ⟨Hk3.out.trans hk4, hw4, Ht1.out.kept hk4 (by simp), Ht3.out.kept hk4 (by simp)⟩)
      clear hk4 hw4 hp Hk3 Ht1 Ht3 Hk2 Hk1 hi hlt
      go_wp2_with fail
      go_loopw [45] (fun j wr => ∃ i : Nat, i ≤ ys.length ∧ j = .int .i64 i ∧ Hid (SeedR w p g1 g2 T (ys.take i) wr)) (fun j _ => ys.length - (intOf j).toNat)
      case atStart => exact ⟨0, Nat.zero_le _, rfl, HS⟩
      case round =>
       clear HS
       obtain ⟨i, hi, rfl, hr⟩ := hrel
       by_cases hlt : i < ys.length
       · obtain ⟨ad, rfl, gx⟩ := (Hr.out.kept hr.out.1 (by simp)).get i hlt
         obtain ⟨sg, hsg⟩ : ∃ sg, sg = Roll.sum T (ys.take (i + 1)) := ⟨_, rfl⟩
         have hsn : ys.take i ++ [ys[i]] = ys.take (i + 1) := (List.take_succ_eq_append_getElem hlt).symm
         have hsl := fun W => slice_up (some ad) ys.length c (i + 1) (by omega) hc W
         obtain ⟨y, hy⟩ : ∃ y, y = ys[i].toNat := ⟨_, rfl⟩
         have hpush := hid (fun v (h : SeedR w p g1 g2 T (ys.take i) v) => show Calls Try.prog 37 #[.pointer (some ⟨p, 0, none⟩), .int .u8 (y : Int)] v fun e w' => e = .returned (U sg) ∧ SeedR w p g1 g2 T (ys.take (i + 1)) w' from by
           have := h.push Hp.out Hp1.out Hp2.out ys[i]
           rw [hsn, Roll.last_short (by simp; omega), ← hsg] at this
           rw [hy]; exact this)
         have hsumm := hid (fun v (h : SeedR w p g1 g2 T (ys.take (i + 1)) v) => show Calls Try.prog 33 #[.pointer (some ⟨g2, 0, none⟩), .slice (some ad) (i + 1) c] v fun e w' => e = .returned (U sg) ∧ SeedR w p g1 g2 T (ys.take (i + 1)) w' from by
           have := tsum_any g2 0 T (some ad) c (ys.take (i + 1)) v h.2.2.2 ((Hr.out.take (i + 1)).kept h.1 (by simp)) (by simp; omega)
           rw [show (ys.take (i + 1)).length = i + 1 by simp; omega, ← hsg] at this
           exact this.mono fun e w' h' => ⟨h'.1, h'.2 ▸ h⟩)
         rw [show B ys[i] = .int .u8 (y : Int) by rw [hy]; rfl] at gx
         rw [show ((i + 1 : Nat) : Int) = (i : Int) + 1 by omega] at hsl
         clear hy hsn hsg
         go_wp2_with fail
         refine wp_region_held_drew (S := fun _ => True) (by kernel_rfl) trivial (fun _ => ?_)
         refine takeH 0 (Value.pointer (some ⟨p, 0, none⟩)) rfl (by kernel_rfl) (by kernel_rfl) (by kernel_rfl) (fun _ _ _ h => h) (by rfl) (fun w hSw => by go_simp) trivial ?_
         simp only [Act.put, List.setIfInBounds_toArray, List.set_cons_succ, List.set_cons_zero]
         refine takeH 1 (.int .u8 (y : Int)) rfl (by kernel_rfl) (by kernel_rfl) (by kernel_rfl) (fun _ _ _ h => h) (by rfl) (fun w hSw => by go_simp) trivial ?_
         simp only [Act.put, List.setIfInBounds_toArray, List.set_cons_succ, List.set_cons_zero]
         refine takeH 3 (Value.pointer (some ⟨g2, 0, none⟩)) rfl (by kernel_rfl) (by kernel_rfl) (by kernel_rfl) (fun _ _ _ h => h) (by rfl) (fun w hSw => by go_simp) trivial ?_
         simp only [Act.put, List.setIfInBounds_toArray, List.set_cons_succ, List.set_cons_zero]
         refine takeH 4 (.slice (some ad) ys.length c) rfl (by kernel_rfl) (by kernel_rfl) (by kernel_rfl) (fun _ _ _ h => h) (by rfl) (fun w hSw => by go_simp) trivial ?_
         simp only [Act.put, List.setIfInBounds_toArray, List.set_cons_succ, List.set_cons_zero]
         refine takeH 5 (.int .i64 (i : Int)) rfl (by kernel_rfl) (by kernel_rfl) (by kernel_rfl) (fun _ _ _ h => h) (by rfl) (fun w hSw => by go_simp) trivial ?_
         simp only [Act.put, List.setIfInBounds_toArray, List.set_cons_succ, List.set_cons_zero]
         refine takeH 6 (.int .i64 ((i : Int) + 1)) rfl (by kernel_rfl) (by kernel_rfl) (by kernel_rfl) (fun _ _ _ h => h) (by rfl) (fun w hSw => by have hwi : IntKind.i64.wrap ((i : Int) + 1) = (i : Int) + 1 := (by rw [IntKind.wrap_i64]; omega); go_simp) trivial ?_
         simp only [Act.put, List.setIfInBounds_toArray, List.set_cons_succ, List.set_cons_zero]
         refine takeH 7 (.slice (some ad) (i + 1) c) rfl (by kernel_rfl) (by kernel_rfl) (by kernel_rfl) (fun _ _ _ h => h) (by rfl) (fun w hSw => by go_simp) trivial ?_
         simp only [Act.put, List.setIfInBounds_toArray, List.set_cons_succ, List.set_cons_zero]
         refine callR 2 rfl (by kernel_rfl) (by rfl) 37 #[.pointer (some ⟨p, 0, none⟩), .int .u8 (y : Int)] (by go_simp) (U sg) (SeedR w p g1 g2 T (ys.take (i + 1))) (fun _ _ => trivial) (hpush.out _ hr.out.drew) ?_
         intro w5 hr5
         have hr5 := hid hr5
         simp only [Act.put, List.setIfInBounds_toArray, List.set_cons_succ, List.set_cons_zero]
         refine callR 8 rfl (by kernel_rfl) (by rfl) 33 #[.pointer (some ⟨g2, 0, none⟩), .slice (some ad) (i + 1) c] (by go_simp) (U sg) (SeedR w p g1 g2 T (ys.take (i + 1))) (fun _ _ => trivial) (hsumm.out _ hr5.out) ?_
         intro w6 hr6
         have hr6 := hid hr6
         simp only [Act.put, List.setIfInBounds_toArray, List.set_cons_succ, List.set_cons_zero]
         refine takeH 9 (.bool false) rfl (by kernel_rfl) (by kernel_rfl) (by kernel_rfl) (fun _ _ _ h => h) (by rfl) (fun w hSw => by go_simp) trivial ?_
         simp only [Act.put, List.setIfInBounds_toArray, List.set_cons_succ, List.set_cons_zero]
         refine wpAnyH_done (by kernel_rfl) ?_ _
         clear hsl gx
         go_wp2_with fail
         exact ⟨⟨i + 1, by omega, by go_num, hr6⟩, by simp [intOf]; omega⟩
       · have hrr := hr.out
         have Hk := hid hrr.1
         by_cases hk : 1 ≤ k ∧ k ≤ 64
         · obtain ⟨n, rfl⟩ : ∃ n : Nat, k = (n : Int) := ⟨k.toNat, by omega⟩
           have hwk := hid (window_ok g1 n T wr (by omega) (by omega) hrr.2.2.1)
           clear hr hrr
           obtain ⟨hk1, hk2⟩ := hk
           go_wp2_with fail
           refine hwk.out.mono ?_
           rintro e w5 ⟨rfl, hk5, _⟩
           have Hk5 := hid (Hk.out.trans hk5)
           clear hk5
           go_wp2
           go_ret
           exact ⟨rfl, Hk5.out⟩
         · have hwk := hid (window_bad k (by omega) (.pointer (some ⟨g1, 0, none⟩)) wr)
           clear hr hrr
           by_cases hk1 : k < 1
           · clear hk
             go_wp2_with fail
             refine hwk.out.mono ?_
             rintro e w5 ⟨rfl, rfl⟩
             go_wp2
             go_ret
             exact ⟨rfl, Hk.out⟩
           · have hk2 : 64 < k := by omega
             clear hk
             go_wp2_with fail
             refine hwk.out.mono ?_
             rintro e w5 ⟨rfl, rfl⟩
             go_wp2
             go_ret
             refine ⟨?_, Hk.out⟩
             show Ending.returned (Value.bool (!decide (k ≤ 64))) = _
             rw [decide_eq_false (by omega)]; rfl
end Go.Proofs.Ytieaolnnlfaagaa
