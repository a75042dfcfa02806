/- coldstorelaw08.RollLast, walked. -/
import Derived.Test.YtieaolnnlfaagaaR8
namespace Go.Proofs.Ytieaolnnlfaagaa
open Go.RowKit

theorem i64_and63 (n : Int) : bits .and .i64 n 63 = n % 64 := by
  have h7 : (BitVec.ofInt 64 63).toNat = 2 ^ 6 - 1 := by decide
  have key : (BitVec.ofInt 64 n &&& BitVec.ofInt 64 63).toNat = (n % ((2 ^ 64 : Nat) : Int)).toNat % 2 ^ 6 := by
    rw [BitVec.toNat_and, BitVec.toNat_ofInt, h7, Nat.and_two_pow_sub_one_eq_mod]
  show IntKind.i64.wrap ((BitVec.ofInt 64 n &&& BitVec.ofInt 64 63).toNat : Nat) = n % 64
  rw [key, IntKind.wrap_i64]
  omega

/-- The table, and the three windows behind their bytes. -/
def LastR (w : World) (g p q r n : Nat) (T : UInt8 → Roll.W) (xs ys zs : List UInt8) (v : World) : Prop :=
  Kept [] w v ∧ Tb v g 0 T ∧ Win v p T n xs ∧ Win v q T n ys ∧ Win v r T n zs
theorem LastR.drew {w v : World} {g p q r n : Nat} {T : UInt8 → Roll.W} {xs ys zs : List UInt8} (h : LastR w g p q r n T xs ys zs v) : LastR w g p q r n T xs ys zs v.drew :=
  ⟨h.1.drew, h.2⟩
/-- Where the blocks lie. -/
structure LastB (w : World) (g p q r n : Nat) : Prop where
  hp : w.heap.size ≤ p
  hq : w.heap.size ≤ q
  hr : w.heap.size ≤ r
  gp : g ≠ p
  gq : g ≠ q
  gr : g ≠ r
  pq : p ≠ q
  pr : p ≠ r
  qr : q ≠ r
  n1 : 1 ≤ n
  n64 : n ≤ 64
theorem LastR.push1 {w v : World} {g p q r n : Nat} {T : UInt8 → Roll.W} {xs ys zs : List UInt8} (h : LastR w g p q r n T xs ys zs v) (hb : LastB w g p q r n) (c : UInt8) :
    Calls Try.prog 37 #[.pointer (some ⟨p, 0, none⟩), B c] v fun e w' => e = .returned (U (Roll.sum T (Roll.last n (xs ++ [c])))) ∧ LastR w g p q r n T (xs ++ [c]) ys zs w' :=
  (push_any p n T xs c v h.2.2.1 hb.n1 hb.n64).mono fun e w' ⟨he, hk, hw⟩ =>
    ⟨he, h.1.trans' hk (fun x hx hm => by have := hb.hp; simp at hm; omega), h.2.1.kept hk (by simpa using hb.gp), hw, h.2.2.2.1.kept hk (by simpa using hb.pq.symm), h.2.2.2.2.kept hk (by simpa using hb.pr.symm)⟩
theorem LastR.push2 {w v : World} {g p q r n : Nat} {T : UInt8 → Roll.W} {xs ys zs : List UInt8} (h : LastR w g p q r n T xs ys zs v) (hb : LastB w g p q r n) (c : UInt8) :
    Calls Try.prog 37 #[.pointer (some ⟨q, 0, none⟩), B c] v fun e w' => e = .returned (U (Roll.sum T (Roll.last n (ys ++ [c])))) ∧ LastR w g p q r n T xs (ys ++ [c]) zs w' :=
  (push_any q n T ys c v h.2.2.2.1 hb.n1 hb.n64).mono fun e w' ⟨he, hk, hw⟩ =>
    ⟨he, h.1.trans' hk (fun x hx hm => by have := hb.hq; simp at hm; omega), h.2.1.kept hk (by simpa using hb.gq), h.2.2.1.kept hk (by simpa using hb.pq), hw, h.2.2.2.2.kept hk (by simpa using hb.qr.symm)⟩
theorem LastR.push3 {w v : World} {g p q r n : Nat} {T : UInt8 → Roll.W} {xs ys zs : List UInt8} (h : LastR w g p q r n T xs ys zs v) (hb : LastB w g p q r n) (c : UInt8) :
    Calls Try.prog 37 #[.pointer (some ⟨r, 0, none⟩), B c] v fun e w' => e = .returned (U (Roll.sum T (Roll.last n (zs ++ [c])))) ∧ LastR w g p q r n T xs ys (zs ++ [c]) w' :=
  (push_any r n T zs c v h.2.2.2.2 hb.n1 hb.n64).mono fun e w' ⟨he, hk, hw⟩ =>
    ⟨he, h.1.trans' hk (fun x hx hm => by have := hb.hr; simp at hm; omega), h.2.1.kept hk (by simpa using hb.gr), h.2.2.1.kept hk (by simpa using hb.pr), h.2.2.2.1.kept hk (by simpa using hb.qr), hw⟩
theorem LastR.reset {w v : World} {g p q r n : Nat} {T : UInt8 → Roll.W} {xs ys zs : List UInt8} (h : LastR w g p q r n T xs ys zs v) (hb : LastB w g p q r n) :
    Calls Try.prog 38 #[.pointer (some ⟨r, 0, none⟩)] v fun e w' => e = .returned (.tuple #[]) ∧ LastR w g p q r n T xs ys [] w' :=
  (reset_any r n T zs v h.2.2.2.2).mono fun e w' ⟨he, hk, hw⟩ =>
    ⟨he, h.1.trans' hk (fun x hx hm => by have := hb.hr; simp at hm; omega), h.2.1.kept hk (by simpa using hb.gr), h.2.2.1.kept hk (by simpa using hb.pr), h.2.2.2.1.kept hk (by simpa using hb.qr), hw⟩

set_option maxRecDepth 100000 in
set_option maxHeartbeats 4000000 in
theorem roll_last (s k : Int) (a : Option Addr) (ca : Nat) (la : List UInt8) (b : Option Addr) (cb : Nat) (lb : List UInt8) (w : World) (h0 : 0 ≤ s) (h1 : s < 18446744073709551616) (hra : Reads w a la) (hca : la.length ≤ ca) (hca2 : ca ≤ 9223372036854775807)
    (hrb : Reads w b lb) (hcb : lb.length ≤ cb) (hcb2 : cb ≤ 9223372036854775807) (hb0 : b = none → cb = 0) :
    Calls Try.prog 9 #[.int .u64 s, .int .i64 k, .slice a la.length ca, .slice b lb.length cb] w fun e w' => e = .returned (.bool true) ∧ Kept [] w w' := by
  have hal := hid (alive08 w)
  have Hra := hid hra; have Hrb := hid hrb
  have hmk := hid (fun W => make_tb s W h0 h1)
  obtain ⟨T, hT⟩ : ∃ T, T = num s := ⟨_, rfl⟩
  rw [← hT] at hmk
  have Hb0 := hid hb0
  clear hT hra hrb hb0
  by_cases hl : la.length ≤ 300 ∧ lb.length ≤ 300
  case neg =>
    by_cases hl1 : la.length ≤ 300
    · have hl' : 300 < lb.length := by omega
      clear hl
      go_enter Try.func9, Try.ntmps9
      go_wp2_with fail
      refine hal.out.mono ?_
      rintro e w1 ⟨rfl, hk1⟩
      have Hk1 := hid hk1
      clear hk1
      go_wp2
      go_ret
      exact ⟨rfl, Hk1.out⟩
    · have hl' : 300 < la.length := by omega
      clear hl hl1
      go_enter Try.func9, Try.ntmps9
      go_wp2_with fail
      refine hal.out.mono ?_
      rintro e w1 ⟨rfl, hk1⟩
      have Hk1 := hid hk1
      clear hk1
      go_wp2
      go_ret
      exact ⟨rfl, Hk1.out⟩
  obtain ⟨hla, hlb⟩ := hl
  obtain ⟨m, hm⟩ : ∃ m : Nat, (m : Int) = k % 64 := ⟨(k % 64).toNat, by omega⟩
  have hand : bits .and .i64 k 63 = (m : Int) := (i64_and63 k).trans hm.symm
  have hm6 : m < 64 := by omega
  clear hm
  obtain ⟨n, hn⟩ : ∃ n, n = 1 + m := ⟨_, rfl⟩
  have hn1 : 1 ≤ n := by omega
  have hn64 : n ≤ 64 := by omega
  have hnm : IntKind.i64.wrap (1 + (m : Int)) = (n : Int) := by rw [IntKind.wrap_i64]; omega
  have hnm' : 1 + (m : Int) = (n : Int) := by omega
  clear hn
  go_enter Try.func9, Try.ntmps9
  go_wp2_with fail
  refine hal.out.mono ?_
  rintro e w1 ⟨rfl, hk1⟩
  have Hk1 := hid hk1
  clear hk1 hal
  go_wp2_with fail
  refine (hmk.out w1).mono ?_
  rintro e w2 ⟨rfl, hk2, ht2⟩
  obtain ⟨g, hg1⟩ : ∃ g, g = w1.heap.size := ⟨_, rfl⟩
  rw [← hg1] at ht2 ⊢
  have Hk2 := hid (Hk1.out.trans hk2)
  have Ht2 := hid ht2
  clear hk2 ht2 hg1 hmk Hk1
  clear hand hnm
  go_wp2_with fail
  refine (window_ok g n T w2 hn1 hn64 Ht2.out).mono ?_
  rintro e w3 ⟨rfl, hk3, hw3⟩
  obtain ⟨p, hp⟩ : ∃ p, p = w2.heap.size := ⟨_, rfl⟩
  rw [← hp] at hw3 ⊢
  have Hk3 := hid (Hk2.out.trans hk3)
  have Ht3 := hid (Ht2.out.kept hk3 (by simp))
  have Hw3 := hid hw3
  have Hp := hid (show w.heap.size ≤ p ∧ g ≠ p by rw [hp]; have := Ht2.out.lt; have := Hk2.out.size; omega)
  clear hk3 hw3 hp Ht2 Hk2
  go_wp2_with fail
  refine (window_ok g n T w3 hn1 hn64 Ht3.out).mono ?_
  rintro e w4 ⟨rfl, hk4, hw4⟩
  obtain ⟨q, hq⟩ : ∃ q, q = w3.heap.size := ⟨_, rfl⟩
  rw [← hq] at hw4 ⊢
  have Hk4 := hid (Hk3.out.trans hk4)
  have Ht4 := hid (Ht3.out.kept hk4 (by simp))
  have Hx4 := hid (Hw3.out.kept hk4 (by simp))
  have Hw4 := hid hw4
  have Hq := hid (show w.heap.size ≤ q ∧ g ≠ q ∧ p ≠ q by rw [hq]; have := Ht3.out.lt; have := Hk3.out.size; have := Hw3.out.lt; omega)
  clear hk4 hw4 hq Ht3 Hk3 Hw3
  go_wp2_with fail
  refine (window_ok g n T w4 hn1 hn64 Ht4.out).mono ?_
  rintro e w5 ⟨rfl, hk5, hw5⟩
  obtain ⟨r, hr⟩ : ∃ r, r = w4.heap.size := ⟨_, rfl⟩
  rw [← hr] at hw5 ⊢
  have HB := hid (show LastB w g p q r n from ⟨Hp.out.1, Hq.out.1, by rw [hr]; exact Hk4.out.size, Hp.out.2, Hq.out.2.1, by rw [hr]; have := Ht4.out.lt; omega, Hq.out.2.2, by rw [hr]; have := Hx4.out.lt; omega, by rw [hr]; have := Hw4.out.lt; omega, hn1, hn64⟩)
  have HR := hid (show LastR w g p q r n T (la.take 0) [] (la.take 0) w5 from ⟨Hk4.out.trans hk5, Ht4.out.kept hk5 (by simp), Hx4.out.kept hk5 (by simp), Hw4.out.kept hk5 (by simp), hw5⟩)
  clear hk5 hw5 hr Ht4 Hk4 Hw4 Hx4 Hp Hq
  go_wp2_with fail
  go_loopw [58] (fun j wr => ∃ i : Nat, i ≤ la.length ∧ j = .int .i64 i ∧ Hid (LastR w g p q r n T (la.take i) [] (la.take i) wr)) (fun j _ => la.length - (intOf j).toNat)
  case atStart => exact ⟨0, Nat.zero_le _, rfl, HR⟩
  case round =>
    clear HR
    obtain ⟨i, hi, rfl, hr⟩ := hrel
    by_cases hlt : i < la.length
    · obtain ⟨ad, rfl, gx⟩ := (Hra.out.kept hr.out.1 (by simp)).get i hlt
      have hsn : la.take i ++ [la[i]] = la.take (i + 1) := (List.take_succ_eq_append_getElem hlt).symm
      obtain ⟨y, hy⟩ : ∃ y, y = la[i].toNat := ⟨_, rfl⟩
      have hB : B la[i] = .int .u8 (y : Int) := by rw [hy]; rfl
      have hp1 := hid (hr.out.push1 HB.out la[i])
      rw [hsn, hB] at hp1
      have hp3 := hid (fun v (h : LastR w g p q r n T (la.take (i + 1)) [] (la.take i) v) => h.push3 HB.out la[i])
      rw [hsn, hB] at hp3
      rw [hB] at gx
      clear hy hB hsn
      go_wp2_with fail
      refine hp1.out.mono ?_
      rintro e w6 ⟨rfl, hr6⟩
      have hr6 := hid hr6
      go_wp2_with fail
      refine (hp3.out _ hr6.out).mono ?_
      rintro e w7 ⟨rfl, hr7⟩
      have hr7 := hid hr7
      go_wp2_with fail
      exact ⟨⟨i + 1, by omega, by go_num, hr7⟩, by simp [intOf]; omega⟩
    · obtain rfl : la.length = i := by omega
      have hrr := hr.out
      rw [List.take_length] at hrr
      have Hrr := hid hrr
      clear hr hrr
      go_wp2_with fail
      refine (Hrr.out.reset HB.out).mono ?_
      rintro e w6 ⟨rfl, hr6⟩
      have HR := hid (show LastR w g p q r n T (la ++ lb.take 0) (lb.take 0) (lb.take 0) w6 by simpa using hr6)
      clear hr6 Hrr hi hlt
      go_wp2_with fail
      go_loopw [73] (fun j wr => ∃ i : Nat, i ≤ lb.length ∧ j = .int .i64 i ∧ Hid (LastR w g p q r n T (la ++ lb.take i) (lb.take i) (lb.take i) wr)) (fun j _ => lb.length - (intOf j).toNat)
      case atStart => exact ⟨0, Nat.zero_le _, rfl, HR⟩
      case round =>
        clear HR
        obtain ⟨i, hi, rfl, hr⟩ := hrel
        by_cases hlt : i < lb.length
        · obtain ⟨ad, rfl, gx⟩ := (Hrb.out.kept hr.out.1 (by simp)).get i hlt
          have hsn : lb.take i ++ [lb[i]] = lb.take (i + 1) := (List.take_succ_eq_append_getElem hlt).symm
          obtain ⟨y, hy⟩ : ∃ y, y = lb[i].toNat := ⟨_, rfl⟩
          have hB : B lb[i] = .int .u8 (y : Int) := by rw [hy]; rfl
          have hp1 := hid (hr.out.push1 HB.out lb[i])
          rw [List.append_assoc, hsn, hB] at hp1
          have hp2 := hid (fun v (h : LastR w g p q r n T (la ++ lb.take (i + 1)) (lb.take i) (lb.take i) v) => h.push2 HB.out lb[i])
          rw [hsn, hB] at hp2
          have hp3 := hid (fun v (h : LastR w g p q r n T (la ++ lb.take (i + 1)) (lb.take (i + 1)) (lb.take i) v) => h.push3 HB.out lb[i])
          rw [hsn, hB] at hp3
          obtain ⟨sx, hsx⟩ : ∃ x, x = Roll.sum T (Roll.last n (la ++ lb.take (i + 1))) := ⟨_, rfl⟩
          obtain ⟨sy, hsy⟩ : ∃ x, x = Roll.sum T (Roll.last n (lb.take (i + 1))) := ⟨_, rfl⟩
          have hxy : n ≤ i + 1 → sx = sy := fun h => by rw [hsx, hsy, Roll.last_last n _ _ (by simp; omega)]
          rw [← hsx] at hp1
          rw [← hsy] at hp2 hp3
          rw [hB] at gx
          clear hy hB hsn hsx hsy
          have Hxy := hid hxy
          clear hxy
          go_wp2_with fail
          refine hp1.out.mono ?_
          rintro e w7 ⟨rfl, hr7⟩
          have hr7 := hid hr7
          go_wp2_with fail
          refine (hp2.out _ hr7.out).mono ?_
          rintro e w8 ⟨rfl, hr8⟩
          have hr8 := hid hr8
          go_wp2_with fail
          refine (hp3.out _ hr8.out).mono ?_
          rintro e w9 ⟨rfl, hr9⟩
          have hr9 := hid hr9
          by_cases hge : n ≤ i + 1
          · obtain rfl := Hxy.out hge
            go_wp2_with fail
            exact ⟨⟨i + 1, by omega, by go_num, hr9⟩, by simp [intOf]; omega⟩
          · go_wp2_with fail
            exact ⟨⟨i + 1, by omega, by go_num, hr9⟩, by simp [intOf]; omega⟩
        · obtain rfl : lb.length = i := by omega
          have hrr := hr.out
          rw [List.take_length] at hrr
          have hr := hid hrr
          have Hk := hid hrr.1
          clear hrr
          by_cases hsh : lb.length < n
          · go_wp2_with fail
            refine wp_region_held_drew (S := fun _ => True) (by kernel_rfl) trivial (fun _ => ?_)
            refine takeH 0 (.slice b lb.length cb) rfl (by kernel_rfl) (by kernel_rfl) (by kernel_rfl) (fun _ _ _ h => h) (by rfl) (fun w hSw => by go_simp) trivial ?_
            simp only [Act.put, List.setIfInBounds_toArray, List.set_cons_succ, List.set_cons_zero]
            refine takeH 1 (.int .i64 (lb.length : Int)) rfl (by kernel_rfl) (by kernel_rfl) (by kernel_rfl) (fun _ _ _ h => h) (by rfl) (fun w hSw => by go_simp) trivial ?_
            simp only [Act.put, List.setIfInBounds_toArray, List.set_cons_succ, List.set_cons_zero]
            refine takeH 2 (.int .i64 (n : Int)) rfl (by kernel_rfl) (by kernel_rfl) (by kernel_rfl) (fun _ _ _ h => h) (by rfl) (fun w hSw => by go_simp) trivial ?_
            simp only [Act.put, List.setIfInBounds_toArray, List.set_cons_succ, List.set_cons_zero]
            refine takeH 3 (.bool true) rfl (by kernel_rfl) (by kernel_rfl) (by kernel_rfl) (fun _ _ _ h => h) (by rfl) (fun w hSw => by go_simp) trivial ?_
            simp only [Act.put, List.setIfInBounds_toArray, List.set_cons_succ, List.set_cons_zero]
            refine takeH 4 (.bool true) rfl (by kernel_rfl) (by kernel_rfl) (by kernel_rfl) (fun _ _ _ h => h) (by rfl) (fun w hSw => by go_simp) trivial ?_
            simp only [Act.put, List.setIfInBounds_toArray, List.set_cons_succ, List.set_cons_zero]
            refine skipH 5 rfl (by kernel_rfl) (by kernel_rfl) (by kernel_rfl) (fun _ _ _ h => h) (by rfl) trivial ?_
            simp only [Act.put, List.setIfInBounds_toArray, List.set_cons_succ, List.set_cons_zero]
            refine skipH 7 rfl (by kernel_rfl) (by kernel_rfl) (by kernel_rfl) (fun _ _ _ h => h) (by rfl) trivial ?_
            simp only [Act.put, List.setIfInBounds_toArray, List.set_cons_succ, List.set_cons_zero]
            refine skipH 8 rfl (by kernel_rfl) (by kernel_rfl) (by kernel_rfl) (fun _ _ _ h => h) (by rfl) trivial ?_
            simp only [Act.put, List.setIfInBounds_toArray, List.set_cons_succ, List.set_cons_zero]
            refine skipH 9 rfl (by kernel_rfl) (by kernel_rfl) (by kernel_rfl) (fun _ _ _ h => h) (by rfl) trivial ?_
            simp only [Act.put, List.setIfInBounds_toArray, List.set_cons_succ, List.set_cons_zero]
            refine skipH 10 rfl (by kernel_rfl) (by kernel_rfl) (by kernel_rfl) (fun _ _ _ h => h) (by rfl) trivial ?_
            simp only [Act.put, List.setIfInBounds_toArray, List.set_cons_succ, List.set_cons_zero]
            refine skipH 11 rfl (by kernel_rfl) (by kernel_rfl) (by kernel_rfl) (fun _ _ _ h => h) (by rfl) trivial ?_
            simp only [Act.put, List.setIfInBounds_toArray, List.set_cons_succ, List.set_cons_zero]
            refine skipH 12 rfl (by kernel_rfl) (by kernel_rfl) (by kernel_rfl) (fun _ _ _ h => h) (by rfl) trivial ?_
            simp only [Act.put, List.setIfInBounds_toArray, List.set_cons_succ, List.set_cons_zero]
            refine skipH 13 rfl (by kernel_rfl) (by kernel_rfl) (by kernel_rfl) (fun _ _ _ h => h) (by rfl) trivial ?_
            simp only [Act.put, List.setIfInBounds_toArray, List.set_cons_succ, List.set_cons_zero]
            refine skipH 6 rfl (by kernel_rfl) (by kernel_rfl) (by kernel_rfl) (fun _ _ _ h => h) (by rfl) trivial ?_
            simp only [Act.put, List.setIfInBounds_toArray, List.set_cons_succ, List.set_cons_zero]
            refine skipH 14 rfl (by kernel_rfl) (by kernel_rfl) (by kernel_rfl) (fun _ _ _ h => h) (by rfl) trivial ?_
            simp only [Act.put, List.setIfInBounds_toArray, List.set_cons_succ, List.set_cons_zero]
            refine skipH 15 rfl (by kernel_rfl) (by kernel_rfl) (by kernel_rfl) (fun _ _ _ h => h) (by rfl) trivial ?_
            simp only [Act.put, List.setIfInBounds_toArray, List.set_cons_succ, List.set_cons_zero]
            refine takeH 16 (.bool true) rfl (by kernel_rfl) (by kernel_rfl) (by kernel_rfl) (fun _ _ _ h => h) (by rfl) (fun w hSw => by go_simp) trivial ?_
            simp only [Act.put, List.setIfInBounds_toArray, List.set_cons_succ, List.set_cons_zero]
            refine takeH 17 (.bool true) rfl (by kernel_rfl) (by kernel_rfl) (by kernel_rfl) (fun _ _ _ h => h) (by rfl) (fun w hSw => by go_simp) trivial ?_
            simp only [Act.put, List.setIfInBounds_toArray, List.set_cons_succ, List.set_cons_zero]
            refine wpAnyH_done (by kernel_rfl) ?_ _
            go_wp2
            go_ret
            exact ⟨rfl, Hk.out.drew⟩
          · obtain ⟨a2, hsl2, hrd2⟩ := slice_off b lb cb (lb.length - n) (by omega) hcb Hb0.out
            rw [show lb.length - (lb.length - n) = n by omega, show ((lb.length - n : Nat) : Int) = (lb.length : Int) - (n : Int) by omega] at hsl2
            obtain ⟨sg, hsg⟩ : ∃ x, x = Roll.sum T (Roll.last n lb) := ⟨_, rfl⟩
            have hs1 := hid (fun v (h : LastR w g p q r n T (la ++ lb) lb lb v) => (wsum_any p n T (la ++ lb) v h.2.2.1).mono fun e w' h' => show e = .returned (U sg) ∧ LastR w g p q r n T (la ++ lb) lb lb w' from ⟨by rw [hsg, ← Roll.last_last n la lb (by omega)]; exact h'.1, h'.2 ▸ h⟩)
            have hs2 := hid (fun v (h : LastR w g p q r n T (la ++ lb) lb lb v) => by
              have := tsum_any g 0 T a2 (cb - (lb.length - n)) (lb.drop (lb.length - n)) v h.2.1 ((hrd2 w Hrb.out).kept h.1 (by simp)) (by simp; omega)
              rw [List.length_drop, show lb.length - (lb.length - n) = n by omega] at this
              exact this.mono fun e w' h' => show e = .returned (U sg) ∧ LastR w g p q r n T (la ++ lb) lb lb w' from ⟨by rw [hsg]; exact h'.1, h'.2 ▸ h⟩)
            clear hsg hrd2
            go_wp2_with fail
            refine wp_region_held_drew (S := fun _ => True) (by kernel_rfl) trivial (fun _ => ?_)
            refine takeH 0 (.slice b lb.length cb) rfl (by kernel_rfl) (by kernel_rfl) (by kernel_rfl) (fun _ _ _ h => h) (by rfl) (fun w hSw => by go_simp) trivial ?_
            simp only [Act.put, List.setIfInBounds_toArray, List.set_cons_succ, List.set_cons_zero]
            refine takeH 1 (.int .i64 (lb.length : Int)) rfl (by kernel_rfl) (by kernel_rfl) (by kernel_rfl) (fun _ _ _ h => h) (by rfl) (fun w hSw => by go_simp) trivial ?_
            simp only [Act.put, List.setIfInBounds_toArray, List.set_cons_succ, List.set_cons_zero]
            refine takeH 2 (.int .i64 (n : Int)) rfl (by kernel_rfl) (by kernel_rfl) (by kernel_rfl) (fun _ _ _ h => h) (by rfl) (fun w hSw => by go_simp) trivial ?_
            simp only [Act.put, List.setIfInBounds_toArray, List.set_cons_succ, List.set_cons_zero]
            refine takeH 3 (.bool false) rfl (by kernel_rfl) (by kernel_rfl) (by kernel_rfl) (fun _ _ _ h => h) (by rfl) (fun w hSw => by go_simp) trivial ?_
            simp only [Act.put, List.setIfInBounds_toArray, List.set_cons_succ, List.set_cons_zero]
            refine takeH 4 (.bool false) rfl (by kernel_rfl) (by kernel_rfl) (by kernel_rfl) (fun _ _ _ h => h) (by rfl) (fun w hSw => by go_simp) trivial ?_
            simp only [Act.put, List.setIfInBounds_toArray, List.set_cons_succ, List.set_cons_zero]
            refine takeH 5 (Value.pointer (some ⟨p, 0, none⟩)) rfl (by kernel_rfl) (by kernel_rfl) (by kernel_rfl) (fun _ _ _ h => h) (by rfl) (fun w hSw => by go_simp) trivial ?_
            simp only [Act.put, List.setIfInBounds_toArray, List.set_cons_succ, List.set_cons_zero]
            refine takeH 7 (Value.pointer (some ⟨g, 0, none⟩)) rfl (by kernel_rfl) (by kernel_rfl) (by kernel_rfl) (fun _ _ _ h => h) (by rfl) (fun w hSw => by go_simp) trivial ?_
            simp only [Act.put, List.setIfInBounds_toArray, List.set_cons_succ, List.set_cons_zero]
            refine takeH 8 (.slice b lb.length cb) rfl (by kernel_rfl) (by kernel_rfl) (by kernel_rfl) (fun _ _ _ h => h) (by rfl) (fun w hSw => by go_simp) trivial ?_
            simp only [Act.put, List.setIfInBounds_toArray, List.set_cons_succ, List.set_cons_zero]
            refine takeH 9 (.slice b lb.length cb) rfl (by kernel_rfl) (by kernel_rfl) (by kernel_rfl) (fun _ _ _ h => h) (by rfl) (fun w hSw => by go_simp) trivial ?_
            simp only [Act.put, List.setIfInBounds_toArray, List.set_cons_succ, List.set_cons_zero]
            refine takeH 10 (.int .i64 (lb.length : Int)) rfl (by kernel_rfl) (by kernel_rfl) (by kernel_rfl) (fun _ _ _ h => h) (by rfl) (fun w hSw => by go_simp) trivial ?_
            simp only [Act.put, List.setIfInBounds_toArray, List.set_cons_succ, List.set_cons_zero]
            refine takeH 11 (.int .i64 (n : Int)) rfl (by kernel_rfl) (by kernel_rfl) (by kernel_rfl) (fun _ _ _ h => h) (by rfl) (fun w hSw => by go_simp) trivial ?_
            simp only [Act.put, List.setIfInBounds_toArray, List.set_cons_succ, List.set_cons_zero]
            refine takeH 12 (.int .i64 ((lb.length : Int) - (n : Int))) rfl (by kernel_rfl) (by kernel_rfl) (by kernel_rfl) (fun _ _ _ h => h) (by rfl) (fun w hSw => by have hwi : IntKind.i64.wrap ((lb.length : Int) - (n : Int)) = (lb.length : Int) - (n : Int) := (by rw [IntKind.wrap_i64]; omega); go_simp) trivial ?_
            simp only [Act.put, List.setIfInBounds_toArray, List.set_cons_succ, List.set_cons_zero]
            refine takeH 13 (.slice a2 n (cb - (lb.length - n))) rfl (by kernel_rfl) (by kernel_rfl) (by kernel_rfl) (fun _ _ _ h => h) (by rfl) (fun w hSw => by go_simp) trivial ?_
            simp only [Act.put, List.setIfInBounds_toArray, List.set_cons_succ, List.set_cons_zero]
            refine callR 6 rfl (by kernel_rfl) (by rfl) 35 #[Value.pointer (some ⟨p, 0, none⟩)] (by go_simp) (U sg) (LastR w g p q r n T (la ++ lb) lb lb) (fun _ _ => trivial) (hs1.out _ hr.out.drew) ?_
            intro w5 hr5
            have hr5 := hid hr5
            simp only [Act.put, List.setIfInBounds_toArray, List.set_cons_succ, List.set_cons_zero]
            refine callR 14 rfl (by kernel_rfl) (by rfl) 33 #[Value.pointer (some ⟨g, 0, none⟩), .slice a2 n (cb - (lb.length - n))] (by go_simp) (U sg) (LastR w g p q r n T (la ++ lb) lb lb) (fun _ _ => trivial) (hs2.out _ hr5.out) ?_
            intro w6 hr6
            have hr6 := hid hr6
            simp only [Act.put, List.setIfInBounds_toArray, List.set_cons_succ, List.set_cons_zero]
            refine takeH 15 (.bool true) rfl (by kernel_rfl) (by kernel_rfl) (by kernel_rfl) (fun _ _ _ h => h) (by rfl) (fun w hSw => by go_simp) trivial ?_
            simp only [Act.put, List.setIfInBounds_toArray, List.set_cons_succ, List.set_cons_zero]
            refine takeH 16 (.bool true) rfl (by kernel_rfl) (by kernel_rfl) (by kernel_rfl) (fun _ _ _ h => h) (by rfl) (fun w hSw => by go_simp) trivial ?_
            simp only [Act.put, List.setIfInBounds_toArray, List.set_cons_succ, List.set_cons_zero]
            refine takeH 17 (.bool true) rfl (by kernel_rfl) (by kernel_rfl) (by kernel_rfl) (fun _ _ _ h => h) (by rfl) (fun w hSw => by go_simp) trivial ?_
            simp only [Act.put, List.setIfInBounds_toArray, List.set_cons_succ, List.set_cons_zero]
            refine wpAnyH_done (by kernel_rfl) ?_ _
            go_wp2
            go_ret
            exact ⟨rfl, hr6.out.1⟩
end Go.Proofs.Ytieaolnnlfaagaa
