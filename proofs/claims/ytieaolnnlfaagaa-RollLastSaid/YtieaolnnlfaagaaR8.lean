/- coldstorelaw08.RollTurns, walked. -/
import Derived.Test.YtieaolnnlfaagaaR7
namespace Go.Proofs.Ytieaolnnlfaagaa
open Go.RowKit

theorem slice_rest (ad : Addr) (m c n : Nat) (h : n ≤ m) (hmc : m ≤ c) : ∃ ad' : Addr, (∀ W, (Instr.sliceAt 42 (.slice (some ad) m c) (some (.int .i64 (n : Int))) none none).run Try.prog W = .ok (.slice (some ad') (m - n) (c - n)) W) ∧ (n < m → ad' = ad.add n) ∧ ad'.block = ad.block := by
  refine ⟨if c = n then ad else ad.add n, fun W => ?_, fun h => by rw [if_neg (by omega)], ?_⟩
  · rw [run_sliceAt_slice W 42 _ _ _ _ (by simp [Program.elem, Try.underlying42])]
    have hs : (sizeOf 5).run Try.prog W = .ok 1 W := by kernel_rfl
    rw [run_slice_l W 42 _ _ _ (by simp [Program.elem, Try.underlying42]) .i64 (n : Int) (by omega) (by omega)]
    have he : Try.prog.elem 42 = 5 := by simp [Program.elem, Try.underlying42]
    rw [he, hs]
    simp [Result.andThen, sliced]
    split <;> rfl
  · split
    · rfl
    · exact add_block _ _

theorem slice_off (a : Option Addr) (ys : List UInt8) (c n : Nat) (h : n ≤ ys.length) (hc : ys.length ≤ c) (hn : a = none → c = 0) :
    ∃ a2, (∀ W, (Instr.sliceAt 42 (.slice a ys.length c) (some (.int .i64 (n : Int))) none none).run Try.prog W = .ok (.slice a2 (ys.length - n) (c - n)) W) ∧ ∀ W, Reads W a ys → Reads W a2 (ys.drop n) := by
  cases a with
  | none =>
    have hc0 := hn rfl
    subst hc0
    obtain ⟨rfl, rfl⟩ : n = 0 ∧ ys = [] := ⟨by omega, List.eq_nil_of_length_eq_zero (by omega)⟩
    refine ⟨none, fun W => ?_, fun W hW => by simpa using hW⟩
    rw [run_sliceAt_slice W 42 _ _ _ _ (by simp [Program.elem, Try.underlying42])]
    have hs : (sizeOf 5).run Try.prog W = .ok 1 W := by kernel_rfl
    rw [run_slice_l W 42 _ _ _ (by simp [Program.elem, Try.underlying42]) .i64 (((0 : Nat) : Int)) (by simp) (by simp), elem_u8, hs]
    simp [Result.andThen, sliced, Addr.add]
  | some ad =>
    obtain ⟨ad', h1, h2, _⟩ := slice_rest ad ys.length c n h hc
    refine ⟨some ad', h1, fun W hW => ⟨fun e => by simp at e, fun x hx j u hj => ?_⟩⟩
    simp at hx; subst hx
    by_cases hlt : n < ys.length
    · rw [h2 hlt, add_add]
      exact hW.2 ad rfl (n + j) u (by
        rw [List.getElem?_map, List.getElem?_drop] at hj
        rw [List.getElem?_map]; exact hj)
    · rw [List.drop_eq_nil_of_le (by omega)] at hj
      simp at hj

theorem i64_and65535 (n : Int) : bits .and .i64 n 65535 = n % 65536 := by
  have h7 : (BitVec.ofInt 64 65535).toNat = 2 ^ 16 - 1 := by decide
  have key : (BitVec.ofInt 64 n &&& BitVec.ofInt 64 65535).toNat = (n % ((2 ^ 64 : Nat) : Int)).toNat % 2 ^ 16 := by
    rw [BitVec.toNat_and, BitVec.toNat_ofInt, h7, Nat.and_two_pow_sub_one_eq_mod]
  show IntKind.i64.wrap ((BitVec.ofInt 64 n &&& BitVec.ofInt 64 65535).toNat : Nat) = n % 65536
  rw [key, IntKind.wrap_i64]
  omega

/-- The bits that a turn to the right by so many leaves are below what the mask covers. -/
theorem mask_u32 (x : Roll.W) (n : Nat) (hn : n < 32) (a b : Int) (ha : a = ((2 ^ n : Nat) : Int)) (hb : b = ((2 ^ (32 - n) : Nat) : Int)) :
    bits .and .u32 ((x.toNat : Int) / b) ((a - 1) % 4294967296) = (x.toNat : Int) / b := by
  have hx := x.isLt
  have hp1 : 1 ≤ 2 ^ n := Nat.one_le_two_pow
  have hp2 : 2 ^ n < 4294967296 := by
    calc 2 ^ n < 2 ^ 32 := Nat.pow_lt_pow_right (by omega) hn
      _ = 4294967296 := by decide
  have e1 : (a - 1) % 4294967296 = ((2 ^ n - 1 : Nat) : Int) := by rw [ha]; omega
  obtain ⟨q, hq⟩ : ∃ q, q = x.toNat / 2 ^ (32 - n) := ⟨_, rfl⟩
  have hql : q < 2 ^ n := by
    rw [hq, Nat.div_lt_iff_lt_mul (Nat.two_pow_pos _), ← Nat.pow_add, show n + (32 - n) = 32 by omega]; exact hx
  have e2 : (x.toNat : Int) / b = (q : Int) := by rw [hb, hq]; exact (Int.natCast_ediv _ _).symm
  rw [e1, e2]
  have key : (BitVec.ofInt 32 (q : Int) &&& BitVec.ofInt 32 ((2 ^ n - 1 : Nat) : Int)).toNat = q := by
    rw [BitVec.toNat_and, BitVec.ofInt_natCast, BitVec.ofInt_natCast, BitVec.toNat_ofNat, BitVec.toNat_ofNat, Nat.mod_eq_of_lt (by omega), Nat.mod_eq_of_lt (by omega), Nat.and_two_pow_sub_one_eq_mod]
    exact Nat.mod_eq_of_lt hql
  show IntKind.u32.wrap ((BitVec.ofInt 32 (q : Int) &&& BitVec.ofInt 32 ((2 ^ n - 1 : Nat) : Int)).toNat : Nat) = _
  rw [key, IntKind.wrap_u32]
  omega

def TurnR (w : World) (g : Nat) (T : UInt8 → Roll.W) (v : World) : Prop := Kept [] w v ∧ Tb v g 0 T
theorem TurnR.drew {w v : World} {g : Nat} {T : UInt8 → Roll.W} (h : TurnR w g T v) : TurnR w g T v.drew := ⟨h.1.drew, h.2⟩
theorem TurnR.sum {w v : World} {g : Nat} {T : UInt8 → Roll.W} (h : TurnR w g T v) (a : Option Addr) (c : Nat) (ys : List UInt8) (hr : Reads w a ys) (hl : ys.length ≤ 1000000000) :
    Calls Try.prog 33 #[.pointer (some ⟨g, 0, none⟩), .slice a ys.length c] v fun e w' => e = .returned (U (Roll.sum T ys)) ∧ TurnR w g T w' :=
  (tsum_any g 0 T a c ys v h.2 (hr.kept h.1 (by simp)) hl).mono fun _ _ h' => ⟨h'.1, h'.2 ▸ h⟩

set_option maxRecDepth 100000 in
set_option maxHeartbeats 2000000 in
theorem roll_turns (s : Int) (a : Option Addr) (c : Nat) (ys : List UInt8) (k : Int) (w : World) (h0 : 0 ≤ s) (h1 : s < 18446744073709551616) (hr : Reads w a ys) (hc : ys.length ≤ c) (hc2 : c ≤ 9223372036854775807) (hn0 : a = none → c = 0) :
    Calls Try.prog 10 #[.int .u64 s, .slice a ys.length c, .int .i64 k] w fun e w' => e = .returned (.bool true) ∧ Kept [] w w' := by
  have hal := hid (alive08 w)
  have Hr := hid hr
  have hmk := hid (fun W => make_tb s W h0 h1)
  obtain ⟨T, hT⟩ : ∃ T, T = num s := ⟨_, rfl⟩
  rw [← hT] at hmk
  clear hT hr
  by_cases hl : ys.length ≤ 300
  case neg =>
    have hl' : 300 < ys.length := by omega
    clear hn0
    go_enter Try.func10, Try.ntmps10
    go_wp2_with fail
    refine hal.out.mono ?_
    rintro e w1 ⟨rfl, hk1⟩
    have Hk1 := hid hk1
    clear hk1
    go_wp2
    go_ret
    exact ⟨rfl, Hk1.out⟩
  obtain ⟨m, hm⟩ : ∃ m : Nat, (m : Int) = k % 65536 := ⟨(k % 65536).toNat, by omega⟩
  have hand : bits .and .i64 k 65535 = (m : Int) := (i64_and65535 k).trans hm.symm
  have hm6 : m < 65536 := by omega
  obtain ⟨n, hn⟩ : ∃ n, n = m % (ys.length + 1) := ⟨_, rfl⟩
  have hnl : n ≤ ys.length := by have := Nat.mod_lt m (show 0 < ys.length + 1 by omega); omega
  have hrem : (m : Int).tmod ((ys.length : Int) + 1) = (n : Int) := by
    rw [Int.tmod_eq_emod_of_nonneg (by omega), hn, Int.natCast_emod]; rfl
  obtain ⟨r, hrr⟩ : ∃ r, r = (ys.length - n) % 32 := ⟨_, rfl⟩
  have hr32 : r < 32 := by omega
  have hrem2 : ((ys.length : Int) - (n : Int)).tmod 32 = (r : Int) := by
    rw [Int.tmod_eq_emod_of_nonneg (by omega), hrr]; omega
  obtain ⟨a2, hsl2, hrd2⟩ := slice_off a ys c n hnl hc hn0
  have hsl1 := fun W => slice_up a ys.length c n hnl hc W
  obtain ⟨x1, hx1⟩ : ∃ x, x = Roll.sum T (ys.take n) := ⟨_, rfl⟩
  obtain ⟨x2, hx2⟩ : ∃ x, x = Roll.sum T (ys.drop n) := ⟨_, rfl⟩
  obtain ⟨x3, hx3⟩ : ∃ x, x = Roll.sum T ys := ⟨_, rfl⟩
  have hall : Roll.turn x1 r ^^^ x2 = x3 := by
    rw [hx1, hx2, hx3, hrr, Roll.turn_mod, ← List.length_drop, ← Roll.sum_append, List.take_append_drop]
  have hs1 := hid (fun g v (h : TurnR w g T v) => by
    have := h.sum a c (ys.take n) (Hr.out.take n) (by simp; omega)
    rw [show (ys.take n).length = n by simp; omega, ← hx1] at this
    exact this)
  have hs2 := hid (fun g v (h : TurnR w g T v) => by
    have := h.sum a2 (c - n) (ys.drop n) (hrd2 w Hr.out) (by simp; omega)
    rw [List.length_drop, ← hx2] at this
    exact this)
  have hs3 := hid (fun g v (h : TurnR w g T v) => by
    have := h.sum a c ys Hr.out (by omega)
    rw [← hx3] at this
    exact this)
  have hs4 := hid (fun g v (h : TurnR w g T v) => h.sum none 0 [] ⟨fun _ => rfl, fun _ h => by simp at h⟩ (by simp))
  have hxv := xor_bv (Roll.turn x1 r) x2
  rw [hall] at hxv
  obtain ⟨tx, htx⟩ : ∃ tx, tx = Roll.turn x1 r := ⟨_, rfl⟩
  have htx' : Roll.rol x1 r = tx := by rw [htx]; unfold Roll.turn; rw [Nat.mod_eq_of_lt hr32]
  rw [← htx] at hxv
  obtain ⟨q, hq⟩ : ∃ q : Int, q = (r : Int) := ⟨_, rfl⟩
  obtain ⟨A1, hA1⟩ : ∃ A : Int, A = ((2 ^ r : Nat) : Int) := ⟨_, rfl⟩
  obtain ⟨A2, hA2⟩ : ∃ A : Int, A = ((2 ^ (32 - r) : Nat) : Int) := ⟨_, rfl⟩
  have hmask := mask_u32 x1 r hr32 A1 A2 hA1 hA2
  have hrol := rol_lit x1 r A1 A2 hA1 hA2
  rw [htx'] at hrol
  have p1 : (2 : Int) ^ q.toNat = A1 := by rw [hA1, hq]; simp
  have p2 : (2 : Int) ^ (32 - q).toNat = A2 := by rw [hA2, show (32 - q).toNat = 32 - r by omega]; simp
  have b1 : 0 ≤ q := by omega
  have b2 : q ≤ 32 := by omega
  have b3 : 0 ≤ 32 - q := by omega
  have b4 : 32 - q ≤ 32 := by omega
  have Hmask := hid hmask; have Hrol := hid hrol; have Hxv := hid hxv; have Hsl1 := hid hsl1; have Hsl2 := hid hsl2; have Hp1 := hid p1; have Hp2 := hid p2
  rw [← hq] at hrem2
  clear hm hn hrr hr32 hx1 hx2 hx3 hall htx htx' hq hA1 hA2 hrd2 hsl1 hsl2 hmask hrol hxv p1 p2 hn0 hm6
  go_enter Try.func10, Try.ntmps10
  go_wp2_with fail
  refine hal.out.mono ?_
  rintro e w1 ⟨rfl, hk1⟩
  have Hk1 := hid hk1
  clear hk1 hal
  go_wp2_with fail
  refine (hmk.out w1).mono ?_
  rintro e w2 ⟨rfl, hk2, ht2⟩
  obtain ⟨g, hg1⟩ : ∃ g, g = w1.heap.size := ⟨_, rfl⟩
  rw [← hg1] at ht2 ⊢
  have Hr2 := hid (show TurnR w g T w2 from ⟨Hk1.out.trans hk2, ht2⟩)
  have Hg := hid (show w.heap.size ≤ g by rw [hg1]; exact Hk1.out.size)
  clear hk2 ht2 hg1 hmk Hk1
  go_wp2_with fail
  have hsl1 := Hsl1.out
  have hsl2 := Hsl2.out
  refine wp_region_held_drew (S := fun _ => True) (by kernel_rfl) trivial (fun _ => ?_)
  refine takeH 0 (Value.pointer (some ⟨g, 0, none⟩)) rfl (by kernel_rfl) (by kernel_rfl) (by kernel_rfl) (fun _ _ _ h => h) (by rfl) (fun w hSw => by go_simp) trivial ?_
  simp only [Act.put, List.setIfInBounds_toArray, List.set_cons_succ, List.set_cons_zero]
  refine takeH 1 (.slice a ys.length c) rfl (by kernel_rfl) (by kernel_rfl) (by kernel_rfl) (fun _ _ _ h => h) (by rfl) (fun w hSw => by go_simp) trivial ?_
  simp only [Act.put, List.setIfInBounds_toArray, List.set_cons_succ, List.set_cons_zero]
  refine takeH 2 (.int .i64 (n : Int)) rfl (by kernel_rfl) (by kernel_rfl) (by kernel_rfl) (fun _ _ _ h => h) (by rfl) (fun w hSw => by go_simp) trivial ?_
  simp only [Act.put, List.setIfInBounds_toArray, List.set_cons_succ, List.set_cons_zero]
  refine takeH 3 (.slice a n c) rfl (by kernel_rfl) (by kernel_rfl) (by kernel_rfl) (fun _ _ _ h => h) (by rfl) (fun w hSw => by go_simp) trivial ?_
  simp only [Act.put, List.setIfInBounds_toArray, List.set_cons_succ, List.set_cons_zero]
  refine takeH 5 (Value.pointer (some ⟨g, 0, none⟩)) rfl (by kernel_rfl) (by kernel_rfl) (by kernel_rfl) (fun _ _ _ h => h) (by rfl) (fun w hSw => by go_simp) trivial ?_
  simp only [Act.put, List.setIfInBounds_toArray, List.set_cons_succ, List.set_cons_zero]
  refine takeH 6 (.slice a ys.length c) rfl (by kernel_rfl) (by kernel_rfl) (by kernel_rfl) (fun _ _ _ h => h) (by rfl) (fun w hSw => by go_simp) trivial ?_
  simp only [Act.put, List.setIfInBounds_toArray, List.set_cons_succ, List.set_cons_zero]
  refine takeH 7 (.int .i64 (n : Int)) rfl (by kernel_rfl) (by kernel_rfl) (by kernel_rfl) (fun _ _ _ h => h) (by rfl) (fun w hSw => by go_simp) trivial ?_
  simp only [Act.put, List.setIfInBounds_toArray, List.set_cons_succ, List.set_cons_zero]
  refine takeH 8 (.slice a2 (ys.length - n) (c - n)) rfl (by kernel_rfl) (by kernel_rfl) (by kernel_rfl) (fun _ _ _ h => h) (by rfl) (fun w hSw => by go_simp) trivial ?_
  simp only [Act.put, List.setIfInBounds_toArray, List.set_cons_succ, List.set_cons_zero]
  refine callR 4 rfl (by kernel_rfl) (by rfl) 33 #[Value.pointer (some ⟨g, 0, none⟩), .slice a n c] (by go_simp) (U x1) (TurnR w g T) (fun _ _ => trivial) (hs1.out _ _ Hr2.out.drew) ?_
  intro w5 hr5
  have hr5 := hid hr5
  simp only [Act.put, List.setIfInBounds_toArray, List.set_cons_succ, List.set_cons_zero]
  refine callR 9 rfl (by kernel_rfl) (by rfl) 33 #[Value.pointer (some ⟨g, 0, none⟩), .slice a2 (ys.length - n) (c - n)] (by go_simp) (U x2) (TurnR w g T) (fun _ _ => trivial) (hs2.out _ _ hr5.out) ?_
  intro w6 hr6
  have hr6 := hid hr6
  simp only [Act.put, List.setIfInBounds_toArray, List.set_cons_succ, List.set_cons_zero]
  refine takeH 10 (U x1) rfl (by kernel_rfl) (by kernel_rfl) (by kernel_rfl) (fun _ _ _ h => h) (by rfl) (fun w hSw => by go_simp) trivial ?_
  simp only [Act.put, List.setIfInBounds_toArray, List.set_cons_succ, List.set_cons_zero]
  refine takeH 11 (U x2) rfl (by kernel_rfl) (by kernel_rfl) (by kernel_rfl) (fun _ _ _ h => h) (by rfl) (fun w hSw => by go_simp) trivial ?_
  simp only [Act.put, List.setIfInBounds_toArray, List.set_cons_succ, List.set_cons_zero]
  refine wpAnyH_done (by kernel_rfl) ?_ _
  clear hsl1 hsl2
  go_wp2_with fail
  have p1 := Hp1.out
  have p2 := Hp2.out
  go_region
  rw [Hmask.out, Hrol.out]
  clear p1 p2 b1 b2 b3 b4
  have hxv := Hxv.out
  go_wp2_with fail
  refine (hs3.out _ _ hr6.out.drew).mono ?_
  rintro e w7 ⟨rfl, hr7⟩
  have hr7 := hid hr7
  go_wp2_with fail
  refine (hs4.out _ _ hr7.out).mono ?_
  rintro e w8 ⟨rfl, hr8⟩
  have hr8 := hid hr8
  rw [Roll.sum_nil]
  clear hxv
  go_wp2_with fail
  go_loopw [65] (fun j wr => ∃ i : Nat, i ≤ 256 ∧ j = .int .i64 i ∧ Hid (TurnR w g T wr)) (fun j _ => 256 - (intOf j).toNat)
  case atStart => exact ⟨0, by omega, rfl, hr8⟩
  case round =>
    obtain ⟨i, hi, rfl, hr⟩ := hrel
    by_cases hlt : i < 256
    · obtain ⟨cb, hcb⟩ : ∃ cb : UInt8, (i : Int) = (cb.toNat : Int) := ⟨UInt8.ofNat i, by simp; omega⟩
      have hA := hid (fun v (h : TurnR w g T v) => show Calls Try.prog 31 #[.pointer (some ⟨g, 0, none⟩), .int .u8 (i : Int)] v fun e w' => e = .returned (U (T cb)) ∧ TurnR w g T w' from by
        rw [hcb]; exact (at_any g 0 T cb v h.2).mono fun _ _ h' => ⟨h'.1, h'.2 ▸ h⟩)
      have hB := hid (show Calls Try.prog 33 #[.pointer (some ⟨g, 0, none⟩), .slice (some ⟨wr.heap.size, 0, none⟩) 1 1] (wr.alloc (.cells #[.int .u8 (i : Int)] 5)) fun e w' => e = .returned (U (T cb)) ∧ TurnR w g T w' from by
        rw [hcb]
        have h2 : TurnR w g T (wr.alloc (.cells #[.int .u8 (cb.toNat : Int)] 5)) := ⟨hr.out.1.alloc _, hr.out.2.kept ((Kept.refl [] wr).alloc _) (by simp)⟩
        have := tsum_any g 0 T (some ⟨wr.heap.size, 0, none⟩) 1 [cb] _ h2.2 (reads_one wr cb) (by simp)
        rw [Roll.sum_one] at this
        exact this.mono fun _ _ h' => ⟨h'.1, h'.2 ▸ h2⟩)
      clear hcb
      generalize T cb = tb at *
      go_wp2_with fail
      refine hB.out.mono ?_
      rintro e w9 ⟨rfl, hr9⟩
      have hr9 := hid hr9
      go_wp2_with fail
      refine (hA.out _ hr9.out).mono ?_
      rintro e w10 ⟨rfl, hr10⟩
      have hr10 := hid hr10
      go_wp2_with fail
      exact ⟨⟨i + 1, by omega, by go_num, hr10⟩, by simp [intOf]; omega⟩
    · obtain rfl : i = 256 := by omega
      have hk := hid hr.out.1
      clear hr
      go_wp2
      go_ret
      exact ⟨rfl, hk.out⟩
end Go.Proofs.Ytieaolnnlfaagaa
