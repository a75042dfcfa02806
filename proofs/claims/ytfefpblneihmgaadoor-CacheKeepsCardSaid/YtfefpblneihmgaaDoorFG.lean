import Derived.Test.YtfefpblneihmgaaDoorFF
import Derived.Test.YtfefpblneihmgaaDoorMC
import Derived.Test.YtfefpblneihmgaaDoorMK

/- CacheSpoils. -/
namespace Go.Proofs.YtfefpblneihmgaaDoor
open Go.RowKit Go.Lib Go.Maps
theorem bytes_row_k {w : World} {a : Option Addr} {len cap : Nat} {zs : List Int} (h : (a = none ∧ len = 0 ∧ cap = 0 ∧ zs = []) ∨
    ∃ x, a = some x ∧ len ≤ cap ∧ cap ≤ maxLen ∧ zs.length = cap ∧ (∀ i, i < zs.length → w.cell? (x.add i) = some (.int .u8 (zs.getD i 0))) ∧ ∀ n ∈ zs, (Lit.int .u8 n).wf = true) :
    ∃ ys : List UInt8, len = ys.length ∧ Reads w a ys ∧ ys.length ≤ cap ∧ cap ≤ 9223372036854775807 ∧ (a = none → cap = 0) := by
  rcases h with ⟨rfl, rfl, rfl, rfl⟩ | ⟨x, rfl, hl, hm, hz, hc, hw⟩
  · exact ⟨[], rfl, ⟨fun _ => rfl, fun _ h => by simp at h⟩, by simp, by omega, fun _ => rfl⟩
  · refine ⟨(zs.take len).map fun z => UInt8.ofNat z.toNat, by simp; omega, ⟨fun h => by simp at h, fun ad had j u hj => ?_⟩, by simp; omega, by unfold maxLen at hm; omega, fun h => by simp at h⟩
    simp at had
    subst had
    rw [List.map_map, List.getElem?_map, List.getElem?_take] at hj
    split at hj
    · rename_i hjl
      have hjz : j < zs.length := by omega
      rw [List.getElem?_eq_getElem hjz] at hj
      simp at hj
      have hb := bounds_u8 (hw _ (List.getElem_mem hjz))
      rw [hc j hjz, ← hj]
      have e : zs.getD j 0 = zs[j] := by simp [hjz]
      rw [e]
      unfold B
      congr 2
      simp
      omega
    · simp at hj


theorem same_deck (a b : Option Addr) (c d : Nat) (xs ys : List UInt8) (w : World) (ha : SrcB w (.slice a xs.length c) xs) (hb : SrcB w (.slice b ys.length d) ys) :
    Calls Tryd.prog 16 #[.slice a xs.length c, .slice b ys.length d] w fun e w' => e = .returned (.bool (decide (xs = ys))) ∧ w = w' := by
  by_cases hxy : xs = ys
  · subst hxy
    exact (same_src a b c d xs w ha hb).mono fun e w' h => ⟨by rw [h.1]; simp, h.2⟩
  · have h1 := text_any w a c xs ha
    have h2 := text_any w b d ys hb
    have Hxy := hid hxy
    have hD := hid (show decide (xs = ys) = false from decide_eq_false hxy)
    clear ha hb hxy
    rw [hD.out]
    clear hD
    generalize xs.length = n at *
    generalize ys.length = m at *
    go_enter Tryd.func16, Tryd.ntmps16
    go_wp2
    go_ret
    exact ⟨by simpa using Hxy.out, rfl⟩
theorem and_16 (n : Int) : bits .and .i64 n 65535 = n % 65536 := by
  have h7 : (BitVec.ofInt 64 65535).toNat = 2 ^ 16 - 1 := by decide
  have key : (BitVec.ofInt 64 n &&& BitVec.ofInt 64 65535).toNat = (n % ((2 ^ 64 : Nat) : Int)).toNat % 2 ^ 16 := by
    rw [BitVec.toNat_and, BitVec.toNat_ofInt, h7, Nat.and_two_pow_sub_one_eq_mod]
  show IntKind.i64.wrap ((BitVec.ofInt 64 n &&& BitVec.ofInt 64 65535).toNat : Nat) = n % 65536
  rw [key, IntKind.wrap_i64]
  omega
theorem flip_len (bs : List UInt8) (u : Nat) : (flipB bs u).length = bs.length := by simp [flipB]
theorem xor_cancel (a b : UInt8) : a ^^^ b ^^^ b = a := by
  apply UInt8.toNat_inj.1
  rw [UInt8.toNat_xor, UInt8.toNat_xor, Nat.xor_assoc, Nat.xor_self, Nat.xor_zero]
theorem flip_twice (bs : List UInt8) (u : Nat) (hu : u < 8 * bs.length) : flipB (flipB bs u) u = bs := by
  unfold flipB
  have hi : u / 8 < bs.length := by omega
  rw [List.set_set]
  have e1 : (bs.set (u / 8) (bs.getD (u / 8) 0 ^^^ UInt8.ofNat (2 ^ (u % 8)))).getD (u / 8) 0 = bs.getD (u / 8) 0 ^^^ UInt8.ofNat (2 ^ (u % 8)) := by
    simp [List.getD_eq_getElem?_getD, List.getElem?_set, hi]
  rw [e1, xor_cancel]
  apply List.ext_getElem?
  intro j
  rw [List.getElem?_set]
  split
  · rename_i h
    subst h
    simp [hi, List.getD_eq_getElem?_getD]
  · rfl
theorem bitAt_small (u : Nat) (bs : List UInt8) (hu : u < 8 * bs.length) : bitAt (u : Int) bs = u := by
  unfold bitAt
  rw [Int.emod_eq_of_lt (by omega) (by omega)]; simp
theorem bitAt_less (u : Nat) (bs : List UInt8) (hu : u < 8 * bs.length) : bitAt ((u : Int) - ((8 * bs.length : Nat) : Int)) bs = u := by
  unfold bitAt
  rw [Int.sub_emod, Int.emod_self, Int.sub_zero, Int.emod_emod, Int.emod_eq_of_lt (by omega) (by omega)]; simp
/-- An answer's bytes, that no call turns. -/
structure Out (W : World) (U : List Nat) (v : Value) (bs : List UInt8) : Prop where
  row : ∃ base, W.ownsRow base 5 1 v bs.length (bs.map B)
  off : ∀ g, v.ownBlock = some g → g ∉ U ∧ g < W.heap.size
theorem Out.next {W W' : World} {U U' : List Nat} {v : Value} {bs : List UInt8} (h : Out W U v bs) (hk : Kept U W W') (hm : More W W' U U') : Out W' U' v bs := by
  obtain ⟨base, h1⟩ := h.row
  refine ⟨⟨base, hk.owns h1 (fun g hg => (h.off g hg).1)⟩, fun g hg => ⟨fun hx => ?_, Nat.lt_of_lt_of_le (h.off g hg).2 hk.size⟩⟩
  rcases hm.1 g hx with h2 | h2
  · exact (h.off g hg).1 h2
  · have := (h.off g hg).2; omega
theorem Out.of {W W' : World} {U' : List Nat} {v : Value} {bs : List UInt8} (h : AnsV W W' U' v (some bs)) : Out W' U' v bs := by
  have h : W'.ownsRow W.heap.size 5 1 v bs.length (bs.map B) ∧ ∀ g, v.ownBlock = some g → g ∉ U' := h
  exact ⟨⟨_, h.1⟩, fun g hg => ⟨h.2 g hg, by obtain ⟨cur, hc⟩ := ow_type h.1 hg; exact lt_of_block hc⟩⟩
theorem Out.src {W : World} {U : List Nat} {a : Option Addr} {c : Nat} {n : Nat} {bs : List UInt8} (h : Out W U (.slice a n c) bs) (hn : n = bs.length) : SrcB W (.slice a bs.length c) bs := by
  subst hn
  obtain ⟨base, h1⟩ := h.row
  have h2 := reads_row h1
  exact src_reads h2.1 h2.2.2.2.2
theorem More.refl (W W' : World) (U : List Nat) : More W W' U U := ⟨fun x hx => Or.inl hx, fun x hx => hx⟩
theorem refof_sum (a : Option Addr) (c : Nat) (ys : List UInt8) (w : World) (hr : Reads w a ys) (hn : a = none → c = 0) (hl : ys.length ≤ 1000000) :
    Calls Tryd.prog 11 #[.slice a ys.length c] w fun e w' => e = .returned (.agg ((Sha.sum ys).map B).toArray) ∧ Kept [] w w' := refof_any a c ys w hr hn hl (fun s b gh ch gk ck gb ob cb w h1 h2 h3 h4 => refmix_any s b gh ch gk ck gb ob cb w h1 h2 h3 h4)

/-- What the law does not ask. -/
def Ask (xs ys : List UInt8) : Prop := xs ≠ [] ∧ xs.length ≤ 100 ∧ ys.length ≤ 100 ∧ xs ≠ ys
set_option maxRecDepth 100000 in
set_option maxHeartbeats 8000000 in
theorem spoils_not (a0 : Option Addr) (c0 : Nat) (xs : List UInt8) (a1 : Option Addr) (c1 : Nat) (ys : List UInt8) (bit : Int) (w : World) (ht : Tabs w) (hx : SrcB w (.slice a0 xs.length c0) xs) (hy : SrcB w (.slice a1 ys.length c1) ys) (h : ¬ Ask xs ys) :
    Calls Tryd.prog 7 #[.slice a0 xs.length c0, .slice a1 ys.length c1, .int .i64 bit] w fun e w' => e = .returned (.bool true) ∧ Kept [] w w' := by
  have hal := hid (alive14 w ht)
  have hsm := hid (fun W (hk : Kept [] w W) => same_deck a0 a1 c0 c1 xs ys W (hx.kept hk (by simp)) (hy.kept hk (by simp)))
  obtain ⟨q, hq⟩ : ∃ q, q = decide (xs = ys) := ⟨_, rfl⟩
  obtain ⟨n, hn⟩ : ∃ n, n = xs.length := ⟨_, rfl⟩
  obtain ⟨m, hm⟩ : ∃ m, m = ys.length := ⟨_, rfl⟩
  have hor : n = 0 ∨ 100 < n ∨ 100 < m ∨ q = true := by
    unfold Ask at h
    rw [hn, hm, hq]
    by_cases h1 : xs = []
    · left; rw [h1]; rfl
    · by_cases h2 : xs.length ≤ 100
      · by_cases h3 : ys.length ≤ 100
        · right; right; right
          by_cases h4 : xs = ys
          · exact decide_eq_true h4
          · exact absurd ⟨h1, h2, h3, h4⟩ h
        · right; right; left; omega
      · right; left; omega
  rw [← hq, ← hn, ← hm] at hsm
  rw [← hn, ← hm]
  clear ht hx hy h hq hn hm
  go_enter Tryd.func7, Tryd.ntmps7
  go_wp2_with fail
  refine hal.out.mono ?_
  rintro e w1 ⟨rfl, k1⟩
  have hs1 := hid (hsm.out w1 k1)
  have K1 := hid k1
  clear k1 hal hsm
  by_cases h0 : n = 0
  · have b0 : ((n : Int) == 0) = true := by simp [h0]
    clear h0 hor
    go_wp2
    go_ret
    exact ⟨rfl, K1.out⟩
  · have b0 : ((n : Int) == 0) = false := by simpa using h0
    by_cases h1 : 100 < n
    · have b1 : (100 : Int) < (n : Int) := by omega
      clear h0 h1 hor
      go_wp2
      go_ret
      exact ⟨rfl, K1.out⟩
    · have b1 : ¬ (100 : Int) < (n : Int) := by omega
      by_cases h2 : 100 < m
      · have b2 : (100 : Int) < (m : Int) := by omega
        clear h0 h1 h2 hor
        go_wp2
        go_ret
        exact ⟨rfl, K1.out⟩
      · have b2 : ¬ (100 : Int) < (m : Int) := by omega
        have hqt : q = true := by rcases hor with h | h | h | h <;> first | omega | exact h
        subst hqt
        clear h0 h1 h2 hor
        go_wp2_with fail
        refine hs1.out.mono ?_
        rintro e w2 ⟨rfl, rfl⟩
        go_wp2
        go_ret
        exact ⟨rfl, K1.out⟩

set_option maxRecDepth 100000 in
set_option maxHeartbeats 16000000 in
theorem spoils_do (a0 : Option Addr) (c0 : Nat) (xs : List UInt8) (a1 : Option Addr) (c1 : Nat) (ys : List UInt8) (bit : Int) (w : World) (ht : Tabs w) (hx : Reads w a0 xs) (hxc : xs.length ≤ c0 ∧ c0 ≤ 9223372036854775807 ∧ (a0 = none → c0 = 0)) (hy : Reads w a1 ys) (hyc : ys.length ≤ c1 ∧ c1 ≤ 9223372036854775807 ∧ (a1 = none → c1 = 0)) (h : Ask xs ys) :
    Calls Tryd.prog 7 #[.slice a0 xs.length c0, .slice a1 ys.length c1, .int .i64 bit] w fun e w' => e = .returned (.bool true) ∧ Kept [] w w' := by
  obtain ⟨j0, hj0, hz0, hz1, hz2⟩ := info_parts info_u8
  obtain ⟨hne, hn100, hm100, hxy⟩ := h
  have hal := hid (alive14 w ht)
  have hrx := hid (fun W (hk : Kept [] w W) => hx.kept hk (fun _ _ _ => by simp))
  have hry := hid (fun W (hk : Kept [] w W) => hy.kept hk (fun _ _ _ => by simp))
  have hxb := hid (fun (hh : xs ≠ []) x (hx1 : a0 = some x) => hx.lt hh x hx1)
  have hyb := hid (fun (hh : ys ≠ []) x (hx1 : a1 = some x) => hy.lt hh x hx1)
  have hsm := hid (fun W (hk : Kept [] w W) => same_deck a0 a1 c0 c1 xs ys W (src_reads (hrx.out W hk) hxc.2.2) (src_reads (hry.out W hk) hyc.2.2))
  rw [decide_eq_false hxy] at hsm
  obtain ⟨x, hxs⟩ : ∃ x, x = Sha.sum xs := ⟨_, rfl⟩
  obtain ⟨y, hys⟩ : ∃ y, y = Sha.sum ys := ⟨_, rfl⟩
  have Lx := hid (show x.length = 32 from by rw [hxs]; exact Sha.sum_len _)
  have Ly := hid (show y.length = 32 from by rw [hys]; exact Sha.sum_len _)
  have n0 : 0 < xs.length := List.length_pos_iff.2 hne
  have p1 := hid (show putD 1000 [] xs = [(x, xs)] from by
    unfold putD; rw [← hxs, if_neg (by omega)]; simp [dropD, evict])
  obtain ⟨n, hn⟩ : ∃ n, n = xs.length := ⟨_, rfl⟩
  obtain ⟨m, hm⟩ : ∃ m, m = ys.length := ⟨_, rfl⟩
  have HN := hid hn; have HM := hid hm; have XS := hid hxs; have YS := hid hys; have HXY := hid hxy; have HNE := hid hne; have HXC := hid hxc; have HYC := hid hyc; have HT := hid ht
  have b0 : ((n : Int) == 0) = false := by simp; omega
  have b1 : ¬ (100 : Int) < (n : Int) := by omega
  have b2 : ¬ (100 : Int) < (m : Int) := by omega
  have b3 : decide ((100 : Int) < (n : Int)) = false := decide_eq_false b1
  have b4 : decide ((100 : Int) < (m : Int)) = false := decide_eq_false b2
  have n1 : 0 < n := by omega
  have n2 : n ≤ 100 := by omega
  have m2 : m ≤ 100 := by omega
  rw [← hn, ← hm] at hsm
  rw [← hn, ← hm]
  clear ht hx hy hxc hyc hxs hys hn hm hne hxy n0 hn100 hm100
  go_enter Tryd.func7, Tryd.ntmps7
  go_wp2_with fail
  refine hal.out.mono ?_
  rintro e w1 ⟨rfl, k1⟩
  have hs1 := hid (hsm.out w1 k1)
  have K1 := hid k1
  clear k1 hal hsm
  go_wp2_with fail
  refine hs1.out.mono ?_
  rintro e w1' ⟨rfl, rfl⟩
  have hnew := hid (cs_new w w1 K1.out HT.out 1000 (by decide))
  rw [show max (1000 : Int) 0 = 1000 by decide] at hnew
  clear hs1
  go_wp2_with fail
  refine hnew.out.mono ?_
  rintro e w2 ⟨rfl, k2, c2⟩
  obtain ⟨p, hp⟩ : ∃ p, p = w1.heap.size := ⟨_, rfl⟩
  rw [← hp] at c2 ⊢
  have C2 := hid c2
  have hq1 := hid (cs_put c2 (by decide) (by decide) a0 c0 xs (hrx.out _ c2.kept) (fun hh v hv hmm => by have h1 := (c2.bound _ hmm).1; have h2 := hxb.out hh v hv; omega) HXC.out.2.2 HXC.out.1 HXC.out.2.1 (by have := HN.out; omega))
  obtain ⟨ix, hix⟩ : ∃ i, i = (x.map B).toArray := ⟨_, rfl⟩
  obtain ⟨iy, hiy⟩ : ∃ i, i = (y.map B).toArray := ⟨_, rfl⟩
  have IX := hid hix; have IY := hid hiy
  rw [← XS.out, ← hix, p1.out, ← HN.out] at hq1
  clear k2 c2 hp hnew hix hiy b0 b1 b2 b3 b4
  go_wp2_with fail
  refine hq1.out.mono ?_
  rintro e w3 ⟨rfl, k3, U3, m3, c3⟩
  have C3 := hid c3
  have hs3 : szD [(x, xs)] ≤ 100000000 := by have h1 := HN.out; simp [szD]; omega
  have hq2 := hid (cs_put c3 hs3 (by simp) a1 c1 ys (hry.out _ c3.kept) (fun hh v hv hmm => by have h1 := (c3.bound _ hmm).1; have h2 := hyb.out hh v hv; omega) HYC.out.2.2 HYC.out.1 HYC.out.2.1 (by have := HM.out; omega))
  rw [← YS.out, ← IY.out, ← HM.out] at hq2
  clear k3 c3 m3 hq1 C2 hs3
  go_wp2_with fail
  refine hq2.out.mono ?_
  rintro e w4 ⟨rfl, k4, U4, m4, c4⟩
  have C4 := hid c4
  clear k4 c4 m4 hq2 C3
  obtain ⟨zv, hzv⟩ : ∃ zv, zv = (idz.map B).toArray := ⟨_, rfl⟩
  have hzz : ∀ W, (zeroValue 34).run Tryd.prog W = .ok (.agg zv) W := by rw [hzv]; exact zero_idN
  have hzs : zv.size = 32 := by rw [hzv]; simp [idz]
  have si : ∀ (x : List UInt8) (i : Array Value), x.length = 32 → i = (x.map B).toArray → (Tryd.prog.info? 34).map (·.size) = some i.size ∧ zv.size = i.size ∧ i.all (·.oneCell') = true := fun x i h1 h2 => by
    have e : i.size = 32 := by rw [h2]; simp [h1]
    exact ⟨by rw [e]; kernel_rfl, by rw [e, hzs], by rw [h2]; exact id_one x⟩
  have SX := hid (si x ix Lx.out IX.out); have SY := hid (si y iy Ly.out IY.out)
  obtain ⟨q, hq⟩ : ∃ q, q = w4.heap.size := ⟨_, rfl⟩
  obtain ⟨z3, hz3⟩ : ∃ z3, z3 = (w4.alloc (.cells zv 34)).alloc (.cells zv 34) := ⟨_, rfl⟩
  have r0 : z3.heap[q]? = some (.cells zv 34 (0, 0)) := by rw [hz3, hq]; exact heap_alloc_old (heap_alloc_at rfl)
  have r1 : z3.heap[q + 1]? = some (.cells zv 34 (0, 0)) := by rw [hz3, hq]; exact heap_alloc_at (by simp)
  obtain ⟨z4, hz4⟩ : ∃ z4, z4 = z3.setRow q ix := ⟨_, rfl⟩
  have k34 : Kept [q] z3 z4 := by rw [hz4]; exact (Kept.refl _ z3).setRow (fun _ => by simp) _
  obtain ⟨z5, hz5⟩ : ∃ z5, z5 = z4.setRow (q + 1) iy := ⟨_, rfl⟩
  have k45 : Kept [q + 1] z4 z5 := by rw [hz5]; exact (Kept.refl _ z4).setRow (fun _ => by simp) _
  have t0 : z4.heap[q]? = some (.cells ix 34 (0, 0)) := by rw [hz4]; exact setRow_heap _ _ _ _ _ _ r0
  have r1' := k34.at r1 (by simp)
  have t1 : z5.heap[q + 1]? = some (.cells iy 34 (0, 0)) := by rw [hz5]; exact setRow_heap _ _ _ _ _ _ r1'
  have k73 : Kept [] w4 z3 := by rw [hz3]; exact ((Kept.refl [] w4).alloc _).alloc _
  have K7 := hid (show Kept [q, q + 1] w4 z5 from ((k73.wider (fun x _ h => by simp at h)).trans (k34.wider (fun x _ h => by simp at h; simp [h]))).trans (k45.wider (fun x _ h => by simp at h; simp [h])))
  have C5 := hid (C4.out.keep K7.out (fun x hx hm => by have := (C4.out.bound x hx).2; simp at hm; omega) (fun x hx => by have := C4.out.kept.size; simp at hx; omega))
  have T0 := hid (k45.at t0 (by simp)); have T1 := hid t1
  have R0 := hid r0; have R1 := hid r1'
  have HQ := hid hq; have HZ3 := hid hz3; have HZ4 := hid hz4; have HZ5 := hid hz5
  have hqU := hid (show ∀ x ∈ U4, x < q from fun x hx => by have := (C4.out.bound x hx).2; omega)
  clear hq hz3 hz4 hz5 r0 r1 t0 t1 r1' k34 k45 hzs si hzv k73
  go_wp2_with (refine wpList_store_row rfl 34 (.tmp 8) (.tmp 46) rfl w4.heap.size ix rfl rfl _ _ (by rw [← HZ3.out, ← HQ.out]; exact R0.out) SX.out.1 SX.out.2.1 SX.out.2.2 ?_; refine halt ?_)
  refine Halt.mk ?_
  rw [← HZ3.out, ← HQ.out, ← HZ4.out]
  go_wp2_with (refine wpList_store_row rfl 34 (.tmp 9) (.tmp 49) rfl (q + 1) iy rfl rfl _ _ R1.out SY.out.1 SY.out.2.1 SY.out.2.2 ?_; refine halt ?_)
  refine Halt.mk ?_
  rw [← HZ5.out]
  have hsx5 := hid (show SrcB z5 (.slice a0 n c0) xs from by have h1 := src_reads (hrx.out z5 C5.out.kept) HXC.out.2.2; rw [← HN.out] at h1; unfold SrcB; rw [← HN.out]; exact h1)
  clear hzz R0 R1 SX SY HZ3 HZ4 HZ5
  go_wp2_with (at_builtin; refine halt ?_)
  refine Halt.mk ?_
  refine wpList_append_src _ rfl _ _ _ rfl z5.heap.size 5 j0 _ 1 Tryd.underlying30 hj0 hz0 hz1 hz2 rfl (.slice (some ⟨z5.heap.size, 0, none⟩) 0 0) 0 [] rfl (World.ownsRow_made z5 (base := z5.heap.size) (e := 5) (size := 1) #[] 0 (Nat.le_refl _) (by decide) (by simp)) (.slice a0 n c0) n (xs.map B) rfl (by have h1 := hsx5.out.kept ((Kept.refl [] z5).alloc (.cells #[] 5)) (by simp); unfold SrcB at h1; rw [← HN.out] at h1; exact h1) (by simp; exact HN.out.symm) (B_oneCell xs) (by unfold maxLen; omega) (by omega) (by simp) ?_
  intro v5 w5 o5 g5 _ f5
  simp only [Nat.zero_add, List.nil_append] at o5
  obtain ⟨a5, c5, rfl⟩ := owns_slice o5
  have k5 := hid (show Kept [] z5 w5 from ((Kept.refl [] z5).alloc (.cells #[] 5)).trans' (Kept.of_row g5) (fun y hy hm => by simp [Value.ownBlock] at hm; omega))
  have O5 := hid o5
  obtain ⟨g, rfl⟩ : ∃ g, a5 = some ⟨g, 0, none⟩ := by
    rcases o5.2 with ⟨h1, h2⟩ | ⟨g, cap, cur, h1, _⟩
    · exfalso; omega
    · simp at h1; exact ⟨g, h1.1⟩
  have C6 := hid (C5.out.keep0 k5.out)
  have T0b := hid (k5.out.at T0.out (by simp)); have T1b := hid (k5.out.at T1.out (by simp))
  have hgU := hid (show g ∉ U4 ∧ q < g ∧ q + 1 < g from by
    have h1 := own_block_ge O5.out g rfl
    have h2 := lt_of_block T1.out
    exact ⟨fun hm => by have := hqU.out g hm; omega, by omega, by omega⟩)
  clear o5 g5 f5 C4 T0 T1 hsx5
  obtain ⟨u, hu⟩ : ∃ u : Nat, u = ((bit % 65536) % (8 * (n : Int))).toNat := ⟨_, rfl⟩
  have e0 : 0 ≤ bit % 65536 := by omega
  have e1 := Int.emod_nonneg (bit % 65536) (show 8 * (n : Int) ≠ 0 by omega)
  have e2 := Int.emod_lt_of_pos (bit % 65536) (show 0 < 8 * (n : Int) by omega)
  have hul : u < 8 * n := by omega
  have hrem : (bits .and .i64 bit 65535).tmod (8 * (n : Int)) = (u : Int) := by rw [and_16, Int.tmod_eq_emod_of_nonneg e0]; omega
  obtain ⟨d, hd⟩ : ∃ d : Nat, d = 8 * n := ⟨_, rfl⟩
  have w1m : IntKind.i64.wrap (8 * (n : Int)) = (d : Int) := by rw [IntKind.wrap_i64]; omega
  have hrem2 : (bits .and .i64 bit 65535).tmod (d : Int) = (u : Int) := by rw [hd]; exact hrem
  have hd0 : ((d : Int) == 0) = false := by simp; omega
  have hd1 : ¬ (d : Int) = 0 := by omega
  have HUL := hid hul; have HD := hid hd
  clear hu e0 e1 e2 hrem hul hd
  go_wp2_with fail
  have hul2 := HUL.out
  obtain ⟨sb, hsb⟩ : ∃ sb, xs[u / 8]? = some sb := ⟨xs[u / 8]'(by rw [← HN.out]; omega), by simp⟩
  have gl := O5.out.cellAt (u / 8) (by omega)
  rw [List.getElem?_map, hsb] at gl
  have gld : w5.drew.cell? ⟨g, u / 8, none⟩ = some (.int .u8 (sb.toNat : Int)) := gl
  have gfd : w5.drew.frozen? ⟨g, u / 8, none⟩ = false := O5.out.frozenAt _
  have Hsb := hid hsb
  obtain ⟨kk, hkk⟩ : ∃ kk, kk = u / 8 := ⟨_, rfl⟩
  obtain ⟨rr, hr8⟩ : ∃ rr, rr = u % 8 := ⟨_, rfl⟩
  obtain ⟨b8, hm2, hsh⟩ := sh_u8 rr (by omega)
  rw [← hkk] at gld gfd
  have f1 : (0 : Int) ≤ (kk : Int) := by omega
  have f2 : (kk : Int) < (n : Int) := by omega
  have f3 : kk < n := by omega
  obtain ⟨Z, hZ⟩ : ∃ Z : Int, Z = (u : Int) := ⟨_, rfl⟩
  have hZ0 : 0 ≤ Z := by omega
  have d2 : Z.tdiv 8 = (kk : Int) := by rw [Int.tdiv_eq_ediv_of_nonneg hZ0]; omega
  have d3 : Z.tmod 8 = (rr : Int) := by rw [Int.tmod_eq_emod_of_nonneg hZ0]; omega
  have e2 : IntKind.i64.wrap (Z.tdiv 8) = (kk : Int) := by rw [d2]; exact IntWalk.i64_in _ (by omega)
  have e4 : IntKind.i64.wrap (Z.tmod 8) = (rr : Int) := by rw [d3]; exact IntWalk.i64_in _ (by omega)
  rw [← hZ]
  have HKK := hid hkk; have HR8 := hid hr8; have HM2 := hid hm2; have HR9 := hid (show rr < 8 by omega); have HZ := hid hZ
  clear d2 hZ hul2 hsb gl hkk hr8 hm2 w1m hrem2 hd0 hd1
  refine wp_region_still_tail 9 (by kernel_rfl) (by kernel_rfl) ?_
  simp only [List.take_succ_cons, List.take_zero, List.drop_succ_cons, List.drop_zero]
  change wpStill _ _ w5.drew _ _ _
  repeat still_step
  refine wpStill_nil ?_
  go_wp2_with fail
  have hxv := xo_8 sb b8
  have hp8 : (2 : Int) ^ min rr 8 % 256 = (b8.toNat : Int) := by rw [HM2.out]; exact po_8 rr HR9.out
  rw [hp8, hxv]
  generalize IntKind.u8.wrap (2 ^ min rr 8) = z8
  clear e2 e4 hsh d3 f1 f2 f3 gfd gld
  clear hxv hp8
  obtain ⟨w6, hw6⟩ : ∃ w6, w6 = (w5.setCell ⟨g, kk, none⟩ (.int .u8 ((sb ^^^ b8).toNat : Int))).drew := ⟨_, rfl⟩
  rw [← hw6]
  have k6 : Kept [g] w5 w6 := by rw [hw6]; exact (kset w5 g kk _).drew
  obtain ⟨tx, htx⟩ : ∃ tx, tx = flipB xs u := ⟨_, rfl⟩
  have hflip : tx = xs.set kk (sb ^^^ b8) := by
    rw [htx]
    unfold flipB
    rw [← HKK.out, HM2.out, HR8.out]
    have h1 := Hsb.out
    rw [← HKK.out] at h1
    rw [List.getD_eq_getElem?_getD, h1]
    rfl
  have HTX := hid htx
  have htl := hid (show tx.length = n from by rw [htx, flip_len, HN.out])
  have O6 := hid (show w6.ownsRow z5.heap.size 5 1 (.slice (some ⟨g, 0, none⟩) n c5) n (tx.map B) from by
    rw [hw6, hflip]
    exact own_sb (w := w5) O5.out kk (sb ^^^ b8))
  have C7 := hid (C6.out.keep k6 (fun v hv hm => by simp at hm; subst hm; exact hgU.out.1 hv) (fun v hv => by simp at hv; subst hv; have h1 := C5.out.kept.size; have h2 := own_block_ge O5.out v rfl; omega))
  have T0c := hid (k6.at T0b.out (by simp; have := hgU.out; omega)); have T1c := hid (k6.at T1b.out (by simp; have := hgU.out; omega))
  clear hflip htx hw6 k6 C6 C5 T0b T1b O5
  obtain ⟨r1, hr1⟩ : ∃ r, r = decide (x = y) := ⟨_, rfl⟩
  have heq := hid (show ∀ v : World, (Op.equalIn 10000 34 (.agg ix) (.agg iy)).run Tryd.prog v = .ok r1 v from fun v => by rw [IX.out, IY.out, hr1]; exact id_equal _ _ Lx.out Ly.out v)
  have HR1 := hid hr1
  have ldx := hid (fun v (hv : Kept [] w6 v) => (show (loadVar 34 ⟨q, 0, none⟩).run Tryd.prog v = .ok (.agg ix) v from by have h1 := ld_idB v q x Lx.out (by rw [← IX.out]; exact hv.at T0c.out (by simp)); rw [← IX.out] at h1; exact h1))
  have ldy := hid (fun v (hv : Kept [] w6 v) => (show (loadVar 34 ⟨q + 1, 0, none⟩).run Tryd.prog v = .ok (.agg iy) v from by have h1 := ld_idB v (q + 1) y Ly.out (by rw [← IY.out]; exact hv.at T1c.out (by simp)); rw [← IY.out] at h1; exact h1))
  have hH0 : Kept [] w6 w6.drew := (Kept.refl [] w6).drew
  clear hr1
  cases r1
  · obtain ⟨tg, htg⟩ : ∃ tg, tg = Sha.sum tx := ⟨_, rfl⟩
    have Lt := hid (show tg.length = 32 from by rw [htg]; exact Sha.sum_len _)
    obtain ⟨it, hit⟩ : ∃ i, i = (tg.map B).toArray := ⟨_, rfl⟩
    have hof := hid (fun v (hv : Kept [] w6 v) => (show Calls Tryd.prog 11 #[.slice (some ⟨g, 0, none⟩) n c5] v fun e w' => e = .returned (.agg it) ∧ Kept [] v w' from by
      have h1 := refof_sum (some ⟨g, 0, none⟩) c5 tx v (reads_row (hv.owns O6.out (by simp))).1 (by simp) (by rw [htl.out]; omega)
      rw [htl.out, ← htg, ← hit] at h1
      exact h1))
    obtain ⟨r2, hr2⟩ : ∃ r, r = decide (tg = x) := ⟨_, rfl⟩
    have heq2 := hid (show ∀ v : World, (Op.equalIn 10000 34 (.agg it) (.agg ix)).run Tryd.prog v = .ok r2 v from fun v => by rw [hit, IX.out, hr2]; exact id_equal _ _ Lt.out Lx.out v)
    have HR2 := hid hr2; have HTG := hid htg
    clear htg hit hr2
    refine wp_region_held_drew (S := fun v => Kept [] w6 v) (by kernel_rfl) hH0 (fun hH => ?_)
    refine takeH 0 (.agg ix) rfl (by kernel_rfl) (by kernel_rfl) (by kernel_rfl) (fun _ _ _ h => h) (by rfl) (fun v hv => by have h := ldx.out v hv; unfold execOp; simp [Instr.loadAt, Instr.sureAddr, Sem.run_bind, Sem.run_pure, Result.andThen_ok, Act.eval, h]) hH ?_
    simp only [Act.put, List.setIfInBounds_toArray, List.set_cons_succ, List.set_cons_zero]
    refine takeH 1 (.agg iy) rfl (by kernel_rfl) (by kernel_rfl) (by kernel_rfl) (fun _ _ _ h => h) (by rfl) (fun v hv => by have h := ldy.out v hv; unfold execOp; simp [Instr.loadAt, Instr.sureAddr, Sem.run_bind, Sem.run_pure, Result.andThen_ok, Act.eval, h]) hH ?_
    simp only [Act.put, List.setIfInBounds_toArray, List.set_cons_succ, List.set_cons_zero]
    refine takeH 2 (.bool false) rfl (by kernel_rfl) (by kernel_rfl) (by kernel_rfl) (fun _ _ _ h => h) (by rfl) (fun v hv => by have h := heq.out v; go_simp) hH ?_
    simp only [Act.put, List.setIfInBounds_toArray, List.set_cons_succ, List.set_cons_zero]
    refine takeH 3 (.bool false) rfl (by kernel_rfl) (by kernel_rfl) (by kernel_rfl) (fun _ _ _ h => h) (by rfl) (fun v hv => by go_simp) hH ?_
    simp only [Act.put, List.setIfInBounds_toArray, List.set_cons_succ, List.set_cons_zero]
    refine takeH 4 (.slice (some ⟨g, 0, none⟩) n c5) rfl (by kernel_rfl) (by kernel_rfl) (by kernel_rfl) (fun _ _ _ h => h) (by rfl) (fun v hv => by go_simp) hH ?_
    simp only [Act.put, List.setIfInBounds_toArray, List.set_cons_succ, List.set_cons_zero]
    refine takeH 6 (.agg ix) rfl (by kernel_rfl) (by kernel_rfl) (by kernel_rfl) (fun _ _ _ h => h) (by rfl) (fun v hv => by have h := ldx.out v hv; unfold execOp; simp [Instr.loadAt, Instr.sureAddr, Sem.run_bind, Sem.run_pure, Result.andThen_ok, Act.eval, h]) hH ?_
    simp only [Act.put, List.setIfInBounds_toArray, List.set_cons_succ, List.set_cons_zero]
    refine callR 5 rfl (by kernel_rfl) (by rfl) 11 #[.slice (some ⟨g, 0, none⟩) n c5] (by go_simp) (.agg it) (fun v => Kept [] w6.drew v) (fun v h => hH0.trans h) (hof.out _ hH0) ?_
    rintro v7 k7
    simp only [Act.put, List.setIfInBounds_toArray, List.set_cons_succ, List.set_cons_zero]
    have hH7 : Kept [] w6 v7 := hH0.trans k7
    refine takeH 7 (.bool r2) rfl (by kernel_rfl) (by kernel_rfl) (by kernel_rfl) (fun _ _ _ h => h) (by rfl) (fun v hv => by have h := heq2.out v; go_simp) hH7 ?_
    simp only [Act.put, List.setIfInBounds_toArray, List.set_cons_succ, List.set_cons_zero]
    refine takeH 8 (.bool r2) rfl (by kernel_rfl) (by kernel_rfl) (by kernel_rfl) (fun _ _ _ h => h) (by rfl) (fun v hv => by go_simp) hH7 ?_
    simp only [Act.put, List.setIfInBounds_toArray, List.set_cons_succ, List.set_cons_zero]
    refine wpAnyH_done (by kernel_rfl) ?_ _
    have H7 := hid hH7
    clear hH7 k7 hH hH0 hof heq heq2
    cases r2
    · have hxy : x ≠ y := by have h1 := HR1.out; intro h; rw [decide_eq_true h] at h1; cases h1
      have htx : tg ≠ x := by have h1 := HR2.out; intro h; rw [decide_eq_true h] at h1; cases h1
      have hd8 : d = 8 * n := HD.out
      have hZu := HZ.out
      have hul := HUL.out
      have hn := HN.out
      have hm := HM.out
      have hxn := HNE.out
      have p2 : putD 1000 [(x, xs)] ys = [(x, xs), (y, ys)] := by
        unfold putD
        rw [← YS.out, if_neg (by omega)]
        have e1 : dropD y [(x, xs)] = [(x, xs)] := by simp [dropD, hxy]
        rw [e1, evict_stop (by simp [szD]; omega)]
        rfl
      have c7 := C7.out
      rw [p2] at c7
      have s1 := hid (show spoilL x Z [(x, xs), (y, ys)] = some [(x, tx), (y, ys)] from by
        simp [spoilL, findD, hxn, hxy.symm]
        rw [hZu, bitAt_small u xs (by omega), ← HTX.out])
      have htn : tx ≠ [] := by intro h; have h1 := htl.out; rw [h] at h1; simp at h1; omega
      have s2 := hid (show spoilL x (Z - (d : Int)) [(x, tx), (y, ys)] = some [(x, xs), (y, ys)] from by
        simp [spoilL, findD, htn, hxy.symm]
        rw [hZu, hd8, ← htl.out, bitAt_less u tx (by rw [htl.out]; omega), HTX.out, flip_twice xs u (by omega)])
      have g1 := hid (show getO x [(x, xs), (y, ys)] = some xs from by simp [getO, findD, ← XS.out])
      have g1l := hid (show getL x [(x, xs), (y, ys)] = [(y, ys), (x, xs)] from by unfold getL; rw [g1.out]; simp [dropD, hxy.symm])
      have s3 := hid (show spoilL x Z [(y, ys), (x, xs)] = some [(y, ys), (x, tx)] from by
        simp [spoilL, findD, hxn, hxy.symm]
        rw [hZu, bitAt_small u xs (by omega), ← HTX.out])
      have g2 := hid (show getO x [(y, ys), (x, tx)] = none from by simp [getO, findD, hxy.symm, ← HTG.out, htx])
      have g2l := hid (show getL x [(y, ys), (x, tx)] = [(y, ys)] from by unfold getL; rw [g2.out]; simp [dropD, hxy.symm])
      have g3 := hid (show getO x [(y, ys)] = none from by simp [getO, findD, hxy.symm])
      have g3l := hid (show getL x [(y, ys)] = [(y, ys)] from by unfold getL; rw [g3.out]; simp [dropD, hxy.symm])
      have g4 := hid (show getO y [(y, ys)] = some ys from by simp [getO, findD, ← YS.out])
      have g4l := hid (show getL y [(y, ys)] = [(y, ys)] from by unfold getL; rw [g4.out]; simp [dropD])
      have z1 := hid (show szD [(x, xs), (y, ys)] ≤ 100000000 ∧ szD [(x, tx), (y, ys)] ≤ 100000000 ∧ szD [(y, ys), (x, xs)] ≤ 100000000 ∧ szD [(y, ys), (x, tx)] ≤ 100000000 ∧ szD [(y, ys)] ≤ 100000000 ∧ szD [(y, ys)] = m from by
        have h1 := htl.out
        simp [szD]
        omega)
      have C8 := hid (c7.keep0 H7.out)
      have T0d := hid (H7.out.at T0c.out (by simp)); have T1d := hid (H7.out.at T1c.out (by simp))
      have hqU2 := hid (show q ∉ U4 ∧ q + 1 ∉ U4 from ⟨fun h => by have := hqU.out q h; omega, fun h => by have := hqU.out _ h; omega⟩)
      have zb : -9223372036854775808 ≤ Z ∧ Z ≤ 9223372036854775807 := by omega
      have zb2 : -9223372036854775808 ≤ Z - (d : Int) ∧ Z - (d : Int) ≤ 9223372036854775807 := by omega
      obtain ⟨Zd, hZd⟩ : ∃ Zd : Int, Zd = Z - (d : Int) := ⟨_, rfl⟩
      have w1m : IntKind.i64.wrap (8 * (n : Int)) = (d : Int) := by rw [IntKind.wrap_i64]; omega
      have w2m : IntKind.i64.wrap (Z - (d : Int)) = Zd := by rw [hZd, IntKind.wrap_i64]; omega
      have ZB := hid zb; have ZB2 := hid zb2; have HZD := hid hZd
      rw [← hZd] at s2
      clear hxy htx hd8 hZu hul hn hm hxn p2 c7 htn zb zb2 hZd C7 H7 T0c T1c ldx ldy
      go_wp2_with fail
      have lx2 := hid (fun v (hv : Kept U4 v7 v) => (show (loadVar 34 ⟨q, 0, none⟩).run Tryd.prog v = .ok (.agg ix) v from by have h1 := ld_idB v q x Lx.out (by rw [← IX.out]; exact hv.at T0d.out hqU2.out.1); rw [← IX.out] at h1; exact h1))
      have hH8 : Kept U4 v7 v7.drew := (Kept.refl U4 v7).drew
      have cc8 := C8.out.keep0 ((Kept.refl [] v7).drew)
      have hsp1 := hid (cs_spoil cc8 z1.out.1 x Lx.out Z ZB.out.1 ZB.out.2)
      rw [← IX.out, s1.out] at hsp1
      simp only [Option.isSome_some, Option.getD_some] at hsp1
      clear cc8
      refine wp_region_held_drew (S := fun v => Kept U4 v7 v) (by kernel_rfl) hH8 (fun hH7 => ?_)
      refine takeH 0 (.pointer (some ⟨p, 0, none⟩)) rfl (by kernel_rfl) (by kernel_rfl) (by kernel_rfl) (fun _ _ _ h => h) (by rfl) (fun v hv => by go_simp) hH7 ?_
      simp only [Act.put, List.setIfInBounds_toArray, List.set_cons_succ, List.set_cons_zero]
      refine takeH 1 (.agg ix) rfl (by kernel_rfl) (by kernel_rfl) (by kernel_rfl) (fun _ _ _ h => h) (by rfl) (fun v hv => by have h := lx2.out v hv; unfold execOp; simp [Instr.loadAt, Instr.sureAddr, Sem.run_bind, Sem.run_pure, Result.andThen_ok, Act.eval, h]) hH7 ?_
      simp only [Act.put, List.setIfInBounds_toArray, List.set_cons_succ, List.set_cons_zero]
      refine takeH 2 (.int .i64 Z) rfl (by kernel_rfl) (by kernel_rfl) (by kernel_rfl) (fun _ _ _ h => h) (by rfl) (fun v hv => by go_simp) hH7 ?_
      simp only [Act.put, List.setIfInBounds_toArray, List.set_cons_succ, List.set_cons_zero]
      refine takeH 4 (.pointer (some ⟨p, 0, none⟩)) rfl (by kernel_rfl) (by kernel_rfl) (by kernel_rfl) (fun _ _ _ h => h) (by rfl) (fun v hv => by go_simp) hH7 ?_
      simp only [Act.put, List.setIfInBounds_toArray, List.set_cons_succ, List.set_cons_zero]
      refine takeH 5 (.agg ix) rfl (by kernel_rfl) (by kernel_rfl) (by kernel_rfl) (fun _ _ _ h => h) (by rfl) (fun v hv => by have h := lx2.out v hv; unfold execOp; simp [Instr.loadAt, Instr.sureAddr, Sem.run_bind, Sem.run_pure, Result.andThen_ok, Act.eval, h]) hH7 ?_
      simp only [Act.put, List.setIfInBounds_toArray, List.set_cons_succ, List.set_cons_zero]
      refine takeH 6 (.int .i64 Z) rfl (by kernel_rfl) (by kernel_rfl) (by kernel_rfl) (fun _ _ _ h => h) (by rfl) (fun v hv => by go_simp) hH7 ?_
      simp only [Act.put, List.setIfInBounds_toArray, List.set_cons_succ, List.set_cons_zero]
      refine takeH 7 (.slice a0 n c0) rfl (by kernel_rfl) (by kernel_rfl) (by kernel_rfl) (fun _ _ _ h => h) (by rfl) (fun v hv => by go_simp) hH7 ?_
      simp only [Act.put, List.setIfInBounds_toArray, List.set_cons_succ, List.set_cons_zero]
      refine takeH 8 (.int .i64 (n : Int)) rfl (by kernel_rfl) (by kernel_rfl) (by kernel_rfl) (fun _ _ _ h => h) (by rfl) (fun v hv => by go_simp) hH7 ?_
      simp only [Act.put, List.setIfInBounds_toArray, List.set_cons_succ, List.set_cons_zero]
      refine takeH 9 (.int .i64 (d : Int)) rfl (by kernel_rfl) (by kernel_rfl) (by kernel_rfl) (fun _ _ _ h => h) (by rfl) (fun v hv => by go_simp) hH7 ?_
      simp only [Act.put, List.setIfInBounds_toArray, List.set_cons_succ, List.set_cons_zero]
      refine takeH 10 (.int .i64 Zd) rfl (by kernel_rfl) (by kernel_rfl) (by kernel_rfl) (fun _ _ _ h => h) (by rfl) (fun v hv => by go_simp) hH7 ?_
      simp only [Act.put, List.setIfInBounds_toArray, List.set_cons_succ, List.set_cons_zero]
      refine callR 3 rfl (by kernel_rfl) (by rfl) 18 #[.pointer (some ⟨p, 0, none⟩), .agg ix, .int .i64 Z] (by go_simp) (.bool true) (fun v => Kept U4 v7.drew v ∧ CS w v U4 p 1000 [(x, tx), (y, ys)]) (fun v h => hH8.trans h.1) (hsp1.out) ?_
      rintro v8 ⟨k8, c8⟩
      simp only [Act.put, List.setIfInBounds_toArray, List.set_cons_succ, List.set_cons_zero]
      have hsp2 := hid (cs_spoil c8 z1.out.2.1 x Lx.out Zd (by rw [HZD.out]; exact ZB2.out.1) (by rw [HZD.out]; exact ZB2.out.2))
      rw [← IX.out, s2.out] at hsp2
      simp only [Option.isSome_some, Option.getD_some] at hsp2
      refine callR 11 rfl (by kernel_rfl) (by rfl) 18 #[.pointer (some ⟨p, 0, none⟩), .agg ix, .int .i64 Zd] (by go_simp) (.bool true) (fun v => Kept U4 v8 v ∧ CS w v U4 p 1000 [(x, xs), (y, ys)]) (fun v h => (hH8.trans k8).trans h.1) (hsp2.out) ?_
      rintro v9 ⟨k9, c9⟩
      simp only [Act.put, List.setIfInBounds_toArray, List.set_cons_succ, List.set_cons_zero]
      refine takeH 12 (.bool true) rfl (by kernel_rfl) (by kernel_rfl) (by kernel_rfl) (fun _ _ _ h => h) (by rfl) (fun v hv => by go_simp) ((hH8.trans k8).trans k9) ?_
      simp only [Act.put, List.setIfInBounds_toArray, List.set_cons_succ, List.set_cons_zero]
      refine takeH 13 (.bool true) rfl (by kernel_rfl) (by kernel_rfl) (by kernel_rfl) (fun _ _ _ h => h) (by rfl) (fun v hv => by go_simp) ((hH8.trans k8).trans k9) ?_
      simp only [Act.put, List.setIfInBounds_toArray, List.set_cons_succ, List.set_cons_zero]
      refine wpAnyH_done (by kernel_rfl) ?_ _
      have k79 := (hH8.trans k8).trans k9
      have T0 := hid (k79.at T0d.out hqU2.out.1); have T1 := hid (k79.at T1d.out hqU2.out.2)
      have C := hid c9
      clear hH8 k8 k9 k79 c8 c9 hsp1 hsp2 lx2 T0d T1d C8 w1m w2m
      have LD := hid (show (loadVar 34 ⟨q, 0, none⟩).run Tryd.prog v9 = .ok (.agg ix) v9 from by have h1 := ld_idB v9 (q) x Lx.out (by rw [← IX.out]; exact T0.out); rw [← IX.out] at h1; exact h1)
      have hg := hid (cs_get C.out z1.out.1 (by simp) x Lx.out)
      rw [← IX.out, g1.out, g1l.out] at hg
      simp only [Option.isSome_some] at hg
      go_wp2_with (refine wpList_ldv rfl 34 (.tmp 8) rfl ⟨q, 0, none⟩ rfl (.agg ix) LD.out ?_; refine halt ?_)
      refine Halt.mk ?_
      go_wp2_with fail
      refine hg.out.mono ?_
      rintro e y1 ⟨ga, U5, rfl, k10, m10, c10, ha⟩
      have OG := hid (Out.of ha)
      obtain ⟨ga1, gc1, rfl⟩ : ∃ a c, ga = .slice a xs.length c := by obtain ⟨base, h1⟩ := OG.out.row; obtain ⟨a, c, e⟩ := owns_slice h1; exact ⟨a, c, e⟩
      have hqU5 := hid (show ∀ v ∈ U5, v ≠ q ∧ v ≠ q + 1 from fun v hv => by
        rcases m10.1 v hv with h | h
        · have := hqU.out v h; omega
        · have := lt_of_block T1.out; omega)
      have T0a := hid (k10.at T0.out hqU2.out.1); have T1a := hid (k10.at T1.out hqU2.out.2)
      have CC := hid c10
      rw [← HN.out]
      clear ha k10 m10 c10 hg LD C T0 T1 hqU2
      have LD := hid (show (loadVar 34 ⟨q, 0, none⟩).run Tryd.prog y1 = .ok (.agg ix) y1 from by have h1 := ld_idB y1 (q) x Lx.out (by rw [← IX.out]; exact T0a.out); rw [← IX.out] at h1; exact h1)
      have hg := hid (cs_spoil CC.out z1.out.2.2.1 x Lx.out Z ZB.out.1 ZB.out.2)
      rw [← IX.out, s3.out] at hg
      simp only [Option.isSome_some, Option.getD_some] at hg
      go_wp2_with (refine wpList_ldv rfl 34 (.tmp 8) rfl ⟨q, 0, none⟩ rfl (.agg ix) LD.out ?_; refine halt ?_)
      refine Halt.mk ?_
      go_wp2_with fail
      refine hg.out.mono ?_
      rintro e y2 ⟨rfl, k11, c11⟩
      have OG2 := hid (OG.out.next k11 (More.refl _ _ _))
      have T0b := hid (k11.at T0a.out (fun h => (hqU5.out _ h).1 rfl)); have T1b := hid (k11.at T1a.out (fun h => (hqU5.out _ h).2 rfl))
      have C := hid c11
      clear k11 c11 hg LD CC T0a T1a OG
      have LD := hid (show (loadVar 34 ⟨q, 0, none⟩).run Tryd.prog y2 = .ok (.agg ix) y2 from by have h1 := ld_idB y2 (q) x Lx.out (by rw [← IX.out]; exact T0b.out); rw [← IX.out] at h1; exact h1)
      have hg := hid (cs_get C.out z1.out.2.2.2.1 (by simp) x Lx.out)
      rw [← IX.out, g2.out, g2l.out] at hg
      simp only [Option.isSome_none] at hg
      go_wp2_with (refine wpList_ldv rfl 34 (.tmp 8) rfl ⟨q, 0, none⟩ rfl (.agg ix) LD.out ?_; refine halt ?_)
      refine Halt.mk ?_
      go_wp2_with fail
      refine hg.out.mono ?_
      rintro e y3 ⟨gb, U6, rfl, k12, m12, c12, ha⟩
      have ha : gb = .slice none 0 0 := ha
      subst ha
      have OG3 := hid (OG2.out.next k12 m12)
      have hqU6 := hid (show ∀ v ∈ U6, v ≠ q ∧ v ≠ q + 1 from fun v hv => by
        rcases m12.1 v hv with h | h
        · exact hqU5.out v h
        · have := lt_of_block T1b.out; omega)
      have T0c := hid (k12.at T0b.out (fun h => (hqU5.out _ h).1 rfl)); have T1c := hid (k12.at T1b.out (fun h => (hqU5.out _ h).2 rfl))
      have CC := hid c12
      clear k12 m12 c12 hg LD C T0b T1b OG2 hqU5
      have LD := hid (show (loadVar 34 ⟨q, 0, none⟩).run Tryd.prog y3 = .ok (.agg ix) y3 from by have h1 := ld_idB y3 (q) x Lx.out (by rw [← IX.out]; exact T0c.out); rw [← IX.out] at h1; exact h1)
      have hg := hid (cs_get CC.out z1.out.2.2.2.2.1 (by simp) x Lx.out)
      rw [← IX.out, g3.out, g3l.out] at hg
      simp only [Option.isSome_none] at hg
      go_wp2_with (refine wpList_ldv rfl 34 (.tmp 8) rfl ⟨q, 0, none⟩ rfl (.agg ix) LD.out ?_; refine halt ?_)
      refine Halt.mk ?_
      go_wp2_with fail
      refine hg.out.mono ?_
      rintro e y4 ⟨gb, U7, rfl, k13, m13, c13, ha⟩
      have ha : gb = .slice none 0 0 := ha
      subst ha
      have OG4 := hid (OG3.out.next k13 m13)
      have T1d := hid (k13.at T1c.out (fun h => (hqU6.out _ h).2 rfl))
      have C := hid c13
      clear k13 m13 c13 hg LD CC T0c T1c OG3 hqU6
      have LD := hid (show (loadVar 34 ⟨q + 1, 0, none⟩).run Tryd.prog y4 = .ok (.agg iy) y4 from by have h1 := ld_idB y4 (q + 1) y Ly.out (by rw [← IY.out]; exact T1d.out); rw [← IY.out] at h1; exact h1)
      have hg := hid (cs_get C.out z1.out.2.2.2.2.1 (by simp) y Ly.out)
      rw [← IY.out, g4.out, g4l.out] at hg
      simp only [Option.isSome_some] at hg
      go_wp2_with (refine wpList_ldv rfl 34 (.tmp 9) rfl ⟨q + 1, 0, none⟩ rfl (.agg iy) LD.out ?_; refine halt ?_)
      refine Halt.mk ?_
      go_wp2_with fail
      refine hg.out.mono ?_
      rintro e y5 ⟨gb, U8, rfl, k14, m14, c14, ha⟩
      have OB := hid (Out.of ha)
      obtain ⟨gb1, gd1, rfl⟩ : ∃ a c, gb = .slice a ys.length c := by obtain ⟨base, h1⟩ := OB.out.row; obtain ⟨a, c, e⟩ := owns_slice h1; exact ⟨a, c, e⟩
      have OG5 := hid (OG4.out.next k14 m14)
      have CC := hid c14
      have hsame1 := hid (same_deck ga1 a0 gc1 c0 xs xs y5 (OG5.out.src rfl) (src_reads (hrx.out y5 CC.out.kept) HXC.out.2.2))
      have hsame2 := hid (same_deck gb1 a1 gd1 c1 ys ys y5 (OB.out.src rfl) (src_reads (hry.out y5 CC.out.kept) HYC.out.2.2))
      simp only [decide_true] at hsame1 hsame2
      have hle := hid (cs_len CC.out)
      have hsi := hid (cs_size CC.out)
      rw [z1.out.2.2.2.2.2] at hsi
      rw [← HN.out] at hsame1
      rw [← HM.out] at hsame2 ⊢
      clear ha k14 m14 c14 hg LD C T1d OG4
      go_wp2_with fail
      refine hsame1.out.mono ?_
      rintro e y6 ⟨rfl, rfl⟩
      go_wp2_with fail
      refine hsame2.out.mono ?_
      rintro e y6 ⟨rfl, rfl⟩
      go_wp2_with fail
      refine hle.out.mono ?_
      rintro e y6 ⟨rfl, rfl⟩
      go_wp2_with fail
      refine hsi.out.mono ?_
      rintro e y6 ⟨rfl, rfl⟩
      have hmm : ((m : Int) == (m : Int)) = true := by simp
      go_wp2
      go_ret
      exact ⟨rfl, CC.out.kept⟩
    · go_wp2
      go_ret
      exact ⟨rfl, C7.out.kept.trans H7.out⟩
  · skip
    refine wp_region_held_drew (S := fun v => Kept [] w6 v) (by kernel_rfl) hH0 (fun hH => ?_)
    refine takeH 0 (.agg ix) rfl (by kernel_rfl) (by kernel_rfl) (by kernel_rfl) (fun _ _ _ h => h) (by rfl) (fun v hv => by have h := ldx.out v hv; unfold execOp; simp [Instr.loadAt, Instr.sureAddr, Sem.run_bind, Sem.run_pure, Result.andThen_ok, Act.eval, h]) hH ?_
    simp only [Act.put, List.setIfInBounds_toArray, List.set_cons_succ, List.set_cons_zero]
    refine takeH 1 (.agg iy) rfl (by kernel_rfl) (by kernel_rfl) (by kernel_rfl) (fun _ _ _ h => h) (by rfl) (fun v hv => by have h := ldy.out v hv; unfold execOp; simp [Instr.loadAt, Instr.sureAddr, Sem.run_bind, Sem.run_pure, Result.andThen_ok, Act.eval, h]) hH ?_
    simp only [Act.put, List.setIfInBounds_toArray, List.set_cons_succ, List.set_cons_zero]
    refine takeH 2 (.bool true) rfl (by kernel_rfl) (by kernel_rfl) (by kernel_rfl) (fun _ _ _ h => h) (by rfl) (fun v hv => by have h := heq.out v; go_simp) hH ?_
    simp only [Act.put, List.setIfInBounds_toArray, List.set_cons_succ, List.set_cons_zero]
    refine takeH 3 (.bool true) rfl (by kernel_rfl) (by kernel_rfl) (by kernel_rfl) (fun _ _ _ h => h) (by rfl) (fun v hv => by go_simp) hH ?_
    simp only [Act.put, List.setIfInBounds_toArray, List.set_cons_succ, List.set_cons_zero]
    refine skipH 4 rfl (by kernel_rfl) (by kernel_rfl) (by kernel_rfl) (fun _ _ _ h => h) (by rfl) hH ?_
    simp only [Act.put, List.setIfInBounds_toArray, List.set_cons_succ, List.set_cons_zero]
    refine skipH 5 rfl (by kernel_rfl) (by kernel_rfl) (by kernel_rfl) (fun _ _ _ h => h) (by rfl) hH ?_
    simp only [Act.put, List.setIfInBounds_toArray, List.set_cons_succ, List.set_cons_zero]
    refine skipH 6 rfl (by kernel_rfl) (by kernel_rfl) (by kernel_rfl) (fun _ _ _ h => h) (by rfl) hH ?_
    simp only [Act.put, List.setIfInBounds_toArray, List.set_cons_succ, List.set_cons_zero]
    refine skipH 7 rfl (by kernel_rfl) (by kernel_rfl) (by kernel_rfl) (fun _ _ _ h => h) (by rfl) hH ?_
    simp only [Act.put, List.setIfInBounds_toArray, List.set_cons_succ, List.set_cons_zero]
    refine takeH 8 (.bool true) rfl (by kernel_rfl) (by kernel_rfl) (by kernel_rfl) (fun _ _ _ h => h) (by rfl) (fun v hv => by go_simp) hH ?_
    simp only [Act.put, List.setIfInBounds_toArray, List.set_cons_succ, List.set_cons_zero]
    refine wpAnyH_done (by kernel_rfl) ?_ _
    go_wp2
    go_ret
    exact ⟨rfl, C7.out.kept.trans hH⟩
end Go.Proofs.YtfefpblneihmgaaDoor
