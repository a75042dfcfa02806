/- coldstorelaw03.ShaParts, walked. -/
import Derived.Test.YtplnfadonbhcoaaDoorHD
import Derived.OpenShut
namespace Go.Proofs.YtplnfadonbhcoaaDoor
open Go.RowKit

theorem i64_and127 (n : Int) : bits .and .i64 n 127 = n % 128 := by
  have h7 : (BitVec.ofInt 64 127).toNat = 2 ^ 7 - 1 := by decide
  have key : (BitVec.ofInt 64 n &&& BitVec.ofInt 64 127).toNat = (n % ((2 ^ 64 : Nat) : Int)).toNat % 2 ^ 7 := by
    rw [BitVec.toNat_and, BitVec.toNat_ofInt, h7, Nat.and_two_pow_sub_one_eq_mod]
  show IntKind.i64.wrap ((BitVec.ofInt 64 n &&& BitVec.ofInt 64 127).toNat : Nat) = n % 128
  rw [key, IntKind.wrap_i64]
  omega

theorem add_zero' (x : Addr) : x.add 0 = x := by simp [Addr.add]
theorem slice_pre (a : Option Addr) (m c n : Nat) (h : n ≤ m) (hmc : m ≤ c) (W : World) : (Instr.sliceAt 22 (.slice a m c) none (some (.int .i64 (n : Int))) none).run Tryd.prog W = .ok (.slice a n c) W := by
  rw [run_sliceAt_slice W 22 _ _ _ _ (by simp [Program.elem, Tryd.underlying22])]
  have hs : (sizeOf 5).run Tryd.prog W = .ok 1 W := by kernel_rfl
  rw [run_slice_h W 22 _ _ _ (by simp [Program.elem, Tryd.underlying22]) .i64 (n : Int) (by omega) (by omega), elem_u8, hs]
  cases a <;> simp [Result.andThen, sliced, add_zero']
theorem Reads.take {w : World} {a : Option Addr} {zs : List UInt8} (h : Reads w a zs) (n : Nat) : Reads w a (zs.take n) :=
  ⟨fun ha => by rw [h.1 ha]; simp, fun ad had j u hj => h.2 ad had j u (by
    rw [List.getElem?_map, List.getElem?_take] at hj
    rw [List.getElem?_map]
    split at hj
    · exact hj
    · simp at hj)⟩
theorem slice_cut (a : Option Addr) (m c n : Nat) (h : n ≤ m) (hmc : m ≤ c) (hn : a = none → c = 0) : ∃ a' : Option Addr, (∀ W, (Instr.sliceAt 22 (.slice a m c) (some (.int .i64 (n : Int))) none none).run Tryd.prog W = .ok (.slice a' (m - n) (c - n)) W) ∧
    (∀ w (zs : List UInt8), zs.length = m → Reads w a zs → Reads w a' (zs.drop n)) ∧ (a' = none → c = 0) := by
  refine ⟨if c = n then a else a.map (·.add n), fun W => ?_, fun w zs hz hr => ?_, fun ha => ?_⟩
  · rw [run_sliceAt_slice W 22 _ _ _ _ (by simp [Program.elem, Tryd.underlying22])]
    have hs : (sizeOf 5).run Tryd.prog W = .ok 1 W := by kernel_rfl
    rw [run_slice_l W 22 _ _ _ (by simp [Program.elem, Tryd.underlying22]) .i64 (n : Int) (by omega) (by omega), elem_u8, hs]
    simp [Result.andThen, sliced]
  · by_cases hcn : c = n
    · rw [if_pos hcn, List.drop_eq_nil_of_le (by omega)]
      exact ⟨fun _ => rfl, fun _ _ j u hj => by simp at hj⟩
    · rw [if_neg hcn]
      refine ⟨fun ha => ?_, fun ad had j u hj => ?_⟩
      · have : a = none := by cases a <;> simp_all
        rw [hr.1 this]; simp
      · obtain ⟨x, rfl, rfl⟩ : ∃ x, a = some x ∧ x.add n = ad := by cases a <;> simp_all
        rw [add_add]
        exact hr.2 x rfl (n + j) u (by rw [List.getElem?_map] at hj ⊢; rw [List.getElem?_drop] at hj; exact hj)
  · split at ha
    · exact hn ha
    · cases a <;> simp_all

/-- A handed row of bytes, as its bytes. -/
theorem bytes_of_row {w : World} {a : Option Addr} {len cap : Nat} {zs : List Int} (h : (a = none ∧ len = 0 ∧ cap = 0 ∧ zs = []) ∨
    ∃ x, a = some x ∧ len ≤ cap ∧ cap ≤ maxLen ∧ zs.length = cap ∧ (∀ i, i < zs.length → w.cell? (x.add i) = some (.int .u8 (zs.getD i 0))) ∧ ∀ n ∈ zs, (Lit.int .u8 n).wf = true) :
    ∃ ys : List UInt8, len = ys.length ∧ Reads w a ys ∧ ys.length ≤ cap ∧ cap ≤ 9223372036854775807 ∧ (a = none → cap = 0) := by
  rcases h with ⟨rfl, rfl, rfl, rfl⟩ | ⟨x, rfl, hl, hm, hz, hc, hw⟩
  · exact ⟨[], rfl, ⟨fun _ => rfl, fun _ h => by simp at h⟩, by simp, by omega, fun _ => rfl⟩
  · refine ⟨(zs.take len).map fun z => UInt8.ofNat z.toNat, by simp; omega, ⟨fun h => by simp at h, fun ad had j u hj => ?_⟩, by simp; omega, by unfold maxLen at hm; omega, fun h => by simp at h⟩
    simp at had
    subst had
    rw [List.map_map, List.getElem?_map, List.getElem?_take] at hj
    split at hj
    · rename_i hjl
      have hjz : j < zs.length := by omega
      rw [List.getElem?_eq_getElem hjz] at hj
      simp at hj
      have hb := bounds_u8 (hw _ (List.getElem_mem hjz))
      rw [hc j hjz, ← hj]
      have e : zs.getD j 0 = zs[j] := by simp [hjz]
      rw [e]
      unfold B
      congr 2
      simp
      omega
    · simp at hj

/-- The bytes a row starts with are written to the hash at p. -/
def Pt (w : World) (p : Nat) (xs : List UInt8) (wr : World) : Prop := Kept [] w wr ∧ Hs wr p xs
theorem Pt.next {w wr w' : World} {p : Nat} {xs : List UInt8} (h : Pt w p xs wr) (hk : Kept [] wr w') : Pt w p xs w' := ⟨h.1.trans hk, h.2.kept hk (by simp)⟩
theorem Pt.write {w wr : World} {p : Nat} {xs : List UInt8} (h : Pt w p xs wr) (hp : w.heap.size ≤ p) (ht : Tabs w) (a : Option Addr) (c : Nat) (zs : List UInt8) (hy : Reads w a zs) (hc : zs.length ≤ c) (hc2 : c ≤ 9223372036854775807) (hlen : xs.length + zs.length ≤ 1000000000) :
    Calls Tryd.prog 16 #[.pointer (some ⟨p, 0, none⟩), .slice a zs.length c] wr fun e w' => e = .returned (.tuple #[]) ∧ Pt w p (xs ++ zs) w' := by
  obtain ⟨hk, hh⟩ := h
  have hpos := ht.pos
  refine (write_any p a c xs zs wr hh (ht.kept hk (by simp) (by simp)) (by omega) (hy.kept hk (by simp)) (fun hne x hx => by have := hy.lt hne x hx; omega) hc hc2 hlen).mono fun e w' ⟨he, hk', h2⟩ => ⟨he, hk.trans' hk' (fun x hx hm => by simp at hm; omega), h2.hs⟩
theorem pt_call {w v : World} {p : Nat} {xs : List UInt8} {f : FuncId} {args : Array Value} {val : Value} (h : Pt w p xs v) (hc : Calls Tryd.prog f args v fun e w' => e = .returned val ∧ Kept [] v w') :
    Calls Tryd.prog f args v fun e w' => e = .returned val ∧ Pt w p xs w' :=
  hc.mono fun _ _ h' => ⟨h'.1, h.next h'.2⟩
theorem lessL_self (x : List UInt8) : lessL x x = false := by
  induction x with
  | nil => rfl
  | cons a x ih => simp [lessL, ih]

set_option maxHeartbeats 4000000 in
theorem sha_parts (a0 : Option Addr) (c0 : Nat) (ys : List UInt8) (a1 : Option Addr) (l1 c1 : Nat) (zs : List Int) (w : World) (ht : Tabs w) (hy : Reads w a0 ys) (h0 : ys.length ≤ c0) (hc0 : c0 ≤ 9223372036854775807) (hn0 : a0 = none → c0 = 0)
    (hz : ∀ x1, a1 = some x1 → ∀ i, i < l1 → w.cell? (x1.add i) = some (.int .i64 (zs.getD i 0))) (hn1 : a1 = none → l1 = 0) :
    Calls Tryd.prog 4 #[.slice a0 ys.length c0, .slice a1 l1 c1] w fun e w' => e = .returned (.bool true) ∧ Kept [] w w' := by
  have hal := hid (alive03 w ht)
  have Ht := hid ht; have Hy := hid hy; have Hz := hid hz; have Hn1 := hid hn1; have Hn0 := hid hn0
  clear ht hy hz hn1 hn0
  go_enter Tryd.func4, Tryd.ntmps4
  go_wp2_with fail
  refine hal.out.mono ?_
  rintro e w1 ⟨rfl, hk1⟩
  have Hk1 := hid hk1
  clear hk1 hal
  by_cases hb : (300 : Int) < (ys.length : Int)
  · go_wp2_with fail
    go_ret
    exact ⟨rfl, Hk1.out⟩
  by_cases hc : (40 : Int) < (l1 : Int)
  · go_wp2_with fail
    go_ret
    exact ⟨rfl, Hk1.out⟩
  have Hb := hid hb; have Hc := hid hc
  have hb2 : decide ((300 : Int) < (ys.length : Int)) = false := by simpa using hb
  have hc2 : decide ((40 : Int) < (l1 : Int)) = false := by simpa using hc
  clear hb hc
  obtain ⟨cs0, hcs0⟩ : ∃ cs0, cs0 = z0 := ⟨_, rfl⟩
  have hzv : ∀ W, (zeroValue 40).run Tryd.prog W = .ok (.agg cs0.toArray) W := by rw [hcs0]; exact zero_hash
  have Hcs0 := hid hcs0
  clear hcs0
  go_wp2_with fail
  obtain ⟨W, hW⟩ : ∃ W, W = w1.alloc (.cells cs0.toArray 40) := ⟨_, rfl⟩
  rw [← hW]
  obtain ⟨p, hp⟩ : ∃ p, p = w1.heap.size := ⟨_, rfl⟩
  rw [← hp]
  have hpw : w.heap.size ≤ p := by rw [hp]; exact Hk1.out.size
  have H0 : Hid (Pt w p (ys.take 0) W) := hid (by
    rw [Hcs0.out] at hW
    exact ⟨by rw [hW]; exact Hk1.out.alloc _, hs_fresh (by rw [hW, hp]; exact heap_alloc_at rfl)⟩)
  clear hW hp Hcs0 hzv Hk1 hb2 hc2
  have hb := Hb.out
  have hc := Hc.out
  have hpos := Ht.out.pos
  go_loopw [6, 7, 27] (fun left done j wr => ∃ (i d : Nat) (a' : Option Addr) (c' : Nat), i ≤ l1 ∧ d ≤ ys.length ∧ left = .slice a' (ys.length - d) c' ∧ ys.length - d ≤ c' ∧ c' ≤ 9223372036854775807 ∧ done = .int .i64 (d : Int) ∧ j = .int .i64 (i : Int) ∧ Hid (Reads w a' (ys.drop d) ∧ (a' = none → c' = 0)) ∧ Hid (Pt w p (ys.take d) wr)) (fun _ _ j _ => l1 - (intOf j).toNat)
  case atStart => exact ⟨0, 0, a0, c0, by omega, by omega, rfl, h0, hc0, rfl, rfl, hid ⟨Hy.out, Hn0.out⟩, H0⟩
  case round =>
    clear H0
    obtain ⟨i, d, a', c', hi, hd, rfl, hc', hcm, rfl, rfl, hrd, hr⟩ := hrel
    by_cases hlt : i < l1
    · obtain ⟨x1, rfl⟩ : ∃ x1, a1 = some x1 := by
        cases a1 with
        | none => have := Hn1.out rfl; omega
        | some x1 => exact ⟨x1, rfl⟩
      obtain ⟨z, hze⟩ : ∃ z, z = zs.getD i 0 := ⟨_, rfl⟩
      have g0 := Hz.out x1 rfl i hlt
      have gx : wr.cell? (x1.add i) = some (.int .i64 z) := by rw [hze, ← g0]; exact hr.out.1.cell (World.block_lt_of_cell? w _ g0) (by simp)
      obtain ⟨K, hK⟩ : ∃ K : Nat, z % 128 = (K : Int) := ⟨(z % 128).toNat, by omega⟩
      have hand : bits .and .i64 z 127 = (K : Int) := (i64_and127 z).trans hK
      obtain ⟨m, hm⟩ : ∃ m, m = ys.length - d := ⟨_, rfl⟩
      obtain ⟨n, hn⟩ : ∃ n, n = K % (m + 1) := ⟨_, rfl⟩
      have hnm : n ≤ m := by have := Nat.mod_lt K (show 0 < m + 1 by omega); omega
      have hrem : (K : Int).tmod ((m : Int) + 1) = (n : Int) := by rw [hn, Int.tmod_eq_emod_of_nonneg (by omega)]; simp
      have hrem2 : (K : Int) % ((m : Int) + 1) = (n : Int) := by rw [hn]; simp
      rw [← hm] at hc' ⊢
      have hpre := fun W => slice_pre a' m c' n hnm hc' W
      obtain ⟨a2, hcut, hcutr, hcutn⟩ := slice_cut a' m c' n hnm hc' hrd.out.2
      have hzl : ((ys.drop d).take n).length = n := by simp; omega
      have hwr := hr.out.write hpw Ht.out a' c' ((ys.drop d).take n) (hrd.out.1.take n) (by omega) hcm (by rw [hzl]; simp; omega)
      rw [hzl, ← List.take_add] at hwr
      have Hwr := hid hwr
      have Hrest := hid (show Reads w a2 (ys.drop (d + n)) ∧ (a2 = none → c' - n = 0) from ⟨by have := hcutr w (ys.drop d) (by simp; omega) hrd.out.1; rwa [List.drop_drop] at this, fun h => by have := hcutn h; omega⟩)
      have Hm := hid hm
      have hm300 : m ≤ 300 := by omega
      have hd300 : d ≤ 300 := by omega
      clear hwr hzl hze hK g0 hrd hr hm hn hcutr hcutn
      go_wp2_with fail
      refine Hwr.out.mono ?_
      rintro e w2 ⟨rfl, hr2⟩
      have Hr2 := hid hr2
      clear hr2 Hwr hpre gx
      obtain ⟨e, he⟩ : ∃ e, e = d + n := ⟨_, rfl⟩
      have hdn : d + n ≤ ys.length := by have := Hm.out; omega
      have hpre2 := fun W => slice_pre a0 ys.length c0 e (by omega) h0 W
      rw [show ((e : Nat) : Int) = (d : Int) + (n : Int) by omega] at hpre2
      obtain ⟨x, hx⟩ : ∃ x, x = Sha.sum (ys.take e) := ⟨_, rfl⟩
      have hxl : x.length = 32 := by rw [hx]; exact Sha.sum_len _
      have hel : (ys.take e).length = e := by simp; omega
      rw [← he] at Hr2
      have Hx := hid hx; have Hel := hid hel; have He := hid he
      have cSum := hid (show ∀ v, Pt w p (ys.take e) v → Calls Tryd.prog 17 #[.pointer (some ⟨p, 0, none⟩)] v fun e' w' => e' = .returned (.agg (x.map B).toArray) ∧ Pt w p (ys.take e) w' from fun v h => pt_call h (by
        rw [Hx.out]; exact sum_any p (ys.take e) v h.2 (Ht.out.kept h.1 (by simp) (by simp)) (by omega) (by rw [Hel.out]; omega)))
      have cOf := hid (show ∀ v, Pt w p (ys.take e) v → Calls Tryd.prog 10 #[.slice a0 e c0] v fun e' w' => e' = .returned (.agg (x.map B).toArray) ∧ Pt w p (ys.take e) w' from fun v h => pt_call h (by
        rw [Hx.out]
        have := of_any a0 c0 (ys.take e) v (Ht.out.kept h.1 (by simp) (by simp)) ((Hy.out.take e).kept h.1 (by simp)) (by rw [Hel.out]; omega) hc0 (by rw [Hel.out]; omega)
        rwa [Hel.out] at this))
      have cLen := hid (show ∀ v, Pt w p (ys.take e) v → Calls Tryd.prog 18 #[.pointer (some ⟨p, 0, none⟩)] v fun e' w' => e' = .returned (.int .i64 ((d : Int) + (n : Int))) ∧ Pt w p (ys.take e) w' from fun v h => (len_any p (ys.take e) v h.2).mono fun e' w' h' => ⟨by rw [h'.1, Hel.out, He.out]; simp, h'.2 ▸ h⟩)
      have heq := fun W => id_equal x x hxl hxl W
      simp only [decide_true] at heq
      have HS := hid (show Pt w p (ys.take e) w2.drew from Hr2.out.next (Kept.of_drew [] w2))
      clear hx hel he hxl Hr2
      go_wp2_with fail
      refine wp_region_held_drew (S := Pt w p (ys.take e)) (by kernel_rfl) HS.out (fun hH => ?_)
      refine takeH 1 (.slice a0 ys.length c0) rfl (by kernel_rfl) (by kernel_rfl) (by kernel_rfl) (fun _ _ _ h => h) (by rfl) (fun w hSw => by go_simp) hH ?_
      simp only [Act.put, List.setIfInBounds_toArray, List.set_cons_succ, List.set_cons_zero]
      refine takeH 2 (.int .i64 ((d : Int) + (n : Int))) rfl (by kernel_rfl) (by kernel_rfl) (by kernel_rfl) (fun _ _ _ h => h) (by rfl) (fun w hSw => by go_simp) hH ?_
      simp only [Act.put, List.setIfInBounds_toArray, List.set_cons_succ, List.set_cons_zero]
      refine takeH 3 (.slice a0 e c0) rfl (by kernel_rfl) (by kernel_rfl) (by kernel_rfl) (fun _ _ _ h => h) (by rfl) (fun w hSw => by go_simp) hH ?_
      simp only [Act.put, List.setIfInBounds_toArray, List.set_cons_succ, List.set_cons_zero]
      refine callH 0 rfl (by kernel_rfl) (by rfl) 17 #[.pointer (some ⟨p, 0, none⟩)] (by go_simp) (.agg (x.map B).toArray) hH (cSum.out _) ?_
      clear hH
      intro vv hH
      simp only [Act.put, List.setIfInBounds_toArray, List.set_cons_succ, List.set_cons_zero]
      refine callH 4 rfl (by kernel_rfl) (by rfl) 10 #[.slice a0 e c0] (by go_simp) (.agg (x.map B).toArray) hH (cOf.out _) ?_
      clear hH
      intro vv hH
      simp only [Act.put, List.setIfInBounds_toArray, List.set_cons_succ, List.set_cons_zero]
      refine takeH 5 (Value.bool false) rfl (by kernel_rfl) (by kernel_rfl) (by kernel_rfl) (fun _ _ _ h => h) (by rfl) (fun w hSw => by go_simp) hH ?_
      simp only [Act.put, List.setIfInBounds_toArray, List.set_cons_succ, List.set_cons_zero]
      refine takeH 6 (Value.bool false) rfl (by kernel_rfl) (by kernel_rfl) (by kernel_rfl) (fun _ _ _ h => h) (by rfl) (fun w hSw => by go_simp) hH ?_
      simp only [Act.put, List.setIfInBounds_toArray, List.set_cons_succ, List.set_cons_zero]
      refine takeH 8 (.int .i64 ((d : Int) + (n : Int))) rfl (by kernel_rfl) (by kernel_rfl) (by kernel_rfl) (fun _ _ _ h => h) (by rfl) (fun w hSw => by go_simp) hH ?_
      simp only [Act.put, List.setIfInBounds_toArray, List.set_cons_succ, List.set_cons_zero]
      refine callH 7 rfl (by kernel_rfl) (by rfl) 18 #[.pointer (some ⟨p, 0, none⟩)] (by go_simp) (.int .i64 ((d : Int) + (n : Int))) hH (cLen.out _) ?_
      clear hH
      intro vv hH
      simp only [Act.put, List.setIfInBounds_toArray, List.set_cons_succ, List.set_cons_zero]
      refine takeH 9 (Value.bool false) rfl (by kernel_rfl) (by kernel_rfl) (by kernel_rfl) (fun _ _ _ h => h) (by rfl) (fun w hSw => by go_simp) hH ?_
      simp only [Act.put, List.setIfInBounds_toArray, List.set_cons_succ, List.set_cons_zero]
      refine takeH 10 (Value.bool false) rfl (by kernel_rfl) (by kernel_rfl) (by kernel_rfl) (fun _ _ _ h => h) (by rfl) (fun w hSw => by go_simp) hH ?_
      simp only [Act.put, List.setIfInBounds_toArray, List.set_cons_succ, List.set_cons_zero]
      refine wpAnyH_done (by kernel_rfl) ?_ _
      have hfin := hid (show Kept [] w vv ∧ Hs vv p (ys.take (d + n)) from ⟨hH.1, by have := hH.2; rwa [He.out] at this⟩)
      clear hH
      go_wp2_with fail
      have hm := Hm.out
      exact ⟨⟨i + 1, d + n, a2, c' - n, by omega, by omega, by rw [hm, Nat.sub_sub], by omega, by omega, by go_num, by go_num, Hrest, hfin⟩, by simp [intOf]; omega⟩
    · obtain rfl : i = l1 := by omega
      have hwr := hr.out.write hpw Ht.out a' c' (ys.drop d) hrd.out.1 (by simp; omega) hcm (by simp; omega)
      rw [List.length_drop, List.take_append_drop] at hwr
      have Hwr := hid hwr
      clear hwr hr hrd
      go_wp2_with fail
      refine Hwr.out.mono ?_
      rintro e w2 ⟨rfl, hr2⟩
      have Hr2 := hid hr2
      clear hr2 Hwr
      obtain ⟨x, hx⟩ : ∃ x, x = Sha.sum ys := ⟨_, rfl⟩
      have hxl : x.length = 32 := by rw [hx]; exact Sha.sum_len _
      have hyl : ys.length ≤ 300 := by omega
      have Hx := hid hx; have Hxl := hid hxl
      have hsm := hid (show ∀ v, Pt w p ys v → Calls Tryd.prog 17 #[.pointer (some ⟨p, 0, none⟩)] v fun e' w' => e' = .returned (.agg (x.map B).toArray) ∧ Pt w p ys w' from fun v h => pt_call h (by
        rw [Hx.out]; exact sum_any p ys v h.2 (Ht.out.kept h.1 (by simp) (by simp)) (by omega) (by omega)))
      go_wp2_with fail
      refine (hsm.out _ Hr2.out).mono ?_
      rintro e w3 ⟨rfl, hr3⟩
      have Hr3 := hid hr3
      clear hr3 Hr2 hx
      have ix := hid (id_cells x Hxl.out)
      have HG3 := hid (show (w3.alloc (.cells ((List.replicate 32 (0 : UInt8)).map B).toArray 24)).heap[w3.heap.size]? = some (.cells ((List.replicate 32 (0 : UInt8)).map B).toArray 24 (0, 0)) from heap_alloc_at rfl)
      go_wp2_with (refine wpList_store_row rfl 24 (.tmp 11) (.tmp 61) rfl w3.heap.size (x.map B).toArray rfl rfl _ _ HG3.out ix.out.1 ix.out.2.2.2 ix.out.2.1 ?_; refine halt ?_)
      clear HG3
      rw [World.setRow_alloc_new]
      obtain ⟨w4, hw4⟩ : ∃ w4, w4 = w3.alloc (.cells (x.map B).toArray 24) := ⟨_, rfl⟩
      have Hr4 := hid (show Pt w p ys w4 by rw [hw4]; exact Hr3.out.next ((Kept.refl _ _).alloc _))
      have Hi4 := hid (show w4.heap[w3.heap.size]? = some (.cells (x.map B).toArray 24 (0, 0)) by rw [hw4]; exact heap_alloc_at rfl)
      rw [← hw4]
      obtain ⟨q, hq⟩ : ∃ q, q = w3.heap.size := ⟨_, rfl⟩
      rw [← hq] at Hi4 ⊢
      clear hw4 hq Hr3
      refine Halt.mk ?_
      have hu := Tryd.underlying24
      have hi32 : (Tryd.prog.info? 24).map (·.size) = some (x.map B).length := by rw [List.length_map, Hxl.out]; exact info_id
      have range_of := fun (v : World) (g : Nat) (h : v.heap[g]? = some (.cells (x.map B).toArray 24 (0, 0))) => show v.rangeAt g 0 (x.map B) from fun j u hj => by
        rw [Nat.zero_add, cell_of_row v _ _ _ _ _ h]
        simpa using hj
      have Hrange := hid range_of
      clear range_of
      have hc4 : ∀ (j : Nat) v, (x.map B)[j]? = some v → w4.cell? ((⟨q, 0, none⟩ : Addr).add j) = some v := fun j v hj => by
        rw [plain_add]; exact Hrange.out w4 q Hi4.out j v hj
      have Hc4 := hid hc4
      clear hc4
      go_wp2_with (refine wpList_load_cells rfl 24 (.tmp 11) rfl ⟨q, 0, none⟩ rfl (x.map B) _ hu rfl hi32 Hc4.out ?_)
      refine (text_any x Hxl.out w4).mono ?_
      rintro e w5 ⟨rfl, hk5⟩
      have Hr5 := hid (Hr4.out.next hk5)
      have Hi5 := hid (hk5.at Hi4.out (by simp))
      clear hk5 Hr4 Hi4 Hc4
      go_wp2_with fail
      have hpt := parse_any (hexOf x) (by rw [hexOf_len, Hxl.out]; decide) w5
      rw [(parse_text x Hxl.out).1, (parse_text x Hxl.out).2] at hpt
      have Hpt := hid hpt
      clear hpt
      refine Hpt.out.mono ?_
      rintro e w6 ⟨rfl, hk6⟩
      have Hr6 := hid (Hr5.out.next hk6)
      have Hi6 := hid (hk6.at Hi5.out (by simp))
      clear hk6 Hr5 Hi5 Hpt
      have HG6 := hid (show (w6.alloc (.cells ((List.replicate 32 (0 : UInt8)).map B).toArray 24)).heap[w6.heap.size]? = some (.cells ((List.replicate 32 (0 : UInt8)).map B).toArray 24 (0, 0)) from heap_alloc_at rfl)
      go_wp2_with (refine wpList_store_row rfl 24 (.tmp 12) (.tmp 66) rfl w6.heap.size (x.map B).toArray rfl rfl _ _ HG6.out ix.out.1 ix.out.2.2.2 ix.out.2.1 ?_; refine halt ?_)
      clear HG6
      rw [World.setRow_alloc_new]
      obtain ⟨w7, hw7⟩ : ∃ w7, w7 = w6.alloc (.cells (x.map B).toArray 24) := ⟨_, rfl⟩
      have Hr7 := hid (show Pt w p ys w7 by rw [hw7]; exact Hr6.out.next ((Kept.refl _ _).alloc _))
      have Hi7 := hid (show w7.heap[q]? = some (.cells (x.map B).toArray 24 (0, 0)) by rw [hw7]; exact heap_alloc_old Hi6.out)
      have Hj7 := hid (show w7.heap[w6.heap.size]? = some (.cells (x.map B).toArray 24 (0, 0)) by rw [hw7]; exact heap_alloc_at rfl)
      rw [← hw7]
      obtain ⟨r, hr⟩ : ∃ r, r = w6.heap.size := ⟨_, rfl⟩
      rw [← hr] at Hj7 ⊢
      clear hw7 hr Hr6 Hi6
      refine Halt.mk ?_
      have HS := hid (show Kept [] w w7.drew ∧ Pt w p ys w7.drew ∧ w7.drew.rangeAt q 0 (x.map B) ∧ w7.drew.rangeAt r 0 (x.map B) from ⟨(Hr7.out.next (Kept.of_drew [] w7)).1, Hr7.out.next (Kept.of_drew [] w7), Hrange.out w7.drew q Hi7.out, Hrange.out w7.drew r Hj7.out⟩)
      have dcall := hid (show ∀ (v : World) (f : FuncId) (args : Array Value) (val : Value), (Kept [] w v ∧ Pt w p ys v ∧ v.rangeAt q 0 (x.map B) ∧ v.rangeAt r 0 (x.map B)) → (Calls Tryd.prog f args v fun e w' => e = .returned val ∧ Kept [] v w') → Calls Tryd.prog f args v fun e w' => e = .returned val ∧ (Kept [] w w' ∧ Pt w p ys w' ∧ w'.rangeAt q 0 (x.map B) ∧ w'.rangeAt r 0 (x.map B)) from fun v f args val h hc =>
        hc.mono fun e w' h' => ⟨h'.1, (h.2.1.next h'.2).1, h.2.1.next h'.2, fun j u hj => by have := h.2.2.1 j u hj; rw [h'.2.cell (World.block_lt_of_cell? v _ this) (by simp)]; exact this, fun j u hj => by have := h.2.2.2 j u hj; rw [h'.2.cell (World.block_lt_of_cell? v _ this) (by simp)]; exact this⟩)
      have dOf := hid (fun (v : World) (h : Kept [] w v ∧ Pt w p ys v ∧ v.rangeAt q 0 (x.map B) ∧ v.rangeAt r 0 (x.map B)) => dcall.out v 10 #[.slice a0 ys.length c0] (.agg (x.map B).toArray) h (by
        rw [Hx.out]; exact of_any a0 c0 ys v (Ht.out.kept h.1 (by simp) (by simp)) (Hy.out.kept h.1 (by simp)) h0 hc0 (by omega)))
      have dLen := hid (fun (v : World) (h : Kept [] w v ∧ Pt w p ys v ∧ v.rangeAt q 0 (x.map B) ∧ v.rangeAt r 0 (x.map B)) => dcall.out v 18 #[.pointer (some ⟨p, 0, none⟩)] (.int .i64 (ys.length : Int)) h ((len_any p ys v h.2.1.2).mono fun e w' h' => ⟨h'.1, h'.2 ▸ Kept.refl _ _⟩))
      have dLess := hid (fun (v : World) (h : Kept [] w v ∧ Pt w p ys v ∧ v.rangeAt q 0 (x.map B) ∧ v.rangeAt r 0 (x.map B)) => dcall.out v 12 #[.agg (x.map B).toArray, .agg (x.map B).toArray] (.bool false) h (by
        have := less_any x x Hxl.out Hxl.out v
        rwa [lessL_self] at this))
      have heq := fun W => id_equal x x Hxl.out Hxl.out W
      simp only [decide_true] at heq
      have hi := hi32
      clear Hr7 Hi7 Hj7 dcall hsm hxl
      go_wp2_with fail
      refine wp_region_held_drew (S := fun v => Kept [] w v ∧ Pt w p ys v ∧ v.rangeAt q 0 (x.map B) ∧ v.rangeAt r 0 (x.map B)) (by kernel_rfl) HS.out (fun hH => ?_)
      refine loadH 0 (x.map B) rfl (by kernel_rfl) (by kernel_rfl) (by kernel_rfl) (fun _ _ _ h => h) (by rfl) 24 (.tmp 11) rfl (q) 0 rfl _ (fun v h => h.2.2.1) hu rfl hi hH ?_
      simp only [Act.put, List.setIfInBounds_toArray, List.set_cons_succ, List.set_cons_zero]
      refine takeH 1 (.slice a0 ys.length c0) rfl (by kernel_rfl) (by kernel_rfl) (by kernel_rfl) (fun _ _ _ h => h) (by rfl) (fun w hSw => by go_simp) hH ?_
      simp only [Act.put, List.setIfInBounds_toArray, List.set_cons_succ, List.set_cons_zero]
      refine callH 2 rfl (by kernel_rfl) (by rfl) 10 #[.slice a0 ys.length c0] (by go_simp) (.agg (x.map B).toArray) hH (dOf.out _) ?_
      clear hH
      intro vv hH
      simp only [Act.put, List.setIfInBounds_toArray, List.set_cons_succ, List.set_cons_zero]
      refine takeH 3 (Value.bool true) rfl (by kernel_rfl) (by kernel_rfl) (by kernel_rfl) (fun _ _ _ h => h) (by rfl) (fun w hSw => by go_simp) hH ?_
      simp only [Act.put, List.setIfInBounds_toArray, List.set_cons_succ, List.set_cons_zero]
      refine takeH 4 (Value.bool true) rfl (by kernel_rfl) (by kernel_rfl) (by kernel_rfl) (fun _ _ _ h => h) (by rfl) (fun w hSw => by go_simp) hH ?_
      simp only [Act.put, List.setIfInBounds_toArray, List.set_cons_succ, List.set_cons_zero]
      refine takeH 6 (.slice a0 ys.length c0) rfl (by kernel_rfl) (by kernel_rfl) (by kernel_rfl) (fun _ _ _ h => h) (by rfl) (fun w hSw => by go_simp) hH ?_
      simp only [Act.put, List.setIfInBounds_toArray, List.set_cons_succ, List.set_cons_zero]
      refine takeH 7 (.int .i64 (ys.length : Int)) rfl (by kernel_rfl) (by kernel_rfl) (by kernel_rfl) (fun _ _ _ h => h) (by rfl) (fun w hSw => by go_simp) hH ?_
      simp only [Act.put, List.setIfInBounds_toArray, List.set_cons_succ, List.set_cons_zero]
      refine callH 5 rfl (by kernel_rfl) (by rfl) 18 #[.pointer (some ⟨p, 0, none⟩)] (by go_simp) (.int .i64 (ys.length : Int)) hH (dLen.out _) ?_
      clear hH
      intro vv hH
      simp only [Act.put, List.setIfInBounds_toArray, List.set_cons_succ, List.set_cons_zero]
      refine takeH 8 (Value.bool true) rfl (by kernel_rfl) (by kernel_rfl) (by kernel_rfl) (fun _ _ _ h => h) (by rfl) (fun w hSw => by go_simp) hH ?_
      simp only [Act.put, List.setIfInBounds_toArray, List.set_cons_succ, List.set_cons_zero]
      refine takeH 9 (Value.bool true) rfl (by kernel_rfl) (by kernel_rfl) (by kernel_rfl) (fun _ _ _ h => h) (by rfl) (fun w hSw => by go_simp) hH ?_
      simp only [Act.put, List.setIfInBounds_toArray, List.set_cons_succ, List.set_cons_zero]
      refine takeH 10 (Value.bool true) rfl (by kernel_rfl) (by kernel_rfl) (by kernel_rfl) (fun _ _ _ h => h) (by rfl) (fun w hSw => by go_simp) hH ?_
      simp only [Act.put, List.setIfInBounds_toArray, List.set_cons_succ, List.set_cons_zero]
      refine loadH 11 (x.map B) rfl (by kernel_rfl) (by kernel_rfl) (by kernel_rfl) (fun _ _ _ h => h) (by rfl) 24 (.tmp 12) rfl (r) 0 rfl _ (fun v h => h.2.2.2) hu rfl hi hH ?_
      simp only [Act.put, List.setIfInBounds_toArray, List.set_cons_succ, List.set_cons_zero]
      refine loadH 12 (x.map B) rfl (by kernel_rfl) (by kernel_rfl) (by kernel_rfl) (fun _ _ _ h => h) (by rfl) 24 (.tmp 11) rfl (q) 0 rfl _ (fun v h => h.2.2.1) hu rfl hi hH ?_
      simp only [Act.put, List.setIfInBounds_toArray, List.set_cons_succ, List.set_cons_zero]
      refine takeH 13 (Value.bool true) rfl (by kernel_rfl) (by kernel_rfl) (by kernel_rfl) (fun _ _ _ h => h) (by rfl) (fun w hSw => by go_simp) hH ?_
      simp only [Act.put, List.setIfInBounds_toArray, List.set_cons_succ, List.set_cons_zero]
      refine takeH 14 (Value.bool true) rfl (by kernel_rfl) (by kernel_rfl) (by kernel_rfl) (fun _ _ _ h => h) (by rfl) (fun w hSw => by go_simp) hH ?_
      simp only [Act.put, List.setIfInBounds_toArray, List.set_cons_succ, List.set_cons_zero]
      refine takeH 15 (Value.bool true) rfl (by kernel_rfl) (by kernel_rfl) (by kernel_rfl) (fun _ _ _ h => h) (by rfl) (fun w hSw => by go_simp) hH ?_
      simp only [Act.put, List.setIfInBounds_toArray, List.set_cons_succ, List.set_cons_zero]
      refine takeH 16 (.int .i64 0) rfl (by kernel_rfl) (by kernel_rfl) (by kernel_rfl) (fun _ _ _ h => h) (by rfl) (fun w hSw => by go_simp) hH ?_
      simp only [Act.put, List.setIfInBounds_toArray, List.set_cons_succ, List.set_cons_zero]
      refine takeH 17 (Value.bool true) rfl (by kernel_rfl) (by kernel_rfl) (by kernel_rfl) (fun _ _ _ h => h) (by rfl) (fun w hSw => by go_simp) hH ?_
      simp only [Act.put, List.setIfInBounds_toArray, List.set_cons_succ, List.set_cons_zero]
      refine takeH 18 (Value.bool true) rfl (by kernel_rfl) (by kernel_rfl) (by kernel_rfl) (fun _ _ _ h => h) (by rfl) (fun w hSw => by go_simp) hH ?_
      simp only [Act.put, List.setIfInBounds_toArray, List.set_cons_succ, List.set_cons_zero]
      refine takeH 19 (Value.bool true) rfl (by kernel_rfl) (by kernel_rfl) (by kernel_rfl) (fun _ _ _ h => h) (by rfl) (fun w hSw => by go_simp) hH ?_
      simp only [Act.put, List.setIfInBounds_toArray, List.set_cons_succ, List.set_cons_zero]
      refine loadH 20 (x.map B) rfl (by kernel_rfl) (by kernel_rfl) (by kernel_rfl) (fun _ _ _ h => h) (by rfl) 24 (.tmp 11) rfl (q) 0 rfl _ (fun v h => h.2.2.1) hu rfl hi hH ?_
      simp only [Act.put, List.setIfInBounds_toArray, List.set_cons_succ, List.set_cons_zero]
      refine loadH 21 (x.map B) rfl (by kernel_rfl) (by kernel_rfl) (by kernel_rfl) (fun _ _ _ h => h) (by rfl) 24 (.tmp 11) rfl (q) 0 rfl _ (fun v h => h.2.2.1) hu rfl hi hH ?_
      simp only [Act.put, List.setIfInBounds_toArray, List.set_cons_succ, List.set_cons_zero]
      refine callH 22 rfl (by kernel_rfl) (by rfl) 12 #[.agg (x.map B).toArray, .agg (x.map B).toArray] (by go_simp) (.bool false) hH (dLess.out _) ?_
      clear hH
      intro vv hH
      simp only [Act.put, List.setIfInBounds_toArray, List.set_cons_succ, List.set_cons_zero]
      refine takeH 23 (Value.bool true) rfl (by kernel_rfl) (by kernel_rfl) (by kernel_rfl) (fun _ _ _ h => h) (by rfl) (fun w hSw => by go_simp) hH ?_
      simp only [Act.put, List.setIfInBounds_toArray, List.set_cons_succ, List.set_cons_zero]
      refine takeH 24 (Value.bool true) rfl (by kernel_rfl) (by kernel_rfl) (by kernel_rfl) (fun _ _ _ h => h) (by rfl) (fun w hSw => by go_simp) hH ?_
      simp only [Act.put, List.setIfInBounds_toArray, List.set_cons_succ, List.set_cons_zero]
      refine takeH 25 (Value.bool true) rfl (by kernel_rfl) (by kernel_rfl) (by kernel_rfl) (fun _ _ _ h => h) (by rfl) (fun w hSw => by go_simp) hH ?_
      simp only [Act.put, List.setIfInBounds_toArray, List.set_cons_succ, List.set_cons_zero]
      refine wpAnyH_done (by kernel_rfl) ?_ _
      have hfin := hid hH.1
      go_wp2_with fail
      go_ret
      exact ⟨rfl, hfin.out⟩
end Go.Proofs.YtplnfadonbhcoaaDoor
