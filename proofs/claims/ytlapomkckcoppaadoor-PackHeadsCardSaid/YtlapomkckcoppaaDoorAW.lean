import Derived.Test.YtlapomkckcoppaaDoorAV
import Derived.StillTailTactics

/- coldstorelaw12.PackHeads. -/
namespace Go.Proofs.YtlapomkckcoppaaDoor
open Go.RowKit Go.Lib Go.Maps

theorem shl_u8p (r : Nat) (h : r < 8) : ∃ m : UInt8, m = UInt8.ofNat (2 ^ r) ∧ ∀ w : World, (Op.shift .shl .u8 1 .i64 (r : Int)).run Tryd.prog w = .ok (.int .u8 (m.toNat : Int)) w :=
  match r, h with
  | 0, _ => ⟨1, rfl, fun _ => by kernel_rfl⟩
  | 1, _ => ⟨2, rfl, fun _ => by kernel_rfl⟩
  | 2, _ => ⟨4, rfl, fun _ => by kernel_rfl⟩
  | 3, _ => ⟨8, rfl, fun _ => by kernel_rfl⟩
  | 4, _ => ⟨16, rfl, fun _ => by kernel_rfl⟩
  | 5, _ => ⟨32, rfl, fun _ => by kernel_rfl⟩
  | 6, _ => ⟨64, rfl, fun _ => by kernel_rfl⟩
  | 7, _ => ⟨128, rfl, fun _ => by kernel_rfl⟩
theorem pow8p (r : Nat) (h : r < 8) : (2 : Int) ^ min r 8 % 256 = ((UInt8.ofNat (2 ^ r)).toNat : Int) := by
  have : ∀ k : Fin 8, (2 : Int) ^ min k.val 8 % 256 = ((UInt8.ofNat (2 ^ k.val)).toNat : Int) := by decide
  exact this ⟨r, h⟩
theorem same_decp (a b : Option Addr) (c d : Nat) (xs ys : List UInt8) (w : World) (ha : SrcB w (.slice a xs.length c) xs) (hb : SrcB w (.slice b ys.length d) ys) :
    Calls Tryd.prog 16 #[.slice a xs.length c, .slice b ys.length d] w fun e w' => e = .returned (.bool (decide (xs = ys))) ∧ w = w' := by
  by_cases hxy : xs = ys
  · subst hxy
    exact (same_src a b c d xs w ha hb).mono fun e w' h => ⟨by rw [h.1]; simp, h.2⟩
  · have h1 := text_any w a c xs ha
    have h2 := text_any w b d ys hb
    have Hxy := hid hxy
    have hD := hid (show decide (xs = ys) = false from decide_eq_false hxy)
    clear ha hb hxy
    rw [hD.out]
    clear hD
    generalize xs.length = n at *
    generalize ys.length = m at *
    go_enter Tryd.func16, Tryd.ntmps16
    go_wp2
    go_ret
    exact ⟨by simpa using Hxy.out, rfl⟩
theorem i64_and24 (n : Int) : bits .and .i64 n 16777215 = n % 16777216 := by
  have h7 : (BitVec.ofInt 64 16777215).toNat = 2 ^ 24 - 1 := by decide
  have key : (BitVec.ofInt 64 n &&& BitVec.ofInt 64 16777215).toNat = (n % ((2 ^ 64 : Nat) : Int)).toNat % 2 ^ 24 := by
    rw [BitVec.toNat_and, BitVec.toNat_ofInt, h7, Nat.and_two_pow_sub_one_eq_mod]
  show IntKind.i64.wrap ((BitVec.ofInt 64 n &&& BitVec.ofInt 64 16777215).toNat : Nat) = n % 16777216
  rw [key, IntKind.wrap_i64]
  omega
theorem bit_at24 (at0 : Int) (n : Nat) (hn : 5 ≤ n) : ∃ p : Nat, (bits .and .i64 at0 16777215).tmod (8 * ((n : Int) - 4)) = (p : Int) ∧ p < 8 * (n - 4) := by
  rw [i64_and24]
  have h0 : 0 ≤ at0 % 16777216 := by omega
  have e : (at0 % 16777216).tmod (8 * ((n : Int) - 4)) = (at0 % 16777216) % (8 * ((n : Int) - 4)) := Int.tmod_eq_emod_of_nonneg h0
  have h1 := Int.emod_nonneg (at0 % 16777216) (show 8 * ((n : Int) - 4) ≠ 0 by omega)
  have h2 := Int.emod_lt_of_pos (at0 % 16777216) (show 0 < 8 * ((n : Int) - 4) by omega)
  exact ⟨((at0 % 16777216) % (8 * ((n : Int) - 4))).toNat, by omega, by omega⟩
/-- A byte of the head turned: no pack. -/
theorem packL_head (bl : List (List UInt8)) (h : Good bl) (u : Nat) (b : UInt8) (hu : u < 8 * ((packL bl).length - 4)) (hk : bl.flatten.length ≤ u / 8) (hb : (packL bl)[u / 8]? = some b) :
    rdErr ((packL bl).set (u / 8) (b ^^^ UInt8.ofNat (2 ^ (u % 8)))) = 36 := by
  obtain ⟨hd, hhd⟩ : ∃ hd, hd = sealed 80 (headB (ens bl)) := ⟨_, rfl⟩
  have hlt : hd.length < 4294967296 := hhd ▸ seal_lt (ens_ids bl) (by rw [ens_len]; exact h.size.2)
  have e : packL bl = bl.flatten ++ (hd ++ numB hd.length 4) := by unfold packL; rw [packB_eq, hhd]; rfl
  rw [e] at hu hb ⊢
  simp only [List.length_append, numB_len] at hu
  obtain ⟨k, hkk⟩ : ∃ k, u / 8 = bl.flatten.length + k := ⟨u / 8 - bl.flatten.length, by omega⟩
  obtain ⟨v, hv⟩ : ∃ v, v = u - 8 * bl.flatten.length := ⟨_, rfl⟩
  have hv8 : v / 8 = k := by omega
  have hvm : v % 8 = u % 8 := by omega
  have hkl : k < hd.length := by omega
  rw [hkk] at hb ⊢
  rw [List.getElem?_append_right (by omega), Nat.add_sub_cancel_left, List.getElem?_append_left hkl] at hb
  have hf : hd.set k (b ^^^ UInt8.ofNat (2 ^ (u % 8))) = Crc.flip hd v := by
    rw [← hv8, ← hvm]; exact flip_set hd v b (by rw [hv8]; exact hb)
  rw [List.set_append_right _ _ (by omega), Nat.add_sub_cancel_left, List.set_append_left _ _ hkl, hf]
  have hfl : (Crc.flip hd v).length = hd.length := by rw [← hf]; simp
  have hsh := sh_at bl.flatten (Crc.flip hd v) (by rw [hfl]; exact hlt)
  rw [hfl] at hsh
  unfold rdErr
  rw [if_pos hsh.1, hsh.2]
  exact (unseal_bad 80 _ (by rw [hfl, hhd, sealed_len]; omega) (flip_bad hd v (by omega) (hhd ▸ sealed_good 80 _))).1
/-- A byte of a blob turned: the same head. -/
theorem packL_body (bl : List (List UInt8)) (h : Good bl) (k : Nat) (x : UInt8) (hk : k < bl.flatten.length) :
    shErr ((packL bl).set k x) = 0 ∧ shOf ((packL bl).set k x) = sealed 80 (headB (ens bl)) := by
  have e : (packL bl).set k x = bl.flatten.set k x ++ tailP (ens bl) := by unfold packL; rw [packB_eq, List.set_append_left _ _ hk]
  rw [e]
  exact sh_at _ _ (seal_lt (ens_ids bl) (by rw [ens_len]; exact h.size.2))
theorem flat_next (bl : List (List UInt8)) {j : Nat} {b : List UInt8} (h : bl[j]? = some b) : (bl.take (j + 1)).flatten.length = (bl.take j).flatten.length + b.length := by
  rw [List.take_add_one, h]; simp
/-- A blob's bytes, behind the turning. -/
theorem part_set (xs : List UInt8) (k : Nat) (x : UInt8) (o l : Nat) (hk : k < o ∨ o + l ≤ k) : ((xs.set k x).drop o).take l = (xs.drop o).take l := by
  apply List.ext_getElem?
  intro i
  rw [List.getElem?_take, List.getElem?_take]
  by_cases hi : i < l
  · rw [if_pos hi, if_pos hi, List.getElem?_drop, List.getElem?_drop, List.getElem?_set_ne (by omega)]
  · rw [if_neg hi, if_neg hi]
theorem part_ne (xs : List UInt8) (k : Nat) (x b : UInt8) (o l : Nat) (hk : o ≤ k ∧ k < o + l) (hb : xs[k]? = some b) (hx : x ≠ b) : ((xs.set k x).drop o).take l ≠ (xs.drop o).take l := by
  intro e
  have h1 : (((xs.set k x).drop o).take l)[k - o]? = ((xs.drop o).take l)[k - o]? := by rw [e]
  have hkl := (List.getElem?_eq_some_iff.1 hb).1
  rw [List.getElem?_take, List.getElem?_take, if_pos (by omega), if_pos (by omega), List.getElem?_drop, List.getElem?_drop, show o + (k - o) = k by omega, hb, List.getElem?_set_self hkl] at h1
  exact hx (Option.some.inj h1)
theorem slice_partC (a : Option Addr) (xs : List UInt8) (c o l : Nat) (h : o + l ≤ xs.length) (hc : xs.length ≤ c) (hn : a = none → c = 0) :
    ∃ sa sc, (∀ W, (Instr.sliceAt 29 (.slice a xs.length c) (some (.int .i64 (o : Int))) (some (.int .i64 ((o : Int) + (l : Int)))) none).run Tryd.prog W = .ok (.slice sa l sc) W) ∧ l ≤ sc ∧ sc ≤ c ∧ (sa = none → sc = 0) ∧ ∀ W, SrcB W (.slice a xs.length c) xs → SrcB W (.slice sa l sc) ((xs.drop o).take l) := by
  have hs : ∀ W, (sizeOf 5).run Tryd.prog W = .ok 1 W := fun W => by kernel_rfl
  have e2 : ((o : Int) + (l : Int)).toNat = o + l := by omega
  cases a with
  | none =>
    have hc0 := hn rfl
    subst hc0
    obtain ⟨rfl, rfl, rfl⟩ : o = 0 ∧ l = 0 ∧ xs = [] := ⟨by omega, by omega, List.eq_nil_of_length_eq_zero (by omega)⟩
    refine ⟨none, 0, fun W => ?_, by omega, by omega, fun _ => rfl, fun W hW => by simpa using hW⟩
    rw [run_sliceAt_slice W 29 _ _ _ _ (by simp [Program.elem, Tryd.underlying29])]
    rw [run_slice_lh W 29 _ _ _ (by simp [Program.elem, Tryd.underlying29]) .i64 .i64 _ _ (by simp) (by simp) (by simp), elem_u8p, hs]
    simp [Result.andThen, sliced, Addr.add]
  | some ad =>
    refine ⟨some (if c = o then ad else ad.add o), c - o, fun W => ?_, by omega, by omega, fun h => by simp at h, fun W hW => ?_⟩
    · rw [run_sliceAt_slice W 29 _ _ _ _ (by simp [Program.elem, Tryd.underlying29])]
      rw [run_slice_lh W 29 _ _ _ (by simp [Program.elem, Tryd.underlying29]) .i64 .i64 (o : Int) ((o : Int) + (l : Int)) (by omega) (by omega) (by omega), elem_u8p, hs]
      simp [Result.andThen, sliced, e2]
      split <;> simp_all
    · rcases hW with ⟨h1, _⟩ | ⟨ad', c', h1, h2⟩
      · simp at h1
      · simp at h1
        obtain ⟨rfl, rfl⟩ := h1
        refine Or.inr ⟨_, _, by rw [show ((xs.drop o).take l).length = l by simp; omega], fun j u hj => ?_⟩
        by_cases hco : c = o
        · exfalso
          have hj2 := (List.getElem?_eq_some_iff.1 hj).1
          simp at hj2; omega
        · rw [if_neg hco]
          have hj2 : j < l := by have := (List.getElem?_eq_some_iff.1 hj).1; simp at this; omega
          rw [List.getElem?_map, List.getElem?_take, if_pos hj2, List.getElem?_drop] at hj
          have h3 := h2 (o + j) u (by rw [List.getElem?_map]; exact hj)
          rw [add_add']; exact h3

/-- Behind so many blobs. -/
structure HdI (w : World) (p : Nat) (bl : List (List UInt8)) (S : List Nat) (wr : World) : Prop where
  kept : Kept [] w wr
  bw : Bw w wr S p bl
set_option maxRecDepth 100000 in
set_option maxHeartbeats 16000000 in
theorem pack_heads (a : Option Addr) (c : Nat) (rows : List (List UInt8)) (bit : Int) (hbit : -9223372036854775808 ≤ bit ∧ bit ≤ 9223372036854775807) (w : World) (ht : Tab w) (hts : Tabs w) (h : RowsC w a rows) (hm : rows.length ≤ 9223372036854775807) (hl : ∀ r ∈ rows, r.length ≤ 9223372036854775807) :
    Calls Tryd.prog 6 #[.slice a rows.length c, .int .i64 bit] w fun e w' => e = .returned (.bool true) ∧ Kept [] w w' := by
  have Ht := hid ht; have Hts := hid hts; have H := hid h; have Hl := hid hl; have Hm := hid hm
  have hal := hid (alive12 w ht hts)
  have hzb := zero_bd
  have hzv := zero_en
  obtain ⟨i0, hi0, hz0, hz1, hz2⟩ := info_parts info_u8
  obtain ⟨n, hn⟩ : ∃ n, n = rows.length := ⟨_, rfl⟩
  have HN := hid hn
  rw [← hn]
  clear ht hts h hl hm hn
  go_enter Tryd.func6, Tryd.ntmps6
  go_wp2_with fail
  refine hal.out.mono ?_
  rintro e w1 ⟨rfl, k1⟩
  have K1 := hid k1
  have hfw := hid (few12 a c rows w1 (H.out.kept k1).is Hm.out Hl.out)
  rw [← HN.out] at hfw
  clear k1 hal
  go_wp2_with fail
  refine hfw.out.mono ?_
  rintro e w2 ⟨rfl, rfl⟩
  cases hfe : few12B rows
  · clear hfw
    go_wp2
    go_ret
    exact ⟨rfl, K1.out⟩
  have Hfe := hid hfe
  clear hfe hfw
  go_wp2_with fail
  obtain ⟨W3, hW3⟩ : ∃ W3, W3 = w1.alloc (.cells zBd.toArray 31) := ⟨_, rfl⟩
  have K3 := hid (show Kept [] w W3 from hW3 ▸ (K1.out).alloc _)
  have hI0 := hid (show HdI w w1.heap.size (accAll (rows.take 0)) [w1.heap.size] W3 from ⟨K3.out, Bw.zero (hW3 ▸ heap_alloc_at rfl) K1.out.size⟩)
  have hb0 : ends (ens (accAll (rows.take 0))) = 0 := rfl
  rw [← hW3]
  obtain ⟨p, hp⟩ : ∃ p, p = w1.heap.size := ⟨_, rfl⟩
  rw [← hp] at hI0
  rw [← hp]
  have hn20 : n ≤ 20 := by have h1 := (few12_spec Hfe.out).2; have h2 := HN.out; omega
  clear hW3 hp K1 K3
  go_loopw [6, 29] (fun s6 s wr => ∃ i : Nat, i ≤ n ∧ s = .int .i64 i ∧ ∃ S, s6 = .int .i64 (ends (ens (accAll (rows.take i))) : Int) ∧ Hid (HdI w p (accAll (rows.take i)) S wr)) (fun _ s _ => n - (intOf s).toNat)
  case atStart => exact ⟨0, Nat.zero_le _, rfl, _, by rw [hb0]; rfl, hI0⟩
  case round =>
    clear hI0 hb0
    obtain ⟨i, hi, rfl, S, rfl, hst⟩ := hrel
    by_cases hlt : i < n
    · have hlt' : i < rows.length := by have := HN.out; omega
      cases a with
      | none => exact absurd (H.out.1 rfl) (fun e => by rw [e] at hlt'; simp at hlt')
      | some x =>
        obtain ⟨ar, cr, g0', s0', c1, c2⟩ := H.out.2 x rfl i rows[i] (by simp [hlt'])
        have g0 := (hst.out.kept.cell (World.block_lt_of_cell? w _ g0') (by simp)).trans g0'
        have hok := (few12_spec Hfe.out).1 rows[i] (List.getElem_mem hlt')
        have htk := hid (accAll_take rows i hlt')
        have hbl20 := hid (show (accAll (rows.take i)).length ≤ 20 from by have := accAll_len (rows.take i); have := List.length_take_le i rows; have := HN.out; omega)
        have hbls := hid (acc_small (rows := rows.take i) (fun r hr => (few12_spec Hfe.out).1 r (List.mem_of_mem_take hr)))
        have hrl := hid hok.le
        generalize rows[i] = r at *
        generalize accAll (rows.take i) = bl at *
        have Hst := hid hst.out
        have hes := hid (show ends (ens bl) ≤ 4000 from by have h1 := flat_small hbls.out; have h2 := hbl20.out; rw [ens_ends]; omega)
        have hadd := hid (l_add w wr S p bl ar cr r Hst.out.kept Hst.out.bw Hts.out s0' (by have := hok.le; omega) c1 c2)
        have Hlt := hid hlt
        clear hst s0' g0' hlt' hok hlt c1 c2
        go_wp2_with fail
        refine hadd.out.mono ?_
        rintro e w5 ⟨S5, k5, ks5, b5, n5, hr5⟩
        have K5 := hid k5; have B5 := hid b5
        have hin := Hlt.out
        clear k5 ks5 b5 n5 hadd
        rcases hr5 with ⟨ht5, rfl⟩ | ⟨ht5, rfl⟩
        · obtain ⟨ce, hce⟩ : ∃ ce, ce = (addE (ens bl) (Sha.sum r) r.length).cells := ⟨_, rfl⟩
          rw [← hce]
          have lce := hid (show ce.length = 34 by rw [hce]; exact en_size (sum32 r))
          have ice := hid (show (Tryd.prog.info? 38).map (·.size) = some ce.length by rw [lce.out]; exact en_info)
          have fce := hid (show 0 + ce.length ≤ zEnC.length by rw [lce.out, zEnC_len]; decide)
          have sce := hid (splice36 zEnC ce (by rw [lce.out, zEnC_len]))
          have oce := hid (show ∀ v ∈ ce, v.oneCell' = true by rw [hce]; exact en_one _)
          have ce33 := hid (show ce[33]? = some (.int .i64 (r.length : Int)) by rw [hce, en_c33 (sum32 r)]; rfl)
          clear hce
          go_wp2_with (refine wpList_store_at rfl 38 (.tmp 9) (.tmp 36) rfl w5.heap.size 0 ce rfl rfl 38 zEnC (heap_alloc_at rfl) ice.out fce.out oce.out ?_; refine halt ?_)
          rw [sce.out]
          refine Halt.mk ?_
          obtain ⟨W6, hW6⟩ : ∃ W6, W6 = (w5.alloc (.cells zEnC.toArray 38)).setRow w5.heap.size ce.toArray := ⟨_, rfl⟩
          have k6 := hid (show Kept [] w5 W6 from hW6 ▸ ((Kept.refl [] w5).alloc _).setRow (fun h => absurd h (Nat.lt_irrefl _)) _)
          have E6 := hid (show W6.heap[w5.heap.size]? = some (.cells ce.toArray 38 (0, 0)) from hW6 ▸ setRow_heap _ _ _ _ _ _ (heap_alloc_at rfl))
          rw [← hW6]
          clear hW6
          have c33 : W6.cell? ⟨w5.heap.size, 33, none⟩ = some (.int .i64 (r.length : Int)) := by rw [cell_of_row W6 _ 33 _ _ _ E6.out]; simpa using ce33.out
          have hen2 := hid (show ends (ens (bl ++ [r])) = ends (ens bl) + r.length from by rw [ens_snoc, ends_snoc]; rfl)
          have ws1 : IntKind.i64.wrap ((ends (ens bl) : Int) + (r.length : Int)) = ((ends (ens (bl ++ [r])) : Nat) : Int) := by have h1 := hes.out; have h2 := hrl.out; rw [hen2.out, IntKind.wrap_i64]; omega
          have hm2 := hid (show accAll (rows.take (i + 1)) = bl ++ [r] from by rw [htk.out]; unfold more1; rw [ht5]; rfl)
          have hI := hid (show HdI w p (bl ++ [r]) S5 W6 from by
            have hm1 : more1 bl r = bl ++ [r] := by unfold more1; rw [ht5]; rfl
            have hb5 := B5.out
            rw [hm1] at hb5
            exact ⟨K5.out.trans k6.out, hb5.kept k6.out (by simp)⟩)
          go_wp2
          go_roundw
          case rel => exact ⟨i + 1, hin, by go_num, S5, by rw [hm2.out], by rw [hm2.out]; exact hI⟩
          case measure => simp [intOf]; omega
        · have izz := hid (show (Tryd.prog.info? 38).map (·.size) = some zEnC.length by rw [zEnC_len]; exact en_info)
          obtain ⟨er, her⟩ : ∃ er, er = addErr (ens bl) (Sha.sum r) r.length := ⟨_, rfl⟩
          have hne : (er == 0) = false := by
            have h1 : addErr (ens bl) (Sha.sum r) r.length ≠ 0 := of_decide_eq_false ht5
            rw [← her] at h1; simpa using h1
          rw [← her]
          clear her
          go_wp2_with (refine wpList_store_at rfl 38 (.tmp 9) (.tmp 36) rfl w5.heap.size 0 zEnC rfl rfl 38 zEnC (heap_alloc_at rfl) izz.out (by omega) zEnC_one ?_; refine halt ?_)
          rw [splice36 zEnC zEnC rfl]
          refine Halt.mk ?_
          obtain ⟨W6, hW6⟩ : ∃ W6, W6 = (w5.alloc (.cells zEnC.toArray 38)).setRow w5.heap.size zEnC.toArray := ⟨_, rfl⟩
          have k6 := hid (show Kept [] w5 W6 from hW6 ▸ ((Kept.refl [] w5).alloc _).setRow (fun h => absurd h (Nat.lt_irrefl _)) _)
          rw [← hW6]
          clear hW6
          have hm1 : more1 bl r = bl := by unfold more1; rw [ht5]; rfl
          have hm2 := hid (show accAll (rows.take (i + 1)) = bl from by rw [htk.out, hm1])
          have hI := hid (show HdI w p bl S5 W6 from by
            have hb5 := B5.out
            rw [hm1] at hb5
            exact ⟨K5.out.trans k6.out, hb5.kept k6.out (by simp)⟩)
          clear hm1
          go_wp2
          go_roundw
          case rel => exact ⟨i + 1, hin, by go_num, S5, by rw [hm2.out], by rw [hm2.out]; exact hI⟩
          case measure => simp [intOf]; omega
    · obtain rfl : i = n := by omega
      rw [HN.out, List.take_length] at hst ⊢
      have hbls := hid (acc_small (rows := rows) (few12_spec Hfe.out).1)
      have hbl20 := hid (show (accAll rows).length ≤ 20 from (packL_small Hfe.out).2)
      generalize accAll rows = bl at *
      have Hst := hid hst.out
      have hd1 := hid (l_done w wr S p bl Hst.out.kept Hst.out.bw Ht.out)
      have hG := hid Hst.out.bw.good
      have hPl := hid hG.out.plen
      have hP13 := hid (show ends (ens bl) + 13 ≤ (packL bl).length from by rw [packL_len]; unfold sizeP; omega)
      obtain ⟨P, HP⟩ : ∃ P, Hid (P = packL bl) := ⟨_, hid rfl⟩
      obtain ⟨pl, HPL⟩ : ∃ pl, Hid (pl = P.length) := ⟨_, hid rfl⟩
      obtain ⟨nn, HNN⟩ : ∃ nn, Hid (nn = bl.length) := ⟨_, hid rfl⟩
      obtain ⟨eb, HEB⟩ : ∃ eb, Hid (eb = ends (ens bl)) := ⟨_, hid rfl⟩
      have hnn20 : nn ≤ 20 := by have h1 := hbl20.out; have h2 := HNN.out; omega
      rw [← HP.out] at hd1 hPl hP13
      rw [← HPL.out, ← HEB.out] at hP13
      rw [← HPL.out] at hPl
      rw [← HEB.out]
      have hpl1 : pl ≤ 1048576 := hPl.out
      have hpl2 : eb + 13 ≤ pl := hP13.out
      clear hst hlt hi
      go_wp2_with fail
      refine hd1.out.mono ?_
      rintro e w4 ⟨a4, c4, rfl, k4, o4⟩
      have K4 := hid (Hst.out.kept.trans k4)
      have B4 := hid (Hst.out.bw.kept k4 (by simp))
      have O4 := hid o4
      have hlow4 := hid (fun g hg => (o4.lt g hg))
      rw [← HPL.out] at o4 hlow4 ⊢
      have hsrc4 := hid (show Src (w4.alloc (.cells #[] 5)) (.slice a4 pl c4) pl (P.map B) from by
        have h1 := (ownsRow_src O4.out).kept ((Kept.refl [] w4).alloc (.cells #[] 5)) (by simp)
        unfold SrcB at h1; rw [← HPL.out] at h1; exact h1)
      clear k4 hd1
      go_wp2_with (at_builtin; refine halt ?_)
      refine Halt.mk ?_
      refine wpList_append_src _ rfl _ _ _ rfl w4.heap.size 5 i0 _ 1 Tryd.underlying29 hi0 hz0 hz1 hz2 rfl (.slice (some ⟨w4.heap.size, 0, none⟩) 0 0) 0 [] rfl (World.ownsRow_made w4 (base := w4.heap.size) (e := 5) (size := 1) #[] 0 (Nat.le_refl _) (by decide) (by simp)) (.slice a4 pl c4) pl (P.map B) rfl hsrc4.out (by simp; exact HPL.out.symm) (B_oneCell P) (by unfold maxLen; omega) (by omega) (by simp) ?_
      intro v5 w5 o5 g5 _ f5
      simp only [Nat.zero_add, List.nil_append] at o5
      obtain ⟨a5, c5, rfl⟩ := owns_slice o5
      have k5 := hid (show Kept [] w4 w5 from ((Kept.refl [] w4).alloc (.cells #[] 5)).trans' (Kept.of_row g5) (fun y hy hm => by simp [Value.ownBlock] at hm; omega))
      have O5 := hid o5
      have K5 := hid (K4.out.trans k5.out)
      have B5 := hid (B4.out.kept k5.out (by simp))
      have P5 := hid (k5.out.owns O4.out (by simp))
      rw [← HPL.out] at P5
      obtain ⟨u, hu, hul⟩ := bit_at24 bit pl (by omega)
      obtain ⟨q, hq⟩ : ∃ q, q = pl - 4 := ⟨_, rfl⟩
      obtain ⟨d, hd⟩ : ∃ d, d = 8 * q := ⟨_, rfl⟩
      have ws1 : IntKind.i64.wrap ((pl : Int) - 4) = (q : Int) := by rw [IntKind.wrap_i64]; omega
      have ws2 : IntKind.i64.wrap (8 * (q : Int)) = (d : Int) := by rw [IntKind.wrap_i64]; omega
      have hrem := hid (show (bits .and .i64 bit 16777215).tmod (d : Int) = (u : Int) from by rw [show (d : Int) = 8 * ((pl : Int) - 4) by omega, hu])
      have hd0 : ((d : Int) == 0) = false := by simp; omega
      have hd1' : ¬ (d : Int) = 0 := by omega
      have Hul := hid hul
      obtain ⟨g, rfl⟩ : ∃ g, a4 = some ⟨g, 0, none⟩ := by
        rcases P5.out.2 with ⟨h1, h2⟩ | ⟨g, cap, cur, h1, _⟩
        · exfalso; omega
        · simp at h1; exact ⟨g, h1.1⟩
      clear o4 o5 g5 f5 hu hq hd hul hsrc4
      go_wp2_with fail
      obtain ⟨U, hU⟩ : ∃ U : Int, U = (u : Int) := ⟨_, rfl⟩
      rw [hrem.out, ← hU]
      clear ws1 ws2 hd0 hd1' hrem
      have hqlt : u / 8 < pl := by have := Hul.out; omega
      obtain ⟨sb, hsb⟩ : ∃ sb, P[u / 8]? = some sb := ⟨P[u / 8]'(by rw [← HPL.out]; exact hqlt), by simp⟩
      have hcur := P5.out
      have gl := hcur.cellAt (u / 8) (by omega)
      rw [List.getElem?_map, hsb] at gl
      have gl' : w5.cell? ⟨g, u / 8, none⟩ = some (.int .u8 (sb.toNat : Int)) := gl
      have gf : w5.frozen? ⟨g, u / 8, none⟩ = false := hcur.frozenAt _
      have Hsb := hid hsb
      obtain ⟨k, hk⟩ : ∃ k, k = u / 8 := ⟨_, rfl⟩
      obtain ⟨rr, hr8⟩ : ∃ rr, rr = u % 8 := ⟨_, rfl⟩
      obtain ⟨m, hm2, hsh⟩ := shl_u8p rr (by omega)
      rw [← hk] at hqlt gl' gf
      have f1 : (0 : Int) ≤ (k : Int) := by omega
      have f2 : (k : Int) < (pl : Int) := by omega
      have f3 : k < pl := hqlt
      have e6 : 0 ≤ U := by omega
      have d2 : U.tdiv 8 = (k : Int) := by rw [Int.tdiv_eq_ediv_of_nonneg e6]; omega
      have e3 : U.tmod 8 = (rr : Int) := by rw [Int.tmod_eq_emod_of_nonneg e6]; omega
      have e2' : IntKind.i64.wrap (U.tdiv 8) = (k : Int) := by rw [d2]; exact IntWalk.i64_in _ (by omega)
      have e4 : IntKind.i64.wrap (U.tmod 8) = (rr : Int) := by rw [e3]; exact IntWalk.i64_in _ (by have := hr8; omega)
      have Hd2 := hid d2; have HU := hid hU
      clear d2 hU
      have gld : w5.drew.cell? ⟨g, k, none⟩ = some (.int .u8 (sb.toNat : Int)) := gl'
      have gfd : w5.drew.frozen? ⟨g, k, none⟩ = false := gf
      have Hk := hid hk; have Hr8 := hid hr8; have Hm2 := hid hm2; have He2 := hid e2'; have Hql := hid hqlt
      clear hk hr8 hm2 hqlt gl hsb hcur
      refine wp_region_still_tail 10 (by kernel_rfl) (by kernel_rfl) ?_
      simp only [List.take_succ_cons, List.take_zero, List.drop_succ_cons, List.drop_zero]
      change wpStill _ _ w5.drew _ _ _
      repeat still_step
      refine wpStill_nil ?_
      clear e2' e3 e4 hsh gl' gf e6
      go_wp2_with fail
      have hxv := xor_u8 sb m
      have hp8 : (2 : Int) ^ min rr 8 % 256 = (m.toNat : Int) := by rw [Hm2.out]; exact pow8p rr (by have := Hr8.out; omega)
      rw [hp8, hxv]
      generalize IntKind.u8.wrap (2 ^ min rr 8) = z8
      obtain ⟨Q, HQ⟩ : ∃ Q, Hid (Q = P.set k (sb ^^^ m)) := ⟨_, hid rfl⟩
      obtain ⟨W7, hW7⟩ : ∃ W7, W7 = (w5.setCell ⟨g, k, none⟩ (.int .u8 ((sb ^^^ m).toNat : Int))).drew := ⟨_, rfl⟩
      have k57 := hid (show Kept [g] w5 W7 from hW7 ▸ ((Kept.refl [g] w5).setCell (p := ⟨g, k, none⟩) (fun _ => by simp) _).drew)
      have hQl : Q.length = pl := by rw [HQ.out, List.length_set, HPL.out]
      have O7 := hid (show W7.ownsRow wr.heap.size 5 1 (.slice (some ⟨g, 0, none⟩) Q.length c4) Q.length (Q.map B) from by
        rw [hQl, HQ.out, hW7]; exact own_set (w := w5) P5.out k (sb ^^^ m))
      have hgl := hlow4.out g rfl
      have hwz := hid Hst.out.kept.size
      have K7 := hid (show Kept [] w W7 from K5.out.trans' k57.out (fun x hx hm => by simp at hm; have := hwz.out; omega))
      have B7 := hid (B5.out.kept k57.out (fun x hx hm => by simp at hm; subst hm; have := (Hst.out.bw.low _ hx).2; omega))
      have T7 := hid (k57.out.owns O5.out (fun g' hg' hm => by simp at hm; subst hm; have := (O5.out.lt _ hg').1; omega))
      have hQs := hid (ownsRow_src O7.out)
      have hcq := hid (owns_caps O7.out)
      have hQe := hid (show Q = (packL bl).set (u / 8) (sb ^^^ UInt8.ofNat (2 ^ (u % 8))) from by rw [HQ.out, HP.out, Hk.out, Hm2.out, Hr8.out])
      have HQl := hid hQl
      rw [← hW7]
      rw [hQl] at hcq
      clear hW7 hxv hp8 gld gfd hQl
      by_cases hke : eb ≤ k
      · have h36 := hid (show rdErr Q = 36 from by
          rw [hQe.out]
          exact packL_head bl hG.out u sb (by rw [← HP.out, ← HPL.out]; exact Hul.out) (by rw [← Hk.out, ← ens_ends, ← HEB.out]; exact hke) (by rw [← HP.out]; exact Hsb.out))
        have hrd := hid (p_read_bad (some ⟨g, 0, none⟩) c4 Q W7 (Ht.out.kept K7.out (by simp)) hQs.out (by rw [HQl.out]; exact hcq.out.1) (fun h => by simp at h) (by rw [HQl.out]; omega) (by rw [h36.out]; decide))
        rw [HQl.out, h36.out] at hrd
        have q1 : (eb : Int) ≤ (k : Int) := by omega
        have e2 := He2.out
        clear hke
        go_wp2_with fail
        refine hrd.out.mono ?_
        rintro e w8 ⟨rfl, k8⟩
        have K8 := hid (K7.out.trans k8)
        clear k8 hrd
        go_wp2
        go_ret
        exact ⟨by simp, K8.out⟩
      · have hkb : k < bl.flatten.length := by rw [← ens_ends, ← HEB.out]; omega
        have hsh := packL_body bl hG.out k (sb ^^^ m) hkb
        rw [← HP.out, ← HQ.out] at hsh
        have hrd := hid (p_read_good (some ⟨g, 0, none⟩) c4 Q W7 (Ht.out.kept K7.out (by simp)) hQs.out (by rw [HQl.out]; exact hcq.out.1) (fun h => by simp at h) (by rw [HQl.out]; omega) (ens bl) hsh.1 hsh.2 hG.out (by rw [ens_len]; exact hG.out.size.2))
        rw [HQl.out] at hrd
        have q1 : ¬ (eb : Int) ≤ (k : Int) := by omega
        have e2 := He2.out
        have Hkb := hid hkb
        clear hke hsh hkb
        go_wp2_with fail
        refine hrd.out.mono ?_
        rintro e w8 ⟨k8, (⟨-, la, lc, rfl, o8⟩ | ⟨hbd, -⟩)⟩
        rotate_left
        · exact absurd ((packL_len bl).symm.trans (by rw [← HP.out, ← HPL.out, HQl.out])) hbd
        rw [ens_len, ← HNN.out] at o8 ⊢
        have K8 := hid (K7.out.trans k8)
        have R8 := hid (fun v (hv : Kept [] w8 v) => hv.owns o8 (by simp))
        have Q8 := hid (fun v (hv : Kept [] w8 v) => ownsRow_src ((k8.trans hv).owns O7.out (by simp)))
        have T8 := hid (fun v (hv : Kept [] w8 v) => (k8.trans hv).owns T7.out (by simp))
        have B8 := hid (B7.out.kept k8 (by simp))
        have hln := hid (b_len S p _ _ w8 B8.out.bd)
        rw [ens_len, ← HNN.out] at hln
        clear k8 o8 hrd
        go_wp2_with fail
        refine hln.out.mono ?_
        rintro e w9 ⟨rfl, k9⟩
        have K9 := hid k9
        clear k9 hln
        go_wp2_with fail
        have hwrong0 := hid (show (Value.int .i64 0) = .int .i64 (if (bl.take 0).flatten.length ≤ k then 0 else 1) from by simp)
        clear e2 q1
        go_loopw [15, 92] (fun s15 s wr => ∃ j : Nat, j ≤ nn ∧ s = .int .i64 j ∧ s15 = .int .i64 (if (bl.take j).flatten.length ≤ k then 0 else 1) ∧ Hid (Kept [] w8 wr)) (fun _ s _ => nn - (intOf s).toNat)
        case atStart => exact ⟨0, Nat.zero_le _, rfl, hwrong0.out, K9⟩
        case round =>
          obtain ⟨j, hj, rfl, rfl, hkj⟩ := hrel
          obtain ⟨wn, hwn⟩ : ∃ wn : Int, wn = (if (bl.take j).flatten.length ≤ k then 0 else 1) := ⟨_, rfl⟩
          rw [← hwn]
          have Hwn := hid hwn
          clear hwn
          by_cases hlj : j < nn
          · have hlj' : j < bl.length := by have := HNN.out; omega
            obtain ⟨b, hbj⟩ : ∃ b, bl[j]? = some b := ⟨bl[j], by simp⟩
            have hfn := flat_next bl hbj
            have hfl := flat_le bl j b hbj
            have hB0 := packL_blob hbj
            obtain ⟨en, hen⟩ : ∃ en : En, en = ⟨Sha.sum b, (bl.take j).flatten.length, b.length⟩ := ⟨_, rfl⟩
            have h32 : en.id.length = 32 := by rw [hen]; exact sum32 b
            have heg : (ens bl)[j]? = some en := by rw [ens_get, hbj, hen]; rfl
            obtain ⟨off, hoff⟩ : ∃ off, off = (bl.take j).flatten.length := ⟨_, rfl⟩
            obtain ⟨ce, hce⟩ : ∃ ce, ce = en.cells := ⟨_, rfl⟩
            have hpl' : (plC (Sha.sum b) (off : Int) (b.length : Int)).toArray = ce.toArray := by rw [hce, hen, hoff]; rfl
            have lce := hid (show ce.length = 34 by rw [hce]; exact en_size h32)
            have ice := hid (show (Tryd.prog.info? 38).map (·.size) = some ce.length by rw [lce.out]; exact en_info)
            have fce := hid (show 0 + ce.length ≤ zEnC.length by rw [lce.out, zEnC_len]; decide)
            have sce := hid (splice36 zEnC ce (by rw [lce.out, zEnC_len]))
            have oce := hid (show ∀ v ∈ ce, v.oneCell' = true by rw [hce]; exact en_one _)
            have ce32 := hid (show ce[32]? = some (.int .i64 (off : Int)) by rw [hce, en_c32 h32, hen, hoff])
            have ce33 := hid (show ce[33]? = some (.int .i64 (b.length : Int)) by rw [hce, en_c33 h32, hen])
            obtain ⟨gg, rfl⟩ : ∃ gg, la = some ⟨gg, 0, none⟩ := by
              rcases (R8.out w8 (Kept.refl _ _)).2 with ⟨h1, h2⟩ | ⟨gg, cap, cur, h1, _⟩
              · exfalso; omega
              · simp at h1; exact ⟨gg, h1.1⟩
            have hreads := hid (show ∀ (i : Nat) v, ce[i]? = some v → wr.cell? ((⟨gg, j * 34, none⟩ : Addr).add i) = some v from fun i v hk => by
              have hk34 : i < 34 := by have := (List.getElem?_eq_some_iff.1 hk).1; rw [lce.out] at this; exact this
              have hc := (R8.out wr hkj.out).cells (g := gg) rfl (j * 34 + i) v (by rw [flat_get c34 34 c34_len (ens bl) j i en heg hk34, c34_of h32, ← hce]; exact hk)
              rw [plain_add] at hc ⊢
              simpa using hc)
            rw [← hoff] at hB0 hfn hfl
            rw [← HP.out] at hB0
            have hin8 : off + b.length ≤ Q.length := by rw [HQl.out, HPL.out]; exact hB0.2.2
            have hinP : off + b.length ≤ P.length := hB0.2.2
            obtain ⟨na, nc, hn1, hn2, hn3, hn5, hn4⟩ := slice_partC (some ⟨g, 0, none⟩) Q c4 off b.length hin8 (by rw [HQl.out]; exact hcq.out.1) (fun h => by simp at h)
            have hcT := owns_caps (T8.out w8 (Kept.refl _ _))
            obtain ⟨ta, tc, ht1, ht2, ht3, ht5, ht4⟩ := slice_partC a5 P c5 off b.length hinP (by rw [← HPL.out]; exact hcT.1) hcT.2.2.1
            rw [HQl.out] at hn1
            rw [← HPL.out] at ht1
            have hthen := hid (show (P.drop off).take b.length = b from by have h1 := hB0.1; unfold blobAt at h1; simpa using h1)
            obtain ⟨nw, HNW⟩ : ∃ nw, Hid (nw = (Q.drop off).take b.length) := ⟨_, hid rfl⟩
            have hnwl := hid (show nw.length = b.length from by rw [HNW.out, List.length_take, List.length_drop]; omega)
            have hsame := hid (show ∀ v, Kept [] w8 v → Calls Tryd.prog 16 #[.slice na b.length nc, .slice ta b.length tc] v fun e w' => e = .returned (.bool (decide (nw = b))) ∧ v = w' from fun v hv => by
              have h1 := hn4 v (Q8.out v hv)
              have h0 : SrcB v (.slice a5 P.length c5) P := ownsRow_src (by rw [← HPL.out]; exact T8.out v hv)
              have h2 := ht4 v h0
              rw [← HNW.out] at h1
              rw [hthen.out] at h2
              have h3 := same_decp na ta nc tc nw b v (by rw [hnwl.out]; exact h1) h2
              rw [hnwl.out] at h3
              exact h3)
            have hb200 := hid (hbls.out b (List.mem_of_getElem? hbj))
            have hofn := hid (show ∀ v, Kept [] w8 v → Calls Tryd.prog 24 #[.slice na b.length nc] v fun e w' => e = .returned (.agg ((Sha.sum nw).map B).toArray) ∧ Kept [] v w' from fun v hv => by
              have h1 := hn4 v (Q8.out v hv)
              rw [← HNW.out, ← hnwl.out] at h1
              have h2 := refof_any na nc nw v (reads_src h1) hn5 (by rw [hnwl.out]; have := hb200.out; omega) (fun s b gh ch gk ck gb ob cb w h1 h2 h3 h4 => refmix_any s b gh ch gk ck gb ob cb w h1 h2 h3 h4)
              rw [hnwl.out] at h2
              exact h2)
            have hoft := hid (show ∀ v, Kept [] w8 v → Calls Tryd.prog 24 #[.slice ta b.length tc] v fun e w' => e = .returned (.agg ((Sha.sum b).map B).toArray) ∧ Kept [] v w' from fun v hv => by
              have h0 : SrcB v (.slice a5 P.length c5) P := ownsRow_src (by rw [← HPL.out]; exact T8.out v hv)
              have h2 := ht4 v h0
              rw [hthen.out] at h2
              exact refof_any ta tc b v (reads_src h2) ht5 (by have := hb200.out; omega) (fun s b gh ch gk ck gb ob cb w h1 h2 h3 h4 => refmix_any s b gh ch gk ck gb ob cb w h1 h2 h3 h4))
            have hbe := hid (show blobErr Q (Sha.sum b) (off : Int) (b.length : Int) = if Sha.sum nw ≠ Sha.sum b then 35 else 0 from by
              unfold blobErr; rw [if_neg (by omega), HNW.out]; simp)
            have hcall := hid (fun v (hv : Kept [] w8 v) => p_blob_near (some ⟨g, 0, none⟩) c4 Q (Sha.sum b) off b.length v (Hts.out.kept (K8.out.trans hv) (by simp) (by simp)) (sum32 b) (by rw [HQl.out]; omega) hin8 (by rw [HQl.out]; exact hcq.out.1) hcq.out.2.1 (fun h => by simp at h) (fun u hu => Q8.out u (hv.trans hu)))
            rw [hpl', HQl.out] at hcall
            have hne := hid (show (¬ (off ≤ k ∧ k < off + b.length) → nw = b) ∧ ((off ≤ k ∧ k < off + b.length) → nw ≠ b) from by
              have hx : sb ^^^ m ≠ sb := by
                intro e
                have h2 : sb ^^^ (sb ^^^ m) = sb ^^^ sb := by rw [e]
                rw [← UInt8.xor_assoc, UInt8.xor_self, UInt8.zero_xor, Hm2.out] at h2
                have h3 : rr < 8 := by have := Hr8.out; omega
                have h4 : ∀ r : Fin 8, UInt8.ofNat (2 ^ r.val) ≠ 0 := by decide
                exact h4 ⟨rr, h3⟩ h2
              refine ⟨fun h => ?_, fun h => ?_⟩
              · rw [HNW.out, HQ.out, part_set P k _ off b.length (by omega), hthen.out]
              · intro e
                exact part_ne P k _ sb off b.length h (by rw [Hk.out]; exact Hsb.out) hx (by rw [← HQ.out, ← HNW.out, e, hthen.out]))
            have hwn2 := hid (show (bl.take (j + 1)).flatten.length = off + b.length from hfn)
            have hwn1 := hid (show wn = if off ≤ k then 0 else 1 from by rw [Hwn.out, ← hoff])
            have wsum : IntKind.i64.wrap ((off : Int) + (b.length : Int)) = (off : Int) + (b.length : Int) := by
              have h1 := HQl.out; have h2 := HPL.out; have h3 := hpl1; rw [IntKind.wrap_i64]; omega
            have Hlj := hid hlj; have Hkj := hid hkj.out
            have Hn1 := hid hn1; have Ht1 := hid ht1
            replace hn1 := hid hn1; replace ht1 := hid ht1
            have hos := hid (show off + b.length ≤ 1048576 by have := HPL.out; omega)
            clear hB0 hfn hfl hpl' hce hen heg hbj hlj' h32 hoff hin8 hinP hn2 hn3 hn4 hn5 ht2 ht3 ht4 ht5 hlj hkj hcT
            go_wp2_with (first | (refine wpList_load_cells rfl 38 (.tmp 94) rfl ⟨gg, j * 34, none⟩ rfl ce _ Tryd.underlying38 rfl ice.out hreads.out ?_) | (refine wpList_store_at rfl 38 (.tmp 17) (.tmp 95) rfl wr.heap.size 0 ce rfl rfl 38 zEnC (heap_alloc_at rfl) ice.out fce.out oce.out ?_; refine halt ?_))
            rw [sce.out]
            refine Halt.mk ?_
            obtain ⟨wb, hwb⟩ : ∃ wb : World, wb = (wr.alloc (.cells zEnC.toArray 38)).setRow wr.heap.size ce.toArray := ⟨_, rfl⟩
            have kb := hid (show Kept [] wr wb by rw [hwb]; exact ((Kept.refl [] wr).alloc _).setRow (fun h => absurd h (Nat.lt_irrefl _)) _)
            have qb := hid (show wb.heap[wr.heap.size]? = some (.cells ce.toArray 38 (0, 0)) from by rw [hwb]; exact setRow_heap _ _ _ _ _ _ (heap_alloc_at rfl))
            rw [← hwb]
            clear hwb hreads
            have hc32 := hid (show ∀ v, Kept [] wb v → v.cell? ⟨wr.heap.size, 32, none⟩ = some (.int .i64 (off : Int)) from fun v hv => by rw [cell_of_row v _ 32 _ _ _ (hv.at qb.out (by simp))]; simpa using ce32.out)
            have hc33 := hid (show ∀ v, Kept [] wb v → v.cell? ⟨wr.heap.size, 33, none⟩ = some (.int .i64 (b.length : Int)) from fun v hv => by rw [cell_of_row v _ 33 _ _ _ (hv.at qb.out (by simp))]; simpa using ce33.out)
            go_wp2_with fail
            refine wp_region_held_drew (S := Kept [] wb) (by kernel_rfl) (Kept.refl _ _).drew (fun hH => ?_)
            refine takeH 0 (.slice (some ⟨g, 0, none⟩) pl c4) rfl (by kernel_rfl) (by kernel_rfl) (by kernel_rfl) (fun _ _ _ h => h) (by rfl) (fun v hv => by go_simp) hH ?_
            simp only [Act.put, List.setIfInBounds_toArray, List.set_cons_succ, List.set_cons_zero]
            refine takeH 1 (.pointer (some ⟨wr.heap.size, 32, none⟩)) rfl (by kernel_rfl) (by kernel_rfl) (by kernel_rfl) (fun _ _ _ h => h) (by rfl) (fun v hv => by go_simp) hH ?_
            simp only [Act.put, List.setIfInBounds_toArray, List.set_cons_succ, List.set_cons_zero]
            refine takeH 2 (.int .i64 (off : Int)) rfl (by kernel_rfl) (by kernel_rfl) (by kernel_rfl) (fun _ _ _ h => h) (by rfl) (fun v hv => by have h := hc32.out v hv; go_simp) hH ?_
            simp only [Act.put, List.setIfInBounds_toArray, List.set_cons_succ, List.set_cons_zero]
            refine takeH 3 (.pointer (some ⟨wr.heap.size, 32, none⟩)) rfl (by kernel_rfl) (by kernel_rfl) (by kernel_rfl) (fun _ _ _ h => h) (by rfl) (fun v hv => by go_simp) hH ?_
            simp only [Act.put, List.setIfInBounds_toArray, List.set_cons_succ, List.set_cons_zero]
            refine takeH 4 (.int .i64 (off : Int)) rfl (by kernel_rfl) (by kernel_rfl) (by kernel_rfl) (fun _ _ _ h => h) (by rfl) (fun v hv => by have h := hc32.out v hv; go_simp) hH ?_
            simp only [Act.put, List.setIfInBounds_toArray, List.set_cons_succ, List.set_cons_zero]
            refine takeH 5 (.pointer (some ⟨wr.heap.size, 33, none⟩)) rfl (by kernel_rfl) (by kernel_rfl) (by kernel_rfl) (fun _ _ _ h => h) (by rfl) (fun v hv => by go_simp) hH ?_
            simp only [Act.put, List.setIfInBounds_toArray, List.set_cons_succ, List.set_cons_zero]
            refine takeH 6 (.int .i64 (b.length : Int)) rfl (by kernel_rfl) (by kernel_rfl) (by kernel_rfl) (fun _ _ _ h => h) (by rfl) (fun v hv => by have h := hc33.out v hv; go_simp) hH ?_
            simp only [Act.put, List.setIfInBounds_toArray, List.set_cons_succ, List.set_cons_zero]
            refine takeH 7 (.int .i64 ((off : Int) + (b.length : Int))) rfl (by kernel_rfl) (by kernel_rfl) (by kernel_rfl) (fun _ _ _ h => h) (by rfl) (fun v hv => by go_simp) hH ?_
            simp only [Act.put, List.setIfInBounds_toArray, List.set_cons_succ, List.set_cons_zero]
            refine takeH 8 (.slice na b.length nc) rfl (by kernel_rfl) (by kernel_rfl) (by kernel_rfl) (fun _ _ _ h => h) (by rfl) (fun v hv => by have h := hn1.out v; go_simp) hH ?_
            simp only [Act.put, List.setIfInBounds_toArray, List.set_cons_succ, List.set_cons_zero]
            refine takeH 9 (.slice a5 pl c5) rfl (by kernel_rfl) (by kernel_rfl) (by kernel_rfl) (fun _ _ _ h => h) (by rfl) (fun v hv => by go_simp) hH ?_
            simp only [Act.put, List.setIfInBounds_toArray, List.set_cons_succ, List.set_cons_zero]
            refine takeH 10 (.pointer (some ⟨wr.heap.size, 32, none⟩)) rfl (by kernel_rfl) (by kernel_rfl) (by kernel_rfl) (fun _ _ _ h => h) (by rfl) (fun v hv => by go_simp) hH ?_
            simp only [Act.put, List.setIfInBounds_toArray, List.set_cons_succ, List.set_cons_zero]
            refine takeH 11 (.int .i64 (off : Int)) rfl (by kernel_rfl) (by kernel_rfl) (by kernel_rfl) (fun _ _ _ h => h) (by rfl) (fun v hv => by have h := hc32.out v hv; go_simp) hH ?_
            simp only [Act.put, List.setIfInBounds_toArray, List.set_cons_succ, List.set_cons_zero]
            refine takeH 12 (.pointer (some ⟨wr.heap.size, 32, none⟩)) rfl (by kernel_rfl) (by kernel_rfl) (by kernel_rfl) (fun _ _ _ h => h) (by rfl) (fun v hv => by go_simp) hH ?_
            simp only [Act.put, List.setIfInBounds_toArray, List.set_cons_succ, List.set_cons_zero]
            refine takeH 13 (.int .i64 (off : Int)) rfl (by kernel_rfl) (by kernel_rfl) (by kernel_rfl) (fun _ _ _ h => h) (by rfl) (fun v hv => by have h := hc32.out v hv; go_simp) hH ?_
            simp only [Act.put, List.setIfInBounds_toArray, List.set_cons_succ, List.set_cons_zero]
            refine takeH 14 (.pointer (some ⟨wr.heap.size, 33, none⟩)) rfl (by kernel_rfl) (by kernel_rfl) (by kernel_rfl) (fun _ _ _ h => h) (by rfl) (fun v hv => by go_simp) hH ?_
            simp only [Act.put, List.setIfInBounds_toArray, List.set_cons_succ, List.set_cons_zero]
            refine takeH 15 (.int .i64 (b.length : Int)) rfl (by kernel_rfl) (by kernel_rfl) (by kernel_rfl) (fun _ _ _ h => h) (by rfl) (fun v hv => by have h := hc33.out v hv; go_simp) hH ?_
            simp only [Act.put, List.setIfInBounds_toArray, List.set_cons_succ, List.set_cons_zero]
            refine takeH 16 (.int .i64 ((off : Int) + (b.length : Int))) rfl (by kernel_rfl) (by kernel_rfl) (by kernel_rfl) (fun _ _ _ h => h) (by rfl) (fun v hv => by go_simp) hH ?_
            simp only [Act.put, List.setIfInBounds_toArray, List.set_cons_succ, List.set_cons_zero]
            refine takeH 17 (.slice ta b.length tc) rfl (by kernel_rfl) (by kernel_rfl) (by kernel_rfl) (fun _ _ _ h => h) (by rfl) (fun v hv => by have h := ht1.out v; go_simp) hH ?_
            simp only [Act.put, List.setIfInBounds_toArray, List.set_cons_succ, List.set_cons_zero]
            refine takeH 18 (.slice na b.length nc) rfl (by kernel_rfl) (by kernel_rfl) (by kernel_rfl) (fun _ _ _ h => h) (by rfl) (fun v hv => by go_simp) hH ?_
            simp only [Act.put, List.setIfInBounds_toArray, List.set_cons_succ, List.set_cons_zero]
            refine takeH 19 (.slice ta b.length tc) rfl (by kernel_rfl) (by kernel_rfl) (by kernel_rfl) (fun _ _ _ h => h) (by rfl) (fun v hv => by go_simp) hH ?_
            simp only [Act.put, List.setIfInBounds_toArray, List.set_cons_succ, List.set_cons_zero]
            refine wpAnyH_done (by kernel_rfl) ?_ _
            obtain ⟨wd, hwd⟩ : ∃ wd, wd = wb.drew := ⟨_, rfl⟩
            rw [← hwd] at hH ⊢
            have Kd := hid (Hkj.out.trans (kb.out.trans hH))
            have qd := hid (hH.at qb.out (by simp))
            clear hwd hH wsum
            have hrd17 := hid (show ∀ v, Kept [] wd v → ∀ (i : Nat) x, ce[i]? = some x → v.cell? ((⟨wr.heap.size, 0, none⟩ : Addr).add i) = some x from fun v hv i x hx => by
              rw [plain_add, cell_of_row v _ _ _ _ _ (hv.at qd.out (by simp))]; simpa using hx)
            clear qb qd hc32 hc33 kb oce ce32 ce33 fce sce Hn1 Ht1 hn1 ht1
            go_wp2_with fail
            refine (hsame.out wd Kd.out).mono ?_
            rintro e wz ⟨rfl, rfl⟩
            by_cases hnb : nw = b
            · have hd0 : decide (nw = b) = true := by simp [hnb]
              have hnk := hid (show ¬ (off ≤ k ∧ k < off + b.length) from fun hx => hne.out.2 hx hnb)
              have hb0 := hid (show blobErr Q (Sha.sum b) (off : Int) (b.length : Int) = 0 from by rw [hbe.out, hnb]; simp)
              rw [hd0]
              clear hd0 hnb
              go_wp2_with (refine wpList_load_cells rfl 38 (.tmp 17) rfl ⟨wr.heap.size, 0, none⟩ rfl ce _ Tryd.underlying38 rfl ice.out (hrd17.out _ (Kept.refl _ _)) ?_)
              refine (hcall.out wd Kd.out).mono ?_
              rintro e wy ⟨ky, (⟨hbd, -⟩ | ⟨-, ba, bc, rfl, -⟩)⟩
              · exact absurd hb0.out hbd
              have Ky := hid (Kd.out.trans ky)
              have hlj := Hlj.out
              have hx : (if off ≤ k then (0 : Int) else 1) = if off + b.length ≤ k then 0 else 1 := by
                have h1 := hnk.out
                by_cases h2 : off ≤ k
                · rw [if_pos h2, if_pos (by omega)]
                · rw [if_neg h2, if_neg (by omega)]
              clear ky
              go_wp2
              go_roundw
              case rel =>
                exact ⟨j + 1, hlj, by go_num, by rw [hwn2.out, hwn1.out, hx], Ky⟩
              case measure => simp [intOf]; omega
            · have hd0 : decide (nw = b) = false := by simp [hnb]
              have hnk := hid (show off ≤ k ∧ k < off + b.length from Decidable.byContradiction fun hx => hnb (hne.out.1 hx))
              rw [hd0]
              clear hd0 hnb
              go_wp2_with fail
              refine (hofn.out wd Kd.out).mono ?_
              rintro e wx ⟨rfl, kx⟩
              have Kx := hid kx
              clear kx
              go_wp2_with fail
              refine (hoft.out wx (Kd.out.trans Kx.out)).mono ?_
              rintro e wt ⟨rfl, kt⟩
              have Kt := hid (Kx.out.trans kt)
              clear kt
              have hw0 : wn = 0 := by rw [hwn1.out, if_pos hnk.out.1]
              subst hw0
              have hx := hid (show (1 : Int) = if off + b.length ≤ k then 0 else 1 from by rw [if_neg (by have := hnk.out; omega)])
              have hideq := hid (fun W => id_equal (Sha.sum nw) (Sha.sum b) (sum32 nw) (sum32 b) W)
              by_cases hsm : Sha.sum nw = Sha.sum b
              · have hd1 : decide (Sha.sum nw = Sha.sum b) = true := by simp [hsm]
                rw [hd1] at hideq
                have he := hideq.out
                clear hd1 hsm
                have Ktt := hid (K8.out.trans (Kd.out.trans Kt.out))
                go_wp2_with (simp only [he])
                go_ret
                exact ⟨by simp, Ktt.out⟩
              · have hd1 : decide (Sha.sum nw = Sha.sum b) = false := by simp [hsm]
                rw [hd1] at hideq
                have he := hideq.out
                have hb35 := hid (show blobErr Q (Sha.sum b) (off : Int) (b.length : Int) = 35 from by rw [hbe.out, if_pos hsm])
                clear hd1 hsm
                go_wp2_with (first | simp only [he] | (refine wpList_load_cells rfl 38 (.tmp 17) rfl ⟨wr.heap.size, 0, none⟩ rfl ce _ Tryd.underlying38 rfl ice.out (hrd17.out _ Kt.out) ?_))
                refine (hcall.out wt (Kd.out.trans Kt.out)).mono ?_
                rintro e wy ⟨ky, (⟨-, rfl⟩ | ⟨hbd, -⟩)⟩
                rotate_left
                · exact absurd (hb35.out.symm.trans hbd) (by decide)
                rw [hb35.out]
                have Ky := hid (Kd.out.trans (Kt.out.trans ky))
                have hlj := Hlj.out
                clear ky
                go_wp2
                go_roundw
                case rel => exact ⟨j + 1, hlj, by go_num, by rw [hwn2.out, ← hx.out], Ky⟩
                case measure => simp [intOf]; omega
          · obtain rfl : j = nn := by omega
            have hw1 : wn = 1 := by rw [Hwn.out, HNN.out, List.take_length, if_neg (by have := Hkb.out; omega)]
            subst hw1
            have K9j := hid (K8.out.trans hkj.out)
            clear hkj hlj
            go_wp2
            go_ret
            exact ⟨by simp, K9j.out⟩
end Go.Proofs.YtlapomkckcoppaaDoor
