import Derived.Test.YtmkdjonlfkfnlaaDoorF7
import Derived.Test.YtmkdjonlfkfnlaaDoorMK

/- cache: Put. -/
namespace Go.Proofs.YtmkdjonlfkfnlaaDoor
open Go.RowKit Go.Lib Go.Maps
def idz : List UInt8 := List.replicate 32 0
theorem zero_idN (W : World) : (zeroValue 34).run Tryd.prog W = .ok (.agg (idz.map B).toArray) W := by kernel_rfl
theorem idz_len : idz.length = 32 := by simp [idz]
theorem id_one (id : List UInt8) : (id.map B).toArray.all (·.oneCell') = true := by
  rw [Array.all_eq_true_iff_forall_mem]
  intro u hu
  exact B_one _ u (by simpa using hu)
def PutQ (D : Nat) (w : World) (U : List Nat) (p : Nat) (lim : Int) (ns : List Kn) (ys : List UInt8) (e : Ending) (w' : World) : Prop :=
  e = .returned (.agg ((Sha.sum ys).map B).toArray) ∧ Kept U w w' ∧ ∃ U' ns', (∀ x ∈ U', x ∈ U ∨ (w.heap.size ≤ x ∧ x < w'.heap.size)) ∧ (∀ x ∈ U, x ∈ U') ∧ Ca D w' U' p lim ns' ∧ datK ns' = putD lim (datK ns) ys
theorem wpList_ldv {P : Program} {ops : Array Oper} {rest : List Oper} {o : Oper} {a : Act} {w : World} {Q : Exit → Act → World → Prop} (hgd : o.guard = none) (ty : TypeId) (x : Operand) (ho : o.op = .load ty x) (ad : Addr) (hx : a.eval x = .pointer (some ad)) (v : Value)
    (hr : (loadVar ty ad).run P w = .ok v w) (h : wpList P ops Q rest (a.put o.dst v) w) : wpList P ops Q (o :: rest) a w :=
  wpList_plain hgd fun _ hK => by
    unfold Oper.wp execOp
    simp only [ho, hx, Instr.loadAt, Instr.sureAddr, Sem.run_bind, Sem.run_pure, Result.andThen_ok, hr]
    exact hK _ _ h
set_option maxRecDepth 100000 in
theorem build_kn' (xa : Option Addr) (xn xc : Nat) (b0 b1 b2 b3 b4 b5 b6 b7 b8 b9 b10 b11 b12 b13 b14 b15 b16 b17 b18 b19 b20 b21 b22 b23 b24 b25 b26 b27 b28 b29 b30 b31 : UInt8) (W : World) : (Instr.build 72 #[(0, .agg ([b0, b1, b2, b3, b4, b5, b6, b7, b8, b9, b10, b11, b12, b13, b14, b15, b16, b17, b18, b19, b20, b21, b22, b23, b24, b25, b26, b27, b28, b29, b30, b31].map B).toArray), (1, .slice xa xn xc)]).run Tryd.prog W = .ok (.agg ([b0, b1, b2, b3, b4, b5, b6, b7, b8, b9, b10, b11, b12, b13, b14, b15, b16, b17, b18, b19, b20, b21, b22, b23, b24, b25, b26, b27, b28, b29, b30, b31].map B ++ [Value.slice xa xn xc, .pointer none, .pointer none]).toArray) W := run_build W _ _ _ (by kernel_rfl)
theorem build_kn (id : List UInt8) (h : id.length = 32) (xa : Option Addr) (xn xc : Nat) (W : World) : (Instr.build 72 #[(0, .agg (id.map B).toArray), (1, .slice xa xn xc)]).run Tryd.prog W = .ok (.agg (id.map B ++ [Value.slice xa xn xc, .pointer none, .pointer none]).toArray) W := by
  match id, h with
  | [b0, b1, b2, b3, b4, b5, b6, b7, b8, b9, b10, b11, b12, b13, b14, b15, b16, b17, b18, b19, b20, b21, b22, b23, b24, b25, b26, b27, b28, b29, b30, b31], _ => exact build_kn' xa xn xc b0 b1 b2 b3 b4 b5 b6 b7 b8 b9 b10 b11 b12 b13 b14 b15 b16 b17 b18 b19 b20 b21 b22 b23 b24 b25 b26 b27 b28 b29 b30 b31 W
theorem ow_low {w : World} {b b' : Nat} {e : TypeId} {s : Nat} {v : Value} {n : Nat} {xs : List Value} (h : w.ownsRow b e s v n xs) (hb : b' ≤ b) : w.ownsRow b' e s v n xs := by
  obtain ⟨h1, h2⟩ := h
  refine ⟨h1, ?_⟩
  rcases h2 with h2 | ⟨g, cap, cur, h3, h4, r⟩
  · exact Or.inl h2
  · exact Or.inr ⟨g, cap, cur, h3, Nat.le_trans hb h4, r⟩
theorem evict_stop {lim : Int} {k : Nat} {l : List (List UInt8 × List UInt8)} (h : ¬ lim - (k : Int) < (szD l : Int)) : evict lim k l = l := by
  cases l with
  | nil => rfl
  | cons e r => unfold evict; rw [if_neg h]
theorem evict_go {lim : Int} {k : Nat} {e : List UInt8 × List UInt8} {r : List (List UInt8 × List UInt8)} (h : lim - (k : Int) < (szD (e :: r) : Int)) : evict lim k (e :: r) = evict lim k r := by
  conv => lhs; unfold evict
  rw [if_pos h]

set_option maxRecDepth 100000 in
set_option maxHeartbeats 8000000 in
theorem ca_put (D : Nat) (w : World) (U : List Nat) (p : Nat) (lim : Int) (ns : List Kn) (h : Ca D w U p lim ns) (ht : Tabs w) (hT : 0 ∉ U ∧ 1 ∉ U) (hz : sizeK ns ≤ 100000000) (hl : ns.length ≤ 1000000)
    (a : Option Addr) (c : Nat) (ys : List UInt8) (hr : Reads w a ys) (hb : ys ≠ [] → ∀ x, a = some x → x.block ∉ U) (hac : a = none → c = 0) (hc : ys.length ≤ c) (hc2 : c ≤ 9223372036854775807) (hy : ys.length ≤ 1000000) :
    Calls Tryd.prog 10 #[.pointer (some ⟨p, 0, none⟩), .slice a ys.length c] w (PutQ D w U p lim ns ys) := by
  obtain ⟨id, hid0⟩ : ∃ id, id = Sha.sum ys := ⟨_, rfl⟩
  have h32 : id.length = 32 := by rw [hid0]; exact Sha.sum_len _
  have HID := hid hid0
  obtain ⟨iv, hiv⟩ : ∃ iv, iv = (id.map B).toArray := ⟨_, rfl⟩
  have HIV := hid hiv
  have hsz : iv.size = 32 := by rw [hiv]; simp [h32]
  have Hsz := hid (show (Tryd.prog.info? 34).map (·.size) = some iv.size by rw [hsz]; kernel_rfl)
  have Hold := hid (show (idz.map B).toArray.size = iv.size by rw [hsz]; simp [idz])
  have Hone := hid (show iv.all (·.oneCell') = true by rw [hiv]; exact id_one id)
  obtain ⟨zv, hzv⟩ : ∃ zv, zv = (idz.map B).toArray := ⟨_, rfl⟩
  have hzz : ∀ W, (zeroValue 34).run Tryd.prog W = .ok (.agg zv) W := by rw [hzv]; exact zero_idN
  rw [← hzv] at Hold
  obtain ⟨wa, hwa⟩ : ∃ wa, wa = w.alloc (.cells zv 34) := ⟨_, rfl⟩
  have ka := hid (show Kept [] w wa from hwa ▸ (Kept.refl [] w).alloc _)
  have HWA := hid hwa
  have hra := hid (show wa.heap[w.heap.size]? = some (.cells zv 34 (0, 0)) from hwa ▸ heap_alloc_at rfl)
  have hR := hid (fun V (hV : Kept U w V) => hr.kept hV hb)
  have hof := hid (of_any a c ys wa (ht.kept ka.out (by simp) (by simp)) (hr.kept ka.out (fun _ _ _ => by simp)) hc hc2 (by omega))
  rw [← hid0, ← hiv] at hof
  have H := hid h; have HT := hid ht; have HTU := hid hT; have HZ := hid hz; have HL := hid hl; have HB := hid hb; have HAC := hid hac; have HCC := hid (And.intro hc hc2)
  have hln := hid hy
  have HLIM := hid h.lim0
  obtain ⟨k, hk⟩ : ∃ k, k = ys.length := ⟨_, rfl⟩
  have HK := hid hk
  rw [← hk] at hof
  have hkk : k ≤ 1000000 := by omega
  unfold PutQ
  rw [← hid0, ← hiv, ← hk]
  clear h ht hT hz hl hr hb hac hc hc2 hid0 hiv hsz hzv hwa hy hk
  go_enter Tryd.func10, Tryd.ntmps10
  go_wp2_with fail
  rw [← HWA.out]
  refine hof.out.mono ?_
  rintro e w2 ⟨rfl, k2⟩
  obtain ⟨q, hq⟩ : ∃ q, q = w2.heap.size := ⟨_, rfl⟩
  obtain ⟨r, hr⟩ : ∃ r, r = w.heap.size := ⟨_, rfl⟩
  have hrq : r < q := by have h1 := lt_of_block (k2.at hra.out (by simp)); omega
  obtain ⟨wb, hwb⟩ : ∃ wb, wb = w2.alloc (.cells zv 34) := ⟨_, rfl⟩
  have hqb : wb.heap[q]? = some (.cells zv 34 (0, 0)) := by rw [hwb, hq]; exact heap_alloc_at rfl
  obtain ⟨w3, hw3⟩ : ∃ w3, w3 = wb.setRow q iv := ⟨_, rfl⟩
  have kb := hid (show Kept [] w w3 from by
    rw [hw3, hwb, hq]
    exact ((ka.out.trans k2).trans ((Kept.refl [] w2).alloc _)).setRow (fun h => absurd h (by have := (ka.out.trans k2).size; omega)) _)
  have hq3 := hid (show w3.heap[q]? = some (.cells iv 34 (0, 0)) from by rw [hw3]; exact setRow_heap _ _ _ _ _ _ hqb)
  have hr3 := hid (show w3.heap[r]? = some (.cells zv 34 (0, 0)) from by
    have h1 := k2.at hra.out (by simp)
    rw [← hr] at h1
    rw [hw3, hwb, hq]
    exact ((Kept.refl [w2.heap.size] w2).alloc (.cells zv 34) |>.setRow (fun _ => by simp) iv).at h1 (by simp; omega))
  have hrU := hid (show r ∉ U ∧ q ∉ U from ⟨fun hm => by have := (H.out.bound r hm).2; omega, fun hm => by have := (H.out.bound q hm).2; omega⟩)
  have HQ := hid hq; have HR := hid hr; have HWB := hid hwb; have HW3 := hid hw3; have HQB := hid hqb
  have CA3 := hid (H.out.kept kb.out (by simp))
  have hdr := hid (ca_drop D w3 U p lim ns CA3.out id h32 (by have := HZ.out; omega))
  rw [← HIV.out] at hdr
  have hld := hid (ld_idB w3 q id h32 (by rw [← HIV.out]; exact hq3.out))
  rw [← HIV.out] at hld
  clear k2 hof hra HWA hq hr hwb hw3
  rw [← HR.out]
  go_wp2_with (refine wpList_store_row rfl 34 (.tmp 5) (.tmp 7) rfl q iv (by rw [HQ.out]; rfl) rfl _ _ (by rw [← HWB.out]; exact HQB.out) Hsz.out Hold.out Hone.out ?_; refine halt ?_)
  refine Halt.mk ?_
  rw [← HWB.out, ← HW3.out, ← HQ.out]
  clear hqb hrq
  go_wp2_with (refine wpList_ldv rfl 34 (.tmp 5) rfl ⟨q, 0, none⟩ rfl (.agg iv) hld.out ?_; refine halt ?_)
  refine Halt.mk ?_
  go_wp2_with fail
  refine hdr.out.mono ?_
  rintro e w4 ⟨rfl, k4, ns1, hd1, ca4⟩
  have hnot := hid (show ∀ e ∈ datK ns1, e.1 ≠ id from fun e he => by rw [hd1] at he; exact (dropD_mem.1 he).2)
  have hsz1 := hid (show sizeK ns1 ≤ 100000000 from by rw [sizeK_dat, hd1]; have h1 := szD_drop id (datK ns); rw [← sizeK_dat] at h1; have := HZ.out; omega)
  have hln1 := hid (show ns1.length ≤ 1000000 from by
    have h1 : (datK ns1).length ≤ (datK ns).length := by rw [hd1]; exact List.length_filter_le _ _
    unfold datK at h1
    simp at h1
    have := HL.out
    omega)
  have K4 := hid ((kb.out.wider (fun x _ hx => by simp at hx)).trans k4)
  have hq4 := hid (k4.at hq3.out hrU.out.2)
  have hr4 := hid (k4.at hr3.out hrU.out.1)
  have HD1 := hid hd1; have CA4 := hid ca4
  clear k4 hd1 ca4 hdr hld
  have hc0 : w4.cell? ⟨p, 0, none⟩ = some (.int .i64 lim) := by obtain ⟨mv, h1, _⟩ := CA4.out.row; exact (ca_cells h1).1
  by_cases hbig : lim < (k : Int)
  · have hldf := hid (ld_idB w4 q id h32 (by rw [← HIV.out]; exact hq4.out))
    rw [← HIV.out] at hldf
    go_wp2_with (first | (refine wpList_ldv rfl 34 (.tmp 5) rfl ⟨q, 0, none⟩ rfl (.agg iv) hldf.out ?_) | (refine wpList_store_row rfl 34 (.tmp 4) (.tmp 18) rfl r iv rfl rfl _ _ hr4.out Hsz.out Hold.out Hone.out ?_))
    refine bodyPost_ret (v := .agg iv) (results_cell_row Tryd.results10 _ _ r _ _ _ _ rfl (setRow_heap _ _ _ _ _ _ hr4.out) Tryd.underlying34 rfl Hsz.out) rfl ?_
    have hkr7 : Kept [r] w4 (w4.setRow r iv) := (Kept.refl [r] w4).setRow (fun _ => by simp) iv
    have hrw := HR.out
    refine ⟨rfl, K4.out.trans' hkr7 (fun x hx hm => by simp at hm; omega), U, ns1, fun x hx => Or.inl hx, fun x hx => hx, CA4.out.kept hkr7 (fun x hx hm => by simp at hm; subst hm; exact hrU.out.1 hx), ?_⟩
    rw [HD1.out]
    unfold putD
    rw [← HID.out, ← HK.out, if_pos hbig]
  · obtain ⟨E, hE⟩ : ∃ E, E = evict lim k (datK ns1) := ⟨_, rfl⟩
    have HE := hid hE
    have hst := hid (show ∃ nsi, Ca D w4 U p lim nsi ∧ evict lim k (datK nsi) = E ∧ (∀ e ∈ datK nsi, e.1 ≠ id) ∧ sizeK nsi ≤ 100000000 ∧ nsi.length ≤ 1000000 from ⟨ns1, CA4.out, hE.symm, hnot.out, hsz1.out, hln1.out⟩)
    clear hE
    go_wp2_with fail
    clear hc0
    go_loopw [] (fun wr => Kept U w4 wr ∧ Hid (∃ nsi, Ca D wr U p lim nsi ∧ evict lim k (datK nsi) = E ∧ (∀ e ∈ datK nsi, e.1 ≠ id) ∧ sizeK nsi ≤ 100000000 ∧ nsi.length ≤ 1000000)) (fun wr => mapCount p wr)
    case atStart => exact ⟨Kept.refl _ _, hst⟩
    case round =>
      clear hst
      obtain ⟨hkr, hrel⟩ := hrel
      obtain ⟨nsi, cai, hev, hne, hsi, hli⟩ := hrel.out
      have HKR := hid hkr; have CAI := hid cai; have HEV := hid hev; have HNE := hid hne; have HSI := hid hsi; have HLI := hid hli
      obtain ⟨mv, hrow, him, hmU⟩ := cai.row
      have HROW := hid hrow
      have hd0 := hid (fun v (hv : Kept [] wr v) => (ca_cells (show CaAt v p lim (sizeK nsi) mv (fstP nsi none) (lstP none nsi) from hv.at HROW.out (by simp))).1)
      have hd1 := hid (fun v (hv : Kept [] wr v) => (ca_cells (show CaAt v p lim (sizeK nsi) mv (fstP nsi none) (lstP none nsi) from hv.at HROW.out (by simp))).2.1)
      obtain ⟨sz, hszN⟩ : ∃ sz : Nat, sz = sizeK nsi := ⟨_, rfl⟩
      have HSZN := hid hszN
      rw [← hszN] at hd1
      obtain ⟨lk, hlk⟩ : ∃ lk : Int, lk = lim - (k : Int) := ⟨_, rfl⟩
      have hwr := HLIM.out
      have hsubw : IntKind.i64.wrap (lim - (k : Int)) = lk := by rw [hlk, IntKind.wrap_i64]; omega
      have HLK := hid hlk
      have hH0 : Kept [] wr wr.drew := (Kept.refl [] wr).drew
      clear hkr cai hev hne hsi hli hrel hrow him hmU hszN hlk hwr
      by_cases hgo : lk < (sz : Int)
      · have hgb : decide (lk < (sz : Int)) = true := decide_eq_true hgo
        obtain ⟨n, rr, hnr⟩ : ∃ n rr, nsi = n :: rr := by
          cases nsi with
          | nil => have h1 := HSZN.out; have h2 := HLK.out; have h3 := HLIM.out; simp [sizeK] at h1; omega
          | cons n rr => exact ⟨n, rr, rfl⟩
        subst hnr
        have hn32 := hid (CAI.out.links.1.1)
        have hev2 := hid (evict_go (lim := lim) (k := k) (e := (n.id, n.bs)) (r := datK rr) (by
          have h1 := HSZN.out
          rw [sizeK_dat] at h1
          have h2 := HLK.out
          show lim - (k : Int) < (szD (datK (n :: rr)) : Int)
          omega))
        have HGO := hid hgo
        clear hgo
        go_wp2_with fail
        refine wp_region_held_drew (S := fun v => Kept [] wr v) (by kernel_rfl) hH0 (fun hH => ?_)
        refine takeH 0 (.pointer (some ⟨p, 0, none⟩)) rfl (by kernel_rfl) (by kernel_rfl) (by kernel_rfl) (fun _ _ _ h => h) (by rfl) (fun v hv => by go_simp) hH ?_
        simp only [Act.put, List.setIfInBounds_toArray, List.set_cons_succ, List.set_cons_zero]
        refine takeH 1 (.pointer (some ⟨p, 0, none⟩)) rfl (by kernel_rfl) (by kernel_rfl) (by kernel_rfl) (fun _ _ _ h => h) (by rfl) (fun v hv => by go_simp) hH ?_
        simp only [Act.put, List.setIfInBounds_toArray, List.set_cons_succ, List.set_cons_zero]
        refine takeH 2 (.pointer (some ⟨p, 1, none⟩)) rfl (by kernel_rfl) (by kernel_rfl) (by kernel_rfl) (fun _ _ _ h => h) (by rfl) (fun v hv => by go_simp) hH ?_
        simp only [Act.put, List.setIfInBounds_toArray, List.set_cons_succ, List.set_cons_zero]
        refine takeH 3 (.int .i64 (sz : Int)) rfl (by kernel_rfl) (by kernel_rfl) (by kernel_rfl) (fun _ _ _ h => h) (by rfl) (fun v hv => by have h := hd1.out v hv; go_simp) hH ?_
        simp only [Act.put, List.setIfInBounds_toArray, List.set_cons_succ, List.set_cons_zero]
        refine takeH 4 (.pointer (some ⟨p, 0, none⟩)) rfl (by kernel_rfl) (by kernel_rfl) (by kernel_rfl) (fun _ _ _ h => h) (by rfl) (fun v hv => by go_simp) hH ?_
        simp only [Act.put, List.setIfInBounds_toArray, List.set_cons_succ, List.set_cons_zero]
        refine takeH 5 (.pointer (some ⟨p, 0, none⟩)) rfl (by kernel_rfl) (by kernel_rfl) (by kernel_rfl) (fun _ _ _ h => h) (by rfl) (fun v hv => by go_simp) hH ?_
        simp only [Act.put, List.setIfInBounds_toArray, List.set_cons_succ, List.set_cons_zero]
        refine takeH 6 (.pointer (some ⟨p, 0, none⟩)) rfl (by kernel_rfl) (by kernel_rfl) (by kernel_rfl) (fun _ _ _ h => h) (by rfl) (fun v hv => by go_simp) hH ?_
        simp only [Act.put, List.setIfInBounds_toArray, List.set_cons_succ, List.set_cons_zero]
        refine takeH 7 (.int .i64 lim) rfl (by kernel_rfl) (by kernel_rfl) (by kernel_rfl) (fun _ _ _ h => h) (by rfl) (fun v hv => by have h := hd0.out v hv; go_simp) hH ?_
        simp only [Act.put, List.setIfInBounds_toArray, List.set_cons_succ, List.set_cons_zero]
        refine takeH 8 (.slice a k c) rfl (by kernel_rfl) (by kernel_rfl) (by kernel_rfl) (fun _ _ _ h => h) (by rfl) (fun v hv => by go_simp) hH ?_
        simp only [Act.put, List.setIfInBounds_toArray, List.set_cons_succ, List.set_cons_zero]
        refine takeH 9 (.int .i64 (k : Int)) rfl (by kernel_rfl) (by kernel_rfl) (by kernel_rfl) (fun _ _ _ h => h) (by rfl) (fun v hv => by go_simp) hH ?_
        simp only [Act.put, List.setIfInBounds_toArray, List.set_cons_succ, List.set_cons_zero]
        refine takeH 10 (.int .i64 lk) rfl (by kernel_rfl) (by kernel_rfl) (by kernel_rfl) (fun _ _ _ h => h) (by rfl) (fun v hv => by go_simp) hH ?_
        simp only [Act.put, List.setIfInBounds_toArray, List.set_cons_succ, List.set_cons_zero]
        refine takeH 11 (.bool true) rfl (by kernel_rfl) (by kernel_rfl) (by kernel_rfl) (fun _ _ _ h => h) (by rfl) (fun v hv => by go_simp) hH ?_
        simp only [Act.put, List.setIfInBounds_toArray, List.set_cons_succ, List.set_cons_zero]
        refine wpAnyH_done (by kernel_rfl) ?_ _
        have hf3 : wr.drew.cell? ⟨p, 3, none⟩ = some (.pointer (some ⟨n.b, 0, none⟩)) := by have h1 := (ca_cells HROW.out).2.2.2.1; exact h1
        have hldn := hid (show (loadVar 34 ⟨n.b, 0, none⟩).run Tryd.prog wr.drew = .ok (.agg (n.id.map B).toArray) wr.drew from kn_id_cells ((hH0.at CAI.out.links.1.2 (by simp))) hn32.out)
        have hdr := hid (ca_drop D wr.drew U p lim (n :: rr) (CAI.out.kept hH0 (by simp)) n.id hn32.out (by have := HSI.out; omega))
        obtain ⟨iv2, hiv2⟩ : ∃ iv2, iv2 = (n.id.map B).toArray := ⟨_, rfl⟩
        rw [← hiv2] at hldn hdr
        clear hiv2 hH hgb hsubw
        go_wp2_with (refine wpList_ldv rfl 34 (.tmp 38) rfl ⟨n.b, 0, none⟩ rfl (.agg iv2) hldn.out ?_; refine halt ?_)
        refine Halt.mk ?_
        go_wp2_with fail
        refine hdr.out.mono ?_
        rintro e w5 ⟨rfl, k5, ns5, hd5, ca5⟩
        have hkk5 := hid ((HKR.out.trans (hH0.wider (fun x _ hx => by simp at hx))).trans k5)
        have hd6 : datK ns5 = datK rr := by
          have h1 := dropD_mid (A := []) (C := rr) (n := n) CAI.out.ids
          rw [hd5]; exact h1
        have hst5 := hid (show ∃ nsi, Ca D w5 U p lim nsi ∧ evict lim k (datK nsi) = E ∧ (∀ e ∈ datK nsi, e.1 ≠ id) ∧ sizeK nsi ≤ 100000000 ∧ nsi.length ≤ 1000000 from by
          refine ⟨ns5, ca5, ?_, fun e he => ?_, ?_, ?_⟩
          · rw [hd6, ← hev2.out]; exact HEV.out
          · rw [hd6] at he; exact HNE.out e (List.mem_cons_of_mem _ he)
          · rw [sizeK_dat, hd6, ← sizeK_dat]; have h1 := HSI.out; have h2 := sizeK_mid [] rr n; simp at h2; omega
          · have h1 : (datK ns5).length = (datK rr).length := by rw [hd6]
            unfold datK at h1
            simp at h1
            have h2 := HLI.out
            simp at h2
            omega)
        have hcnt := hid (show mapCount p w5 < mapCount p wr from by
          rw [ca5.count, CAI.out.count]
          have h1 : (datK ns5).length = (datK rr).length := by rw [hd6]
          unfold datK at h1
          simp at h1
          simp
          omega)
        clear k5 hd5 ca5 hd6 hdr hldn hf3
        go_wp2
        go_roundw
        case rel => exact ⟨hkk5.out, hst5⟩
        case measure => exact hcnt.out
      · have hgb : decide (lk < (sz : Int)) = false := decide_eq_false hgo
        have hstop := hid (show datK nsi = E from by
          rw [← HEV.out, evict_stop]
          have h1 := HSZN.out
          rw [sizeK_dat] at h1
          have h2 := HLK.out
          omega)
        clear hgo
        go_wp2_with fail
        refine wp_region_held_drew (S := fun v => Kept [] wr v) (by kernel_rfl) hH0 (fun hH => ?_)
        refine takeH 0 (.pointer (some ⟨p, 0, none⟩)) rfl (by kernel_rfl) (by kernel_rfl) (by kernel_rfl) (fun _ _ _ h => h) (by rfl) (fun v hv => by go_simp) hH ?_
        simp only [Act.put, List.setIfInBounds_toArray, List.set_cons_succ, List.set_cons_zero]
        refine takeH 1 (.pointer (some ⟨p, 0, none⟩)) rfl (by kernel_rfl) (by kernel_rfl) (by kernel_rfl) (fun _ _ _ h => h) (by rfl) (fun v hv => by go_simp) hH ?_
        simp only [Act.put, List.setIfInBounds_toArray, List.set_cons_succ, List.set_cons_zero]
        refine takeH 2 (.pointer (some ⟨p, 1, none⟩)) rfl (by kernel_rfl) (by kernel_rfl) (by kernel_rfl) (fun _ _ _ h => h) (by rfl) (fun v hv => by go_simp) hH ?_
        simp only [Act.put, List.setIfInBounds_toArray, List.set_cons_succ, List.set_cons_zero]
        refine takeH 3 (.int .i64 (sz : Int)) rfl (by kernel_rfl) (by kernel_rfl) (by kernel_rfl) (fun _ _ _ h => h) (by rfl) (fun v hv => by have h := hd1.out v hv; go_simp) hH ?_
        simp only [Act.put, List.setIfInBounds_toArray, List.set_cons_succ, List.set_cons_zero]
        refine takeH 4 (.pointer (some ⟨p, 0, none⟩)) rfl (by kernel_rfl) (by kernel_rfl) (by kernel_rfl) (fun _ _ _ h => h) (by rfl) (fun v hv => by go_simp) hH ?_
        simp only [Act.put, List.setIfInBounds_toArray, List.set_cons_succ, List.set_cons_zero]
        refine takeH 5 (.pointer (some ⟨p, 0, none⟩)) rfl (by kernel_rfl) (by kernel_rfl) (by kernel_rfl) (fun _ _ _ h => h) (by rfl) (fun v hv => by go_simp) hH ?_
        simp only [Act.put, List.setIfInBounds_toArray, List.set_cons_succ, List.set_cons_zero]
        refine takeH 6 (.pointer (some ⟨p, 0, none⟩)) rfl (by kernel_rfl) (by kernel_rfl) (by kernel_rfl) (fun _ _ _ h => h) (by rfl) (fun v hv => by go_simp) hH ?_
        simp only [Act.put, List.setIfInBounds_toArray, List.set_cons_succ, List.set_cons_zero]
        refine takeH 7 (.int .i64 lim) rfl (by kernel_rfl) (by kernel_rfl) (by kernel_rfl) (fun _ _ _ h => h) (by rfl) (fun v hv => by have h := hd0.out v hv; go_simp) hH ?_
        simp only [Act.put, List.setIfInBounds_toArray, List.set_cons_succ, List.set_cons_zero]
        refine takeH 8 (.slice a k c) rfl (by kernel_rfl) (by kernel_rfl) (by kernel_rfl) (fun _ _ _ h => h) (by rfl) (fun v hv => by go_simp) hH ?_
        simp only [Act.put, List.setIfInBounds_toArray, List.set_cons_succ, List.set_cons_zero]
        refine takeH 9 (.int .i64 (k : Int)) rfl (by kernel_rfl) (by kernel_rfl) (by kernel_rfl) (fun _ _ _ h => h) (by rfl) (fun v hv => by go_simp) hH ?_
        simp only [Act.put, List.setIfInBounds_toArray, List.set_cons_succ, List.set_cons_zero]
        refine takeH 10 (.int .i64 lk) rfl (by kernel_rfl) (by kernel_rfl) (by kernel_rfl) (fun _ _ _ h => h) (by rfl) (fun v hv => by go_simp) hH ?_
        simp only [Act.put, List.setIfInBounds_toArray, List.set_cons_succ, List.set_cons_zero]
        refine takeH 11 (.bool false) rfl (by kernel_rfl) (by kernel_rfl) (by kernel_rfl) (fun _ _ _ h => h) (by rfl) (fun v hv => by go_simp) hH ?_
        simp only [Act.put, List.setIfInBounds_toArray, List.set_cons_succ, List.set_cons_zero]
        refine wpAnyH_done (by kernel_rfl) ?_ _
        go_wp2_with fail
        have hH1 : Kept [] wr wr.drew.drew := hH0.drew
        have hH2 : Kept U wr wr.drew.drew := hH1.wider (fun x _ hx => by simp at hx)
        have hldq := hid (fun v (hv : Kept U wr v) => ld_idB v q id h32 (by rw [← HIV.out]; exact hv.at (HKR.out.at hq4.out hrU.out.2) hrU.out.2))
        rw [← HIV.out] at hldq
        have hcl := hid (clone_own a c ys wr.drew.drew (src_reads (hR.out _ ((K4.out.trans HKR.out).trans (hH1.wider (fun x _ hx => by simp at hx)))) HAC.out) (by have := hln.out; omega))
        rw [← HK.out] at hcl
        obtain ⟨V0, hV0⟩ : ∃ V0, V0 = wr.drew.drew := ⟨_, rfl⟩
        refine wp_region_held_drew (S := fun v => Kept U wr v) (by kernel_rfl) hH2 (fun hH => ?_)
        refine takeH 0 (.pointer (some ⟨p, 0, none⟩)) rfl (by kernel_rfl) (by kernel_rfl) (by kernel_rfl) (fun _ _ _ h => h) (by rfl) (fun v hv => by go_simp) hH ?_
        simp only [Act.put, List.setIfInBounds_toArray, List.set_cons_succ, List.set_cons_zero]
        refine takeH 1 (.agg iv) rfl (by kernel_rfl) (by kernel_rfl) (by kernel_rfl) (fun _ _ _ h => h) (by rfl) (fun v hv => by have h := hldq.out v hv; unfold execOp; simp [Instr.loadAt, Instr.sureAddr, Sem.run_bind, Sem.run_pure, Result.andThen_ok, Act.eval, h]) hH ?_
        simp only [Act.put, List.setIfInBounds_toArray, List.set_cons_succ, List.set_cons_zero]
        refine takeH 2 (.slice a k c) rfl (by kernel_rfl) (by kernel_rfl) (by kernel_rfl) (fun _ _ _ h => h) (by rfl) (fun v hv => by go_simp) hH ?_
        simp only [Act.put, List.setIfInBounds_toArray, List.set_cons_succ, List.set_cons_zero]
        rw [← hV0] at hcl hH1 hH2 ⊢
        refine callE 3 rfl (by kernel_rfl) (by rfl) 29 #[.slice a k c] (by go_simp) (fun v w' => Kept [] V0 w' ∧ w'.ownsRow V0.heap.size 5 1 v k (ys.map B)) (fun v w' h => (hH1.trans h.1).wider (fun x _ hx => by simp at hx)) (hcl.out) ?_
        rintro v5 w5 ⟨k5, ho5⟩
        simp only [Act.put, List.setIfInBounds_toArray, List.set_cons_succ, List.set_cons_zero]
        obtain ⟨a5, c5, rfl⟩ := owns_slice ho5
        have hbk := hid (fun W => build_kn id h32 a5 k c5 W)
        rw [← HIV.out] at hbk
        obtain ⟨kv, hkv⟩ : ∃ kv, kv = (id.map B ++ [Value.slice a5 k c5, .pointer none, .pointer none]).toArray := ⟨_, rfl⟩
        have HKV := hid hkv
        rw [← hkv] at hbk
        have hS5 : Kept U wr w5 := (hH1.trans k5).wider (fun x _ hx => by simp at hx)
        refine takeH 4 (.agg kv) rfl (by kernel_rfl) (by kernel_rfl) (by kernel_rfl) (fun _ _ _ h => h) (by rfl) (fun v hv => by have h := hbk.out v; unfold execOp; simp [Act.eval, Sem.run_bind, Sem.run_pure, Result.andThen_ok, h]) hS5 ?_
        simp only [Act.put, List.setIfInBounds_toArray, List.set_cons_succ, List.set_cons_zero]
        refine runH 5 rfl (by kernel_rfl) (by rfl) (.pointer (some ⟨w5.heap.size, 0, none⟩)) (w5.alloc (.cells kv 72)) (by go_simp) ((hS5.alloc _)) ?_
        simp only [Act.put, List.setIfInBounds_toArray, List.set_cons_succ, List.set_cons_zero]
        obtain ⟨w6, hw6⟩ : ∃ w6, w6 = w5.alloc (.cells kv 72) := ⟨_, rfl⟩
        have h6 : w6.heap[w5.heap.size]? = some (.cells kv 72 (0, 0)) := hw6 ▸ heap_alloc_at rfl
        have k56 : Kept [] w5 w6 := hw6 ▸ (Kept.refl [] w5).alloc _
        have HW6 := hid hw6
        rw [← hw6]
        obtain ⟨n, hnn⟩ : ∃ n : Kn, n = ⟨w5.heap.size, id, .slice a5 k c5, ys⟩ := ⟨_, rfl⟩
        have hnb : n.b = w5.heap.size := by rw [hnn]
        have hni : n.id = id := by rw [hnn]
        have hnv : n.v = .slice a5 k c5 := by rw [hnn]
        have hnbs : n.bs = ys := by rw [hnn]
        have hV0s : V0.heap.size = wr.heap.size := by rw [hV0]; rfl
        have hcn := CAI.out.kept ((hH1.trans k5).trans k56) (by simp)
        have hbnd := CAI.out.bound p CAI.out.pU
        have h5s := k5.size
        have hkp := hid (ca_keep D w6 U p lim nsi n (.pointer none) (.pointer none) hcn (by rw [hni]; exact h32) (by
            rw [hnb, h6, HKV.out]; unfold knL; rw [hni, hnv]) (by rw [hnb]; omega)
          (by rw [hnv, hnbs, ← HK.out]; exact ow_low (k56.owns ho5 (by simp)) (by omega)) (fun m hm g hg => by
            rw [hnv]
            intro e
            have h1 := (own_block_ge ho5 g e).1
            have h2 := (CAI.out.bound g ((CAI.out.data m hm).2 g hg)).2
            omega)
          (fun hm => by
            rw [hni] at hm
            obtain ⟨m, hm1, hm2⟩ := List.mem_map.1 hm
            exact HNE.out (m.id, m.bs) (by unfold datK; exact List.mem_map.2 ⟨m, hm1, rfl⟩) hm2)
          (by rw [hnbs]; have h1 := HSI.out; have h2 := hln.out; omega) (by have h1 := HLI.out; omega))
        rw [hnb] at hkp
        have h6k := hid ((hH1.trans k5).trans k56)
        have HNB := hid (And.intro hnb (And.intro hni (And.intro hnv hnbs)))
        have HO5 := hid ho5; have K56 := hid k56; have K5 := hid k5
        have HS6 := hid (And.intro hV0s (And.intro h5s k56.size))
        clear hnn hcn h6 hbk hkv hw6 hnb hni hnv hnbs ho5 k5 k56 hldq hcl
        have hstopS : ∀ v, KeepQ D w6 U p lim nsi n (.returned (.tuple #[])) v → Kept U wr v := by
          rintro v ⟨_, S, U', hk, hS, _⟩
          refine (h6k.out.wider (fun x _ hx => by simp at hx)).trans' hk (fun x hx hm => ?_)
          rcases hS x hm with h | h
          · exact h
          · rw [HNB.out.1] at h
            have h1 := HS6.out
            omega
        refine callR 6 rfl (by kernel_rfl) (by rfl) 28 #[.pointer (some ⟨p, 0, none⟩), .pointer (some ⟨w5.heap.size, 0, none⟩)] (by go_simp) (.tuple #[]) (fun v => KeepQ D w6 U p lim nsi n (.returned (.tuple #[])) v) (hstopS) ((hkp.out.mono (fun e w' h => by obtain ⟨rfl, h1⟩ := h; exact ⟨rfl, rfl, h1⟩))) ?_
        rintro w7 hq7
        simp only [Act.put, List.setIfInBounds_toArray, List.set_cons_succ, List.set_cons_zero]
        refine wpAnyH_done (by kernel_rfl) ?_ _
        have hk7 := hstopS w7 hq7
        have HK7 := hid hk7; have HQ7 := hid hq7
        have hq7b := hid (hk7.at (HKR.out.at hq4.out hrU.out.2) hrU.out.2)
        have hr7b := hid (hk7.at (HKR.out.at hr4.out hrU.out.1) hrU.out.1)
        have hldf := hid (ld_idB w7 q id h32 (by rw [← HIV.out]; exact hq7b.out))
        rw [← HIV.out] at hldf
        clear hk7 hq7 hstopS hkp
        go_wp2_with (first | (refine wpList_ldv rfl 34 (.tmp 5) rfl ⟨q, 0, none⟩ rfl (.agg iv) hldf.out ?_) | (refine wpList_store_row rfl 34 (.tmp 4) (.tmp 48) rfl r iv rfl rfl _ _ hr7b.out Hsz.out Hold.out Hone.out ?_))
        refine bodyPost_ret (v := .agg iv) (results_cell_row Tryd.results10 _ _ r _ _ _ _ rfl (setRow_heap _ _ _ _ _ _ hr7b.out) Tryd.underlying34 rfl Hsz.out) rfl ?_
        obtain ⟨_, S, U', hkS, hS, hU', hUU, hca⟩ := HQ7.out
        have hkr7 : Kept [r] w7 (w7.setRow r iv) := (Kept.refl [r] w7).setRow (fun _ => by simp) iv
        have hkall : Kept U w w7 := (K4.out.trans HKR.out).trans HK7.out
        have hszr : r < wr.heap.size := lt_of_block (HKR.out.at hr4.out hrU.out.1)
        have hrw := HR.out
        have h6s := HS6.out
        have hk7s := HK7.out.size
        have hnr : ∀ x ∈ U', x ∈ U ∨ (r < x ∧ x < w7.heap.size) := fun x hx => by
          have hb := (hca.bound x hx).2
          rcases hU' x hx with h | h | h | h
          · exact Or.inl h
          · rw [HNB.out.1] at h; exact Or.inr ⟨by omega, hb⟩
          · rw [HNB.out.2.2.1] at h
            have h1 := (own_block_ge HO5.out x h).1
            exact Or.inr ⟨by omega, hb⟩
          · exact Or.inr ⟨by omega, hb⟩
        have hrw7 := hkr7.size
        refine ⟨rfl, hkall.trans' hkr7 (fun x hx hm => by simp at hm; omega), U', nsi ++ [n], fun x hx => ?_, hUU, hca.kept hkr7 (fun x hx hm => ?_), ?_⟩
        · rcases hnr x hx with h | h
          · exact Or.inl h
          · exact Or.inr ⟨by omega, by omega⟩
        · simp at hm
          subst hm
          rcases hnr _ hx with h | h
          · exact hrU.out.1 h
          · omega
        · rw [dat_app, hstop.out, HE.out, HD1.out]
          unfold putD
          rw [← HID.out, ← HK.out, if_neg (by omega)]
          simp [datK, HNB.out.2.1, HNB.out.2.2.2]
end Go.Proofs.YtmkdjonlfkfnlaaDoor
