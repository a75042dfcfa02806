import Derived.Test.YtmfjfahlgcdehaaDoorJE
import Derived.Test.YtmfjfahlgcdehaaDoorHW

/- coldstorelaw11.alive. -/
namespace Go.Proofs.YtmfjfahlgcdehaaDoor
open Go.RowKit Go.Lib

def xA : Sp := ⟨5, [97], [], List.replicate 32 0, 1, 9⟩
def xB : Sp := ⟨3, [], [], List.replicate 32 0, 0, 0⟩
theorem xA_ok : xA.ok := ⟨by simp [xA], by decide, by decide, by decide, by decide, by decide, by decide⟩
theorem xB_ok : xB.ok := ⟨by simp [xB], by decide, by decide, by decide, by decide, by decide, by decide⟩
theorem xA_err : xA.err = 0 := by decide
theorem zSp_err : zSp.err = 38 := by decide
theorem xBA_cmp : xB.cmp xA < 0 := by decide
theorem xA_len : (sealed 83 xA.enc).length = 66 := by rw [sealed_len, Sp.enc_len xA_ok]; rfl
theorem build_xA (w : World) : (Instr.build 28 #[(0, Value.int .i64 5), (1, Value.string ⟨#[97]⟩), (4, Value.int .i64 1), (5, Value.int .i64 9)]).run Tryd.prog w = .ok (Value.agg xA.cells.toArray) w := run_build w _ _ _ (by kernel_rfl)
theorem build_xB (w : World) : (Instr.build 28 #[(0, Value.int .i64 3)]).run Tryd.prog w = .ok (Value.agg xB.cells.toArray) w := run_build w _ _ _ (by kernel_rfl)
theorem build_two (W : World) : (Instr.buildSlice 22 2 #[(0, Value.agg xA.cells.toArray), (1, Value.agg xB.cells.toArray)]).run Tryd.prog W = .ok (.slice (some ⟨W.heap.size, 0, none⟩) 2 2) (W.alloc (.cells (xA.cells ++ xB.cells).toArray 28)) := by kernel_rfl
theorem wpList_buildSlice {P : Program} {ops : Array Oper} {rest : List Oper} {o : Oper} {a : Act} {w : World} {Q : Exit → Act → World → Prop} (hgd : o.guard = none) (t n : Nat) (parts : Array (Nat × Operand)) (ho : o.op = .buildSlice t n parts) (v : Value) (w' : World)
    (hrun : (execOp a.eval o).run P w = .ok (.value v) w') (h : wpList P ops Q rest (a.put o.dst v) w') : wpList P ops Q (o :: rest) a w := by
  refine wpList_plain hgd fun K hK => ?_
  unfold Oper.wp
  rw [hrun]
  exact hK _ _ h

set_option maxRecDepth 100000 in
theorem two_sorted {ys : List Sq} (h : ys.Perm [⟨xA, xA_ok⟩, ⟨xB, xB_ok⟩]) (hs : ys.Pairwise (fun p q => ltOf cmpQ q p = false)) : ys = [⟨xB, xB_ok⟩, ⟨xA, xA_ok⟩] := by
  have hl := h.length_eq
  rcases ys with _ | ⟨p, _ | ⟨q, _ | ⟨r, tl⟩⟩⟩
  · simp at hl
  · simp at hl
  rotate_left
  · simp at hl
  · clear hl
    have hp : p = ⟨xA, xA_ok⟩ ∨ p = ⟨xB, xB_ok⟩ := by have := h.mem_iff (a := p); simp at this; exact this
    have hq : q = ⟨xA, xA_ok⟩ ∨ q = ⟨xB, xB_ok⟩ := by have := h.mem_iff (a := q); simp at this; exact this
    have hA : (⟨xA, xA_ok⟩ : Sq) ∈ [p, q] := h.mem_iff.2 (by simp)
    have hB : (⟨xB, xB_ok⟩ : Sq) ∈ [p, q] := h.mem_iff.2 (by simp)
    have hne : xA ≠ xB := fun e => by
      have := congrArg Sp.time e
      simp [xA, xB] at this
    have hlt : ltOf cmpQ ⟨xB, xB_ok⟩ ⟨xA, xA_ok⟩ = true := decide_eq_true xBA_cmp
    rcases hp with rfl | rfl <;> rcases hq with rfl | rfl
    · simp at hB; exact absurd hB.symm hne
    · simp [hlt] at hs
    · rfl
    · simp at hA; exact absurd hA hne

set_option maxRecDepth 100000 in
set_option maxHeartbeats 8000000 in
theorem alive11 (w : World) (ht : Tab w) (hts : Tabs w) : Calls Tryd.prog 10 #[] w fun e w' => e = .returned (.bool true) ∧ Kept [] w w' := by
  have hzv := zero_snap
  have hbA := build_xA
  have hbB := build_xB
  have hb2 := build_two
  obtain ⟨bs, hbs⟩ : ∃ bs, bs = sealed 83 xA.enc := ⟨_, rfl⟩
  have h66 := hid (show bs.length = 66 by rw [hbs]; exact xA_len)
  have hdv := hid (show decV bs = xA ∧ decErr bs = 0 by rw [hbs]; exact decV_enc xA xA_ok xA_err)
  have hHE := hid (fun W (h : Tab W) => j_snapencode xA xA_ok W h)
  unfold Encoded at hHE
  simp only [← hbs] at hHE
  have hAA := hid (fun W => (snap_eql xA xA xA_ok xA_ok W).trans (by rw [decide_eq_true rfl]))
  have hless := hid (fun W => (j_snapless xB xA xB_ok xA_ok W).mono (R' := fun e w' => e = .returned (.bool true) ∧ Kept [] W w') fun e w' h => ⟨by rw [h.1, decide_eq_true xBA_cmp], h.2⟩)
  have hchk := hid (fun W => (j_snapcheck zSp zSp_ok W).mono (R' := fun e w' => e = .returned (.int .i64 38) ∧ Kept [] W w') fun e w' h => ⟨by rw [h.1, zSp_err], h.2⟩)
  rw [zSp_cells] at hchk
  have cB0 := hid (show xB.cells[0]? = some (.int .i64 3) from rfl)
  have hsort := hid (fun (W : World) (a : Option Addr) (h : Snaps W a 2 [⟨xA, xA_ok⟩, ⟨xB, xB_ok⟩]) => j_snapsort a 2 [⟨xA, xA_ok⟩, ⟨xB, xB_ok⟩] W h (by decide))
  have hsn := hid (fun (W W' : World) (g : Nat) (hg : W.heap[g]? = some (.cells (xA.cells ++ xB.cells).toArray 28 (0, 0))) => show Snaps W (some ⟨g, 0, none⟩) 2 [⟨xA, xA_ok⟩, ⟨xB, xB_ok⟩] from by
    refine ⟨by simp, by omega, fun h => by simp at h, fun x hx i s hs j v hj => ?_⟩
    simp at hx; subst hx
    rw [plain_add, Nat.zero_add, cell_of_row W _ _ _ _ _ hg]
    have h := flat_get encQ 37 encQ_len [⟨xA, xA_ok⟩, ⟨xB, xB_ok⟩] i j s hs (by rw [← encQ_len s]; exact (List.getElem?_eq_some_iff.1 hj).1)
    simp only [List.flatMap_cons, List.flatMap_nil, List.append_nil] at h
    rw [List.getElem?_toArray]
    exact h.trans hj)
  obtain ⟨cA, hcA⟩ : ∃ cA, cA = xA.cells := ⟨_, rfl⟩
  obtain ⟨cB, hcB⟩ : ∃ cB, cB = xB.cells := ⟨_, rfl⟩
  have LA := hid (show cA.length = 37 by rw [hcA]; exact Sp.size xA_ok)
  have LB := hid (show cB.length = 37 by rw [hcB]; exact Sp.size xB_ok)
  have IA := hid (show (Tryd.prog.info? 28).map (·.size) = some cA.length by rw [LA.out]; exact snap_info)
  have OA := hid (show ∀ v ∈ cA, v.oneCell' = true by rw [hcA]; exact xA.one)
  have hencA := hid (show ∀ s : Sq, s = ⟨xA, xA_ok⟩ → encQ s = cA from fun s h => by rw [h, hcA]; rfl)
  have hencB := hid (show encQ ⟨xB, xB_ok⟩ = cB by rw [hcB]; rfl)
  simp only [← hcA, ← hcB] at hbA hbB hb2 hHE hAA hless cB0 hsn
  have hsA : ((((zSnap.set 0 (Value.int .i64 5)).set 1 (Value.string ⟨#[97]⟩)).set 35 (Value.int .i64 1)).set 36 (Value.int .i64 9)) = cA := by rw [hcA]; rfl
  have hsB : (zSnap.set 0 (Value.int .i64 3)) = cB := by rw [hcB]; rfl
  have HbAS := hid (show (decV bs).cells = cA by rw [hdv.out.1, hcA])
  have hdE := hid hdv.out.2
  clear hcA hcB hbs hdv
  have Ht := hid ht; have Hts := hid hts
  clear ht hts
  go_enter Tryd.func10, Tryd.ntmps10
  go_wp2_with (refine wpList_store_at rfl 28 (.tmp 1) (.tmp 10) rfl w.heap.size 0 cA rfl rfl 28 zSnap (heap_alloc_at rfl) IA.out (by have h1 := LA.out; have h2 := zSnap_len; omega) OA.out ?_; refine halt ?_)
  rw [splice36 zSnap cA (LA.out.trans zSnap_len.symm)]
  refine Halt.mk ?_
  obtain ⟨W1, hW1⟩ : ∃ W1, W1 = (w.alloc (.cells zSnap.toArray 28)).setRow w.heap.size cA.toArray := ⟨_, rfl⟩
  have K1 := hid (show Kept [] w W1 from hW1 ▸ ((Kept.refl [] w).alloc _).setRow (fun h => absurd h (Nat.lt_irrefl _)) _)
  have A1 := hid (show W1.heap[w.heap.size]? = some (.cells cA.toArray 28 (0, 0)) from hW1 ▸ setRow_heap _ _ _ _ _ _ (heap_alloc_at rfl))
  rw [← hW1]
  clear hW1
  have hr1 := hid (ld_at A1.out)
  go_wp2_with (refine wpList_load_cells rfl 28 (.tmp 1) rfl ⟨w.heap.size, 0, none⟩ rfl cA _ Tryd.underlying28 rfl IA.out hr1.out ?_)
  refine (hHE.out W1 (Ht.out.kept K1.out (by simp))).mono ?_
  rintro e w2 ⟨k2, (⟨hx, _⟩ | ⟨_, a2, c2, rfl, ho2⟩)⟩
  · exact absurd xA_err hx
  rw [h66.out] at ho2 ⊢
  have K2 := hid (K1.out.trans k2)
  have A12 := hid (k2.at A1.out (by simp))
  obtain ⟨x2, rfl⟩ : ∃ x, a2 = some x := by
    rcases ho2.2 with ⟨_, h0⟩ | ⟨g, cap, cur, hv, _⟩
    · cases h0
    · simp at hv; exact ⟨_, hv.1⟩
  have hcap2 := hid (show 66 ≤ c2 ∧ c2 ≤ 9223372036854775807 from by
    rcases ho2.2 with ⟨hv, _⟩ | ⟨g, cap, cur, hv, _, _, h1, h2, _⟩
    · simp at hv
    · simp at hv; obtain ⟨_, rfl⟩ := hv; exact ⟨h1, by unfold maxLen at h2; omega⟩)
  have hsrc2 := hid (show SrcB w2 (.slice (some x2) 66 c2) bs by
    have h := (bys_of_row (W := w2) (base := W1.heap.size) (a := some x2) (c := c2) (xs := bs) (by rw [h66.out]; exact ho2)).1
    rw [h66.out] at h; exact h)
  have hd2 := hid (j_snapdecode (.slice (some x2) 66 c2) bs w2 hsrc2.out (Ht.out.kept K2.out (by simp)) (by rw [h66.out]; decide))
  clear k2 ho2 hHE
  go_wp2_with fail
  refine hd2.out.mono ?_
  rintro e w3 ⟨rfl, k3⟩
  rw [HbAS.out, hdE.out]
  have K3 := hid (K2.out.trans k3)
  have A13 := hid (k3.at A12.out (by simp))
  have S3 := hid (hsrc2.out.kept k3 (by simp))
  clear k3 hd2
  go_wp2_with (refine wpList_store_at rfl 28 (.tmp 4) (.tmp 26) rfl w3.heap.size 0 cA rfl rfl 28 zSnap (heap_alloc_at rfl) IA.out (by have h1 := LA.out; have h2 := zSnap_len; omega) OA.out ?_; refine halt ?_)
  rw [splice36 zSnap cA (LA.out.trans zSnap_len.symm)]
  refine Halt.mk ?_
  obtain ⟨W4, hW4⟩ : ∃ W4, W4 = (w3.alloc (.cells zSnap.toArray 28)).setRow w3.heap.size cA.toArray := ⟨_, rfl⟩
  have k4 : Kept [] w3 W4 := hW4 ▸ ((Kept.refl [] w3).alloc _).setRow (fun h => absurd h (Nat.lt_irrefl _)) _
  have K4 := hid (K3.out.trans k4)
  have A4 := hid (show W4.heap[w3.heap.size]? = some (.cells cA.toArray 28 (0, 0)) from hW4 ▸ setRow_heap _ _ _ _ _ _ (heap_alloc_at rfl))
  have A14 := hid (k4.at A13.out (by simp))
  have S4 := hid (S3.out.kept k4 (by simp))
  rw [← hW4]
  obtain ⟨p4, hp4⟩ : ∃ p4, p4 = w3.heap.size := ⟨_, rfl⟩
  rw [← hp4] at A4 ⊢
  clear hW4 k4 hp4
  have hs4 : SrcB W4 (.slice (some x2) 4 c2) (bs.take 4) := by
    rcases S4.out with ⟨h, _⟩ | ⟨ad, c', h, hr⟩
    · simp at h
    · simp at h
      obtain ⟨rfl, _, rfl⟩ := h
      refine Or.inr ⟨x2, c2, by rw [List.length_take, h66.out]; rfl, fun j u hj => ?_⟩
      rw [List.map_take, List.getElem?_take] at hj
      split at hj
      · exact hr j u hj
      · simp at hj
  have hd4 := hid (j_snapdecode (.slice (some x2) 4 c2) (bs.take 4) W4 hs4 (Ht.out.kept K4.out (by simp)) (by simp; omega))
  have hz4 := hid (show decErr (bs.take 4) = 20 ∧ (decV (bs.take 4)).cells = zSnap from by
    have h := unseal_short 83 (bs.take 4) (by simp; omega)
    have h20 : decErr (bs.take 4) = 20 := by unfold decErr; rw [h.1, if_pos (by decide)]
    exact ⟨h20, by rw [decErr_ne (by rw [h20]; decide)]; rfl⟩)
  have c4 : 4 ≤ c2 := by have := hcap2.out.1; omega
  clear hs4
  go_wp2_with fail
  refine hd4.out.mono ?_
  rintro e w5 ⟨rfl, k5⟩
  rw [hz4.out.1, hz4.out.2]
  have K5 := hid (K4.out.trans k5)
  have A15 := hid (k5.at A14.out (by simp))
  have A45 := hid (k5.at A4.out (by simp))
  have S5 := hid (S4.out.kept k5 (by simp))
  clear k5 hd4 c4
  go_wp2_with (refine wpList_store_at rfl 28 (.tmp 6) (.tmp 32) rfl w5.heap.size 0 zSnap rfl rfl 28 zSnap (heap_alloc_at rfl) zinf (by omega) (by rw [← zSp_cells]; exact zSp.one) ?_; refine halt ?_)
  rw [splice36 zSnap zSnap rfl]
  refine Halt.mk ?_
  obtain ⟨W6, hW6⟩ : ∃ W6, W6 = (w5.alloc (.cells zSnap.toArray 28)).setRow w5.heap.size zSnap.toArray := ⟨_, rfl⟩
  have k6 : Kept [] w5 W6 := hW6 ▸ ((Kept.refl [] w5).alloc _).setRow (fun h => absurd h (Nat.lt_irrefl _)) _
  have K6 := hid (K5.out.trans k6)
  have A16 := hid (k6.at A15.out (by simp))
  have A46 := hid (k6.at A45.out (by simp))
  have S6 := hid (S5.out.kept k6 (by simp))
  rw [← hW6]
  clear hW6 k6
  have hr16 := hid (ld_at A16.out)
  go_wp2_with (first | (refine wpList_load_cells rfl 28 (.tmp 1) rfl ⟨w.heap.size, 0, none⟩ rfl cA _ Tryd.underlying28 rfl IA.out hr16.out ?_) | (refine wpList_buildSlice rfl _ _ _ rfl (.slice (some ⟨W6.heap.size, 0, none⟩) 2 2) (W6.alloc (.cells (cA ++ cB).toArray 28)) (by have h := hb2 W6; unfold execOp; simp [Act.eval, h]) ?_; refine halt ?_))
  refine Halt.mk ?_
  obtain ⟨W7, hW7⟩ : ∃ W7, W7 = W6.alloc (.cells (cA ++ cB).toArray 28) := ⟨_, rfl⟩
  have k7 : Kept [] W6 W7 := hW7 ▸ (Kept.refl [] W6).alloc _
  have K7 := hid (K6.out.trans k7)
  have B7 := hid (show W7.heap[W6.heap.size]? = some (.cells (cA ++ cB).toArray 28 (0, 0)) from hW7 ▸ heap_alloc_at rfl)
  have A17 := hid (k7.at A16.out (by simp))
  have A47 := hid (k7.at A46.out (by simp))
  have S7 := hid (S6.out.kept k7 (by simp))
  rw [← hW7]
  clear hW7 k7
  have hso := hid (hsort.out W7 (some ⟨W6.heap.size, 0, none⟩) (hsn.out W7 W7 _ B7.out))
  go_wp2_with fail
  refine hso.out.mono ?_
  rintro e w8 ⟨a8, c8, ys, rfl, k8, hsp, hpe, hpw, _⟩
  have hys := two_sorted hpe hpw
  subst hys
  have K8 := hid (K7.out.trans k8)
  have A18 := hid (k8.at A17.out (by simp))
  have A48 := hid (k8.at A47.out (by simp))
  have S8 := hid (S7.out.kept k8 (by simp))
  obtain ⟨x8, rfl⟩ : ∃ x, a8 = some x := by
    cases a8 with
    | none => have := (hsp.nil rfl).1; simp at this
    | some x => exact ⟨x, rfl⟩
  have hc8 := hid (show 2 ≤ c8 from hsp.le)
  have hB8 := hid (hsp.at_ x8 rfl 0 ⟨xB, xB_ok⟩ rfl)
  have hnm := hid (j_snapname (some x2) c2 bs w8 (Hts.out.kept K8.out (by simp) (by simp)) (by rw [h66.out]; exact S8.out) (by rw [h66.out]; exact hcap2.out.1) hcap2.out.2 (by rw [h66.out]; decide))
  rw [h66.out] at hnm
  clear k8 hsp hpe hpw hso hsort hsn
  go_wp2_with fail
  refine hnm.out.mono ?_
  rintro e w9 ⟨rfl, k9⟩
  have K9 := hid (K8.out.trans k9)
  have A1 := hid (fun v (hv : Kept [] w9 v) => (k9.trans hv).at A18.out (by simp))
  have A4 := hid (fun v (hv : Kept [] w9 v) => (k9.trans hv).at A48.out (by simp))
  have B8 := hid (show ∀ v, Kept [] w9 v → ∀ (j : Nat) u, cB[j]? = some u → v.cell? (x8.add j) = some u from fun v hv j u hj => by
    have h := hB8.out j u (by rw [hencB.out]; exact hj)
    rw [Nat.zero_mul, Nat.zero_add] at h
    exact ((k9.trans hv).cell (World.block_lt_of_cell? w8 _ h) (by simp)).trans h)
  obtain ⟨nm, hnm2⟩ : ∃ nm, nm = S (nameS bs) := ⟨_, rfl⟩
  have nm69 : nm.size = 69 := by rw [hnm2, S_size, nameS_len]
  have nm5 : nm.extract 0 5 = ⟨#[115, 110, 97, 112, 47]⟩ := by rw [hnm2, S_extract]; rfl
  rw [← hnm2]
  clear hnm hnm2 k9
  have hc8' : 2 ≤ c8 := hc8.out
  clear hbA hbB hb2 hzv hsA hsB
  go_wp2_with fail
  refine wp_region_held_drew (S := Kept [] w9) (by kernel_rfl) (Kept.refl _ _).drew (fun hH => ?_)
  refine takeH 0 (.agg cA.toArray) rfl (by kernel_rfl) (by kernel_rfl) (by kernel_rfl) (fun _ _ _ h => h) (by rfl) (fun v hv => by have h := run_ld_snap (A4.out v hv) LA.out; unfold execOp; simp [Instr.loadAt, Instr.sureAddr, Sem.run_bind, Sem.run_pure, Result.andThen_ok, Act.eval, h]) hH ?_
  simp only [Act.put, List.setIfInBounds_toArray, List.set_cons_succ, List.set_cons_zero]
  refine takeH 1 (.agg cA.toArray) rfl (by kernel_rfl) (by kernel_rfl) (by kernel_rfl) (fun _ _ _ h => h) (by rfl) (fun v hv => by have h := run_ld_snap (A1.out v hv) LA.out; unfold execOp; simp [Instr.loadAt, Instr.sureAddr, Sem.run_bind, Sem.run_pure, Result.andThen_ok, Act.eval, h]) hH ?_
  simp only [Act.put, List.setIfInBounds_toArray, List.set_cons_succ, List.set_cons_zero]
  refine takeH 2 (.bool true) rfl (by kernel_rfl) (by kernel_rfl) (by kernel_rfl) (fun _ _ _ h => h) (by rfl) (fun v hv => by have h := hAA.out v; have h2 := snap_grd .eql (.tmp 40) (.tmp 41) cA.toArray cA.toArray v; unfold execOp; simp [Sem.run_bind, Sem.run_pure, Result.andThen_ok, Act.eval, h, h2]) hH ?_
  simp only [Act.put, List.setIfInBounds_toArray, List.set_cons_succ, List.set_cons_zero]
  refine takeH 3 (.bool true) rfl (by kernel_rfl) (by kernel_rfl) (by kernel_rfl) (fun _ _ _ h => h) (by rfl) (fun v hv => by go_simp) hH ?_
  simp only [Act.put, List.setIfInBounds_toArray, List.set_cons_succ, List.set_cons_zero]
  refine takeH 4 (.int .i64 0) rfl (by kernel_rfl) (by kernel_rfl) (by kernel_rfl) (fun _ _ _ h => h) (by rfl) (fun v hv => by go_simp) hH ?_
  simp only [Act.put, List.setIfInBounds_toArray, List.set_cons_succ, List.set_cons_zero]
  refine takeH 5 (.bool true) rfl (by kernel_rfl) (by kernel_rfl) (by kernel_rfl) (fun _ _ _ h => h) (by rfl) (fun v hv => by go_simp) hH ?_
  simp only [Act.put, List.setIfInBounds_toArray, List.set_cons_succ, List.set_cons_zero]
  refine takeH 6 (.bool true) rfl (by kernel_rfl) (by kernel_rfl) (by kernel_rfl) (fun _ _ _ h => h) (by rfl) (fun v hv => by go_simp) hH ?_
  simp only [Act.put, List.setIfInBounds_toArray, List.set_cons_succ, List.set_cons_zero]
  refine takeH 7 (.bool true) rfl (by kernel_rfl) (by kernel_rfl) (by kernel_rfl) (fun _ _ _ h => h) (by rfl) (fun v hv => by go_simp) hH ?_
  simp only [Act.put, List.setIfInBounds_toArray, List.set_cons_succ, List.set_cons_zero]
  refine takeH 8 (.int .i64 20) rfl (by kernel_rfl) (by kernel_rfl) (by kernel_rfl) (fun _ _ _ h => h) (by rfl) (fun v hv => by go_simp) hH ?_
  simp only [Act.put, List.setIfInBounds_toArray, List.set_cons_succ, List.set_cons_zero]
  refine takeH 9 (.bool true) rfl (by kernel_rfl) (by kernel_rfl) (by kernel_rfl) (fun _ _ _ h => h) (by rfl) (fun v hv => by go_simp) hH ?_
  simp only [Act.put, List.setIfInBounds_toArray, List.set_cons_succ, List.set_cons_zero]
  refine takeH 10 (.bool true) rfl (by kernel_rfl) (by kernel_rfl) (by kernel_rfl) (fun _ _ _ h => h) (by rfl) (fun v hv => by go_simp) hH ?_
  simp only [Act.put, List.setIfInBounds_toArray, List.set_cons_succ, List.set_cons_zero]
  refine takeH 11 (.bool true) rfl (by kernel_rfl) (by kernel_rfl) (by kernel_rfl) (fun _ _ _ h => h) (by rfl) (fun v hv => by go_simp) hH ?_
  simp only [Act.put, List.setIfInBounds_toArray, List.set_cons_succ, List.set_cons_zero]
  refine takeH 12 (.slice (some x8) 2 c8) rfl (by kernel_rfl) (by kernel_rfl) (by kernel_rfl) (fun _ _ _ h => h) (by rfl) (fun v hv => by go_simp) hH ?_
  simp only [Act.put, List.setIfInBounds_toArray, List.set_cons_succ, List.set_cons_zero]
  refine takeH 13 (.int .i64 2) rfl (by kernel_rfl) (by kernel_rfl) (by kernel_rfl) (fun _ _ _ h => h) (by rfl) (fun v hv => by go_simp) hH ?_
  simp only [Act.put, List.setIfInBounds_toArray, List.set_cons_succ, List.set_cons_zero]
  refine takeH 14 (.bool true) rfl (by kernel_rfl) (by kernel_rfl) (by kernel_rfl) (fun _ _ _ h => h) (by rfl) (fun v hv => by go_simp) hH ?_
  simp only [Act.put, List.setIfInBounds_toArray, List.set_cons_succ, List.set_cons_zero]
  refine takeH 15 (.bool true) rfl (by kernel_rfl) (by kernel_rfl) (by kernel_rfl) (fun _ _ _ h => h) (by rfl) (fun v hv => by go_simp) hH ?_
  simp only [Act.put, List.setIfInBounds_toArray, List.set_cons_succ, List.set_cons_zero]
  refine takeH 16 (.bool true) rfl (by kernel_rfl) (by kernel_rfl) (by kernel_rfl) (fun _ _ _ h => h) (by rfl) (fun v hv => by go_simp) hH ?_
  simp only [Act.put, List.setIfInBounds_toArray, List.set_cons_succ, List.set_cons_zero]
  refine takeH 17 (.slice (some x8) 2 c8) rfl (by kernel_rfl) (by kernel_rfl) (by kernel_rfl) (fun _ _ _ h => h) (by rfl) (fun v hv => by go_simp) hH ?_
  simp only [Act.put, List.setIfInBounds_toArray, List.set_cons_succ, List.set_cons_zero]
  refine runH 18 rfl (by kernel_rfl) (by rfl) (.pointer (some x8)) _ (by go_simp) hH ?_
  simp only [Act.put, List.setIfInBounds_toArray, List.set_cons_succ, List.set_cons_zero]
  refine takeH 19 (.pointer (some x8)) rfl (by kernel_rfl) (by kernel_rfl) (by kernel_rfl) (fun _ _ _ h => h) (by rfl) (fun v hv => by go_simp) hH ?_
  simp only [Act.put, List.setIfInBounds_toArray, List.set_cons_succ, List.set_cons_zero]
  refine takeH 20 (.int .i64 3) rfl (by kernel_rfl) (by kernel_rfl) (by kernel_rfl) (fun _ _ _ h => h) (by rfl) (fun v hv => by have g := B8.out v hv 0 _ cB0.out; rw [add_0] at g; go_simp) hH ?_
  simp only [Act.put, List.setIfInBounds_toArray, List.set_cons_succ, List.set_cons_zero]
  refine takeH 21 (.bool true) rfl (by kernel_rfl) (by kernel_rfl) (by kernel_rfl) (fun _ _ _ h => h) (by rfl) (fun v hv => by go_simp) hH ?_
  simp only [Act.put, List.setIfInBounds_toArray, List.set_cons_succ, List.set_cons_zero]
  refine takeH 22 (.bool true) rfl (by kernel_rfl) (by kernel_rfl) (by kernel_rfl) (fun _ _ _ h => h) (by rfl) (fun v hv => by go_simp) hH ?_
  simp only [Act.put, List.setIfInBounds_toArray, List.set_cons_succ, List.set_cons_zero]
  refine takeH 23 (.bool true) rfl (by kernel_rfl) (by kernel_rfl) (by kernel_rfl) (fun _ _ _ h => h) (by rfl) (fun v hv => by go_simp) hH ?_
  simp only [Act.put, List.setIfInBounds_toArray, List.set_cons_succ, List.set_cons_zero]
  refine takeH 24 (.slice (some x8) 2 c8) rfl (by kernel_rfl) (by kernel_rfl) (by kernel_rfl) (fun _ _ _ h => h) (by rfl) (fun v hv => by go_simp) hH ?_
  simp only [Act.put, List.setIfInBounds_toArray, List.set_cons_succ, List.set_cons_zero]
  refine takeH 27 (.agg cA.toArray) rfl (by kernel_rfl) (by kernel_rfl) (by kernel_rfl) (fun _ _ _ h => h) (by rfl) (fun v hv => by have h := run_ld_snap (A1.out v hv) LA.out; unfold execOp; simp [Instr.loadAt, Instr.sureAddr, Sem.run_bind, Sem.run_pure, Result.andThen_ok, Act.eval, h]) hH ?_
  simp only [Act.put, List.setIfInBounds_toArray, List.set_cons_succ, List.set_cons_zero]
  refine runH 25 rfl (by kernel_rfl) (by rfl) (.pointer (some x8)) _ (by go_simp) hH ?_
  simp only [Act.put, List.setIfInBounds_toArray, List.set_cons_succ, List.set_cons_zero]
  refine takeH 26 (.agg cB.toArray) rfl (by kernel_rfl) (by kernel_rfl) (by kernel_rfl) (fun _ _ _ h => h) (by rfl) (fun v hv => by have h := run_loadVar_cells v 28 x8 cB _ Tryd.underlying28 rfl (by rw [LB.out]; exact snap_info) (B8.out v hv); unfold execOp; simp [Instr.loadAt, Instr.sureAddr, Sem.run_bind, Sem.run_pure, Result.andThen_ok, Act.eval, h]) hH ?_
  simp only [Act.put, List.setIfInBounds_toArray, List.set_cons_succ, List.set_cons_zero]
  refine callH 28 rfl (by kernel_rfl) (by rfl) 13 #[.agg cB.toArray, .agg cA.toArray] (by go_simp) (.bool true) hH (fun hS => (hless.out _).mono fun e w' h => ⟨h.1, hS.trans h.2⟩) ?_
  clear hH
  intro vv hH
  simp only [Act.put, List.setIfInBounds_toArray, List.set_cons_succ, List.set_cons_zero]
  refine takeH 29 (.bool true) rfl (by kernel_rfl) (by kernel_rfl) (by kernel_rfl) (fun _ _ _ h => h) (by rfl) (fun v hv => by go_simp) hH ?_
  simp only [Act.put, List.setIfInBounds_toArray, List.set_cons_succ, List.set_cons_zero]
  refine takeH 30 (.bool true) rfl (by kernel_rfl) (by kernel_rfl) (by kernel_rfl) (fun _ _ _ h => h) (by rfl) (fun v hv => by go_simp) hH ?_
  simp only [Act.put, List.setIfInBounds_toArray, List.set_cons_succ, List.set_cons_zero]
  refine takeH 31 (.agg zSnap.toArray) rfl (by kernel_rfl) (by kernel_rfl) (by kernel_rfl) (fun _ _ _ h => h) (by rfl) (fun v hv => by have h := run_built_zero v; unfold execOp; simp [Sem.run_bind, Sem.run_pure, Result.andThen_ok, Act.eval, h]) hH ?_
  simp only [Act.put, List.setIfInBounds_toArray, List.set_cons_succ, List.set_cons_zero]
  refine callH 32 rfl (by kernel_rfl) (by rfl) 35 #[.agg zSnap.toArray] (by go_simp) (.int .i64 38) hH (fun hS => (hchk.out _).mono fun e w' h => ⟨h.1, hS.trans h.2⟩) ?_
  clear hH
  intro vv hH
  simp only [Act.put, List.setIfInBounds_toArray, List.set_cons_succ, List.set_cons_zero]
  refine takeH 33 (.bool true) rfl (by kernel_rfl) (by kernel_rfl) (by kernel_rfl) (fun _ _ _ h => h) (by rfl) (fun v hv => by go_simp) hH ?_
  simp only [Act.put, List.setIfInBounds_toArray, List.set_cons_succ, List.set_cons_zero]
  refine takeH 34 (.bool true) rfl (by kernel_rfl) (by kernel_rfl) (by kernel_rfl) (fun _ _ _ h => h) (by rfl) (fun v hv => by go_simp) hH ?_
  simp only [Act.put, List.setIfInBounds_toArray, List.set_cons_succ, List.set_cons_zero]
  refine takeH 35 (.bool true) rfl (by kernel_rfl) (by kernel_rfl) (by kernel_rfl) (fun _ _ _ h => h) (by rfl) (fun v hv => by go_simp) hH ?_
  simp only [Act.put, List.setIfInBounds_toArray, List.set_cons_succ, List.set_cons_zero]
  refine takeH 36 (.string nm) rfl (by kernel_rfl) (by kernel_rfl) (by kernel_rfl) (fun _ _ _ h => h) (by rfl) (fun v hv => by go_simp) hH ?_
  simp only [Act.put, List.setIfInBounds_toArray, List.set_cons_succ, List.set_cons_zero]
  refine takeH 37 (.int .i64 69) rfl (by kernel_rfl) (by kernel_rfl) (by kernel_rfl) (fun _ _ _ h => h) (by rfl) (fun v hv => by have h1 := nm69; go_simp) hH ?_
  simp only [Act.put, List.setIfInBounds_toArray, List.set_cons_succ, List.set_cons_zero]
  refine takeH 38 (.bool true) rfl (by kernel_rfl) (by kernel_rfl) (by kernel_rfl) (fun _ _ _ h => h) (by rfl) (fun v hv => by go_simp) hH ?_
  simp only [Act.put, List.setIfInBounds_toArray, List.set_cons_succ, List.set_cons_zero]
  refine takeH 39 (.bool true) rfl (by kernel_rfl) (by kernel_rfl) (by kernel_rfl) (fun _ _ _ h => h) (by rfl) (fun v hv => by go_simp) hH ?_
  simp only [Act.put, List.setIfInBounds_toArray, List.set_cons_succ, List.set_cons_zero]
  refine takeH 40 (.bool true) rfl (by kernel_rfl) (by kernel_rfl) (by kernel_rfl) (fun _ _ _ h => h) (by rfl) (fun v hv => by go_simp) hH ?_
  simp only [Act.put, List.setIfInBounds_toArray, List.set_cons_succ, List.set_cons_zero]
  refine takeH 41 (.string nm) rfl (by kernel_rfl) (by kernel_rfl) (by kernel_rfl) (fun _ _ _ h => h) (by rfl) (fun v hv => by go_simp) hH ?_
  simp only [Act.put, List.setIfInBounds_toArray, List.set_cons_succ, List.set_cons_zero]
  refine runH 42 rfl (by kernel_rfl) (by rfl) (.string ⟨#[115, 110, 97, 112, 47]⟩) _ (by have h1 := nm69; have h2 := nm5; go_simp) hH ?_
  simp only [Act.put, List.setIfInBounds_toArray, List.set_cons_succ, List.set_cons_zero]
  refine takeH 43 (.bool true) rfl (by kernel_rfl) (by kernel_rfl) (by kernel_rfl) (fun _ _ _ h => h) (by rfl) (fun v hv => by go_simp) hH ?_
  simp only [Act.put, List.setIfInBounds_toArray, List.set_cons_succ, List.set_cons_zero]
  refine takeH 44 (.bool true) rfl (by kernel_rfl) (by kernel_rfl) (by kernel_rfl) (fun _ _ _ h => h) (by rfl) (fun v hv => by go_simp) hH ?_
  simp only [Act.put, List.setIfInBounds_toArray, List.set_cons_succ, List.set_cons_zero]
  refine takeH 45 (.bool true) rfl (by kernel_rfl) (by kernel_rfl) (by kernel_rfl) (fun _ _ _ h => h) (by rfl) (fun v hv => by go_simp) hH ?_
  simp only [Act.put, List.setIfInBounds_toArray, List.set_cons_succ, List.set_cons_zero]
  refine wpAnyH_done (by kernel_rfl) ?_ _
  have HZ := hid (K9.out.trans hH)
  clear hH
  go_wp2
  go_ret
  exact ⟨rfl, HZ.out⟩
end Go.Proofs.YtmfjfahlgcdehaaDoor
