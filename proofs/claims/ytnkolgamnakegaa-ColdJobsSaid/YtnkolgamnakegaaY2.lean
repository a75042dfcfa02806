
/- cold: how long a thing is young; how many are pending. -/
import Derived.Test.YtnkolgamnakegaaY1
namespace Go.Proofs.Ytnkolgamnakegaa
open Go.RowKit Go.Lib Go.Maps Go.Sort

section
variable (w : World) (U V : List Nat) (p : Nat) (q : Int) (es ss : List Ent) (fv : Value) (fl : List Bool) (k : Nat) (jobs life least lost : Int)
theorem ob_left (mv : Value) (h1 : Ob w U p 62 (cmore jobs life least mv lost) q es fv fl k) (h2 : Mp w V mv ss) (h6 : IsSt ss) (n3 : 0 ≤ least) (n4 : least ≤ 1125899906842624) (nm : List UInt8) (hnm : nm.length ≤ 1000000000) (now : Int) (n1 : -9223372036854775808 ≤ now) (n2 : now ≤ 9223372036854775807) :
    Calls Try.prog 31 #[.pointer (some ⟨p, 0, none⟩), .string (S nm), .int .i64 now] w fun e w' => e = .returned (.int .i64 (leftT ss nm now least)) ∧ Kept [] w w' := by
  have hlk := my_look h2 nm hnm
  have hcell := hid (fun W (hk : Kept [] w W) => ob_tail (h1.kept hk (by simp)))
  obtain ⟨_, _, _, g9, _⟩ := ob_tail h1
  have hsT : leftT ss nm now least = match findE nm ss with | some e => max (latT (syOf e.v).since least - momT now) 0 | none => 0 := rfl
  unfold lookY at hlk
  cases hf : findE nm ss with
  | none =>
    rw [hf] at hlk hsT
    simp only at hlk hsT
    rw [hsT]
    unfold zeroY at hlk
    have hk := hid (show Kept [] w (w.alloc (.cells #[.int .i64 0, .bool false, .int .i64 0] 111)) from (Kept.refl [] w).alloc _)
    clear h1 h2 h6 hf hsT
    go_enter Try.func31, Try.ntmps31
    go_wp2
    go_ret
    exact ⟨rfl, hk.out⟩
  | some en =>
    obtain ⟨s, es1, es2, so⟩ := h6.find hf
    rw [hf] at hlk hsT
    simp only at hlk hsT
    rw [es2] at hsT
    rw [es1] at hlk
    rw [hsT]
    unfold stV at hlk
    obtain ⟨W, hW⟩ : ∃ W, W = w.alloc (.cells #[.int .i64 s.since, .bool s.asked, .int .i64 s.ready] 111) := ⟨_, rfl⟩
    have HW := hid hW
    have hk := hid (show Kept [] w W from hW ▸ (Kept.refl [] w).alloc _)
    have hb := hid (show W.heap[w.heap.size]? = some (.cells #[.int .i64 s.since, .bool s.asked, .int .i64 s.ready] 111 (0, 0)) from hW ▸ heap_alloc_at rfl)
    have HS := hid so
    have hld := hid (show ∀ X, Kept [] W X → X.cell? ⟨w.heap.size, 0, none⟩ = some (.int .i64 s.since) from fun X (hX : Kept [] W X) => by rw [cell_of_row _ _ 0 _ _ _ (hX.at hb.out (by simp))]; rfl)
    have hc := hid (fun X (hX : Kept [] W X) => (hcell.out X (hk.out.trans hX)).2.2.1)
    have hmo := hid (fun X => moment_any now X n1 n2)
    have hst := hid (fun X => later_any s.since least X (by have := HS.out.1; omega) (by have := HS.out.2.1; omega) (by omega) (by omega))
    have i1 := momT_in now
    have i2 := latT_in s.since least
    obtain ⟨mn, hmn⟩ : ∃ mn, mn = momT now := ⟨_, rfl⟩
    obtain ⟨r, hr⟩ : ∃ r, r = latT s.since least := ⟨_, rfl⟩
    rw [← hmn] at hmo i1 ⊢
    rw [← hr] at hst i2 ⊢
    have hwr := hid (show IntKind.i64.wrap (r - mn) = r - mn from by rw [IntKind.wrap_i64]; omega)
    clear h1 h2 h6 hf hsT hW hmn hr
    go_enter Try.func31, Try.ntmps31
    go_wp2_with fail
    rw [← HW.out]
    go_wp2_with fail
    have hH0 : Kept [] W W.drew := (Kept.refl [] W).drew
    refine wp_region_held_drew (S := fun v => Kept [] W v) (by kernel_rfl) hH0 (fun hH => ?_)
    refine takeH 0 (.pointer (some ⟨w.heap.size, 0, none⟩)) rfl (by kernel_rfl) (by kernel_rfl) (by kernel_rfl) (fun _ _ _ h => h) (by rfl) (fun v hv => by go_simp) hH ?_
    simp only [Act.put, List.setIfInBounds_toArray, List.set_cons_succ, List.set_cons_zero]
    refine takeH 1 (.int .i64 s.since) rfl (by kernel_rfl) (by kernel_rfl) (by kernel_rfl) (fun _ _ _ h => h) (by rfl) (fun v hv => by have h := hld.out v hv; go_simp) hH ?_
    simp only [Act.put, List.setIfInBounds_toArray, List.set_cons_succ, List.set_cons_zero]
    refine takeH 2 (.pointer (some ⟨p, 0, none⟩)) rfl (by kernel_rfl) (by kernel_rfl) (by kernel_rfl) (fun _ _ _ h => h) (by rfl) (fun v hv => by go_simp) hH ?_
    simp only [Act.put, List.setIfInBounds_toArray, List.set_cons_succ, List.set_cons_zero]
    refine takeH 3 (.pointer (some ⟨p, 0, none⟩)) rfl (by kernel_rfl) (by kernel_rfl) (by kernel_rfl) (fun _ _ _ h => h) (by rfl) (fun v hv => by go_simp) hH ?_
    simp only [Act.put, List.setIfInBounds_toArray, List.set_cons_succ, List.set_cons_zero]
    refine takeH 4 (.pointer (some ⟨p, 8, none⟩)) rfl (by kernel_rfl) (by kernel_rfl) (by kernel_rfl) (fun _ _ _ h => h) (by rfl) (fun v hv => by go_simp) hH ?_
    simp only [Act.put, List.setIfInBounds_toArray, List.set_cons_succ, List.set_cons_zero]
    refine takeH 5 (.int .i64 least) rfl (by kernel_rfl) (by kernel_rfl) (by kernel_rfl) (fun _ _ _ h => h) (by rfl) (fun v hv => by have h := hc.out v hv; go_simp) hH ?_
    simp only [Act.put, List.setIfInBounds_toArray, List.set_cons_succ, List.set_cons_zero]
    refine takeH 7 (.int .i64 now) rfl (by kernel_rfl) (by kernel_rfl) (by kernel_rfl) (fun _ _ _ h => h) (by rfl) (fun v hv => by go_simp) hH ?_
    simp only [Act.put, List.setIfInBounds_toArray, List.set_cons_succ, List.set_cons_zero]
    refine callR 6 rfl (by kernel_rfl) (by rfl) 54 #[.int .i64 s.since, .int .i64 least] (by go_simp) (.int .i64 r) (fun v => W.drew = v) (fun v h => h ▸ hH) (hst.out _) ?_
    rintro v1 rfl
    simp only [Act.put, List.setIfInBounds_toArray, List.set_cons_succ, List.set_cons_zero]
    refine callR 8 rfl (by kernel_rfl) (by rfl) 51 #[.int .i64 now] (by go_simp) (.int .i64 mn) (fun v => W.drew = v) (fun v h => h ▸ hH) (hmo.out _) ?_
    rintro v1 rfl
    simp only [Act.put, List.setIfInBounds_toArray, List.set_cons_succ, List.set_cons_zero]
    refine takeH 9 (.int .i64 (r - mn)) rfl (by kernel_rfl) (by kernel_rfl) (by kernel_rfl) (fun _ _ _ h => h) (by rfl) (fun v hv => by have h := hwr.out; go_simp) hH ?_
    simp only [Act.put, List.setIfInBounds_toArray, List.set_cons_succ, List.set_cons_zero]
    refine runH 10 rfl (by kernel_rfl) (by rfl) (.int .i64 (max (r - mn) 0)) (W.drew) (by go_simp) (hH) ?_
    simp only [Act.put, List.setIfInBounds_toArray, List.set_cons_succ, List.set_cons_zero]
    refine takeH 11 (.int .i64 (max (r - mn) 0)) rfl (by kernel_rfl) (by kernel_rfl) (by kernel_rfl) (fun _ _ _ h => h) (by rfl) (fun v hv => by go_simp) hH ?_
    simp only [Act.put, List.setIfInBounds_toArray, List.set_cons_succ, List.set_cons_zero]
    refine wpAnyH_done (by kernel_rfl) ?_ _
    have hfin := hid (hk.out.trans hH)
    clear hH hH0
    go_wp2
    go_ret
    exact ⟨rfl, hfin.out⟩
theorem val_at {hs : List Ent} {x : List UInt8} {v : Value} {y : DataW Value × List MemPlace} (hv : heldR v = some y) (hat : ∀ zd, (DM hs).atKey (.string x) zd = y.1) : ∃ e, findE x hs = some e ∧ v = e.v := by
  unfold heldR at hv
  simp at hv
  subst hv
  cases hf : findE x hs with
  | none =>
    have h1 := hat (.held (.bool true)); have h2 := hat (.held (.bool false))
    rw [DM_at, hf] at h1 h2
    simp at h1 h2
    rw [← h1] at h2
    simp at h2
  | some e =>
    have h1 := hat (.held undef)
    rw [DM_at, hf] at h1
    simp at h1
    exact ⟨e, rfl, h1.symm⟩
/-- How many are pending. -/
def isPend (ss : List Ent) (now life : Int) (x : List UInt8) : Bool := decide (stateT ss x now life = 1)
def pendT (ss : List Ent) (now life : Int) : Nat := ((ss.map (·.name)).filter (isPend ss now life)).length
def PnI (w w0 : World) (b r : Nat) (ss : List Ent) (now life : Int) (v : Value) (wr : World) : Prop :=
  ∃ left cnt vis, wr.ranges Try.prog 9 heldR b r ss.length (DM ss) left cnt ∧ Collected (DM ss) left vis ∧ vis.length + cnt ≤ ss.length ∧ Kept [] w wr ∧ w0.heap.size ≤ wr.heap.size ∧ v = .int .i64 ((vis.filter (isPend ss now life)).length : Int)
set_option maxHeartbeats 1000000 in
theorem co_pending (h : Co w U V p q es ss fv fl k jobs life least lost) (now : Int) (n1 : -9223372036854775808 ≤ now) (n2 : now ≤ 9223372036854775807) :
    Calls Try.prog 28 #[.pointer (some ⟨p, 0, none⟩), .int .i64 now] w fun e w' => e = .returned (.int .i64 (pendT ss now life : Int)) ∧ Kept [] w w' := by
  obtain ⟨⟨mv, h1, h2⟩, h3, h4, h5, h6, ⟨_, _, n3, n4, _⟩⟩ := h
  have hcell := hid (fun W (hk : Kept [] w W) => ob_tail (h1.kept hk (by simp)))
  obtain ⟨_, _, _, g9, _⟩ := ob_tail h1
  have HS := hid (show ss.length ≤ 4096 from by have e1 := congrArg List.length h5; simp at e1; have := h1.small.2.1; omega)
  have HST := hid h6
  rcases h2 with ⟨rfl, rfl⟩ | ⟨b, rfl, hbU, hown⟩
  · have hrg := run_range_nilMap (P := Try.prog) w 60 9 111 Try.underlying60
    have hnx := fun ty => run_next_nilMap (P := Try.prog) w ty 0 0 #[]
    have hk := hid (show Kept [] w (w.alloc (.mapIter none 0 #[] 0)) from (Kept.refl [] w).alloc _)
    clear h1 h3 h4 h5 h6
    go_enter Try.func28, Try.ntmps28
    go_wp2_with fail
    go_loopw [5] (fun v wr => v = .int .i64 0 ∧ w.alloc (.mapIter none 0 #[] 0) = wr) (fun _ _ => 0)
    case atStart => exact ⟨rfl, rfl⟩
    case round =>
      obtain ⟨rfl, rfl⟩ := hrel
      go_wp2
      go_ret
      exact ⟨rfl, hk.out⟩
  · obtain ⟨w1, hrg, hra, hgr, hsz⟩ := hown.range str_law Try.underlying60
    have hI0 := hid (show PnI w w1 b w.heap.size ss now life (.int .i64 0) w1 from ⟨_, _, [], hra, Collected.start _, by rw [DM_size]; simp, Kept.of_grown hgr (by simp), Nat.le_refl _, by simp⟩)
    have hown0 := hid hown
    have hbl := hid hown.lt
    have hwz := hid (show w.heap.size < w1.heap.size from hra.lt)
    have hmo := hid (fun X => moment_any now X n1 n2)
    have hsto := hid (fun (s : Sy) (hs : SyOk s) X => state_any s (momT now) life X (by have := hs.2.2.1; omega) (by have := hs.2.2.2; omega) (by omega) (by omega))
    clear h1 h3 h4 h5 h6 hra hgr hsz hown
    go_enter Try.func28, Try.ntmps28
    go_wp2_with fail
    go_loopw [5] (fun v wr => Hid (PnI w w1 b w.heap.size ss now life v wr)) (fun _ wr => wr.rangeLeft b w.heap.size)
    case atStart => exact hI0
    case round =>
      clear hI0
      obtain ⟨left, cnt, vis, hra, hcol, hcnt, hk, hz, rfl⟩ := hrel.out
      have hmeas := hid hra.left_eq
      have hne := hid hra.ne; have hrl := hid hra.lt
      have hK := hid hk; have HCOL := hid hcol; have HCNT := hid hcnt; have HZ := hid hz
      rcases hra.next str_law 0 with ⟨rfl, hl0, hrun⟩ | ⟨key, v1, kl, y, w2, cnt', hkey, hlk, hv, hat, hrun, hra2, hlt, hgr2, hsz2, hen⟩
      · have hsum := hid (show (vis.filter (isPend ss now life)).length = pendT ss now life from by
          have h1 := hcol.perm hown0.out str_law Try.underlying9 hl0
          rw [DM_keys] at h1
          unfold pendT
          exact (h1.filter _).length_eq)
        rw [hsum.out]
        clear hra hcol hcnt hk hz hrel hl0 hmeas hne HCOL HCNT HZ hsum
        go_wp2
        go_ret
        exact ⟨rfl, hK.out⟩
      · obtain ⟨x, rfl, rfl, hxl⟩ := Maps.keyOf_str Try.underlying9 hkey
        obtain ⟨en, hfe, rfl⟩ := val_at hv hat
        obtain ⟨s, es1, es2, so⟩ := HST.out.find hfe
        rw [es1] at hen hrun
        have hpe := hid (show isPend ss now life x = decide (stT s (momT now) life = 1) from by
          have e0 : stateT ss x now life = stT s (momT now) life := by unfold stateT; rw [hfe]; exact congrArg (fun z => stT z (momT now) life) es2
          unfold isPend; rw [e0])
        have hcol2 := hid (hcol.step hlk hat)
        have kx := hid (show Kept [w.heap.size] wr w2 from Kept.of_grown hgr2 (fun k hk _ => by simp at hk; simp [hk]))
        have hkw2 := hid (show Kept [] w w2 from hk.trans' kx.out (fun z hz hm => by simp at hm; omega))
        have hra2' := hid hra2
        have hlt' := hid hlt
        rw [encS] at hrun hen
        have hm2 := hid hra2.left_eq
        have hz2 := hid (show w1.heap.size ≤ w2.heap.size from Nat.le_trans hz kx.out.size)
        obtain ⟨W, hW⟩ : ∃ W, W = w2.alloc (.cells #[.int .i64 s.since, .bool s.asked, .int .i64 s.ready] 111) := ⟨_, rfl⟩
        have HW := hid hW
        have hkW := hid (show Kept [] w2 W from hW ▸ (Kept.refl [] w2).alloc _)
        have hb := hid (show W.heap[w2.heap.size]? = some (.cells #[.int .i64 s.since, .bool s.asked, .int .i64 s.ready] 111 (0, 0)) from hW ▸ heap_alloc_at rfl)
        have hld := hid (fun X (hX : Kept [] W X) => ld_stay X w2.heap.size s (hX.at hb.out (by simp)))
        have hc := hid (fun X (hX : Kept [] W X) => (hcell.out X ((hkw2.out.trans hkW.out).trans hX)).2.1)
        have hst := hid (fun X => hsto.out s so X)
        obtain ⟨mn, hmn⟩ : ∃ mn, mn = momT now := ⟨_, rfl⟩
        obtain ⟨r, hr⟩ : ∃ r, r = stT s mn life := ⟨_, rfl⟩
        rw [← hmn] at hst hpe
        have hmo2 := hid (fun X => hmn ▸ hmo.out X)
        rw [← hr] at hst hpe
        have hrr := hid (show ((r == 1) = true ∧ isPend ss now life x = true) ∨ ((r == 1) = false ∧ isPend ss now life x = false) from by
          rw [hpe.out]
          by_cases h : r = 1
          · left; simp [h]
          · right; simp [h])
        obtain ⟨cn, hcn⟩ : ∃ cn, cn = (vis.filter (isPend ss now life)).length := ⟨_, rfl⟩
        have HCN := hid hcn
        have hcb : cn ≤ 4096 := by
          have := List.length_filter_le (isPend ss now life) vis
          have := HCNT.out; have := HS.out
          omega
        rw [← hcn]
        unfold stV at hen hrun
        clear hkey hlk hv hat hra hra2 hlt hgr2 hk hcol hrel hxl hsz2 hcnt hz hfe es1 es2 so hW hmn hr hpe hcn
        go_wp2_with fail
        rw [← HW.out]
        go_wp2_with fail
        have hH0 : Kept [] W W.drew := (Kept.refl [] W).drew
        refine wp_region_held_drew (S := fun v => Kept [] W v) (by kernel_rfl) hH0 (fun hH => ?_)
        refine takeH 0 (stV s) rfl (by kernel_rfl) (by kernel_rfl) (by kernel_rfl) (fun _ _ _ h => h) (by rfl) (fun v hv => by have h := hld.out v hv; unfold execOp; simp [Instr.loadAt, Instr.sureAddr, Sem.run_bind, Sem.run_pure, Result.andThen_ok, Act.eval, h]) hH ?_
        simp only [Act.put, List.setIfInBounds_toArray, List.set_cons_succ, List.set_cons_zero]
        refine takeH 1 (.int .i64 now) rfl (by kernel_rfl) (by kernel_rfl) (by kernel_rfl) (fun _ _ _ h => h) (by rfl) (fun v hv => by go_simp) hH ?_
        simp only [Act.put, List.setIfInBounds_toArray, List.set_cons_succ, List.set_cons_zero]
        refine takeH 3 (.pointer (some ⟨p, 0, none⟩)) rfl (by kernel_rfl) (by kernel_rfl) (by kernel_rfl) (fun _ _ _ h => h) (by rfl) (fun v hv => by go_simp) hH ?_
        simp only [Act.put, List.setIfInBounds_toArray, List.set_cons_succ, List.set_cons_zero]
        refine takeH 4 (.pointer (some ⟨p, 0, none⟩)) rfl (by kernel_rfl) (by kernel_rfl) (by kernel_rfl) (fun _ _ _ h => h) (by rfl) (fun v hv => by go_simp) hH ?_
        simp only [Act.put, List.setIfInBounds_toArray, List.set_cons_succ, List.set_cons_zero]
        refine takeH 5 (.pointer (some ⟨p, 7, none⟩)) rfl (by kernel_rfl) (by kernel_rfl) (by kernel_rfl) (fun _ _ _ h => h) (by rfl) (fun v hv => by go_simp) hH ?_
        simp only [Act.put, List.setIfInBounds_toArray, List.set_cons_succ, List.set_cons_zero]
        refine takeH 6 (.int .i64 life) rfl (by kernel_rfl) (by kernel_rfl) (by kernel_rfl) (fun _ _ _ h => h) (by rfl) (fun v hv => by have h := hc.out v hv; go_simp) hH ?_
        simp only [Act.put, List.setIfInBounds_toArray, List.set_cons_succ, List.set_cons_zero]
        refine callR 2 rfl (by kernel_rfl) (by rfl) 51 #[.int .i64 now] (by go_simp) (.int .i64 mn) (fun v => W.drew = v) (fun v h => h ▸ hH) (hmo2.out _) ?_
        rintro v1 rfl
        simp only [Act.put, List.setIfInBounds_toArray, List.set_cons_succ, List.set_cons_zero]
        refine callR 7 rfl (by kernel_rfl) (by rfl) 55 #[stV s, .int .i64 mn, .int .i64 life] (by go_simp) (.int .i64 r) (fun v => Kept [] W.drew v) (fun v h => hH.trans h) (hst.out _) ?_
        rintro v2 hv2
        simp only [Act.put, List.setIfInBounds_toArray, List.set_cons_succ, List.set_cons_zero]
        have HV2 := hid (hkW.out.trans (hH.trans hv2))
        have hra4 := hid (hra2'.out.kept (w' := v2) (row := none) ⟨HV2.out.os, HV2.out.tape, HV2.out.output, HV2.out.size, fun k h1 h2 => HV2.out.block k h1 (by simp)⟩ (by simp) (by simp))
        have hms := hid (show v2.rangeLeft b w.heap.size < wr.rangeLeft b w.heap.size from by rw [hra4.out.left_eq, hmeas.out]; exact hlt'.out)
        have hI := hid (fun (u : Nat) (hu : u = ((vis ++ [x]).filter (isPend ss now life)).length) => (show PnI w w1 b w.heap.size ss now life (.int .i64 (u : Int)) v2 from ⟨_, cnt', vis ++ [x], hra4.out, hcol2.out, by have := hlt'.out; have := HCNT.out; simp; omega, hkw2.out.trans HV2.out, Nat.le_trans hz2.out HV2.out.size, by rw [hu]⟩))
        rcases hrr.out with ⟨e1, e2⟩ | ⟨e1, e2⟩
        · have hI2 := hid (hI.out (cn + 1) (by rw [List.filter_append]; simp [e2, HCN.out]))
          refine takeH 8 (.bool true) rfl (by kernel_rfl) (by kernel_rfl) (by kernel_rfl) (fun _ _ _ h => h) (by rfl) (fun v hv => by have h := e1; go_simp) (hH.trans hv2) ?_
          simp only [Act.put, List.setIfInBounds_toArray, List.set_cons_succ, List.set_cons_zero]
          refine wpAnyH_done (by kernel_rfl) ?_ _
          clear hv2 hH hH0 hI e1 e2 hrr
          go_wp2
          go_roundw
          case rel => exact hI2
          case measure => exact hms.out
        · have hI2 := hid (hI.out cn (by rw [List.filter_append]; simp [e2, HCN.out]))
          refine takeH 8 (.bool false) rfl (by kernel_rfl) (by kernel_rfl) (by kernel_rfl) (fun _ _ _ h => h) (by rfl) (fun v hv => by have h := e1; go_simp) (hH.trans hv2) ?_
          simp only [Act.put, List.setIfInBounds_toArray, List.set_cons_succ, List.set_cons_zero]
          refine wpAnyH_done (by kernel_rfl) ?_ _
          clear hv2 hH hH0 hI e1 e2 hrr
          go_wp2
          go_roundw
          case rel => exact hI2
          case measure => exact hms.out
end
end Go.Proofs.Ytnkolgamnakegaa
