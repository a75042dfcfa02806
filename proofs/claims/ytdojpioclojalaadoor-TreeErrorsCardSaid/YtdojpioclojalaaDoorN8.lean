import Derived.Test.YtdojpioclojalaaDoorN7
import Derived.Test.YtdojpioclojalaaDoorN3

/- coldstoreref10.Alike. -/
namespace Go.Proofs.YtdojpioclojalaaDoor
open Go.RowKit Go.Lib

theorem rnode_info : (Tryd.prog.info? 51).map (·.size) = some 36 := by kernel_rfl
/-- A box that holds the document's node. -/
def RAt (w : World) (p : Nat) (n : NodeR) : Prop := w.heap[p]? = some (.cells n.cells.toArray 51 (0, 0))
theorem RAt.cell {w : World} {p : Nat} {n : NodeR} (h : RAt w p n) (j : Nat) (v : Value) (hj : n.cells[j]? = some v) : w.cell? ⟨p, j, none⟩ = some v := by
  rw [cell_of_row w _ j _ _ _ h]; simpa using hj
theorem RAt.kept {L : List Nat} {w w' : World} {p : Nat} {n : NodeR} (h : RAt w p n) (hk : Kept L w w') (hp : p ∉ L) : RAt w' p n := hk.at h hp
theorem RAt.sub {w : World} {p : Nat} {n : NodeR} (h : RAt w p n) (h32 : n.sub.length = 32) : IdAt w ⟨p, 4, none⟩ n.sub := by
  refine ⟨h32, fun k b hk => ?_⟩
  have e : (⟨p, 4, none⟩ : Addr).add k = ⟨p, 4 + k, none⟩ := by unfold Addr.add; split <;> simp_all
  rw [e]; exact h.cell _ _ (n.c4 k b hk)
theorem Nd.same {a b : Nd} (h1 : a.name = b.name) (h2 : a.dir = b.dir) (h3 : a.size = b.size) (h4 : a.sub = b.sub) (h5 : a.parts = b.parts) : a = b := by cases a; cases b; simp_all
instance : DecidableEq Nd := fun a b => decidable_of_iff (a.name = b.name ∧ a.dir = b.dir ∧ a.size = b.size ∧ a.sub = b.sub ∧ a.parts = b.parts) ⟨fun h => by cases a; cases b; simp_all, fun h => by rw [h]; simp⟩

set_option maxRecDepth 100000 in
set_option maxHeartbeats 4000000 in
theorem r_alike (n m : NodeR) (w : World) (hn : n.sub.length = 32) (hm : m.sub.length = 32) (ha : Ids w n.pa n.pc n.parts) (hb : Ids w m.pa m.pc m.parts) :
    Calls Tryd.prog 21 #[.agg n.cells.toArray, .agg m.cells.toArray] w fun e w' => e = .returned (.bool (decide (n.nd = m.nd))) ∧ Kept [] w w' := by
  obtain ⟨cs, hcs⟩ : ∃ cs, cs = n.cells.toArray := ⟨_, rfl⟩
  obtain ⟨ds, hds⟩ : ∃ ds, ds = m.cells.toArray := ⟨_, rfl⟩
  have hk := hid (show Kept [] w ((w.alloc (.cells cs 51)).alloc (.cells ds 51)) from ((Kept.refl [] w).alloc _).alloc _)
  have hA : RAt ((w.alloc (.cells cs 51)).alloc (.cells ds 51)) w.heap.size n := by rw [hcs]; exact heap_alloc_old (heap_alloc_at rfl)
  have hB : RAt ((w.alloc (.cells cs 51)).alloc (.cells ds 51)) (w.heap.size + 1) m := by rw [hds]; exact heap_alloc_at (by simp)
  have HI := hid (fun (v : World) (hv : Kept [] ((w.alloc (.cells cs 51)).alloc (.cells ds 51)) v) => show Ids v n.pa n.pc n.parts from ha.kept (hk.out.trans hv) (by simp))
  have HJ := hid (fun (v : World) (hv : Kept [] ((w.alloc (.cells cs 51)).alloc (.cells ds 51)) v) => show Ids v m.pa m.pc m.parts from hb.kept (hk.out.trans hv) (by simp))
  have HA := hid hA; have HB := hid hB
  have a0 := hA.cell 0 _ n.c0; have a1 := hA.cell 1 _ n.c1; have a2 := hA.cell 2 _ n.c2; have a3 := hA.cell 3 _ n.c3
  have b0 := hB.cell 0 _ m.c0; have b1 := hB.cell 1 _ m.c1; have b2 := hB.cell 2 _ m.c2; have b3 := hB.cell 3 _ m.c3
  have as_ := hid (hA.sub hn).reads
  have bs_ := hid (hB.sub hm).reads
  have asz := hid (show (Tryd.prog.info? 40).map (·.size) = some (n.sub.map B).length by rw [List.length_map, hn]; exact ninfo32)
  have bsz := hid (show (Tryd.prog.info? 40).map (·.size) = some (m.sub.map B).length by rw [List.length_map, hm]; exact ninfo32)
  have heq := fun W => nid_equal n.sub m.sub hn hm W
  have hbe : (n.name.toList == m.name.toList) = decide (n.nd.name = m.nd.name) := S_beq n.nd.name m.nd.name
  have hno := hid (fun (h : n.nd ≠ m.nd) => show decide (n.nd = m.nd) = false from decide_eq_false h)
  have dn := hid (show n.nd.dir = n.dir from rfl); have dm := hid (show m.nd.dir = m.dir from rfl)
  have zn := hid (show n.nd.size = n.size from rfl); have zm := hid (show m.nd.size = m.size from rfl)
  have sn := hid (show n.nd.sub = n.sub from rfl); have sm := hid (show m.nd.sub = m.sub from rfl)
  have pn := hid (show n.nd.parts = n.parts from rfl); have pm := hid (show m.nd.parts = m.parts from rfl)
  have hcm := hid ha.max; have hcl := hid ha.le
  rw [← hcs, ← hds]
  clear hA hB hcs hds ha hb hn hm
  by_cases h1 : n.nd.name ≠ m.nd.name
  · rw [decide_eq_false h1] at hbe
    have hF := hid (hno.out (fun e => h1 (by rw [e])))
    clear h1 heq
    go_enter Tryd.func21, Tryd.ntmps21
    go_wp2
    go_ret
    exact ⟨by rw [hF.out]; rfl, hk.out⟩
  have h1 := Decidable.not_not.1 h1
  rw [decide_eq_true h1] at hbe
  have H1 := hid h1
  clear h1
  by_cases h2 : n.dir ≠ m.dir
  · have hF := hid (hno.out (fun e => h2 (by rw [← dn.out, ← dm.out, e])))
    have hd1 : (n.dir == m.dir) = false := by simpa using h2
    have hd2 : (n.dir != m.dir) = true := by simpa using h2
    generalize n.dir = d1 at *
    generalize m.dir = d2 at *
    clear h2 heq
    go_enter Tryd.func21, Tryd.ntmps21
    go_wp2
    go_ret
    exact ⟨by rw [hF.out]; rfl, hk.out⟩
  have h2 := Decidable.not_not.1 h2
  have H2 := hid (show n.nd.dir = m.nd.dir by rw [dn.out, dm.out, h2])
  rw [← h2] at b1
  clear h2 dn dm
  generalize n.dir = d1 at *
  by_cases h3 : n.size ≠ m.size
  · have hF := hid (hno.out (fun e => h3 (by rw [← zn.out, ← zm.out, e])))
    have hd1 : (n.size == m.size) = false := by simpa using h3
    have hd2 : (n.size != m.size) = true := by simpa using h3
    generalize n.size = d1 at *
    generalize m.size = d2 at *
    clear h3 heq
    go_enter Tryd.func21, Tryd.ntmps21
    go_wp2
    go_ret
    exact ⟨by rw [hF.out]; rfl, hk.out⟩
  have h3 := Decidable.not_not.1 h3
  have H3 := hid (show n.nd.size = m.nd.size by rw [zn.out, zm.out, h3])
  rw [← h3] at b2
  clear h3 zn zm
  generalize n.size = z1 at *
  by_cases h4 : n.sub ≠ m.sub
  · have hF := hid (hno.out (fun e => h4 (by rw [← sn.out, ← sm.out, e])))
    rw [decide_eq_false h4] at heq
    clear h4
    go_enter Tryd.func21, Tryd.ntmps21
    go_wp2_with (first | (refine n_load_if (by rfl) 40 (.tmp 26) rfl ⟨w.heap.size, 4, none⟩ rfl (n.sub.map B) _ Tryd.underlying40 rfl asz.out as_.out ?_) | (refine n_load_if (by rfl) 40 (.tmp 28) rfl ⟨w.heap.size + 1, 4, none⟩ rfl (m.sub.map B) _ Tryd.underlying40 rfl bsz.out bs_.out ?_))
    go_wp2
    go_ret
    exact ⟨by rw [hF.out]; rfl, hk.out⟩
  have h4 := Decidable.not_not.1 h4
  have H4 := hid (show n.nd.sub = m.nd.sub by rw [sn.out, sm.out, h4])
  rw [decide_eq_true h4] at heq
  clear h4 sn sm
  by_cases h5 : n.parts.length ≠ m.parts.length
  · have hF := hid (hno.out (fun e => h5 (by rw [← pn.out, ← pm.out, e])))
    have hd1 : ((n.parts.length : Int) == (m.parts.length : Int)) = false := by simp; omega
    have hd2 : ((n.parts.length : Int) != (m.parts.length : Int)) = true := by simp; omega
    generalize n.parts.length = p1 at *
    generalize m.parts.length = p2 at *
    clear h5
    go_enter Tryd.func21, Tryd.ntmps21
    go_wp2_with (first | (refine n_load_if (by rfl) 40 (.tmp 26) rfl ⟨w.heap.size, 4, none⟩ rfl (n.sub.map B) _ Tryd.underlying40 rfl asz.out as_.out ?_) | (refine n_load_if (by rfl) 40 (.tmp 28) rfl ⟨w.heap.size + 1, 4, none⟩ rfl (m.sub.map B) _ Tryd.underlying40 rfl bsz.out bs_.out ?_))
    go_wp2
    go_ret
    exact ⟨by rw [hF.out]; rfl, hk.out⟩
  have h5 := Decidable.not_not.1 h5
  have H5 := hid h5
  rw [← h5] at b3
  obtain ⟨p, hp⟩ : ∃ p, p = n.parts.length := ⟨_, rfl⟩
  have HP := hid hp
  rw [← hp] at a3 b3
  clear h5 hp
  go_enter Tryd.func21, Tryd.ntmps21
  go_wp2_with (first | (refine n_load_if (by rfl) 40 (.tmp 26) rfl ⟨w.heap.size, 4, none⟩ rfl (n.sub.map B) _ Tryd.underlying40 rfl asz.out as_.out ?_) | (refine n_load_if (by rfl) 40 (.tmp 28) rfl ⟨w.heap.size + 1, 4, none⟩ rfl (m.sub.map B) _ Tryd.underlying40 rfl bsz.out bs_.out ?_))
  obtain ⟨W, hW⟩ : ∃ W : World, W = ((w.alloc (.cells cs 51)).alloc (.cells ds 51)) := ⟨_, rfl⟩
  rw [← hW] at HA HB HI HJ hk ⊢
  clear hW a0 a1 a2 a3 b0 b1 b2 b3 as_ bs_ asz bsz heq hbe
  have gA := hid (fun (v : World) (hv : Kept [] W v) => show v.cell? ⟨w.heap.size, 3, none⟩ = some (.slice n.pa p n.pc) from by
    have h := (HA.out.kept hv (by simp)).cell 3 _ n.c3
    rw [← HP.out] at h; exact h)
  have gB := hid (fun (v : World) (hv : Kept [] W v) => show v.cell? ⟨w.heap.size + 1, 3, none⟩ = some (.slice m.pa p m.pc) from by
    have h := (HB.out.kept hv (by simp)).cell 3 _ m.c3
    rw [← H5.out, ← HP.out] at h; exact h)
  have hpm : p ≤ 9223372036854775807 := by have h1 := hcm.out; have h2 := hcl.out; have h3 := HP.out; omega
  go_loopw [5] (fun s wr => ∃ i : Nat, i ≤ p ∧ s = .int .i64 i ∧ Kept [] W wr ∧ Hid (n.parts.take i = m.parts.take i)) (fun s _ => p - (intOf s).toNat)
  case atStart => exact ⟨0, Nat.zero_le _, rfl, Kept.refl _ _, hid (by simp)⟩
  case round =>
    obtain ⟨i, hi, rfl, hkr, heqs⟩ := hrel
    have g3 := gA.out wr hkr
    by_cases hlt : i < p
    · have HK := hid hkr.drew
      clear hkr
      obtain ⟨x, hx⟩ : ∃ x, n.parts[i]? = some x := ⟨_, List.getElem?_eq_getElem (by have := HP.out; omega)⟩
      obtain ⟨y, hy⟩ : ∃ y, m.parts[i]? = some y := ⟨_, List.getElem?_eq_getElem (by have := HP.out; have := H5.out; omega)⟩
      have hin := HI.out W (Kept.refl _ _)
      have hjn := HJ.out W (Kept.refl _ _)
      obtain ⟨ad, had⟩ : ∃ ad, n.pa = some ad := by
        cases h : n.pa with
        | none => have := hin.nil h; rw [this] at hx; simp at hx
        | some ad => exact ⟨ad, rfl⟩
      obtain ⟨bd, hbd⟩ : ∃ bd, m.pa = some bd := by
        cases h : m.pa with
        | none => have := hjn.nil h; rw [this] at hy; simp at hy
        | some bd => exact ⟨bd, rfl⟩
      have hx32 := (hin.at_ ad had i x hx).1
      have hy32 := (hjn.at_ bd hbd i y hy).1
      have q1 := hid (fun (v : World) (hv : Kept [] W v) => nld v (ad.add (i * 32)) x ((HI.out v hv).at_ ad had i x hx))
      have q2 := hid (fun (v : World) (hv : Kept [] W v) => nld v (bd.add (i * 32)) y ((HJ.out v hv).at_ bd hbd i y hy))
      rw [had] at gA g3
      rw [hbd] at gB
      have hnx := hid (fun h : x ≠ y => show decide (n.nd = m.nd) = false from hno.out (fun e => h (by
        have e2 : n.parts = m.parts := by rw [← pn.out, ← pm.out, e]
        rw [e2, hy] at hx; exact (Option.some.inj hx).symm)))
      have hstep := hid (fun h : x = y => show n.parts.take (i + 1) = m.parts.take (i + 1) from by
        rw [List.take_add_one, List.take_add_one, heqs.out, hx, hy, h])
      have heq := hid (fun W => nid_equal x y hx32 hy32 W)
      clear hx hy hx32 hy32 hin hjn had hbd
      have hii : (i : Int) < (p : Int) := by omega
      by_cases hxy : x = y
      · have heqt := heq.out
        rw [decide_eq_true hxy] at heqt
        have HXY := hid hxy
        clear hxy
        go_wp2_with fail
        refine wp_region_held_drew (S := Kept [] W) (by kernel_rfl) HK.out (fun hH => ?_)
        refine takeH 0 (.pointer (some ⟨w.heap.size, 3, none⟩)) rfl (by kernel_rfl) (by kernel_rfl) (by kernel_rfl) (fun _ _ _ h => h) (by rfl) (fun v hv => by go_simp) hH ?_
        simp only [Act.put, List.setIfInBounds_toArray, List.set_cons_succ, List.set_cons_zero]
        refine takeH 1 (.slice (some ad) p n.pc) rfl (by kernel_rfl) (by kernel_rfl) (by kernel_rfl) (fun _ _ _ h => h) (by rfl) (fun v hv => by have g := gA.out v hv; go_simp) hH ?_
        simp only [Act.put, List.setIfInBounds_toArray, List.set_cons_succ, List.set_cons_zero]
        refine takeH 2 (.int .i64 (i : Int)) rfl (by kernel_rfl) (by kernel_rfl) (by kernel_rfl) (fun _ _ _ h => h) (by rfl) (fun v hv => by go_simp) hH ?_
        simp only [Act.put, List.setIfInBounds_toArray, List.set_cons_succ, List.set_cons_zero]
        refine takeH 3 (.pointer (some (ad.add (i * 32)))) rfl (by kernel_rfl) (by kernel_rfl) (by kernel_rfl) (fun _ _ _ h => h) (by rfl) (fun v hv => by go_simp) hH ?_
        simp only [Act.put, List.setIfInBounds_toArray, List.set_cons_succ, List.set_cons_zero]
        refine takeH 4 (.agg (x.map B).toArray) rfl (by kernel_rfl) (by kernel_rfl) (by kernel_rfl) (fun _ _ _ h => h) (by rfl) (fun v hv => by have h := q1.out v hv (.tmp 0) trivial; unfold execOp; simp [Instr.loadAt, Instr.sureAddr, Sem.run_bind, Sem.run_pure, Result.andThen_ok, Act.eval, h]) hH ?_
        simp only [Act.put, List.setIfInBounds_toArray, List.set_cons_succ, List.set_cons_zero]
        refine takeH 5 (.pointer (some ⟨w.heap.size + 1, 3, none⟩)) rfl (by kernel_rfl) (by kernel_rfl) (by kernel_rfl) (fun _ _ _ h => h) (by rfl) (fun v hv => by go_simp) hH ?_
        simp only [Act.put, List.setIfInBounds_toArray, List.set_cons_succ, List.set_cons_zero]
        refine takeH 6 (.slice (some bd) p m.pc) rfl (by kernel_rfl) (by kernel_rfl) (by kernel_rfl) (fun _ _ _ h => h) (by rfl) (fun v hv => by have g := gB.out v hv; go_simp) hH ?_
        simp only [Act.put, List.setIfInBounds_toArray, List.set_cons_succ, List.set_cons_zero]
        refine takeH 7 (.int .i64 (i : Int)) rfl (by kernel_rfl) (by kernel_rfl) (by kernel_rfl) (fun _ _ _ h => h) (by rfl) (fun v hv => by go_simp) hH ?_
        simp only [Act.put, List.setIfInBounds_toArray, List.set_cons_succ, List.set_cons_zero]
        refine takeH 8 (.pointer (some (bd.add (i * 32)))) rfl (by kernel_rfl) (by kernel_rfl) (by kernel_rfl) (fun _ _ _ h => h) (by rfl) (fun v hv => by go_simp) hH ?_
        simp only [Act.put, List.setIfInBounds_toArray, List.set_cons_succ, List.set_cons_zero]
        refine takeH 9 (.agg (y.map B).toArray) rfl (by kernel_rfl) (by kernel_rfl) (by kernel_rfl) (fun _ _ _ h => h) (by rfl) (fun v hv => by have h := q2.out v hv (.tmp 0) trivial; unfold execOp; simp [Instr.loadAt, Instr.sureAddr, Sem.run_bind, Sem.run_pure, Result.andThen_ok, Act.eval, h]) hH ?_
        simp only [Act.put, List.setIfInBounds_toArray, List.set_cons_succ, List.set_cons_zero]
        refine takeH 10 (.bool false) rfl (by kernel_rfl) (by kernel_rfl) (by kernel_rfl) (fun _ _ _ h => h) (by rfl) (fun v hv => by go_simp) hH ?_
        simp only [Act.put, List.setIfInBounds_toArray, List.set_cons_succ, List.set_cons_zero]
        refine wpAnyH_done (by kernel_rfl) ?_ _
        have HK2 := hid hH
        clear hH
        go_wp2
        go_roundw
        case rel => exact ⟨i + 1, by omega, by go_num, HK2.out, hid (hstep.out HXY.out)⟩
        case measure => simp [intOf]; omega
      · have heqt := heq.out
        rw [decide_eq_false hxy] at heqt
        have HXY := hid hxy
        clear hxy
        go_wp2_with fail
        refine wp_region_held_drew (S := Kept [] W) (by kernel_rfl) HK.out (fun hH => ?_)
        refine takeH 0 (.pointer (some ⟨w.heap.size, 3, none⟩)) rfl (by kernel_rfl) (by kernel_rfl) (by kernel_rfl) (fun _ _ _ h => h) (by rfl) (fun v hv => by go_simp) hH ?_
        simp only [Act.put, List.setIfInBounds_toArray, List.set_cons_succ, List.set_cons_zero]
        refine takeH 1 (.slice (some ad) p n.pc) rfl (by kernel_rfl) (by kernel_rfl) (by kernel_rfl) (fun _ _ _ h => h) (by rfl) (fun v hv => by have g := gA.out v hv; go_simp) hH ?_
        simp only [Act.put, List.setIfInBounds_toArray, List.set_cons_succ, List.set_cons_zero]
        refine takeH 2 (.int .i64 (i : Int)) rfl (by kernel_rfl) (by kernel_rfl) (by kernel_rfl) (fun _ _ _ h => h) (by rfl) (fun v hv => by go_simp) hH ?_
        simp only [Act.put, List.setIfInBounds_toArray, List.set_cons_succ, List.set_cons_zero]
        refine takeH 3 (.pointer (some (ad.add (i * 32)))) rfl (by kernel_rfl) (by kernel_rfl) (by kernel_rfl) (fun _ _ _ h => h) (by rfl) (fun v hv => by go_simp) hH ?_
        simp only [Act.put, List.setIfInBounds_toArray, List.set_cons_succ, List.set_cons_zero]
        refine takeH 4 (.agg (x.map B).toArray) rfl (by kernel_rfl) (by kernel_rfl) (by kernel_rfl) (fun _ _ _ h => h) (by rfl) (fun v hv => by have h := q1.out v hv (.tmp 0) trivial; unfold execOp; simp [Instr.loadAt, Instr.sureAddr, Sem.run_bind, Sem.run_pure, Result.andThen_ok, Act.eval, h]) hH ?_
        simp only [Act.put, List.setIfInBounds_toArray, List.set_cons_succ, List.set_cons_zero]
        refine takeH 5 (.pointer (some ⟨w.heap.size + 1, 3, none⟩)) rfl (by kernel_rfl) (by kernel_rfl) (by kernel_rfl) (fun _ _ _ h => h) (by rfl) (fun v hv => by go_simp) hH ?_
        simp only [Act.put, List.setIfInBounds_toArray, List.set_cons_succ, List.set_cons_zero]
        refine takeH 6 (.slice (some bd) p m.pc) rfl (by kernel_rfl) (by kernel_rfl) (by kernel_rfl) (fun _ _ _ h => h) (by rfl) (fun v hv => by have g := gB.out v hv; go_simp) hH ?_
        simp only [Act.put, List.setIfInBounds_toArray, List.set_cons_succ, List.set_cons_zero]
        refine takeH 7 (.int .i64 (i : Int)) rfl (by kernel_rfl) (by kernel_rfl) (by kernel_rfl) (fun _ _ _ h => h) (by rfl) (fun v hv => by go_simp) hH ?_
        simp only [Act.put, List.setIfInBounds_toArray, List.set_cons_succ, List.set_cons_zero]
        refine takeH 8 (.pointer (some (bd.add (i * 32)))) rfl (by kernel_rfl) (by kernel_rfl) (by kernel_rfl) (fun _ _ _ h => h) (by rfl) (fun v hv => by go_simp) hH ?_
        simp only [Act.put, List.setIfInBounds_toArray, List.set_cons_succ, List.set_cons_zero]
        refine takeH 9 (.agg (y.map B).toArray) rfl (by kernel_rfl) (by kernel_rfl) (by kernel_rfl) (fun _ _ _ h => h) (by rfl) (fun v hv => by have h := q2.out v hv (.tmp 0) trivial; unfold execOp; simp [Instr.loadAt, Instr.sureAddr, Sem.run_bind, Sem.run_pure, Result.andThen_ok, Act.eval, h]) hH ?_
        simp only [Act.put, List.setIfInBounds_toArray, List.set_cons_succ, List.set_cons_zero]
        refine takeH 10 (.bool true) rfl (by kernel_rfl) (by kernel_rfl) (by kernel_rfl) (fun _ _ _ h => h) (by rfl) (fun v hv => by go_simp) hH ?_
        simp only [Act.put, List.setIfInBounds_toArray, List.set_cons_succ, List.set_cons_zero]
        refine wpAnyH_done (by kernel_rfl) ?_ _
        have HK2 := hid hH
        clear hH
        go_wp2
        go_ret
        exact ⟨by rw [hnx.out HXY.out]; rfl, hk.out.trans HK2.out⟩
    · have hin : i = p := by omega
      subst hin
      have hxs : decide (n.nd = m.nd) = true := decide_eq_true (Nd.same H1.out H2.out H3.out H4.out (by
        have h1 := heqs.out
        rw [List.take_of_length_le (by have := HP.out; omega), List.take_of_length_le (by have := HP.out; have := H5.out; omega)] at h1
        rw [pn.out, pm.out]; exact h1))
      have HK := hid hkr
      clear hkr
      go_wp2
      go_ret
      exact ⟨by rw [hxs]; rfl, hk.out.trans HK.out⟩
end Go.Proofs.YtdojpioclojalaaDoor
