import Derived.Test.YtdojpioclojalaaDoorN8
import Derived.Test.YtdojpioclojalaaDoorN9

/- coldstoreref10.Same. -/
namespace Go.Proofs.YtdojpioclojalaaDoor
open Go.RowKit Go.Lib

theorem rnld (v : World) (x : Addr) (n : NodeR) (h : NodeAt v x n) : ∀ o : Operand, True → (loadVar 51 x).run Tryd.prog v = .ok (.agg n.cells.toArray) v := fun _ _ =>
  run_loadVar_cells v 51 x n.cells _ Tryd.underlying51 rfl (by rw [node_size n h.2.2.2.2.2.1]; exact rnode_info) h.reads

set_option maxRecDepth 100000 in
set_option maxHeartbeats 4000000 in
theorem r_same (a b : Option Addr) (c d : Nat) (xs ys : List NodeR) (w : World) (ha : ∀ wr, Kept [] w wr → Nodes wr a c xs) (hb : ∀ wr, Kept [] w wr → Nodes wr b d ys) :
    Calls Tryd.prog 13 #[.slice a xs.length c, .slice b ys.length d] w fun e w' => e = .returned (.bool (decide (xs.map NodeR.nd = ys.map NodeR.nd))) ∧ Kept [] w w' := by
  have HA := hid ha; have HB := hid hb
  have hc := (ha w (Kept.refl [] w)).le
  have hcm := (ha w (Kept.refl [] w)).max
  clear ha hb
  obtain ⟨X, hX⟩ : ∃ X, X = xs.map NodeR.nd := ⟨_, rfl⟩
  obtain ⟨Y, hY⟩ : ∃ Y, Y = ys.map NodeR.nd := ⟨_, rfl⟩
  have HX := hid hX; have HY := hid hY
  have lX := hid (show X.length = xs.length by rw [hX]; simp); have lY := hid (show Y.length = ys.length by rw [hY]; simp)
  rw [← hX, ← hY]
  clear hX hY
  by_cases hlen : xs.length = ys.length
  · obtain ⟨n, hn⟩ : ∃ n, n = xs.length := ⟨_, rfl⟩
    have Hx := hid hn; have Hy := hid (hn.trans hlen)
    rw [← hlen, ← hn]
    rw [← hn] at hc
    clear hlen hn
    go_enter Tryd.func13, Tryd.ntmps13
    go_wp2_with fail
    go_loopw [5] (fun s wr => ∃ i : Nat, i ≤ n ∧ s = .int .i64 i ∧ Kept [] w wr ∧ Hid (X.take i = Y.take i)) (fun s _ => n - (intOf s).toNat)
    case atStart => exact ⟨0, Nat.zero_le _, rfl, Kept.refl _ _, hid (by simp)⟩
    case round =>
      obtain ⟨i, hi, rfl, hk, heqs⟩ := hrel
      by_cases hlt : i < n
      · have HK := hid hk.drew
        clear hk
        obtain ⟨x, hx⟩ : ∃ x, xs[i]? = some x := ⟨_, List.getElem?_eq_getElem (by have := Hx.out; omega)⟩
        obtain ⟨y, hy⟩ : ∃ y, ys[i]? = some y := ⟨_, List.getElem?_eq_getElem (by have := Hy.out; omega)⟩
        have hx2 : X[i]? = some x.nd := by rw [HX.out, List.getElem?_map, hx]; rfl
        have hy2 : Y[i]? = some y.nd := by rw [HY.out, List.getElem?_map, hy]; rfl
        cases a with
        | none => exact absurd ((HA.out w (Kept.refl _ _)).nil rfl) (fun e => by rw [e] at hx; simp at hx)
        | some ad =>
        cases b with
        | none => exact absurd ((HB.out w (Kept.refl _ _)).nil rfl) (fun e => by rw [e] at hy; simp at hy)
        | some bd =>
        have q1 := hid (fun (v : World) (hv : Kept [] w v) => rnld v (ad.add (i * 36)) x ((HA.out v hv).at_ ad rfl i x hx))
        have q2 := hid (fun (v : World) (hv : Kept [] w v) => rnld v (bd.add (i * 36)) y ((HB.out v hv).at_ bd rfl i y hy))
        have cAl := hid (fun (v : World) (hv : Kept [] w v) => (r_alike x y v ((HA.out v hv).at_ ad rfl i x hx).2.2.2.2.2.1 ((HB.out v hv).at_ bd rfl i y hy).2.2.2.2.2.1 ((HA.out v hv).at_ ad rfl i x hx).2.2.2.2.2.2.1 ((HB.out v hv).at_ bd rfl i y hy).2.2.2.2.2.2.1).mono (fun e w' h => show e = .returned (.bool (decide (x.nd = y.nd))) ∧ Kept [] w w' from ⟨h.1, hv.trans h.2⟩))
        have hnx := hid (fun h : x.nd ≠ y.nd => show decide (X = Y) = false from decide_eq_false (fun e => by rw [e, hy2] at hx2; exact h (Option.some.inj hx2).symm))
        have hstep := hid (fun h : x.nd = y.nd => show X.take (i + 1) = Y.take (i + 1) from by
          rw [List.take_add_one, List.take_add_one, heqs.out, hx2, hy2, h])
        clear hx hy hx2 hy2
        have hii : (i : Int) < (n : Int) := by omega
        by_cases hxy : x.nd = y.nd
        · rw [decide_eq_true hxy] at cAl
          have HXY := hid hxy
          clear hxy
          go_wp2_with fail
          refine wp_region_held_drew (S := Kept [] w) (by kernel_rfl) HK.out (fun hH => ?_)
          refine takeH 0 (.slice (some ad) n c) rfl (by kernel_rfl) (by kernel_rfl) (by kernel_rfl) (fun _ _ _ h => h) (by rfl) (fun v hv => by go_simp) hH ?_
          simp only [Act.put, List.setIfInBounds_toArray, List.set_cons_succ, List.set_cons_zero]
          refine takeH 1 (.int .i64 (i : Int)) rfl (by kernel_rfl) (by kernel_rfl) (by kernel_rfl) (fun _ _ _ h => h) (by rfl) (fun v hv => by go_simp) hH ?_
          simp only [Act.put, List.setIfInBounds_toArray, List.set_cons_succ, List.set_cons_zero]
          refine takeH 2 (.pointer (some (ad.add (i * 36)))) rfl (by kernel_rfl) (by kernel_rfl) (by kernel_rfl) (fun _ _ _ h => h) (by rfl) (fun v hv => by go_simp) hH ?_
          simp only [Act.put, List.setIfInBounds_toArray, List.set_cons_succ, List.set_cons_zero]
          refine takeH 3 (.agg x.cells.toArray) rfl (by kernel_rfl) (by kernel_rfl) (by kernel_rfl) (fun _ _ _ h => h) (by rfl) (fun v hv => by have h := q1.out v hv (.tmp 0) trivial; unfold execOp; simp [Instr.loadAt, Instr.sureAddr, Sem.run_bind, Sem.run_pure, Result.andThen_ok, Act.eval, h]) hH ?_
          simp only [Act.put, List.setIfInBounds_toArray, List.set_cons_succ, List.set_cons_zero]
          refine takeH 4 (.slice (some bd) n d) rfl (by kernel_rfl) (by kernel_rfl) (by kernel_rfl) (fun _ _ _ h => h) (by rfl) (fun v hv => by go_simp) hH ?_
          simp only [Act.put, List.setIfInBounds_toArray, List.set_cons_succ, List.set_cons_zero]
          refine takeH 5 (.int .i64 (i : Int)) rfl (by kernel_rfl) (by kernel_rfl) (by kernel_rfl) (fun _ _ _ h => h) (by rfl) (fun v hv => by go_simp) hH ?_
          simp only [Act.put, List.setIfInBounds_toArray, List.set_cons_succ, List.set_cons_zero]
          refine takeH 6 (.pointer (some (bd.add (i * 36)))) rfl (by kernel_rfl) (by kernel_rfl) (by kernel_rfl) (fun _ _ _ h => h) (by rfl) (fun v hv => by go_simp) hH ?_
          simp only [Act.put, List.setIfInBounds_toArray, List.set_cons_succ, List.set_cons_zero]
          refine takeH 7 (.agg y.cells.toArray) rfl (by kernel_rfl) (by kernel_rfl) (by kernel_rfl) (fun _ _ _ h => h) (by rfl) (fun v hv => by have h := q2.out v hv (.tmp 0) trivial; unfold execOp; simp [Instr.loadAt, Instr.sureAddr, Sem.run_bind, Sem.run_pure, Result.andThen_ok, Act.eval, h]) hH ?_
          simp only [Act.put, List.setIfInBounds_toArray, List.set_cons_succ, List.set_cons_zero]
          refine callH 8 rfl (by kernel_rfl) (by rfl) 21 #[.agg x.cells.toArray, .agg y.cells.toArray] (by go_simp) (.bool true) hH (cAl.out _) ?_
          intro w9 hH
          simp only [Act.put, List.setIfInBounds_toArray, List.set_cons_succ, List.set_cons_zero]
          refine takeH 9 (.bool false) rfl (by kernel_rfl) (by kernel_rfl) (by kernel_rfl) (fun _ _ _ h => h) (by rfl) (fun v hv => by go_simp) hH ?_
          simp only [Act.put, List.setIfInBounds_toArray, List.set_cons_succ, List.set_cons_zero]
          refine wpAnyH_done (by kernel_rfl) ?_ _
          have HK2 := hid hH
          clear hH
          go_wp2
          go_roundw
          case rel => exact ⟨i + 1, by omega, by go_num, HK2.out, hid (hstep.out HXY.out)⟩
          case measure => simp [intOf]; omega
        · rw [decide_eq_false hxy] at cAl
          have HXY := hid hxy
          clear hxy
          go_wp2_with fail
          refine wp_region_held_drew (S := Kept [] w) (by kernel_rfl) HK.out (fun hH => ?_)
          refine takeH 0 (.slice (some ad) n c) rfl (by kernel_rfl) (by kernel_rfl) (by kernel_rfl) (fun _ _ _ h => h) (by rfl) (fun v hv => by go_simp) hH ?_
          simp only [Act.put, List.setIfInBounds_toArray, List.set_cons_succ, List.set_cons_zero]
          refine takeH 1 (.int .i64 (i : Int)) rfl (by kernel_rfl) (by kernel_rfl) (by kernel_rfl) (fun _ _ _ h => h) (by rfl) (fun v hv => by go_simp) hH ?_
          simp only [Act.put, List.setIfInBounds_toArray, List.set_cons_succ, List.set_cons_zero]
          refine takeH 2 (.pointer (some (ad.add (i * 36)))) rfl (by kernel_rfl) (by kernel_rfl) (by kernel_rfl) (fun _ _ _ h => h) (by rfl) (fun v hv => by go_simp) hH ?_
          simp only [Act.put, List.setIfInBounds_toArray, List.set_cons_succ, List.set_cons_zero]
          refine takeH 3 (.agg x.cells.toArray) rfl (by kernel_rfl) (by kernel_rfl) (by kernel_rfl) (fun _ _ _ h => h) (by rfl) (fun v hv => by have h := q1.out v hv (.tmp 0) trivial; unfold execOp; simp [Instr.loadAt, Instr.sureAddr, Sem.run_bind, Sem.run_pure, Result.andThen_ok, Act.eval, h]) hH ?_
          simp only [Act.put, List.setIfInBounds_toArray, List.set_cons_succ, List.set_cons_zero]
          refine takeH 4 (.slice (some bd) n d) rfl (by kernel_rfl) (by kernel_rfl) (by kernel_rfl) (fun _ _ _ h => h) (by rfl) (fun v hv => by go_simp) hH ?_
          simp only [Act.put, List.setIfInBounds_toArray, List.set_cons_succ, List.set_cons_zero]
          refine takeH 5 (.int .i64 (i : Int)) rfl (by kernel_rfl) (by kernel_rfl) (by kernel_rfl) (fun _ _ _ h => h) (by rfl) (fun v hv => by go_simp) hH ?_
          simp only [Act.put, List.setIfInBounds_toArray, List.set_cons_succ, List.set_cons_zero]
          refine takeH 6 (.pointer (some (bd.add (i * 36)))) rfl (by kernel_rfl) (by kernel_rfl) (by kernel_rfl) (fun _ _ _ h => h) (by rfl) (fun v hv => by go_simp) hH ?_
          simp only [Act.put, List.setIfInBounds_toArray, List.set_cons_succ, List.set_cons_zero]
          refine takeH 7 (.agg y.cells.toArray) rfl (by kernel_rfl) (by kernel_rfl) (by kernel_rfl) (fun _ _ _ h => h) (by rfl) (fun v hv => by have h := q2.out v hv (.tmp 0) trivial; unfold execOp; simp [Instr.loadAt, Instr.sureAddr, Sem.run_bind, Sem.run_pure, Result.andThen_ok, Act.eval, h]) hH ?_
          simp only [Act.put, List.setIfInBounds_toArray, List.set_cons_succ, List.set_cons_zero]
          refine callH 8 rfl (by kernel_rfl) (by rfl) 21 #[.agg x.cells.toArray, .agg y.cells.toArray] (by go_simp) (.bool false) hH (cAl.out _) ?_
          intro w9 hH
          simp only [Act.put, List.setIfInBounds_toArray, List.set_cons_succ, List.set_cons_zero]
          refine takeH 9 (.bool true) rfl (by kernel_rfl) (by kernel_rfl) (by kernel_rfl) (fun _ _ _ h => h) (by rfl) (fun v hv => by go_simp) hH ?_
          simp only [Act.put, List.setIfInBounds_toArray, List.set_cons_succ, List.set_cons_zero]
          refine wpAnyH_done (by kernel_rfl) ?_ _
          have HK2 := hid hH
          clear hH
          go_wp2
          go_ret
          exact ⟨by rw [hnx.out HXY.out]; rfl, HK2.out⟩
      · have hin : i = n := by omega
        subst hin
        have hxs : decide (X = Y) = true := decide_eq_true (by
          have h1 := heqs.out
          rw [List.take_of_length_le (by have := Hx.out; have := lX.out; omega), List.take_of_length_le (by have := Hy.out; have := lY.out; omega)] at h1
          exact h1)
        have HK := hid hk
        clear hk
        go_wp2
        go_ret
        exact ⟨by rw [hxs]; rfl, HK.out⟩
  · have hF : decide (X = Y) = false := decide_eq_false (fun e => hlen (by rw [← lX.out, ← lY.out, e]))
    have hl2 : ¬ (xs.length : Int) = (ys.length : Int) := by omega
    rw [hF]
    clear hF
    generalize xs.length = p1 at *
    generalize ys.length = p2 at *
    go_enter Tryd.func13, Tryd.ntmps13
    go_wp2
    go_ret
    exact ⟨rfl, Kept.refl _ _⟩
end Go.Proofs.YtdojpioclojalaaDoor
