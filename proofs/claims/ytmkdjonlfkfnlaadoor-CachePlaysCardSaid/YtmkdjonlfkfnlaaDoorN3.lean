import Derived.Test.YtmkdjonlfkfnlaaDoorN2
import Derived.Test.YtmkdjonlfkfnlaaDoorHL

/- coldstoreref10.SameIDs. -/
namespace Go.Proofs.YtmkdjonlfkfnlaaDoor
open Go.RowKit Go.Lib

/-- A sum's load, as a step. -/
theorem nld (v : World) (x : Addr) (id : List UInt8) (h : IdAt v x id) : ∀ o : Operand, True → (loadVar 34 x).run Tryd.prog v = .ok (.agg (id.map B).toArray) v := fun _ _ =>
  run_loadVar_cells v 34 x (id.map B) _ Tryd.underlying34 rfl (by rw [List.length_map, h.1]; exact ninfo32) h.reads

set_option maxRecDepth 100000 in
set_option maxHeartbeats 4000000 in
theorem sameids_any (a b : Option Addr) (c d : Nat) (xs ys : List (List UInt8)) (w : World) (ha : ∀ wr, Kept [] w wr → Ids wr a c xs) (hb : ∀ wr, Kept [] w wr → Ids wr b d ys) :
    Calls Tryd.prog 17 #[.slice a xs.length c, .slice b ys.length d] w fun e w' => e = .returned (.bool (decide (xs = ys))) ∧ Kept [] w w' := by
  have HA := hid ha; have HB := hid hb
  have hc := (ha w (Kept.refl [] w)).le
  have hcm := (ha w (Kept.refl [] w)).max
  clear ha hb
  by_cases hlen : xs.length = ys.length
  · obtain ⟨n, hn⟩ : ∃ n, n = xs.length := ⟨_, rfl⟩
    have HX := hid hn; have HY := hid (hn.trans hlen)
    rw [← hlen, ← hn]
    rw [← hn] at hc
    clear hlen hn
    go_enter Tryd.func17, Tryd.ntmps17
    go_wp2_with fail
    go_loopw [5] (fun s wr => ∃ i : Nat, i ≤ n ∧ s = .int .i64 i ∧ Kept [] w wr ∧ Hid (xs.take i = ys.take i)) (fun s _ => n - (intOf s).toNat)
    case atStart => exact ⟨0, Nat.zero_le _, rfl, Kept.refl _ _, hid (by simp)⟩
    case round =>
      obtain ⟨i, hi, rfl, hk, heqs⟩ := hrel
      by_cases hlt : i < n
      · have HK := hid hk.drew
        clear hk
        obtain ⟨x, hx⟩ : ∃ x, xs[i]? = some x := ⟨_, List.getElem?_eq_getElem (by have := HX.out; omega)⟩
        obtain ⟨y, hy⟩ : ∃ y, ys[i]? = some y := ⟨_, List.getElem?_eq_getElem (by have := HY.out; omega)⟩
        cases a with
        | none => exact absurd ((HA.out w (Kept.refl _ _)).nil rfl) (fun e => by rw [e] at hx; simp at hx)
        | some ad =>
        cases b with
        | none => exact absurd ((HB.out w (Kept.refl _ _)).nil rfl) (fun e => by rw [e] at hy; simp at hy)
        | some bd =>
        have hx32 := ((HA.out w (Kept.refl _ _)).at_ ad rfl i x hx).1
        have hy32 := ((HB.out w (Kept.refl _ _)).at_ bd rfl i y hy).1
        have q1 := hid (fun (v : World) (hv : Kept [] w v) => nld v (ad.add (i * 32)) x ((HA.out v hv).at_ ad rfl i x hx))
        have q2 := hid (fun (v : World) (hv : Kept [] w v) => nld v (bd.add (i * 32)) y ((HB.out v hv).at_ bd rfl i y hy))
        have hnx := hid (fun h : x ≠ y => show decide (xs = ys) = false from decide_eq_false (fun e => by rw [e, hy] at hx; exact h (Option.some.inj hx).symm))
        have hstep := hid (fun h : x = y => show xs.take (i + 1) = ys.take (i + 1) from by
          rw [List.take_add_one, List.take_add_one, heqs.out, hx, hy, h])
        have heq := hid (fun W => nid_equal x y hx32 hy32 W)
        clear hx hy hx32 hy32
        have hii : (i : Int) < (n : Int) := by omega
        by_cases hxy : x = y
        · have hd : decide (x = y) = true := decide_eq_true hxy
          have heqt := heq.out
          rw [hd] at heqt
          have HXY := hid hxy
          clear hd hxy
          go_wp2_with fail
          refine wp_region_held_drew (S := Kept [] w) (by kernel_rfl) HK.out (fun hH => ?_)
          refine takeH 0 (.slice (some ad) n c) rfl (by kernel_rfl) (by kernel_rfl) (by kernel_rfl) (fun _ _ _ h => h) (by rfl) (fun v hv => by go_simp) hH ?_
          simp only [Act.put, List.setIfInBounds_toArray, List.set_cons_succ, List.set_cons_zero]
          refine takeH 1 (.int .i64 (i : Int)) rfl (by kernel_rfl) (by kernel_rfl) (by kernel_rfl) (fun _ _ _ h => h) (by rfl) (fun v hv => by go_simp) hH ?_
          simp only [Act.put, List.setIfInBounds_toArray, List.set_cons_succ, List.set_cons_zero]
          refine takeH 2 (.pointer (some (ad.add (i * 32)))) rfl (by kernel_rfl) (by kernel_rfl) (by kernel_rfl) (fun _ _ _ h => h) (by rfl) (fun v hv => by go_simp) hH ?_
          simp only [Act.put, List.setIfInBounds_toArray, List.set_cons_succ, List.set_cons_zero]
          refine takeH 3 (.agg (x.map B).toArray) rfl (by kernel_rfl) (by kernel_rfl) (by kernel_rfl) (fun _ _ _ h => h) (by rfl) (fun v hv => by have h := q1.out v hv (.tmp 0) trivial; unfold execOp; simp [Instr.loadAt, Instr.sureAddr, Sem.run_bind, Sem.run_pure, Result.andThen_ok, Act.eval, h]) hH ?_
          simp only [Act.put, List.setIfInBounds_toArray, List.set_cons_succ, List.set_cons_zero]
          refine takeH 4 (.slice (some bd) n d) rfl (by kernel_rfl) (by kernel_rfl) (by kernel_rfl) (fun _ _ _ h => h) (by rfl) (fun v hv => by go_simp) hH ?_
          simp only [Act.put, List.setIfInBounds_toArray, List.set_cons_succ, List.set_cons_zero]
          refine takeH 5 (.int .i64 (i : Int)) rfl (by kernel_rfl) (by kernel_rfl) (by kernel_rfl) (fun _ _ _ h => h) (by rfl) (fun v hv => by go_simp) hH ?_
          simp only [Act.put, List.setIfInBounds_toArray, List.set_cons_succ, List.set_cons_zero]
          refine takeH 6 (.pointer (some (bd.add (i * 32)))) rfl (by kernel_rfl) (by kernel_rfl) (by kernel_rfl) (fun _ _ _ h => h) (by rfl) (fun v hv => by go_simp) hH ?_
          simp only [Act.put, List.setIfInBounds_toArray, List.set_cons_succ, List.set_cons_zero]
          refine takeH 7 (.agg (y.map B).toArray) rfl (by kernel_rfl) (by kernel_rfl) (by kernel_rfl) (fun _ _ _ h => h) (by rfl) (fun v hv => by have h := q2.out v hv (.tmp 0) trivial; unfold execOp; simp [Instr.loadAt, Instr.sureAddr, Sem.run_bind, Sem.run_pure, Result.andThen_ok, Act.eval, h]) hH ?_
          simp only [Act.put, List.setIfInBounds_toArray, List.set_cons_succ, List.set_cons_zero]
          refine takeH 8 (.bool false) rfl (by kernel_rfl) (by kernel_rfl) (by kernel_rfl) (fun _ _ _ h => h) (by rfl) (fun v hv => by go_simp) hH ?_
          simp only [Act.put, List.setIfInBounds_toArray, List.set_cons_succ, List.set_cons_zero]
          refine wpAnyH_done (by kernel_rfl) ?_ _
          have HK2 := hid hH
          clear hH
          go_wp2
          go_roundw
          case rel => exact ⟨i + 1, by omega, by go_num, HK2.out, hid (hstep.out HXY.out)⟩
          case measure => simp [intOf]; omega
        · have hd : decide (x = y) = false := decide_eq_false hxy
          have heqt := heq.out
          rw [hd] at heqt
          have HXY := hid hxy
          clear hd hxy
          go_wp2_with fail
          refine wp_region_held_drew (S := Kept [] w) (by kernel_rfl) HK.out (fun hH => ?_)
          refine takeH 0 (.slice (some ad) n c) rfl (by kernel_rfl) (by kernel_rfl) (by kernel_rfl) (fun _ _ _ h => h) (by rfl) (fun v hv => by go_simp) hH ?_
          simp only [Act.put, List.setIfInBounds_toArray, List.set_cons_succ, List.set_cons_zero]
          refine takeH 1 (.int .i64 (i : Int)) rfl (by kernel_rfl) (by kernel_rfl) (by kernel_rfl) (fun _ _ _ h => h) (by rfl) (fun v hv => by go_simp) hH ?_
          simp only [Act.put, List.setIfInBounds_toArray, List.set_cons_succ, List.set_cons_zero]
          refine takeH 2 (.pointer (some (ad.add (i * 32)))) rfl (by kernel_rfl) (by kernel_rfl) (by kernel_rfl) (fun _ _ _ h => h) (by rfl) (fun v hv => by go_simp) hH ?_
          simp only [Act.put, List.setIfInBounds_toArray, List.set_cons_succ, List.set_cons_zero]
          refine takeH 3 (.agg (x.map B).toArray) rfl (by kernel_rfl) (by kernel_rfl) (by kernel_rfl) (fun _ _ _ h => h) (by rfl) (fun v hv => by have h := q1.out v hv (.tmp 0) trivial; unfold execOp; simp [Instr.loadAt, Instr.sureAddr, Sem.run_bind, Sem.run_pure, Result.andThen_ok, Act.eval, h]) hH ?_
          simp only [Act.put, List.setIfInBounds_toArray, List.set_cons_succ, List.set_cons_zero]
          refine takeH 4 (.slice (some bd) n d) rfl (by kernel_rfl) (by kernel_rfl) (by kernel_rfl) (fun _ _ _ h => h) (by rfl) (fun v hv => by go_simp) hH ?_
          simp only [Act.put, List.setIfInBounds_toArray, List.set_cons_succ, List.set_cons_zero]
          refine takeH 5 (.int .i64 (i : Int)) rfl (by kernel_rfl) (by kernel_rfl) (by kernel_rfl) (fun _ _ _ h => h) (by rfl) (fun v hv => by go_simp) hH ?_
          simp only [Act.put, List.setIfInBounds_toArray, List.set_cons_succ, List.set_cons_zero]
          refine takeH 6 (.pointer (some (bd.add (i * 32)))) rfl (by kernel_rfl) (by kernel_rfl) (by kernel_rfl) (fun _ _ _ h => h) (by rfl) (fun v hv => by go_simp) hH ?_
          simp only [Act.put, List.setIfInBounds_toArray, List.set_cons_succ, List.set_cons_zero]
          refine takeH 7 (.agg (y.map B).toArray) rfl (by kernel_rfl) (by kernel_rfl) (by kernel_rfl) (fun _ _ _ h => h) (by rfl) (fun v hv => by have h := q2.out v hv (.tmp 0) trivial; unfold execOp; simp [Instr.loadAt, Instr.sureAddr, Sem.run_bind, Sem.run_pure, Result.andThen_ok, Act.eval, h]) hH ?_
          simp only [Act.put, List.setIfInBounds_toArray, List.set_cons_succ, List.set_cons_zero]
          refine takeH 8 (.bool true) rfl (by kernel_rfl) (by kernel_rfl) (by kernel_rfl) (fun _ _ _ h => h) (by rfl) (fun v hv => by go_simp) hH ?_
          simp only [Act.put, List.setIfInBounds_toArray, List.set_cons_succ, List.set_cons_zero]
          refine wpAnyH_done (by kernel_rfl) ?_ _
          have HK2 := hid hH
          clear hH
          go_wp2
          go_ret
          exact ⟨by rw [hnx.out HXY.out]; rfl, HK2.out⟩
      · have hin : i = n := by omega
        subst hin
        have hxs : decide (xs = ys) = true := decide_eq_true (by
          have h1 := heqs.out
          rw [List.take_of_length_le (by have := HX.out; omega), List.take_of_length_le (by have := HY.out; omega)] at h1
          exact h1)
        have HK := hid hk
        clear hk
        go_wp2
        go_ret
        exact ⟨by rw [hxs]; rfl, HK.out⟩
  · have hF : decide (xs = ys) = false := decide_eq_false (fun e => hlen (by rw [e]))
    have hl2 : ¬ (xs.length : Int) = (ys.length : Int) := by omega
    rw [hF]
    clear hF
    go_enter Tryd.func17, Tryd.ntmps17
    go_wp2
    go_ret
    exact ⟨rfl, Kept.refl _ _⟩
end Go.Proofs.YtmkdjonlfkfnlaaDoor
