import Derived.Test.YtcdbgijbfppmoaaDoorJF
import Derived.Test.YtcdbgijbfppmoaaDoorMS

/- coldstorelaw11.SnapTurns: the walk. -/
namespace Go.Proofs.YtcdbgijbfppmoaaDoor
open Go.RowKit Go.Lib

theorem i64_and16' (n : Int) : bits .and .i64 n 65535 = n % 65536 := by
  have h7 : (BitVec.ofInt 64 65535).toNat = 2 ^ 16 - 1 := by decide
  have key : (BitVec.ofInt 64 n &&& BitVec.ofInt 64 65535).toNat = (n % ((2 ^ 64 : Nat) : Int)).toNat % 2 ^ 16 := by
    rw [BitVec.toNat_and, BitVec.toNat_ofInt, h7, Nat.and_two_pow_sub_one_eq_mod]
  show IntKind.i64.wrap ((BitVec.ofInt 64 n &&& BitVec.ofInt 64 65535).toNat : Nat) = n % 65536
  rw [key, IntKind.wrap_i64]
  omega
theorem bit_at16 (at0 : Int) (n : Nat) (hn : 5 ≤ n) : ∃ p : Nat, (bits .and .i64 at0 65535).tmod (8 * ((n : Int) - 4) + 1) = (p : Int) ∧ p ≤ 8 * (n - 4) := by
  rw [i64_and16']
  have h0 : 0 ≤ at0 % 65536 := by omega
  have e : (at0 % 65536).tmod (8 * ((n : Int) - 4) + 1) = (at0 % 65536) % (8 * ((n : Int) - 4) + 1) := Int.tmod_eq_emod_of_nonneg h0
  have h1 := Int.emod_nonneg (at0 % 65536) (show 8 * ((n : Int) - 4) + 1 ≠ 0 by omega)
  have h2 := Int.emod_lt_of_pos (at0 % 65536) (show 0 < 8 * ((n : Int) - 4) + 1 by omega)
  exact ⟨((at0 % 65536) % (8 * ((n : Int) - 4) + 1)).toNat, by omega, by omega⟩

theorem Sp.set_files {s : Sp} (h : s.ok) (n : Int) : s.cells.set 35 (.int .i64 n) = ({ s with files := n } : Sp).cells := by
  unfold Sp.cells
  rw [List.set_append_right _ _ (by simp [h.root])]
  simp [h.root]
theorem Sp.set_time (s : Sp) (n : Int) : s.cells.set 0 (.int .i64 n) = ({ s with time := n } : Sp).cells := rfl
theorem Sp.set_host (s : Sp) (x : List UInt8) : s.cells.set 1 (.string (S x)) = ({ s with host := x } : Sp).cells := rfl
theorem free_row {W : World} {p : Nat} {cs : Array Value} {t : TypeId} (h : W.heap[p]? = some (.cells cs t (0, 0))) (j : Nat) : W.frozen? ⟨p, j, none⟩ = false := by
  unfold World.frozen?
  rw [h]; simp
/-- Three boxes of their own, each with these cells. -/
structure Tri (w0 : World) (cs : List Value) (p q r : Nat) (W : World) : Prop where
  kept : Kept [] w0 W
  ge : w0.heap.size ≤ p ∧ w0.heap.size ≤ q ∧ w0.heap.size ≤ r
  ne : p ≠ q ∧ p ≠ r ∧ q ≠ r
  a : W.heap[p]? = some (.cells cs.toArray 56 (0, 0))
  b : W.heap[q]? = some (.cells cs.toArray 56 (0, 0))
  c : W.heap[r]? = some (.cells cs.toArray 56 (0, 0))
theorem set_cells {W : World} {p j : Nat} {cs : List Value} {v : Value} (h : W.heap[p]? = some (.cells cs.toArray 56 (0, 0))) : (W.setCell ⟨p, j, none⟩ v).heap[p]? = some (.cells (cs.set j v).toArray 56 (0, 0)) := by
  rw [Go.heap_setCell_same W _ j _ _ _ h]; simp
theorem own_bounds' {W : World} {base n : Nat} {e : TypeId} {a : Option Addr} {c : Nat} {xs : List Value} (h : W.ownsRow base e 1 (.slice a n c) n xs) (h0 : n ≠ 0) : ∃ g, a = some ⟨g, 0, none⟩ ∧ base ≤ g ∧ n ≤ c ∧ c ≤ 9223372036854775807 := by
  rcases h.2 with ⟨hv, h0'⟩ | ⟨g, cap, cur, hv, hg, _, h1, h2, _⟩
  · omega
  · simp at hv; obtain ⟨rfl, rfl⟩ := hv; exact ⟨g, rfl, hg, h1, by unfold maxLen at h2; omega⟩

def alloc? (V : World) (b : Nat) (V' : World) : Prop := b = V.heap.size ∧ V' = V.alloc (.cells zSnap.toArray 56)
theorem tripH {P : Program} {md : Region.Mode} {Q : Exit → Act → World → Prop} {S : World → Prop} {l ri rj rk : List Oper} {oi oj ok : Oper} {fuel : Nat} {listed : Array Bool} {a : Act} {w : World} (i j k : Nat) (hi : l.drop i = oi :: ri) (hj : l.drop j = oj :: rj) (hk : l.drop k = ok :: rk) (hr : Region.ready md l.toArray listed = [i, j, k])
    (hwi : Region.wanted oi (yielded l.toArray a.tmps) = true) (hwj : Region.wanted oj (yielded l.toArray a.tmps) = true) (hwk : Region.wanted ok (yielded l.toArray a.tmps) = true) (v : Value) (w' : World)
    (hri : (execOp a.eval oi).run P w = .ok (.value v) w') (hrj : (execOp a.eval oj).run P w = .ok (.value v) w') (hrk : (execOp a.eval ok).run P w = .ok (.value v) w') (hS : S w')
    (h1 : wpAnyH P md l.toArray Q S fuel (listed.setIfInBounds i true) (a.put oi.dst v) w') (h2 : wpAnyH P md l.toArray Q S fuel (listed.setIfInBounds j true) (a.put oj.dst v) w') (h3 : wpAnyH P md l.toArray Q S fuel (listed.setIfInBounds k true) (a.put ok.dst v) w') :
    wpAnyH P md l.toArray Q S (fuel + 1) listed a w := by
  refine wpAnyH_ready hr (by simp) (AllReadyH.cons (getL_of_drop hi) (fun K hK => ?_) (AllReadyH.cons (getL_of_drop hj) (fun K hK => ?_) (AllReadyH.cons (getL_of_drop hk) (fun K hK => ?_) AllReadyH.nil)))
  · rw [if_pos hwi]; unfold Oper.wp; rw [hri]; exact hK.out _ _ hS (fun _ => h1)
  · rw [if_pos hwj]; unfold Oper.wp; rw [hrj]; exact hK.out _ _ hS (fun _ => h2)
  · rw [if_pos hwk]; unfold Oper.wp; rw [hrk]; exact hK.out _ _ hS (fun _ => h3)
theorem tri_of {w2 W : World} {cs : List Value} {p q r : Nat} (k : Kept [] w2 W) (ge : w2.heap.size ≤ p ∧ w2.heap.size ≤ q ∧ w2.heap.size ≤ r) (ne : p ≠ q ∧ p ≠ r ∧ q ≠ r)
    (hp : W.heap[p]? = some (.cells zSnap.toArray 56 (0, 0))) (hq : W.heap[q]? = some (.cells zSnap.toArray 56 (0, 0))) (hr : W.heap[r]? = some (.cells zSnap.toArray 56 (0, 0))) :
    Tri w2 cs p q r (((W.setRow p cs.toArray).setRow q cs.toArray).setRow r cs.toArray) := by
  have k1 : Kept [p] W (W.setRow p cs.toArray) := (Kept.refl _ _).setRow (fun _ => by simp) _
  have k2 : Kept [q] (W.setRow p cs.toArray) ((W.setRow p cs.toArray).setRow q cs.toArray) := (Kept.refl _ _).setRow (fun _ => by simp) _
  have k3 : Kept [r] ((W.setRow p cs.toArray).setRow q cs.toArray) (((W.setRow p cs.toArray).setRow q cs.toArray).setRow r cs.toArray) := (Kept.refl _ _).setRow (fun _ => by simp) _
  refine ⟨((k.setRow (fun h => absurd h (by omega)) _).setRow (fun h => absurd h (by omega)) _).setRow (fun h => absurd h (by omega)) _, ge, ne, ?_, ?_, ?_⟩
  · exact k3.at (k2.at (setRow_heap _ _ _ _ _ _ hp) (by simpa using ne.1)) (by simpa using ne.2.1)
  · exact k3.at (setRow_heap _ _ _ _ _ _ (k1.at hq (by simpa using ne.1.symm))) (by simpa using ne.2.2)
  · exact setRow_heap _ _ _ _ _ _ (k2.at (k1.at hr (by simpa using ne.2.1.symm)) (by simpa using ne.2.2.symm))
theorem st_run {W : World} {p : Nat} {cs : List Value} (h : W.heap[p]? = some (.cells zSnap.toArray 56 (0, 0))) (hl : cs.length = 37) (ho : ∀ v ∈ cs, v.oneCell' = true) : (storeVar 56 ⟨p, 0, none⟩ (.agg cs.toArray)).run Tryd.prog W = .ok () (W.setRow p cs.toArray) := by
  have h2 := run_storeVar_at (P := Tryd.prog) W p 0 56 56 zSnap cs h (by rw [hl]; exact snap_info) (by have := zSnap_len; omega) ho
  rwa [splice36 zSnap cs (hl.trans zSnap_len.symm)] at h2

set_option maxRecDepth 100000 in
set_option maxHeartbeats 16000000 in
theorem snap_turns (s : Sp) (hs : s.ok) (at0 : Int) (turn : Nat) (w : World) (ht : Tab w) (hts : Tabs w) (htl : turn < 4294967296) (hat : -9223372036854775808 ≤ at0 ∧ at0 ≤ 9223372036854775807) :
    Calls Tryd.prog 10 #[.agg s.cells.toArray, .int .i64 at0, .int .u32 (turn : Int)] w fun e w' => e = .returned (.bool true) ∧ Kept [] w w' := by
  obtain ⟨cs, hcs⟩ : ∃ cs, cs = s.cells := ⟨_, rfl⟩
  have LC := hid (show cs.length = 37 by rw [hcs]; exact Sp.size hs)
  obtain ⟨W0, hW0⟩ : ∃ W0, W0 = w.alloc (.cells cs.toArray 56) := ⟨_, rfl⟩
  have K0 := hid (show Kept [] w W0 by rw [hW0]; exact (Kept.refl [] w).alloc _)
  have X0 := hid (show At W0 w.heap.size s by rw [hW0, hcs]; exact heap_alloc_at rfl)
  have HT := hid ht
  have hal := hid (alive11 W0 (ht.kept K0.out (by simp)) (hts.kept K0.out (by simp) (by simp)))
  have HS := hid hs
  have IC := hid (show (Tryd.prog.info? 56).map (·.size) = some cs.length by rw [LC.out]; exact snap_info)
  have OC := hid (show ∀ v ∈ cs, v.oneCell' = true by rw [hcs]; exact s.one)
  have hex := hid (fun W (h : Tab W) => j_snapencode s hs W h)
  have hck := hid (fun W => j_snapcheck s hs W)
  have heq := hid (fun W => (snap_eql s s hs hs W).trans (by rw [decide_eq_true rfl]))
  simp only [← hcs] at hex hck heq
  have hcS := hid hcs
  have HW0 := hid hW0
  rw [← hcs]
  have e1 := S_size s.host; have e2 := S_size s.tag
  have hzv := zero_snap
  clear hcs hW0 ht hts hs
  go_enter Tryd.func10, Tryd.ntmps10
  go_wp2_with fail
  rw [← HW0.out]
  refine hal.out.mono ?_
  rintro e w1 ⟨rfl, k1⟩
  have K1 := hid (K0.out.trans k1)
  have X1 := hid (X0.out.kept k1 (by simp))
  have gx1 := X1.out.cell 1 _ s.c1
  have gx2 := X1.out.cell 2 _ s.c2
  clear k1 hal
  by_cases q1 : (100 : Int) < ((S s.host).size : Int)
  · go_wp2
    go_ret
    exact ⟨rfl, K1.out⟩
  by_cases q2 : (100 : Int) < ((S s.tag).size : Int)
  · go_wp2
    go_ret
    exact ⟨rfl, K1.out⟩
  have rx := hid X1.out.reads
  rw [← hcS.out] at rx
  have B1 := hid (show w1.heap[w.heap.size]? = some (.cells cs.toArray 56 (0, 0)) by rw [hcS.out]; exact X1.out)
  go_wp2_with (first | (refine wpList_load_cells rfl 56 (.tmp 3) rfl ⟨w.heap.size, 0, none⟩ rfl cs _ Tryd.underlying56 rfl IC.out rx.out ?_))
  refine (hex.out w1 (HT.out.kept K1.out (by simp))).mono ?_
  rintro e w2 ⟨k2, hcase⟩
  have K2 := hid (K1.out.trans k2)
  have B2 := hid (k2.at B1.out (by simp))
  have X2 := hid (X1.out.kept k2 (by simp))
  have rx2 := hid (ld_at B2.out)
  clear k2 gx1 gx2
  rcases hcase with ⟨hne, rfl⟩ | ⟨he0, a, c, rfl, hou⟩
  · have hneb : (s.err != 0) = true := by simpa using hne
    clear hne
    go_wp2_with (first | (refine j_load_if (by rfl) 56 (.tmp 3) rfl ⟨w.heap.size, 0, none⟩ rfl cs _ Tryd.underlying56 rfl IC.out rx2.out ?_))
    refine (hck.out w2).mono ?_
    rintro e w3 ⟨rfl, k3⟩
    have K3 := hid (K2.out.trans k3)
    clear k3
    go_wp2
    go_ret
    exact ⟨by simp, K3.out⟩
  · obtain ⟨us, hus⟩ : ∃ us, us = sealed 83 s.enc := ⟨_, rfl⟩
    rw [← hus] at hou ⊢
    have Hus := hid hus; have He0 := hid he0
    have hnl := hid (show us.length = 65 + s.host.length + s.tag.length by rw [hus, sealed_len, Sp.enc_len HS.out]; omega)
    obtain ⟨n, hn⟩ : ∃ n, n = us.length := ⟨_, rfl⟩
    rw [← hn] at hou ⊢
    have HN := hid hn
    obtain ⟨g, rfl, hgb, hcap, hcm⟩ := own_bounds' hou (by have := hnl.out; omega)
    have HO := hid hou
    have hlen : ((n : Int) != 65 + (s.host.length : Int) + (s.tag.length : Int)) = false := by have := hnl.out; simp; omega
    have q1' : ¬ (100 : Int) < (s.host.length : Int) := by omega
    have q2' : ¬ (100 : Int) < (s.tag.length : Int) := by omega
    have hn300 : n ≤ 300 := by have := hnl.out; omega
    have hn5 : 5 ≤ n := by have := hnl.out; omega
    have gy1 := X2.out.cell 1 _ s.c1
    have gy2 := X2.out.cell 2 _ s.c2
    have hgb := hid hgb
    have K22 := hid (Kept.refl [] w2)
    clear hou hus hn he0 q1 q2
    go_wp2_with fail
    go_cut [9, 10, 11] (fun s9 s10 s11 wx => ∃ p q r : Nat, s9 = .pointer (some ⟨p, 0, none⟩) ∧ s10 = .pointer (some ⟨q, 0, none⟩) ∧ s11 = .pointer (some ⟨r, 0, none⟩) ∧ Hid (Tri w2 cs p q r wx))
    case first =>
      refine wp_region_held_drew (S := Kept [] w2) (by kernel_rfl) (Kept.refl _ _).drew (fun hH => ?_)
      refine takeH 0 (.agg cs.toArray) rfl (by kernel_rfl) (by kernel_rfl) (by kernel_rfl) (fun _ _ _ h => h) (by rfl) (fun v hv => by have h := run_ld_snap (hv.at B2.out (by simp)) LC.out; unfold execOp; simp [Instr.loadAt, Instr.sureAddr, Sem.run_bind, Sem.run_pure, Result.andThen_ok, Act.eval, h]) hH ?_
      simp only [Act.put, List.setIfInBounds_toArray, List.set_cons_succ, List.set_cons_zero]
      refine takeH 1 (.agg cs.toArray) rfl (by kernel_rfl) (by kernel_rfl) (by kernel_rfl) (fun _ _ _ h => h) (by rfl) (fun v hv => by have h := run_ld_snap (hv.at B2.out (by simp)) LC.out; unfold execOp; simp [Instr.loadAt, Instr.sureAddr, Sem.run_bind, Sem.run_pure, Result.andThen_ok, Act.eval, h]) hH ?_
      simp only [Act.put, List.setIfInBounds_toArray, List.set_cons_succ, List.set_cons_zero]
      refine takeH 2 (.agg cs.toArray) rfl (by kernel_rfl) (by kernel_rfl) (by kernel_rfl) (fun _ _ _ h => h) (by rfl) (fun v hv => by have h := run_ld_snap (hv.at B2.out (by simp)) LC.out; unfold execOp; simp [Instr.loadAt, Instr.sureAddr, Sem.run_bind, Sem.run_pure, Result.andThen_ok, Act.eval, h]) hH ?_
      simp only [Act.put, List.setIfInBounds_toArray, List.set_cons_succ, List.set_cons_zero]
      obtain ⟨V, hV⟩ : ∃ V, V = w2.drew := ⟨_, rfl⟩
      have kV : Kept [] w2 V := hV ▸ (Kept.refl _ _).drew
      rw [← hV]
      clear hV hH
      obtain ⟨V1, hV1⟩ : ∃ V1, V1 = V.alloc (.cells zSnap.toArray 56) := ⟨_, rfl⟩
      obtain ⟨V2, hV2⟩ : ∃ V2, V2 = V1.alloc (.cells zSnap.toArray 56) := ⟨_, rfl⟩
      obtain ⟨V3, hV3⟩ : ∃ V3, V3 = V2.alloc (.cells zSnap.toArray 56) := ⟨_, rfl⟩
      have kV1 : Kept [] w2 V1 := hV1 ▸ kV.alloc _
      have kV2 : Kept [] w2 V2 := hV2 ▸ kV1.alloc _
      have kV3 : Kept [] w2 V3 := hV3 ▸ kV2.alloc _
      obtain ⟨b0, hb0⟩ : ∃ b, b = V.heap.size := ⟨_, rfl⟩
      obtain ⟨b1, hb1⟩ : ∃ b, b = V1.heap.size := ⟨_, rfl⟩
      obtain ⟨b2, hb2⟩ : ∃ b, b = V2.heap.size := ⟨_, rfl⟩
      have s0 := hid kV.size
      have s1 := hid (show b1 = b0 + 1 by rw [hb1, hV1, hb0]; simp)
      have s2 := hid (show b2 = b0 + 2 by have := s1.out; rw [hb2, hV2, World.size_alloc, ← hb1]; omega)
      have z0 := hid (show V3.heap[b0]? = some (.cells zSnap.toArray 56 (0, 0)) by rw [hV3, hV2, hV1]; exact heap_alloc_old (heap_alloc_old (heap_alloc_at hb0)))
      have z1 := hid (show V3.heap[b1]? = some (.cells zSnap.toArray 56 (0, 0)) by rw [hV3, hV2]; exact heap_alloc_old (heap_alloc_at hb1))
      have z2 := hid (show V3.heap[b2]? = some (.cells zSnap.toArray 56 (0, 0)) by rw [hV3]; exact heap_alloc_at hb2)
      have r0 := hid (show (alloc? V b0 V1) from ⟨hb0, hV1⟩)
      have r1 := hid (show (alloc? V1 b1 V2) from ⟨hb1, hV2⟩)
      have r2 := hid (show (alloc? V2 b2 V3) from ⟨hb2, hV3⟩)
      have hS0 := hid (show w2.heap.size ≤ b0 by rw [hb0]; exact s0.out)
      have KV1 := hid kV1; have KV2 := hid kV2; have KV3 := hid kV3
      clear hV1 hV2 hV3 hb0 hb1 hb2 kV1 kV2 kV3
      refine tripH 3 4 5 rfl rfl rfl (by kernel_rfl) (by rfl) (by rfl) (by rfl) (.pointer (some ⟨b0, 0, none⟩)) V1 (by obtain ⟨e1, e2⟩ := r0.out; subst e1; subst e2; go_simp) (by obtain ⟨e1, e2⟩ := r0.out; subst e1; subst e2; go_simp) (by obtain ⟨e1, e2⟩ := r0.out; subst e1; subst e2; go_simp) KV1.out ?_ ?_ ?_
      · simp only [Act.put, List.setIfInBounds_toArray, List.set_cons_succ, List.set_cons_zero]
        refine bothH 4 5 rfl rfl (by kernel_rfl) (by rfl) (by rfl) (.pointer (some ⟨b1, 0, none⟩)) V2 (by obtain ⟨e1, e2⟩ := r1.out; subst e1; subst e2; go_simp) KV2.out (.pointer (some ⟨b1, 0, none⟩)) V2 (by obtain ⟨e1, e2⟩ := r1.out; subst e1; subst e2; go_simp) KV2.out ?_ ?_
        · simp only [Act.put, List.setIfInBounds_toArray, List.set_cons_succ, List.set_cons_zero]
          refine runH 5 rfl (by kernel_rfl) (by rfl) (.pointer (some ⟨b2, 0, none⟩)) V3 (by obtain ⟨e1, e2⟩ := r2.out; subst e1; subst e2; go_simp) KV3.out ?_
          simp only [Act.put, List.setIfInBounds_toArray, List.set_cons_succ, List.set_cons_zero]
          have k1 := hid (show Kept [b0] V3 (V3.setRow b0 cs.toArray) from (Kept.refl _ _).setRow (fun _ => by simp) _)
          have k2 := hid (show Kept [b1] (V3.setRow b0 cs.toArray) ((V3.setRow b0 cs.toArray).setRow b1 cs.toArray) from (Kept.refl _ _).setRow (fun _ => by simp) _)
          have ht := hid (tri_of (cs := cs) (p := b0) (q := b1) (r := b2) KV3.out (by have := hS0.out; have := s1.out; have := s2.out; omega) (by have := s1.out; have := s2.out; omega) z0.out z1.out z2.out)
          have y1 := hid (st_run z0.out LC.out OC.out)
          have y2 := hid (st_run (k1.out.at z1.out (by have := s1.out; have := s2.out; simp; omega)) LC.out OC.out)
          have y3 := hid (st_run (k2.out.at (k1.out.at z2.out (by have := s1.out; have := s2.out; simp; omega)) (by have := s1.out; have := s2.out; simp; omega)) LC.out OC.out)
          refine writeH 6 rfl (by kernel_rfl) (by rfl) (V3.setRow b0 cs.toArray) (by have h := y1.out; unfold execOp; simp [Act.eval, Instr.storeAt, Instr.sureAddr, Sem.run_bind, Sem.run_pure, Result.andThen_ok, h]) (KV3.out.setRow (fun h => absurd h (by have := hS0.out; have := s1.out; have := s2.out; omega)) _) ?_
          simp only [Act.put, List.setIfInBounds_toArray, List.set_cons_succ, List.set_cons_zero]
          refine writeH 7 rfl (by kernel_rfl) (by rfl) ((V3.setRow b0 cs.toArray).setRow b1 cs.toArray) (by have h := y2.out; unfold execOp; simp [Act.eval, Instr.storeAt, Instr.sureAddr, Sem.run_bind, Sem.run_pure, Result.andThen_ok, h]) ((KV3.out.setRow (fun h => absurd h (by have := hS0.out; have := s1.out; have := s2.out; omega)) _).setRow (fun h => absurd h (by have := hS0.out; have := s1.out; have := s2.out; omega)) _) ?_
          simp only [Act.put, List.setIfInBounds_toArray, List.set_cons_succ, List.set_cons_zero]
          refine writeH 8 rfl (by kernel_rfl) (by rfl) (((V3.setRow b0 cs.toArray).setRow b1 cs.toArray).setRow b2 cs.toArray) (by have h := y3.out; unfold execOp; simp [Act.eval, Instr.storeAt, Instr.sureAddr, Sem.run_bind, Sem.run_pure, Result.andThen_ok, h]) (ht.out.kept) ?_
          simp only [Act.put, List.setIfInBounds_toArray, List.set_cons_succ, List.set_cons_zero]
          refine wpAnyH_done (by kernel_rfl) ?_ _
          generalize (((V3.setRow b0 cs.toArray).setRow b1 cs.toArray).setRow b2 cs.toArray) = wt at *
          go_wp2_with fail
          go_meet
          exact ⟨b0, b1, b2, rfl, rfl, rfl, ht⟩
        · simp only [Act.put, List.setIfInBounds_toArray, List.set_cons_succ, List.set_cons_zero]
          refine runH 4 rfl (by kernel_rfl) (by rfl) (.pointer (some ⟨b2, 0, none⟩)) V3 (by obtain ⟨e1, e2⟩ := r2.out; subst e1; subst e2; go_simp) KV3.out ?_
          simp only [Act.put, List.setIfInBounds_toArray, List.set_cons_succ, List.set_cons_zero]
          have k1 := hid (show Kept [b0] V3 (V3.setRow b0 cs.toArray) from (Kept.refl _ _).setRow (fun _ => by simp) _)
          have k2 := hid (show Kept [b2] (V3.setRow b0 cs.toArray) ((V3.setRow b0 cs.toArray).setRow b2 cs.toArray) from (Kept.refl _ _).setRow (fun _ => by simp) _)
          have ht := hid (tri_of (cs := cs) (p := b0) (q := b2) (r := b1) KV3.out (by have := hS0.out; have := s1.out; have := s2.out; omega) (by have := s1.out; have := s2.out; omega) z0.out z2.out z1.out)
          have y1 := hid (st_run z0.out LC.out OC.out)
          have y2 := hid (st_run (k1.out.at z2.out (by have := s1.out; have := s2.out; simp; omega)) LC.out OC.out)
          have y3 := hid (st_run (k2.out.at (k1.out.at z1.out (by have := s1.out; have := s2.out; simp; omega)) (by have := s1.out; have := s2.out; simp; omega)) LC.out OC.out)
          refine writeH 6 rfl (by kernel_rfl) (by rfl) (V3.setRow b0 cs.toArray) (by have h := y1.out; unfold execOp; simp [Act.eval, Instr.storeAt, Instr.sureAddr, Sem.run_bind, Sem.run_pure, Result.andThen_ok, h]) (KV3.out.setRow (fun h => absurd h (by have := hS0.out; have := s1.out; have := s2.out; omega)) _) ?_
          simp only [Act.put, List.setIfInBounds_toArray, List.set_cons_succ, List.set_cons_zero]
          refine writeH 7 rfl (by kernel_rfl) (by rfl) ((V3.setRow b0 cs.toArray).setRow b2 cs.toArray) (by have h := y2.out; unfold execOp; simp [Act.eval, Instr.storeAt, Instr.sureAddr, Sem.run_bind, Sem.run_pure, Result.andThen_ok, h]) ((KV3.out.setRow (fun h => absurd h (by have := hS0.out; have := s1.out; have := s2.out; omega)) _).setRow (fun h => absurd h (by have := hS0.out; have := s1.out; have := s2.out; omega)) _) ?_
          simp only [Act.put, List.setIfInBounds_toArray, List.set_cons_succ, List.set_cons_zero]
          refine writeH 8 rfl (by kernel_rfl) (by rfl) (((V3.setRow b0 cs.toArray).setRow b2 cs.toArray).setRow b1 cs.toArray) (by have h := y3.out; unfold execOp; simp [Act.eval, Instr.storeAt, Instr.sureAddr, Sem.run_bind, Sem.run_pure, Result.andThen_ok, h]) (ht.out.kept) ?_
          simp only [Act.put, List.setIfInBounds_toArray, List.set_cons_succ, List.set_cons_zero]
          refine wpAnyH_done (by kernel_rfl) ?_ _
          generalize (((V3.setRow b0 cs.toArray).setRow b2 cs.toArray).setRow b1 cs.toArray) = wt at *
          go_wp2_with fail
          go_meet
          exact ⟨b0, b2, b1, rfl, rfl, rfl, ht⟩
      · simp only [Act.put, List.setIfInBounds_toArray, List.set_cons_succ, List.set_cons_zero]
        refine bothH 3 5 rfl rfl (by kernel_rfl) (by rfl) (by rfl) (.pointer (some ⟨b1, 0, none⟩)) V2 (by obtain ⟨e1, e2⟩ := r1.out; subst e1; subst e2; go_simp) KV2.out (.pointer (some ⟨b1, 0, none⟩)) V2 (by obtain ⟨e1, e2⟩ := r1.out; subst e1; subst e2; go_simp) KV2.out ?_ ?_
        · simp only [Act.put, List.setIfInBounds_toArray, List.set_cons_succ, List.set_cons_zero]
          refine runH 5 rfl (by kernel_rfl) (by rfl) (.pointer (some ⟨b2, 0, none⟩)) V3 (by obtain ⟨e1, e2⟩ := r2.out; subst e1; subst e2; go_simp) KV3.out ?_
          simp only [Act.put, List.setIfInBounds_toArray, List.set_cons_succ, List.set_cons_zero]
          have k1 := hid (show Kept [b1] V3 (V3.setRow b1 cs.toArray) from (Kept.refl _ _).setRow (fun _ => by simp) _)
          have k2 := hid (show Kept [b0] (V3.setRow b1 cs.toArray) ((V3.setRow b1 cs.toArray).setRow b0 cs.toArray) from (Kept.refl _ _).setRow (fun _ => by simp) _)
          have ht := hid (tri_of (cs := cs) (p := b1) (q := b0) (r := b2) KV3.out (by have := hS0.out; have := s1.out; have := s2.out; omega) (by have := s1.out; have := s2.out; omega) z1.out z0.out z2.out)
          have y1 := hid (st_run z1.out LC.out OC.out)
          have y2 := hid (st_run (k1.out.at z0.out (by have := s1.out; have := s2.out; simp; omega)) LC.out OC.out)
          have y3 := hid (st_run (k2.out.at (k1.out.at z2.out (by have := s1.out; have := s2.out; simp; omega)) (by have := s1.out; have := s2.out; simp; omega)) LC.out OC.out)
          refine writeH 6 rfl (by kernel_rfl) (by rfl) (V3.setRow b1 cs.toArray) (by have h := y1.out; unfold execOp; simp [Act.eval, Instr.storeAt, Instr.sureAddr, Sem.run_bind, Sem.run_pure, Result.andThen_ok, h]) (KV3.out.setRow (fun h => absurd h (by have := hS0.out; have := s1.out; have := s2.out; omega)) _) ?_
          simp only [Act.put, List.setIfInBounds_toArray, List.set_cons_succ, List.set_cons_zero]
          refine writeH 7 rfl (by kernel_rfl) (by rfl) ((V3.setRow b1 cs.toArray).setRow b0 cs.toArray) (by have h := y2.out; unfold execOp; simp [Act.eval, Instr.storeAt, Instr.sureAddr, Sem.run_bind, Sem.run_pure, Result.andThen_ok, h]) ((KV3.out.setRow (fun h => absurd h (by have := hS0.out; have := s1.out; have := s2.out; omega)) _).setRow (fun h => absurd h (by have := hS0.out; have := s1.out; have := s2.out; omega)) _) ?_
          simp only [Act.put, List.setIfInBounds_toArray, List.set_cons_succ, List.set_cons_zero]
          refine writeH 8 rfl (by kernel_rfl) (by rfl) (((V3.setRow b1 cs.toArray).setRow b0 cs.toArray).setRow b2 cs.toArray) (by have h := y3.out; unfold execOp; simp [Act.eval, Instr.storeAt, Instr.sureAddr, Sem.run_bind, Sem.run_pure, Result.andThen_ok, h]) (ht.out.kept) ?_
          simp only [Act.put, List.setIfInBounds_toArray, List.set_cons_succ, List.set_cons_zero]
          refine wpAnyH_done (by kernel_rfl) ?_ _
          generalize (((V3.setRow b1 cs.toArray).setRow b0 cs.toArray).setRow b2 cs.toArray) = wt at *
          go_wp2_with fail
          go_meet
          exact ⟨b1, b0, b2, rfl, rfl, rfl, ht⟩
        · simp only [Act.put, List.setIfInBounds_toArray, List.set_cons_succ, List.set_cons_zero]
          refine runH 3 rfl (by kernel_rfl) (by rfl) (.pointer (some ⟨b2, 0, none⟩)) V3 (by obtain ⟨e1, e2⟩ := r2.out; subst e1; subst e2; go_simp) KV3.out ?_
          simp only [Act.put, List.setIfInBounds_toArray, List.set_cons_succ, List.set_cons_zero]
          have k1 := hid (show Kept [b2] V3 (V3.setRow b2 cs.toArray) from (Kept.refl _ _).setRow (fun _ => by simp) _)
          have k2 := hid (show Kept [b0] (V3.setRow b2 cs.toArray) ((V3.setRow b2 cs.toArray).setRow b0 cs.toArray) from (Kept.refl _ _).setRow (fun _ => by simp) _)
          have ht := hid (tri_of (cs := cs) (p := b2) (q := b0) (r := b1) KV3.out (by have := hS0.out; have := s1.out; have := s2.out; omega) (by have := s1.out; have := s2.out; omega) z2.out z0.out z1.out)
          have y1 := hid (st_run z2.out LC.out OC.out)
          have y2 := hid (st_run (k1.out.at z0.out (by have := s1.out; have := s2.out; simp; omega)) LC.out OC.out)
          have y3 := hid (st_run (k2.out.at (k1.out.at z1.out (by have := s1.out; have := s2.out; simp; omega)) (by have := s1.out; have := s2.out; simp; omega)) LC.out OC.out)
          refine writeH 6 rfl (by kernel_rfl) (by rfl) (V3.setRow b2 cs.toArray) (by have h := y1.out; unfold execOp; simp [Act.eval, Instr.storeAt, Instr.sureAddr, Sem.run_bind, Sem.run_pure, Result.andThen_ok, h]) (KV3.out.setRow (fun h => absurd h (by have := hS0.out; have := s1.out; have := s2.out; omega)) _) ?_
          simp only [Act.put, List.setIfInBounds_toArray, List.set_cons_succ, List.set_cons_zero]
          refine writeH 7 rfl (by kernel_rfl) (by rfl) ((V3.setRow b2 cs.toArray).setRow b0 cs.toArray) (by have h := y2.out; unfold execOp; simp [Act.eval, Instr.storeAt, Instr.sureAddr, Sem.run_bind, Sem.run_pure, Result.andThen_ok, h]) ((KV3.out.setRow (fun h => absurd h (by have := hS0.out; have := s1.out; have := s2.out; omega)) _).setRow (fun h => absurd h (by have := hS0.out; have := s1.out; have := s2.out; omega)) _) ?_
          simp only [Act.put, List.setIfInBounds_toArray, List.set_cons_succ, List.set_cons_zero]
          refine writeH 8 rfl (by kernel_rfl) (by rfl) (((V3.setRow b2 cs.toArray).setRow b0 cs.toArray).setRow b1 cs.toArray) (by have h := y3.out; unfold execOp; simp [Act.eval, Instr.storeAt, Instr.sureAddr, Sem.run_bind, Sem.run_pure, Result.andThen_ok, h]) (ht.out.kept) ?_
          simp only [Act.put, List.setIfInBounds_toArray, List.set_cons_succ, List.set_cons_zero]
          refine wpAnyH_done (by kernel_rfl) ?_ _
          generalize (((V3.setRow b2 cs.toArray).setRow b0 cs.toArray).setRow b1 cs.toArray) = wt at *
          go_wp2_with fail
          go_meet
          exact ⟨b2, b0, b1, rfl, rfl, rfl, ht⟩
      · simp only [Act.put, List.setIfInBounds_toArray, List.set_cons_succ, List.set_cons_zero]
        refine bothH 3 4 rfl rfl (by kernel_rfl) (by rfl) (by rfl) (.pointer (some ⟨b1, 0, none⟩)) V2 (by obtain ⟨e1, e2⟩ := r1.out; subst e1; subst e2; go_simp) KV2.out (.pointer (some ⟨b1, 0, none⟩)) V2 (by obtain ⟨e1, e2⟩ := r1.out; subst e1; subst e2; go_simp) KV2.out ?_ ?_
        · simp only [Act.put, List.setIfInBounds_toArray, List.set_cons_succ, List.set_cons_zero]
          refine runH 4 rfl (by kernel_rfl) (by rfl) (.pointer (some ⟨b2, 0, none⟩)) V3 (by obtain ⟨e1, e2⟩ := r2.out; subst e1; subst e2; go_simp) KV3.out ?_
          simp only [Act.put, List.setIfInBounds_toArray, List.set_cons_succ, List.set_cons_zero]
          have k1 := hid (show Kept [b1] V3 (V3.setRow b1 cs.toArray) from (Kept.refl _ _).setRow (fun _ => by simp) _)
          have k2 := hid (show Kept [b2] (V3.setRow b1 cs.toArray) ((V3.setRow b1 cs.toArray).setRow b2 cs.toArray) from (Kept.refl _ _).setRow (fun _ => by simp) _)
          have ht := hid (tri_of (cs := cs) (p := b1) (q := b2) (r := b0) KV3.out (by have := hS0.out; have := s1.out; have := s2.out; omega) (by have := s1.out; have := s2.out; omega) z1.out z2.out z0.out)
          have y1 := hid (st_run z1.out LC.out OC.out)
          have y2 := hid (st_run (k1.out.at z2.out (by have := s1.out; have := s2.out; simp; omega)) LC.out OC.out)
          have y3 := hid (st_run (k2.out.at (k1.out.at z0.out (by have := s1.out; have := s2.out; simp; omega)) (by have := s1.out; have := s2.out; simp; omega)) LC.out OC.out)
          refine writeH 6 rfl (by kernel_rfl) (by rfl) (V3.setRow b1 cs.toArray) (by have h := y1.out; unfold execOp; simp [Act.eval, Instr.storeAt, Instr.sureAddr, Sem.run_bind, Sem.run_pure, Result.andThen_ok, h]) (KV3.out.setRow (fun h => absurd h (by have := hS0.out; have := s1.out; have := s2.out; omega)) _) ?_
          simp only [Act.put, List.setIfInBounds_toArray, List.set_cons_succ, List.set_cons_zero]
          refine writeH 7 rfl (by kernel_rfl) (by rfl) ((V3.setRow b1 cs.toArray).setRow b2 cs.toArray) (by have h := y2.out; unfold execOp; simp [Act.eval, Instr.storeAt, Instr.sureAddr, Sem.run_bind, Sem.run_pure, Result.andThen_ok, h]) ((KV3.out.setRow (fun h => absurd h (by have := hS0.out; have := s1.out; have := s2.out; omega)) _).setRow (fun h => absurd h (by have := hS0.out; have := s1.out; have := s2.out; omega)) _) ?_
          simp only [Act.put, List.setIfInBounds_toArray, List.set_cons_succ, List.set_cons_zero]
          refine writeH 8 rfl (by kernel_rfl) (by rfl) (((V3.setRow b1 cs.toArray).setRow b2 cs.toArray).setRow b0 cs.toArray) (by have h := y3.out; unfold execOp; simp [Act.eval, Instr.storeAt, Instr.sureAddr, Sem.run_bind, Sem.run_pure, Result.andThen_ok, h]) (ht.out.kept) ?_
          simp only [Act.put, List.setIfInBounds_toArray, List.set_cons_succ, List.set_cons_zero]
          refine wpAnyH_done (by kernel_rfl) ?_ _
          generalize (((V3.setRow b1 cs.toArray).setRow b2 cs.toArray).setRow b0 cs.toArray) = wt at *
          go_wp2_with fail
          go_meet
          exact ⟨b1, b2, b0, rfl, rfl, rfl, ht⟩
        · simp only [Act.put, List.setIfInBounds_toArray, List.set_cons_succ, List.set_cons_zero]
          refine runH 3 rfl (by kernel_rfl) (by rfl) (.pointer (some ⟨b2, 0, none⟩)) V3 (by obtain ⟨e1, e2⟩ := r2.out; subst e1; subst e2; go_simp) KV3.out ?_
          simp only [Act.put, List.setIfInBounds_toArray, List.set_cons_succ, List.set_cons_zero]
          have k1 := hid (show Kept [b2] V3 (V3.setRow b2 cs.toArray) from (Kept.refl _ _).setRow (fun _ => by simp) _)
          have k2 := hid (show Kept [b1] (V3.setRow b2 cs.toArray) ((V3.setRow b2 cs.toArray).setRow b1 cs.toArray) from (Kept.refl _ _).setRow (fun _ => by simp) _)
          have ht := hid (tri_of (cs := cs) (p := b2) (q := b1) (r := b0) KV3.out (by have := hS0.out; have := s1.out; have := s2.out; omega) (by have := s1.out; have := s2.out; omega) z2.out z1.out z0.out)
          have y1 := hid (st_run z2.out LC.out OC.out)
          have y2 := hid (st_run (k1.out.at z1.out (by have := s1.out; have := s2.out; simp; omega)) LC.out OC.out)
          have y3 := hid (st_run (k2.out.at (k1.out.at z0.out (by have := s1.out; have := s2.out; simp; omega)) (by have := s1.out; have := s2.out; simp; omega)) LC.out OC.out)
          refine writeH 6 rfl (by kernel_rfl) (by rfl) (V3.setRow b2 cs.toArray) (by have h := y1.out; unfold execOp; simp [Act.eval, Instr.storeAt, Instr.sureAddr, Sem.run_bind, Sem.run_pure, Result.andThen_ok, h]) (KV3.out.setRow (fun h => absurd h (by have := hS0.out; have := s1.out; have := s2.out; omega)) _) ?_
          simp only [Act.put, List.setIfInBounds_toArray, List.set_cons_succ, List.set_cons_zero]
          refine writeH 7 rfl (by kernel_rfl) (by rfl) ((V3.setRow b2 cs.toArray).setRow b1 cs.toArray) (by have h := y2.out; unfold execOp; simp [Act.eval, Instr.storeAt, Instr.sureAddr, Sem.run_bind, Sem.run_pure, Result.andThen_ok, h]) ((KV3.out.setRow (fun h => absurd h (by have := hS0.out; have := s1.out; have := s2.out; omega)) _).setRow (fun h => absurd h (by have := hS0.out; have := s1.out; have := s2.out; omega)) _) ?_
          simp only [Act.put, List.setIfInBounds_toArray, List.set_cons_succ, List.set_cons_zero]
          refine writeH 8 rfl (by kernel_rfl) (by rfl) (((V3.setRow b2 cs.toArray).setRow b1 cs.toArray).setRow b0 cs.toArray) (by have h := y3.out; unfold execOp; simp [Act.eval, Instr.storeAt, Instr.sureAddr, Sem.run_bind, Sem.run_pure, Result.andThen_ok, h]) (ht.out.kept) ?_
          simp only [Act.put, List.setIfInBounds_toArray, List.set_cons_succ, List.set_cons_zero]
          refine wpAnyH_done (by kernel_rfl) ?_ _
          generalize (((V3.setRow b2 cs.toArray).setRow b1 cs.toArray).setRow b0 cs.toArray) = wt at *
          go_wp2_with fail
          go_meet
          exact ⟨b2, b1, b0, rfl, rfl, rfl, ht⟩
    case rest =>
      obtain ⟨p, q, r, rfl, rfl, rfl, htri⟩ := hcut
      have f35 := hid (Sp.c35 HS.out); have f0 := hid s.c0; have f1 := hid s.c1
      rw [← hcS.out] at f35 f0 f1
      have gp : wc.cell? ⟨p, 35, none⟩ = some (.int .i64 s.files) := by rw [cell_of_row wc _ 35 _ _ _ htri.out.a]; simpa using f35.out
      have fp : wc.frozen? ⟨p, 35, none⟩ = false := free_row htri.out.a 35
      have hq1 := hid (show (wc.setCell ⟨p, 35, none⟩ (.int .i64 513)).heap[q]? = some (.cells cs.toArray 56 (0, 0)) from heap_setCell_other htri.out.b (by simpa using htri.out.ne.1.symm))
      have hr1 := hid (show (wc.setCell ⟨p, 35, none⟩ (.int .i64 513)).heap[r]? = some (.cells cs.toArray 56 (0, 0)) from heap_setCell_other htri.out.c (by simpa using htri.out.ne.2.1.symm))
      have hp1 := hid (show (wc.setCell ⟨p, 35, none⟩ (.int .i64 513)).heap[p]? = some (.cells (cs.set 35 (.int .i64 513)).toArray 56 (0, 0)) from set_cells htri.out.a)
      have gq : (wc.setCell ⟨p, 35, none⟩ (.int .i64 513)).cell? ⟨q, 0, none⟩ = some (.int .i64 s.time) := by rw [cell_of_row _ _ 0 _ _ _ hq1.out]; simpa using f0.out
      have fq : (wc.setCell ⟨p, 35, none⟩ (.int .i64 513)).frozen? ⟨q, 0, none⟩ = false := free_row hq1.out 0
      have hr2 := hid (show ((wc.setCell ⟨p, 35, none⟩ (.int .i64 513)).setCell ⟨q, 0, none⟩ (.int .i64 (-1))).heap[r]? = some (.cells cs.toArray 56 (0, 0)) from heap_setCell_other hr1.out (by simpa using htri.out.ne.2.2.symm))
      have hp2 := hid (show ((wc.setCell ⟨p, 35, none⟩ (.int .i64 513)).setCell ⟨q, 0, none⟩ (.int .i64 (-1))).heap[p]? = some (.cells (cs.set 35 (.int .i64 513)).toArray 56 (0, 0)) from heap_setCell_other hp1.out (by simpa using htri.out.ne.1))
      have hq2 := hid (show ((wc.setCell ⟨p, 35, none⟩ (.int .i64 513)).setCell ⟨q, 0, none⟩ (.int .i64 (-1))).heap[q]? = some (.cells (cs.set 0 (.int .i64 (-1))).toArray 56 (0, 0)) from set_cells hq1.out)
      have gr : ((wc.setCell ⟨p, 35, none⟩ (.int .i64 513)).setCell ⟨q, 0, none⟩ (.int .i64 (-1))).cell? ⟨r, 1, none⟩ = some (.string (S s.host)) := by rw [cell_of_row _ _ 1 _ _ _ hr2.out]; simpa using f1.out
      have fr : ((wc.setCell ⟨p, 35, none⟩ (.int .i64 513)).setCell ⟨q, 0, none⟩ (.int .i64 (-1))).frozen? ⟨r, 1, none⟩ = false := free_row hr2.out 1
      obtain ⟨WB, hWB⟩ : ∃ WB, WB = (((wc.setCell ⟨p, 35, none⟩ (.int .i64 513)).setCell ⟨q, 0, none⟩ (.int .i64 (-1))).setCell ⟨r, 1, none⟩ (.string ⟨#[]⟩)) := ⟨_, rfl⟩
      have AR := hid (show WB.heap[r]? = some (.cells ({ s with host := [] } : Sp).cells.toArray 56 (0, 0)) from by rw [hWB, ← Sp.set_host, ← hcS.out]; exact set_cells hr2.out)
      have AP := hid (show WB.heap[p]? = some (.cells ({ s with files := 513 } : Sp).cells.toArray 56 (0, 0)) from by rw [hWB, ← Sp.set_files HS.out, ← hcS.out]; exact heap_setCell_other hp2.out (by simpa using htri.out.ne.2.1))
      have AQ := hid (show WB.heap[q]? = some (.cells ({ s with time := -1 } : Sp).cells.toArray 56 (0, 0)) from by rw [hWB, ← Sp.set_time, ← hcS.out]; exact heap_setCell_other hq2.out (by simpa using htri.out.ne.2.2))
      have KB2 := hid (show Kept [] w2 WB from by
        have hge := htri.out.ge
        rw [hWB]
        exact ((htri.out.kept.setCell (p := ⟨p, 35, none⟩) (fun h => absurd h (by simp; omega)) _).setCell (p := ⟨q, 0, none⟩) (fun h => absurd h (by simp; omega)) _).setCell (p := ⟨r, 1, none⟩) (fun h => absurd h (by simp; omega)) _)
      have HWB := hid hWB
      have Hge := hid htri.out.ge
      clear hWB htri
      go_wp2_with fail
      rw [← HWB.out]
      obtain ⟨pp, hp, hpl⟩ := bit_at16 at0 n hn5
      rw [hp]
      clear hp gp fp gq fq gr fr
      have HB0 := hid (KB2.out.owns HO.out (by simp))
      have hat0 := hid (show Kept [g] WB WB ∧ WB.ownsRow w1.heap.size 5 1 (.slice (some ⟨g, 0, none⟩) n c) n ((Crc.flips us pp turn 0).map B) from ⟨Kept.refl _ _, HB0.out⟩)
      go_loopw [68] (fun s wr => ∃ i : Nat, i ≤ 32 ∧ s = .int .i64 i ∧ Hid (Kept [g] WB wr ∧ wr.ownsRow w1.heap.size 5 1 (.slice (some ⟨g, 0, none⟩) n c) n ((Crc.flips us pp turn i).map B))) (fun s _ => 32 - (intOf s).toNat)
      case atStart => exact ⟨0, Nat.zero_le _, rfl, hat0⟩
      case round =>
        obtain ⟨i, hi, rfl, hr⟩ := hrel
        by_cases hlt : i < 32
        · by_cases hb : turn.testBit i = true
          · have hb1 : (bits .and .u32 ((turn : Int) / 2 ^ i) 1 == 1) = true := by rw [bit_u32 turn i htl, if_pos hb]; rfl
            obtain ⟨u, hq⟩ : ∃ u, u = pp + i := ⟨_, rfl⟩
            have hqlt : u / 8 < n := by omega
            have hfll := Crc.flips_len us pp turn i
            obtain ⟨sb, hsb⟩ : ∃ sb, (Crc.flips us pp turn i)[u / 8]? = some sb := ⟨(Crc.flips us pp turn i)[u / 8]'(by rw [hfll, ← HN.out]; exact hqlt), by simp⟩
            have gl := hr.out.2.cellAt (u / 8) (by omega)
            rw [List.getElem?_map, hsb] at gl
            have gl' : wr.cell? ⟨g, u / 8, none⟩ = some (.int .u8 (sb.toNat : Int)) := gl
            have gf : wr.frozen? ⟨g, u / 8, none⟩ = false := hr.out.2.frozenAt _
            have Hsb := hid hsb; have Hq := hid hq; have Hfll := hid hfll
            have Hb := hid hb
            clear hb gl hsb hfll
            have hpi : (pp : Int) + (i : Int) = (u : Int) := by omega
            have hql : u < 100000 := by omega
            obtain ⟨k, hk⟩ : ∃ k, k = u / 8 := ⟨_, rfl⟩
            obtain ⟨rr, hr8⟩ : ∃ rr, rr = u % 8 := ⟨_, rfl⟩
            obtain ⟨m, hm2, hsh⟩ := shl_u8 rr (by omega)
            rw [← hk] at hqlt gl' gf
            have f1 : (0 : Int) ≤ (k : Int) := by omega
            have f2 : (k : Int) < (n : Int) := by omega
            have f3 : k < n := hqlt
            have e6 : 0 ≤ (pp : Int) + (i : Int) := by omega
            have d2 : ((pp : Int) + (i : Int)).tdiv 8 = (k : Int) := by rw [Int.tdiv_eq_ediv_of_nonneg e6]; omega
            have e3 : ((pp : Int) + (i : Int)).tmod 8 = (rr : Int) := by rw [Int.tmod_eq_emod_of_nonneg e6]; omega
            have e2' : IntKind.i64.wrap (((pp : Int) + (i : Int)).tdiv 8) = (k : Int) := by rw [d2]; exact IntWalk.i64_in _ (by omega)
            have e4 : IntKind.i64.wrap (((pp : Int) + (i : Int)).tmod 8) = (rr : Int) := by rw [e3]; exact IntWalk.i64_in _ (by omega)
            clear d2
            have e1' : IntKind.i64.wrap ((pp : Int) + (i : Int)) = (pp : Int) + (i : Int) := IntWalk.i64_in _ (by omega)
            have gld : wr.drew.cell? ⟨g, k, none⟩ = some (.int .u8 (sb.toNat : Int)) := gl'
            have Hk := hid hk; have Hr8 := hid hr8; have Hm2 := hid hm2
            clear hk hr8 hm2 hqlt hpi hql
            go_wp2_with fail
            refine wp_region_still_tail 14 (by kernel_rfl) (by kernel_rfl) ?_
            simp only [List.take_succ_cons, List.take_zero, List.drop_succ_cons, List.drop_zero]
            change wpStill _ _ wr.drew _ _ _
            repeat still_step
            refine wpStill_nil ?_
            clear e1' e2' e3 e4 hsh
            have hfin := hid (fun (V : Value) (hV : V = B (sb ^^^ m)) => hid (show Kept [g] WB (wr.drew.setCell ⟨g, k, none⟩ V) ∧ (wr.drew.setCell ⟨g, k, none⟩ V).ownsRow w1.heap.size 5 1 (.slice (some ⟨g, 0, none⟩) n c) n ((Crc.flips us pp turn (i + 1)).map B) from by
              subst hV
              refine ⟨hr.out.1.drew.setCell (p := ⟨g, k, none⟩) (fun _ => by simp) _, ?_⟩
              have hset := flip_set (Crc.flips us pp turn i) u sb Hsb.out
              rw [← Hk.out, ← Hr8.out, ← Hm2.out] at hset
              have hfs : Crc.flips us pp turn (i + 1) = Crc.flip (Crc.flips us pp turn i) u := by
                show (if turn.testBit i then Crc.flip (Crc.flips us pp turn i) (pp + i) else Crc.flips us pp turn i) = _
                rw [if_pos Hb.out, Hq.out]
              rw [hfs, ← hset]
              exact own_set (w := wr.drew) hr.out.2 k (sb ^^^ m)))
            have hxv := hid (xor_u8 sb m)
            have hp8 := hid (show (2 : Int) ^ min rr 8 % 256 = (m.toNat : Int) by rw [Hm2.out]; exact pow8 rr (by have := Hr8.out; omega))
            go_wp2
            go_roundw
            case rel => exact ⟨i + 1, by omega, by go_num, hfin.out _ (by rw [hp8.out, hxv.out]; rfl)⟩
            case measure => simp [intOf]; omega
          · have hb1 : (bits .and .u32 ((turn : Int) / 2 ^ i) 1 == 1) = false := by rw [bit_u32 turn i htl, if_neg hb]; rfl
            have hfs : Crc.flips us pp turn (i + 1) = Crc.flips us pp turn i := by
              show (if turn.testBit i then Crc.flip (Crc.flips us pp turn i) (pp + i) else Crc.flips us pp turn i) = _
              rw [if_neg hb]
            have hfin := hid (show Hid (Kept [g] WB wr ∧ wr.ownsRow w1.heap.size 5 1 (.slice (some ⟨g, 0, none⟩) n c) n ((Crc.flips us pp turn (i + 1)).map B)) by rw [hfs]; exact hr)
            clear hb hfs
            go_wp2
            go_roundw
            case rel => exact ⟨i + 1, by omega, by go_num, hfin.out⟩
            case measure => simp [intOf]; omega
        · have h32 : i = 32 := by omega
          subst h32
          obtain ⟨hkg, hor⟩ := hr.out
          have hglt := hid (show g < w2.heap.size from (HO.out.lt g rfl).2)
          have kr := hid (show Kept [] w wr from (K2.out.trans KB2.out).trans' hkg (fun x hx hm => by simp at hm; have := hgb.out; have := K1.out.size; omega))
          have hsz2 := KB2.out.size
          have hfl := Crc.flips_len us pp turn 32
          rw [← HN.out] at hfl
          have APr := hid (hkg.at AP.out (by have := Hge.out; have := hglt.out; simp; omega))
          have AQr := hid (hkg.at AQ.out (by have := Hge.out; have := hglt.out; simp; omega))
          have ARr := hid (hkg.at AR.out (by have := Hge.out; have := hglt.out; simp; omega))
          have BXr := hid (hkg.at (KB2.out.at B2.out (by simp)) (by have := hgb.out; have := lt_of_block B1.out; simp; omega))
          have hde := hid (j_snapdecode (.slice (some ⟨g, 0, none⟩) n c) (Crc.flips us pp turn 32) wr (by have h := ownsRow_src (xs := Crc.flips us pp turn 32) (by rw [hfl]; exact hor); exact h) (HT.out.kept kr.out (by simp)) (by rw [hfl]; omega))
          have hcase : (turn = 0 ∧ decV (Crc.flips us pp turn 32) = s ∧ decErr (Crc.flips us pp turn 32) = 0) ∨ (turn ≠ 0 ∧ decV (Crc.flips us pp turn 32) = zSp ∧ decErr (Crc.flips us pp turn 32) = 36) := by
            by_cases ht0 : turn = 0
            · subst ht0
              have hf0 : ∀ n, Crc.flips us pp 0 n = us := by
                intro n
                induction n with
                | zero => rfl
                | succ n ih => simp [Crc.flips, ih]
              rw [hf0, Hus.out]
              exact Or.inl ⟨rfl, decV_enc s HS.out He0.out⟩
            · have hbad := unseal_bad 83 (Crc.flips us pp turn 32) (by rw [hfl]; omega) (Crc.burst us pp turn (by omega) ht0 (by rw [← HN.out]; omega) (by rw [Hus.out]; exact sealed_good 83 s.enc))
              have h36 : decErr (Crc.flips us pp turn 32) = 36 := by unfold decErr; rw [hbad.1, if_pos (by decide)]
              exact Or.inr ⟨ht0, decErr_ne (by rw [h36]; decide), h36⟩
          generalize Crc.flips us pp turn 32 = fl at *
          clear hkg hor hfl hr hsz2
          rcases hcase with ⟨rfl, hv, hd⟩ | ⟨ht0, hv, hd⟩
          · rw [hv, hd] at hde
            rw [← hcS.out] at hde
            clear hv hd
            have ckP := hid (fun W => j_snapcheck ({ s with files := 513 } : Sp) ⟨HS.out.root, HS.out.t1, HS.out.t2, by simp, by simp, HS.out.b1, HS.out.b2⟩ W)
            have ckQ := hid (fun W => j_snapcheck ({ s with time := -1 } : Sp) ⟨HS.out.root, by simp, by simp, HS.out.f1, HS.out.f2, HS.out.b1, HS.out.b2⟩ W)
            have ckR := hid (fun W => j_snapcheck ({ s with host := [] } : Sp) ⟨HS.out.root, HS.out.t1, HS.out.t2, HS.out.f1, HS.out.f2, HS.out.b1, HS.out.b2⟩ W)
            have eP : ({ s with files := 513 } : Sp).err = 23 := by unfold Sp.err; rw [if_pos (by unfold Sp.far; simp)]
            have eQ : ({ s with time := -1 } : Sp).err = 23 := by unfold Sp.err; rw [if_pos (by unfold Sp.far; simp)]
            have eR : ({ s with host := [] } : Sp).err = 38 := by
              have hf := Sp.err_far He0.out
              unfold Sp.far at hf
              unfold Sp.err
              rw [if_neg (by unfold Sp.far; exact hf), if_neg (by intro h; have := (j_okPart_ne h.1).1; simp at this)]
            rw [eP] at ckP; rw [eQ] at ckQ; rw [eR] at ckR
            obtain ⟨cP, hcP⟩ : ∃ cP, cP = ({ s with files := 513 } : Sp).cells := ⟨_, rfl⟩
            obtain ⟨cQ, hcQ⟩ : ∃ cQ, cQ = ({ s with time := -1 } : Sp).cells := ⟨_, rfl⟩
            obtain ⟨cR, hcR⟩ : ∃ cR, cR = ({ s with host := [] } : Sp).cells := ⟨_, rfl⟩
            have lP := hid (show cP.length = 37 by rw [hcP, ← Sp.set_files HS.out, List.length_set]; exact Sp.size HS.out)
            have lQ := hid (show cQ.length = 37 by rw [hcQ, ← Sp.set_time, List.length_set]; exact Sp.size HS.out)
            have lR := hid (show cR.length = 37 by rw [hcR, ← Sp.set_host, List.length_set]; exact Sp.size HS.out)
            have iP := hid (show (Tryd.prog.info? 56).map (·.size) = some cP.length by rw [lP.out]; exact snap_info)
            have iQ := hid (show (Tryd.prog.info? 56).map (·.size) = some cQ.length by rw [lQ.out]; exact snap_info)
            have iR := hid (show (Tryd.prog.info? 56).map (·.size) = some cR.length by rw [lR.out]; exact snap_info)
            rw [← hcP] at ckP APr; rw [← hcQ] at ckQ AQr; rw [← hcR] at ckR ARr
            clear hcP hcQ hcR eP eQ eR
            go_wp2_with fail
            refine hde.out.mono ?_
            rintro e wd ⟨rfl, kd⟩
            have KD := hid (kr.out.trans kd)
            have AP1 := hid (kd.at APr.out (by simp)); have AQ1 := hid (kd.at AQr.out (by simp)); have AR1 := hid (kd.at ARr.out (by simp)); have BX1 := hid (kd.at BXr.out (by simp))
            clear kd hde
            go_wp2_with (refine wpList_store_at rfl 56 (.tmp 13) (.tmp 94) rfl wd.heap.size 0 cs rfl rfl 56 zSnap (heap_alloc_at rfl) IC.out (by have h1 := LC.out; have h2 := zSnap_len; omega) OC.out ?_; refine halt ?_)
            rw [splice36 zSnap cs (LC.out.trans zSnap_len.symm)]
            refine Halt.mk ?_
            obtain ⟨WE, hWE⟩ : ∃ WE, WE = (wd.alloc (.cells zSnap.toArray 56)).setRow wd.heap.size cs.toArray := ⟨_, rfl⟩
            have ke : Kept [] wd WE := hWE ▸ ((Kept.refl [] wd).alloc _).setRow (fun h => absurd h (Nat.lt_irrefl _)) _
            have KE := hid (KD.out.trans ke)
            have AD := hid (show WE.heap[wd.heap.size]? = some (.cells cs.toArray 56 (0, 0)) from hWE ▸ setRow_heap _ _ _ _ _ _ (heap_alloc_at rfl))
            have AP2 := hid (ke.at AP1.out (by simp)); have AQ2 := hid (ke.at AQ1.out (by simp)); have AR2 := hid (ke.at AR1.out (by simp)); have BX2 := hid (ke.at BX1.out (by simp))
            rw [← hWE]
            obtain ⟨pd, hpd⟩ : ∃ pd, pd = wd.heap.size := ⟨_, rfl⟩
            rw [← hpd] at AD ⊢
            clear hWE ke hpd
            have rD := hid (ld_at AD.out); have rX := hid (ld_at BX2.out); have rP := hid (ld_at AP2.out)
            have heqq := heq.out
            have hgr := fun W => snap_grd .eql (.tmp 103) (.tmp 104) cs.toArray cs.toArray W
            go_wp2_with (first | (refine j_load_if (by rfl) 56 (.tmp 13) rfl ⟨pd, 0, none⟩ rfl cs _ Tryd.underlying56 rfl IC.out rD.out ?_) | (refine j_load_if (by rfl) 56 (.tmp 3) rfl ⟨w.heap.size, 0, none⟩ rfl cs _ Tryd.underlying56 rfl IC.out rX.out ?_) | (refine j_load_if (by rfl) 56 (.tmp 9) rfl ⟨p, 0, none⟩ rfl cP _ Tryd.underlying56 rfl iP.out rP.out ?_))
            refine (ckP.out WE).mono ?_
            rintro e wf ⟨rfl, kf⟩
            have KF := hid (KE.out.trans kf)
            have rQ := hid (ld_at (kf.at AQ2.out (by simp)))
            have AR3 := hid (kf.at AR2.out (by simp))
            clear kf
            go_wp2_with (refine j_load_if (by rfl) 56 (.tmp 10) rfl ⟨q, 0, none⟩ rfl cQ _ Tryd.underlying56 rfl iQ.out rQ.out ?_)
            refine (ckQ.out wf).mono ?_
            rintro e wg ⟨rfl, kg⟩
            have KG := hid (KF.out.trans kg)
            have rR := hid (ld_at (kg.at AR3.out (by simp)))
            clear kg
            go_wp2_with (refine j_load_if (by rfl) 56 (.tmp 11) rfl ⟨r, 0, none⟩ rfl cR _ Tryd.underlying56 rfl iR.out rR.out ?_)
            refine (ckR.out wg).mono ?_
            rintro e wh ⟨rfl, kh⟩
            have KH := hid (KG.out.trans kh)
            clear kh
            go_wp2
            go_ret
            exact ⟨rfl, KH.out⟩
          · rw [hv, hd] at hde
            rw [zSp_cells] at hde
            have htf : ((turn : Int) == 0) = false := by simpa using ht0
            have htf2 : ((turn : Int) != 0) = true := by simpa using ht0
            clear hv hd ht0
            have ckP := hid (fun W => j_snapcheck ({ s with files := 513 } : Sp) ⟨HS.out.root, HS.out.t1, HS.out.t2, by simp, by simp, HS.out.b1, HS.out.b2⟩ W)
            have ckQ := hid (fun W => j_snapcheck ({ s with time := -1 } : Sp) ⟨HS.out.root, by simp, by simp, HS.out.f1, HS.out.f2, HS.out.b1, HS.out.b2⟩ W)
            have ckR := hid (fun W => j_snapcheck ({ s with host := [] } : Sp) ⟨HS.out.root, HS.out.t1, HS.out.t2, HS.out.f1, HS.out.f2, HS.out.b1, HS.out.b2⟩ W)
            have eP : ({ s with files := 513 } : Sp).err = 23 := by unfold Sp.err; rw [if_pos (by unfold Sp.far; simp)]
            have eQ : ({ s with time := -1 } : Sp).err = 23 := by unfold Sp.err; rw [if_pos (by unfold Sp.far; simp)]
            have eR : ({ s with host := [] } : Sp).err = 38 := by
              have hf := Sp.err_far He0.out
              unfold Sp.far at hf
              unfold Sp.err
              rw [if_neg (by unfold Sp.far; exact hf), if_neg (by intro h; have := (j_okPart_ne h.1).1; simp at this)]
            rw [eP] at ckP; rw [eQ] at ckQ; rw [eR] at ckR
            obtain ⟨cP, hcP⟩ : ∃ cP, cP = ({ s with files := 513 } : Sp).cells := ⟨_, rfl⟩
            obtain ⟨cQ, hcQ⟩ : ∃ cQ, cQ = ({ s with time := -1 } : Sp).cells := ⟨_, rfl⟩
            obtain ⟨cR, hcR⟩ : ∃ cR, cR = ({ s with host := [] } : Sp).cells := ⟨_, rfl⟩
            have lP := hid (show cP.length = 37 by rw [hcP, ← Sp.set_files HS.out, List.length_set]; exact Sp.size HS.out)
            have lQ := hid (show cQ.length = 37 by rw [hcQ, ← Sp.set_time, List.length_set]; exact Sp.size HS.out)
            have lR := hid (show cR.length = 37 by rw [hcR, ← Sp.set_host, List.length_set]; exact Sp.size HS.out)
            have iP := hid (show (Tryd.prog.info? 56).map (·.size) = some cP.length by rw [lP.out]; exact snap_info)
            have iQ := hid (show (Tryd.prog.info? 56).map (·.size) = some cQ.length by rw [lQ.out]; exact snap_info)
            have iR := hid (show (Tryd.prog.info? 56).map (·.size) = some cR.length by rw [lR.out]; exact snap_info)
            rw [← hcP] at ckP APr; rw [← hcQ] at ckQ AQr; rw [← hcR] at ckR ARr
            clear hcP hcQ hcR eP eQ eR
            go_wp2_with fail
            refine hde.out.mono ?_
            rintro e wd ⟨rfl, kd⟩
            have KD := hid (kr.out.trans kd)
            have AP1 := hid (kd.at APr.out (by simp)); have AQ1 := hid (kd.at AQr.out (by simp)); have AR1 := hid (kd.at ARr.out (by simp)); have BX1 := hid (kd.at BXr.out (by simp))
            clear kd hde
            go_wp2_with (refine wpList_store_at rfl 56 (.tmp 13) (.tmp 94) rfl wd.heap.size 0 zSnap rfl rfl 56 zSnap (heap_alloc_at rfl) zinf (by omega) (by rw [← zSp_cells]; exact zSp.one) ?_; refine halt ?_)
            rw [splice36 zSnap zSnap rfl]
            refine Halt.mk ?_
            obtain ⟨WE, hWE⟩ : ∃ WE, WE = (wd.alloc (.cells zSnap.toArray 56)).setRow wd.heap.size zSnap.toArray := ⟨_, rfl⟩
            have ke : Kept [] wd WE := hWE ▸ ((Kept.refl [] wd).alloc _).setRow (fun h => absurd h (Nat.lt_irrefl _)) _
            have KE := hid (KD.out.trans ke)
            have AD := hid (show WE.heap[wd.heap.size]? = some (.cells zSnap.toArray 56 (0, 0)) from hWE ▸ setRow_heap _ _ _ _ _ _ (heap_alloc_at rfl))
            have AP2 := hid (ke.at AP1.out (by simp)); have AQ2 := hid (ke.at AQ1.out (by simp)); have AR2 := hid (ke.at AR1.out (by simp)); have BX2 := hid (ke.at BX1.out (by simp))
            rw [← hWE]
            obtain ⟨pd, hpd⟩ : ∃ pd, pd = wd.heap.size := ⟨_, rfl⟩
            rw [← hpd] at AD ⊢
            clear hWE ke hpd
            have rD := hid (ld_at AD.out); have rX := hid (ld_at BX2.out); have rP := hid (ld_at AP2.out)
            have heqq := fun W => (snap_eql zSp zSp zSp_ok zSp_ok W).trans (by rw [decide_eq_true rfl])
            rw [zSp_cells] at heqq
            have hgr := fun W => snap_grd .eql (.tmp 115) (.tmp 116) zSnap.toArray zSnap.toArray W
            have hbz := run_built_zero
            go_wp2_with (first | (refine j_load_if (by rfl) 56 (.tmp 13) rfl ⟨pd, 0, none⟩ rfl zSnap _ Tryd.underlying56 rfl zinf rD.out ?_) | (refine j_load_if (by rfl) 56 (.tmp 9) rfl ⟨p, 0, none⟩ rfl cP _ Tryd.underlying56 rfl iP.out rP.out ?_))
            refine (ckP.out WE).mono ?_
            rintro e wf ⟨rfl, kf⟩
            have KF := hid (KE.out.trans kf)
            have rQ := hid (ld_at (kf.at AQ2.out (by simp)))
            have AR3 := hid (kf.at AR2.out (by simp))
            clear kf
            go_wp2_with (refine j_load_if (by rfl) 56 (.tmp 10) rfl ⟨q, 0, none⟩ rfl cQ _ Tryd.underlying56 rfl iQ.out rQ.out ?_)
            refine (ckQ.out wf).mono ?_
            rintro e wg ⟨rfl, kg⟩
            have KG := hid (KF.out.trans kg)
            have rR := hid (ld_at (kg.at AR3.out (by simp)))
            clear kg
            go_wp2_with (refine j_load_if (by rfl) 56 (.tmp 11) rfl ⟨r, 0, none⟩ rfl cR _ Tryd.underlying56 rfl iR.out rR.out ?_)
            refine (ckR.out wg).mono ?_
            rintro e wh ⟨rfl, kh⟩
            have KH := hid (KG.out.trans kh)
            clear kh
            go_wp2
            go_ret
            exact ⟨rfl, KH.out⟩
end Go.Proofs.YtcdbgijbfppmoaaDoor
