import Derived.Test.YtdojpioclojalaaDoorN26
import Derived.Test.YtdojpioclojalaaDoorMZ

/- TreeErrors. -/
namespace Go.Proofs.YtdojpioclojalaaDoor
open Go.RowKit Go.Lib

theorem at_of (at0 : Int) (n : Nat) (hn : 0 < n) : ∃ i : Nat, (bits .and .i64 at0 255).tmod (n : Int) = (i : Int) ∧ i < n := by
  rw [i64_and255]
  have h0 : 0 ≤ at0 % 256 := by omega
  have e : (at0 % 256).tmod (n : Int) = (at0 % 256) % (n : Int) := Int.tmod_eq_emod_of_nonneg h0
  have h1 := Int.emod_nonneg (at0 % 256) (show (n : Int) ≠ 0 by omega)
  have h2 := Int.emod_lt_of_pos (at0 % 256) (show 0 < (n : Int) by omega)
  exact ⟨((at0 % 256) % (n : Int)).toNat, by omega, by omega⟩
/-- The call's own two variables: the list, and the place. -/
structure Vars (W : World) (lb : Nat) (a : Option Addr) (n c : Nat) (at_ : Int) : Prop where
  list : W.heap[lb]? = some (.cells #[.slice a n c] 22 (0, 0))
  idx : W.heap[lb + 1]? = some (.cells #[.int .i64 at_] 3 (0, 0))
theorem Vars.kept {W W' : World} {lb : Nat} {a : Option Addr} {n c : Nat} {at_ : Int} (h : Vars W lb a n c at_) (hk : Kept [] W W') : Vars W' lb a n c at_ := ⟨hk.at h.list (by simp), hk.at h.idx (by simp)⟩
theorem Vars.c1 {W : World} {lb : Nat} {a : Option Addr} {n c : Nat} {at_ : Int} (h : Vars W lb a n c at_) : W.cell? ⟨lb, 0, none⟩ = some (.slice a n c) := by
  rw [cell_of_row _ _ _ _ _ _ h.list]; rfl
theorem Vars.c2 {W : World} {lb : Nat} {a : Option Addr} {n c : Nat} {at_ : Int} (h : Vars W lb a n c at_) : W.cell? ⟨lb + 1, 0, none⟩ = some (.int .i64 at_) := by
  rw [cell_of_row _ _ _ _ _ _ h.idx]; rfl

theorem Nodes.take_ {w : World} {x : Addr} {c : Nat} {ns : List NodeR} (h : Nodes w (some x) c ns) (k : Nat) : Nodes w (some x) c (ns.take k) := by
  refine ⟨by have := h.le; rw [List.length_take]; omega, h.max, fun h => (by cases h), ?_⟩
  intro y hy i n hn
  rw [List.getElem?_take] at hn
  split at hn
  · exact h.at_ y hy i n hn
  · cases hn
theorem Nodes.drop_ {w : World} {x : Addr} {c : Nat} {ns : List NodeR} (h : Nodes w (some x) c ns) (k : Nat) (hk : k ≤ ns.length) : Nodes w (some (x.add (k * 36))) (c - k) (ns.drop k) := by
  refine ⟨by have := h.le; rw [List.length_drop]; omega, by have := h.max; omega, fun h => (by cases h), ?_⟩
  intro y hy i n hn
  simp at hy
  subst hy
  rw [List.getElem?_drop] at hn
  rw [n_add_add, ← Nat.add_mul]
  exact h.at_ x rfl _ n hn
/-- A call that may answer in many ways, or another operation, whichever comes first. -/
theorem callOrX {P : Program} {md : Region.Mode} {Q : Exit → Act → World → Prop} {S : World → Prop} {l rest rest' : List Oper} {oi oj : Oper} {fuel : Nat} {listed : Array Bool} {a : Act} {w : World} (i j : Nat) (hi : l.drop i = oi :: rest) (hj : l.drop j = oj :: rest') (hr : Region.ready md l.toArray listed = [i, j])
    (hwi : Region.wanted oi (yielded l.toArray a.tmps) = true) (hwj : Region.wanted oj (yielded l.toArray a.tmps) = true) (f : FuncId) (args : Array Value) (hrun : (execOp a.eval oi).run P w = .ok (.enter f args) w)
    (hc : Calls P f args w fun e w' => ∃ val, e = .returned val ∧ S w' ∧ wpAnyH P md l.toArray Q S fuel (listed.setIfInBounds i true) (a.put oi.dst val) w')
    (vj : Value) (wj : World) (hrj : (execOp a.eval oj).run P w = .ok (.value vj) wj) (hSj : S wj) (h2 : wpAnyH P md l.toArray Q S fuel (listed.setIfInBounds j true) (a.put oj.dst vj) wj) : wpAnyH P md l.toArray Q S (fuel + 1) listed a w := by
  refine wpAnyH_ready hr (by simp) (AllReadyH.cons (getL_of_drop hi) (fun K hK => ?_) (AllReadyH.cons (getL_of_drop hj) (fun K hK => ?_) AllReadyH.nil))
  · rw [if_pos hwi]; unfold Oper.wp; rw [hrun]
    refine hc.mono ?_
    rintro e w' ⟨val, rfl, hS', h⟩
    exact hK.out _ _ hS' (fun _ => h)
  · rw [if_pos hwj]; unfold Oper.wp; rw [hrj]; exact hK.out _ _ hSj (fun _ => h2)
def nalloc? (V : World) (b : Nat) (V' : World) : Prop := b = V.heap.size ∧ V' = V.alloc (.cells zNode.toArray 42)
theorem st_node {W : World} {p : Nat} {n : NodeR} (h : W.heap[p]? = some (.cells zNode.toArray 42 (0, 0))) (h32 : n.sub.length = 32) : (storeVar 42 ⟨p, 0, none⟩ (.agg n.cells.toArray)).run Tryd.prog W = .ok () (W.setRow p n.cells.toArray) := by
  have h2 := run_storeVar_at (P := Tryd.prog) W p 0 42 42 zNode n.cells h (by rw [node_size n h32]; exact node_info) (by rw [node_size n h32, zNode_len]; decide) (node_one n)
  rwa [splice36 zNode n.cells (by rw [node_size n h32, zNode_len])] at h2
theorem duo_of {w5 U : World} {n : NodeR} (h32 : n.sub.length = 32) (k : Kept [] w5 U) {p q : Nat} (ge : w5.heap.size ≤ p ∧ w5.heap.size ≤ q) (ne : p ≠ q)
    (hp : U.heap[p]? = some (.cells zNode.toArray 42 (0, 0))) (hq : U.heap[q]? = some (.cells zNode.toArray 42 (0, 0))) :
    Kept [] w5 ((U.setRow p n.cells.toArray).setRow q n.cells.toArray) ∧ w5.heap.size ≤ p ∧ w5.heap.size ≤ q ∧ p ≠ q ∧ NAt ((U.setRow p n.cells.toArray).setRow q n.cells.toArray) p n ∧ NAt ((U.setRow p n.cells.toArray).setRow q n.cells.toArray) q n := by
  have k1 : Kept [p] U (U.setRow p n.cells.toArray) := (Kept.refl _ _).setRow (fun _ => by simp) _
  have k2 : Kept [q] (U.setRow p n.cells.toArray) ((U.setRow p n.cells.toArray).setRow q n.cells.toArray) := (Kept.refl _ _).setRow (fun _ => by simp) _
  refine ⟨(k.setRow (fun h => absurd h (by omega)) _).setRow (fun h => absurd h (by omega)) _, ge.1, ge.2, ne, ?_, ?_⟩
  · exact k2.at (setRow_heap _ _ _ _ _ _ hp) (by simpa using ne)
  · exact setRow_heap _ _ _ _ _ _ (k1.at hq (by simpa using ne.symm))

set_option maxRecDepth 100000 in
set_option maxHeartbeats 4000000 in
theorem tree_errors (a : Option Addr) (c : Nat) (ns : List NodeR) (at0 : Int) (w : World) (h : ∀ wr, Kept [] w wr → Nodes wr a c ns) (ht : Tab w) (hat : -9223372036854775808 ≤ at0 ∧ at0 ≤ 9223372036854775807) :
    Calls Tryd.prog 4 #[.slice a ns.length c, .int .i64 at0] w fun e w' => e = .returned (.bool true) ∧ Kept [] w w' := by
  have hmf : ∀ (fn : Fn) (first cap : Array Value) (w : World), (Instr.makeFunc fn first cap).run Tryd.prog w = .ok (.func fn first cap) w := fun _ _ _ _ => rfl
  have hzv := zero_node
  obtain ⟨lb, hlb⟩ : ∃ lb, lb = w.heap.size := ⟨_, rfl⟩
  obtain ⟨W1, hW1⟩ : ∃ W1, W1 = (w.alloc (.cells #[.slice a ns.length c] 22)).alloc (.cells #[.int .i64 at0] 3) := ⟨_, rfl⟩
  have K1 := hid (show Kept [] w W1 by rw [hW1]; exact ((Kept.refl [] w).alloc _).alloc _)
  have V1 := hid (show Vars W1 lb a ns.length c at0 by
    rw [hW1, hlb]; exact ⟨heap_alloc_old (heap_alloc_at rfl), heap_alloc_at (by simp)⟩)
  have hal := hid (alive10 W1 (ht.kept K1.out (by simp)))
  have H := hid h; have HT := hid ht; have HAT := hid hat
  have hmx := (h w (Kept.refl [] w)).max
  have hle := (h w (Kept.refl [] w)).le
  have HW1 := hid hW1
  have hlb' := hid hlb
  clear h ht hat hW1
  go_enter Tryd.func4, Tryd.ntmps4
  go_wp2_with fail
  rw [← HW1.out, ← hlb]
  clear hlb
  refine hal.out.mono ?_
  rintro e w2 ⟨rfl, k2⟩
  have K2 := hid (K1.out.trans k2)
  have V2 := hid (V1.out.kept k2)
  have c1 := V2.out.c1
  clear k2 hal
  by_cases h0 : ns.length = 0
  · rw [h0] at c1 ⊢
    clear h0
    go_wp2
    go_ret
    exact ⟨rfl, K2.out⟩
  have hb0 : ((ns.length : Int) == 0) = false := by rw [beq_eq_false_iff_ne]; omega
  by_cases h30 : 30 < ns.length
  · have hb3 : (30 : Int) < (ns.length : Int) := by omega
    go_wp2
    go_ret
    exact ⟨rfl, K2.out⟩
  have hb3 : ¬ (30 : Int) < (ns.length : Int) := by omega
  have hfw := hid (few10_any a c ns w2 (fun wr hk => H.out wr (K2.out.trans hk)))
  go_wp2_with fail
  refine hfw.out.mono ?_
  rintro e w3 ⟨rfl, k3⟩
  have K3 := hid (K2.out.trans k3)
  have V3 := hid (V2.out.kept k3)
  clear k3 hfw c1
  have c1 := V3.out.c1
  by_cases hF : Few ns
  rotate_left
  · rw [decide_eq_false hF]
    clear hF
    go_wp2
    go_ret
    exact ⟨rfl, K3.out⟩
  rw [decide_eq_true hF]
  have HF := hid hF
  have hck := hid (t_check a c ns w3 (fun wr hk => H.out wr (K3.out.trans hk)))
  clear hF
  go_wp2_with fail
  refine hck.out.mono ?_
  rintro e w4 ⟨rfl, k4⟩
  have K4 := hid (K3.out.trans k4)
  have V4 := hid (V3.out.kept k4)
  clear k4 hck c1
  have c1 := V4.out.c1
  have c2 := V4.out.c2
  have f2 := n_free_row V4.out.idx 0
  obtain ⟨er, her⟩ : ∃ er, er = errL (ns.map NodeR.nd) := ⟨_, rfl⟩
  rw [← her]
  by_cases he : er = 0
  rotate_left
  · have hne : (er != 0) = true := by simpa using he
    clear he her
    go_wp2
    go_ret
    exact ⟨rfl, K4.out⟩
  subst he
  have hE := hid her.symm
  obtain ⟨i, hi, hil⟩ := at_of at0 ns.length (by omega)
  have hwr : IntKind.i64.wrap ((bits .and .i64 at0 255).tmod (ns.length : Int)) = (i : Int) := by rw [hi]; exact IntWalk.i64_in _ (by omega)
  clear her
  go_upto_region 7 with fail
  obtain ⟨w5, hw5⟩ : ∃ w5 : World, w5 = w4.setCell ⟨lb + 1, 0, none⟩ (.int .i64 (i : Int)) := ⟨_, rfl⟩
  try rw [hwr]
  rw [← hw5]
  have K5 := hid (show Kept [] w w5 by rw [hw5]; exact K4.out.setCell (fun h => absurd h (by rw [hlb'.out]; simp)) _)
  have V5 := hid (show Vars w5 lb a ns.length c (i : Int) from ⟨by rw [hw5]; exact heap_setCell_other V4.out.list (by simp), by rw [hw5, Go.heap_setCell_same w4 (lb + 1) 0 _ _ _ V4.out.idx]; rfl⟩)
  clear c1 c2 f2 hw5 hwr hi
  have c1 := V5.out.c1
  have c2 := V5.out.c2
  cases a with
  | none => exact absurd ((H.out w (Kept.refl _ _)).nil rfl) (fun e => by rw [e] at hil; simp at hil)
  | some x =>
  have hnode := (H.out w5 K5.out).at_ x rfl i ns[i] (by simp [hil])
  have hmem := hid (List.getElem_mem hil)
  have hsplit := hid (show ns = ns.take i ++ ns[i] :: ns.drop (i + 1) by rw [← List.drop_eq_getElem_cons hil, List.take_append_drop])
  have hfi := hid (findR_at ns i hil ((errL_zero _).1 hE.out).2.2)
  have htk := hid (show ns.take (i + 1) = ns.take i ++ [ns[i]] from List.take_succ_eq_append_getElem hil)
  have hdk := hid (show ns.drop i = ns[i] :: ns.drop (i + 1) from List.drop_eq_getElem_cons hil)
  generalize ns[i] = n at *
  have h32 := hid hnode.2.2.2.2.2.1
  have hreads := hid hnode.reads
  have hsz := hid (show (Tryd.prog.info? 42).map (·.size) = some n.cells.length by rw [node_size n h32.out]; exact node_info)
  have hone := hid (node_one n)
  have hrd := hid (fun (v : World) (hv : Kept [] w5 v) => ((H.out v (K5.out.trans hv)).at_ x rfl i n (by rw [hsplit.out]; simp [Nat.min_eq_left (Nat.le_of_lt hil)])).reads)
  clear hnode
  have hEA := hid (show errL ((ns.take i).map NodeR.nd ++ n.nd :: (ns.drop (i + 1)).map NodeR.nd) = 0 by
    rw [← List.map_cons, ← List.map_append, ← hsplit.out]; exact hE.out)
  have hset := hid (fun m : NodeR => show (ns.set i m).map NodeR.nd = (ns.take i).map NodeR.nd ++ m.nd :: (ns.drop (i + 1)).map NodeR.nd by rw [set_split ns i hil m]; simp)
  have ht24 := hid (show errL ((ns.take (i + 1) ++ ns.drop i).map NodeR.nd) = 24 by
    rw [htk.out, hdk.out, List.map_append, List.map_append, List.map_cons]
    refine err_twice hEA.out ?_
    have h1 := congrArg List.length hsplit.out
    simp at h1 ⊢
    omega)
  have hl0 := hid (show errL ((ns.take i ++ ns.drop (i + 1)).map NodeR.nd) = 0 by rw [List.map_append]; exact err_less hEA.out)
  have hgone := hid (show findR (ns.take i ++ ns.drop (i + 1)) n.nd.name = none by
    unfold findR
    refine List.find?_eq_none.2 (fun m hm => ?_)
    have := name_gone hEA.out m.nd (by rw [← List.map_append]; exact List.mem_map_of_mem hm)
    simpa using this)
  go_cut [6, 7] (fun s6 s7 wx => ∃ p q : Nat, s6 = .pointer (some ⟨p, 0, none⟩) ∧ s7 = .pointer (some ⟨q, 0, none⟩) ∧ Hid (Kept [] w5 wx ∧ w5.heap.size ≤ p ∧ w5.heap.size ≤ q ∧ p ≠ q ∧ NAt wx p n ∧ NAt wx q n))
  case first =>
    refine wp_region_held_drew (S := Kept [] w5) (by kernel_rfl) (Kept.refl _ _).drew (fun hH => ?_)
    refine takeH 0 (.slice (some x) ns.length c) rfl (by kernel_rfl) (by kernel_rfl) (by kernel_rfl) (fun _ _ _ h => h) (by rfl) (fun v hv => by have h := (V5.out.kept hv).c1; go_simp) hH ?_
    simp only [Act.put, List.setIfInBounds_toArray, List.set_cons_succ, List.set_cons_zero]
    refine takeH 1 (.int .i64 (i : Int)) rfl (by kernel_rfl) (by kernel_rfl) (by kernel_rfl) (fun _ _ _ h => h) (by rfl) (fun v hv => by have h := (V5.out.kept hv).c2; go_simp) hH ?_
    simp only [Act.put, List.setIfInBounds_toArray, List.set_cons_succ, List.set_cons_zero]
    refine takeH 2 (.pointer (some (x.add (i * 36)))) rfl (by kernel_rfl) (by kernel_rfl) (by kernel_rfl) (fun _ _ _ h => h) (by rfl) (fun v hv => by go_simp) hH ?_
    simp only [Act.put, List.setIfInBounds_toArray, List.set_cons_succ, List.set_cons_zero]
    refine takeH 3 (.agg n.cells.toArray) rfl (by kernel_rfl) (by kernel_rfl) (by kernel_rfl) (fun _ _ _ h => h) (by rfl) (fun v hv => by have h := run_loadVar_cells (P := Tryd.prog) v 42 (x.add (i * 36)) n.cells _ Tryd.underlying42 rfl hsz.out (hrd.out v hv); unfold execOp; simp [Instr.loadAt, Instr.sureAddr, Sem.run_bind, Sem.run_pure, Result.andThen_ok, Act.eval, h]) hH ?_
    simp only [Act.put, List.setIfInBounds_toArray, List.set_cons_succ, List.set_cons_zero]
    refine takeH 4 (.slice (some x) ns.length c) rfl (by kernel_rfl) (by kernel_rfl) (by kernel_rfl) (fun _ _ _ h => h) (by rfl) (fun v hv => by have h := (V5.out.kept hv).c1; go_simp) hH ?_
    simp only [Act.put, List.setIfInBounds_toArray, List.set_cons_succ, List.set_cons_zero]
    refine takeH 5 (.int .i64 (i : Int)) rfl (by kernel_rfl) (by kernel_rfl) (by kernel_rfl) (fun _ _ _ h => h) (by rfl) (fun v hv => by have h := (V5.out.kept hv).c2; go_simp) hH ?_
    simp only [Act.put, List.setIfInBounds_toArray, List.set_cons_succ, List.set_cons_zero]
    refine takeH 6 (.pointer (some (x.add (i * 36)))) rfl (by kernel_rfl) (by kernel_rfl) (by kernel_rfl) (fun _ _ _ h => h) (by rfl) (fun v hv => by go_simp) hH ?_
    simp only [Act.put, List.setIfInBounds_toArray, List.set_cons_succ, List.set_cons_zero]
    refine takeH 7 (.agg n.cells.toArray) rfl (by kernel_rfl) (by kernel_rfl) (by kernel_rfl) (fun _ _ _ h => h) (by rfl) (fun v hv => by have h := run_loadVar_cells (P := Tryd.prog) v 42 (x.add (i * 36)) n.cells _ Tryd.underlying42 rfl hsz.out (hrd.out v hv); unfold execOp; simp [Instr.loadAt, Instr.sureAddr, Sem.run_bind, Sem.run_pure, Result.andThen_ok, Act.eval, h]) hH ?_
    simp only [Act.put, List.setIfInBounds_toArray, List.set_cons_succ, List.set_cons_zero]
    obtain ⟨U, hU⟩ : ∃ U, U = w5.drew := ⟨_, rfl⟩
    have kU : Kept [] w5 U := hU ▸ (Kept.refl _ _).drew
    rw [← hU]
    clear hU hH
    obtain ⟨U1, hU1⟩ : ∃ U1, U1 = U.alloc (.cells zNode.toArray 42) := ⟨_, rfl⟩
    obtain ⟨U2, hU2⟩ : ∃ U2, U2 = U1.alloc (.cells zNode.toArray 42) := ⟨_, rfl⟩
    have kU1 : Kept [] w5 U1 := hU1 ▸ kU.alloc _
    have kU2 : Kept [] w5 U2 := hU2 ▸ kU1.alloc _
    obtain ⟨b0, hb0'⟩ : ∃ b, b = U.heap.size := ⟨_, rfl⟩
    obtain ⟨b1, hb1'⟩ : ∃ b, b = U1.heap.size := ⟨_, rfl⟩
    have s1 := hid (show b1 = b0 + 1 by rw [hb1', hU1, hb0']; simp)
    have z0 := hid (show U2.heap[b0]? = some (.cells zNode.toArray 42 (0, 0)) by rw [hU2, hU1]; exact heap_alloc_old (heap_alloc_at hb0'))
    have z1 := hid (show U2.heap[b1]? = some (.cells zNode.toArray 42 (0, 0)) by rw [hU2]; exact heap_alloc_at hb1')
    have r0 := hid (show nalloc? U b0 U1 from ⟨hb0', hU1⟩)
    have r1 := hid (show nalloc? U1 b1 U2 from ⟨hb1', hU2⟩)
    have hS0 := hid (show w5.heap.size ≤ b0 by rw [hb0']; exact kU.size)
    have KU1 := hid kU1; have KU2 := hid kU2
    clear hU1 hU2 hb0' hb1' kU1 kU2 kU
    refine bothH 8 9 rfl rfl (by kernel_rfl) (by rfl) (by rfl) (.pointer (some ⟨b0, 0, none⟩)) U1 (by obtain ⟨e1, e2⟩ := r0.out; subst e1; subst e2; go_simp) KU1.out (.pointer (some ⟨b0, 0, none⟩)) U1 (by obtain ⟨e1, e2⟩ := r0.out; subst e1; subst e2; go_simp) KU1.out ?_ ?_
    · simp only [Act.put, List.setIfInBounds_toArray, List.set_cons_succ, List.set_cons_zero]
      refine runH 9 rfl (by kernel_rfl) (by rfl) (.pointer (some ⟨b1, 0, none⟩)) U2 (by obtain ⟨e1, e2⟩ := r1.out; subst e1; subst e2; go_simp) KU2.out ?_
      simp only [Act.put, List.setIfInBounds_toArray, List.set_cons_succ, List.set_cons_zero]
      have hD := hid (duo_of (n := n) h32.out KU2.out (p := b0) (q := b1) (by have := hS0.out; have := s1.out; omega) (by have := s1.out; omega) z0.out z1.out)
      have y1 := hid (st_node (n := n) z0.out h32.out)
      have y2 := hid (st_node (n := n) (((Kept.refl [b0] U2).setRow (g := b0) (fun _ => by simp) n.cells.toArray).at z1.out (by have := s1.out; simp; omega)) h32.out)
      refine writeH 10 rfl (by kernel_rfl) (by rfl) (U2.setRow b0 n.cells.toArray) (by have h := y1.out; unfold execOp; simp [Act.eval, Instr.storeAt, Instr.sureAddr, Sem.run_bind, Sem.run_pure, Result.andThen_ok, h]) (KU2.out.setRow (fun h => absurd h (by have := hS0.out; have := s1.out; omega)) _) ?_
      simp only [Act.put, List.setIfInBounds_toArray, List.set_cons_succ, List.set_cons_zero]
      refine writeH 11 rfl (by kernel_rfl) (by rfl) ((U2.setRow b0 n.cells.toArray).setRow b1 n.cells.toArray) (by have h := y2.out; unfold execOp; simp [Act.eval, Instr.storeAt, Instr.sureAddr, Sem.run_bind, Sem.run_pure, Result.andThen_ok, h]) hD.out.1 ?_
      simp only [Act.put, List.setIfInBounds_toArray, List.set_cons_succ, List.set_cons_zero]
      refine wpAnyH_done (by kernel_rfl) ?_ _
      generalize ((U2.setRow b0 n.cells.toArray).setRow b1 n.cells.toArray) = wt at *
      go_wp2_with fail
      go_meet
      exact ⟨b0, b1, rfl, rfl, hD⟩
    · simp only [Act.put, List.setIfInBounds_toArray, List.set_cons_succ, List.set_cons_zero]
      refine runH 8 rfl (by kernel_rfl) (by rfl) (.pointer (some ⟨b1, 0, none⟩)) U2 (by obtain ⟨e1, e2⟩ := r1.out; subst e1; subst e2; go_simp) KU2.out ?_
      simp only [Act.put, List.setIfInBounds_toArray, List.set_cons_succ, List.set_cons_zero]
      have hD := hid (duo_of (n := n) h32.out KU2.out (p := b1) (q := b0) (by have := hS0.out; have := s1.out; omega) (by have := s1.out; omega) z1.out z0.out)
      have y1 := hid (st_node (n := n) z1.out h32.out)
      have y2 := hid (st_node (n := n) (((Kept.refl [b1] U2).setRow (g := b1) (fun _ => by simp) n.cells.toArray).at z0.out (by have := s1.out; simp; omega)) h32.out)
      refine writeH 10 rfl (by kernel_rfl) (by rfl) (U2.setRow b1 n.cells.toArray) (by have h := y1.out; unfold execOp; simp [Act.eval, Instr.storeAt, Instr.sureAddr, Sem.run_bind, Sem.run_pure, Result.andThen_ok, h]) (KU2.out.setRow (fun h => absurd h (by have := hS0.out; have := s1.out; omega)) _) ?_
      simp only [Act.put, List.setIfInBounds_toArray, List.set_cons_succ, List.set_cons_zero]
      refine writeH 11 rfl (by kernel_rfl) (by rfl) ((U2.setRow b1 n.cells.toArray).setRow b0 n.cells.toArray) (by have h := y2.out; unfold execOp; simp [Act.eval, Instr.storeAt, Instr.sureAddr, Sem.run_bind, Sem.run_pure, Result.andThen_ok, h]) hD.out.1 ?_
      simp only [Act.put, List.setIfInBounds_toArray, List.set_cons_succ, List.set_cons_zero]
      refine wpAnyH_done (by kernel_rfl) ?_ _
      generalize ((U2.setRow b1 n.cells.toArray).setRow b0 n.cells.toArray) = wt at *
      go_wp2_with fail
      go_meet
      exact ⟨b1, b0, rfl, rfl, hD⟩
  case rest =>
    obtain ⟨p, q, rfl, rfl, hD⟩ := hcut
    obtain ⟨kc, gep, geq, hpq, hP, hQ⟩ := hD.out
    have gp0 := hP.cell 0 _ n.c0
    have fp0 := n_free_row hP 0
    obtain ⟨w6, hw6⟩ : ∃ w6 : World, w6 = wc.setCell ⟨p, 0, none⟩ (.string ⟨#[97, 47, 98]⟩) := ⟨_, rfl⟩
    have k6 : Kept [p] wc w6 := by rw [hw6]; exact (Kept.refl _ _).setCell (fun _ => by simp) _
    obtain ⟨mP, hmP⟩ : ∃ mP : NodeR, mP = { n with name := ⟨#[97, 47, 98]⟩ } := ⟨_, rfl⟩
    have hP6 := hid (show NAt w6 p mP by unfold NAt; rw [hw6, Go.heap_setCell_same wc p 0 _ _ _ hP, hmP]; rfl)
    have hQ6 := hid (hQ.kept k6 (by simpa using hpq.symm))
    have K6 := hid (show Kept [] w6 w6 from Kept.refl _ _)
    have k56 := hid (show Kept [] w5 w6 by rw [hw6]; exact kc.setCell (fun h => absurd h (by show ¬ p < w5.heap.size; omega)) _)
    have gq1 : (wc.setCell ⟨p, 0, none⟩ (.string ⟨#[97, 47, 98]⟩)).cell? ⟨q, 1, none⟩ = some (.bool n.dir) := by rw [← hw6]; exact hQ6.out.cell 1 _ n.c1
    have hnb := hid (show -9223372036854775808 ≤ n.size ∧ n.size ≤ 9223372036854775807 from ((H.out w (Kept.refl _ _)).ok n hmem.out).2.2)
    have HW6 := hid hw6
    have hid1 := build_idA
    have Hpq := hid hpq; have Hgeq := hid geq
    obtain ⟨d, hd⟩ : ∃ d, d = n.dir := ⟨_, rfl⟩
    have HDr := hid hd
    rw [← hd] at gq1
    clear hd kc gep geq hpq hP hQ k6 hw6
    go_upto_if 50 with fail
    rw [← HW6.out]
    clear gq1 gp0 fp0
    go_cut [4] (fun s4 wx => s4 = .bool false ∧ ∃ mQ : NodeR, Hid (NAt wx q mQ ∧ mQ.nd.name = n.nd.name ∧ mQ.nd.formed = false ∧ mQ.sub.length = 32 ∧ mQ.pa = n.pa ∧ mQ.pc = n.pc ∧ mQ.parts = n.parts ∧ -9223372036854775808 ≤ mQ.size ∧ mQ.size ≤ 9223372036854775807 ∧ NAt wx p mP ∧ Kept [] w5 wx))
    case first =>
      cases d
      · go_wp2_with (refine wpList_store_at rfl 40 (.tmp 53) (.tmp 52) rfl q 4 (idA.map B) rfl rfl 42 n.cells hQ6.out (by kernel_rfl) (by rw [node_size n h32.out]; decide) (by intro v hv; obtain ⟨b, _, rfl⟩ := List.mem_map.1 hv; rfl) ?_; refine halt ?_)
        obtain ⟨mQ, hmQ⟩ : ∃ mQ : NodeR, mQ = { n with sub := idA } := ⟨_, rfl⟩
        rw [show splice n.cells 4 (idA.map B) = mQ.cells by rw [hmQ]; unfold NodeR.cells splice; simp [h32.out, idA]]
        obtain ⟨w7, hw7⟩ : ∃ w7 : World, w7 = w6.setRow q mQ.cells.toArray := ⟨_, rfl⟩
        rw [← hw7]
        refine Halt.mk ?_
        have hrel := hid (show NAt w7 q mQ ∧ mQ.nd.name = n.nd.name ∧ mQ.nd.formed = false ∧ mQ.sub.length = 32 ∧ mQ.pa = n.pa ∧ mQ.pc = n.pc ∧ mQ.parts = n.parts ∧ -9223372036854775808 ≤ mQ.size ∧ mQ.size ≤ 9223372036854775807 ∧ NAt w7 p mP ∧ Kept [] w5 w7 from by
          refine ⟨by rw [hw7]; exact setRow_heap _ _ _ _ _ _ hQ6.out, by rw [hmQ]; rfl, ?_, by rw [hmQ]; rfl, by rw [hmQ], by rw [hmQ], by rw [hmQ], by rw [hmQ]; exact hnb.out.1, by rw [hmQ]; exact hnb.out.2, ?_, ?_⟩
          · rw [hmQ, Nd.formed_def]
            show (if n.dir = true then _ else _) = false
            rw [← HDr.out, if_neg (by simp)]
            show (decide (0 ≤ n.size) && decide (idA = zid)) = false
            rw [show decide (idA = zid) = false by decide]; simp
          · exact hP6.out.kept (L := [q]) (by rw [hw7]; exact (Kept.refl _ _).setRow (fun _ => by simp) _) (by simpa using Hpq.out)
          · rw [hw7]; exact k56.out.setRow (fun h => absurd h (by have := Hgeq.out; omega)) _)
        clear hw7 hmQ
        go_wp2
        go_meet
        case rel => exact ⟨rfl, mQ, hrel⟩
      · have gq2 := hQ6.out.cell 2 _ n.c2
        have fq2 := n_free_row hQ6.out 2
        obtain ⟨mQ, hmQ⟩ : ∃ mQ : NodeR, mQ = { n with size := 1 } := ⟨_, rfl⟩
        have hrel := hid (fun (w7 : World) (hw7 : w7 = w6.setCell ⟨q, 2, none⟩ (.int .i64 1)) => hid (show NAt w7 q mQ ∧ mQ.nd.name = n.nd.name ∧ mQ.nd.formed = false ∧ mQ.sub.length = 32 ∧ mQ.pa = n.pa ∧ mQ.pc = n.pc ∧ mQ.parts = n.parts ∧ -9223372036854775808 ≤ mQ.size ∧ mQ.size ≤ 9223372036854775807 ∧ NAt w7 p mP ∧ Kept [] w5 w7 from by
          refine ⟨by unfold NAt; rw [hw7, Go.heap_setCell_same w6 q 2 _ _ _ hQ6.out, hmQ]; rfl, by rw [hmQ]; rfl, ?_, by rw [hmQ]; exact h32.out, by rw [hmQ], by rw [hmQ], by rw [hmQ], by rw [hmQ]; show (-9223372036854775808 : Int) ≤ 1; decide, by rw [hmQ]; show (1 : Int) ≤ 9223372036854775807; decide, ?_, ?_⟩
          · rw [hmQ, Nd.formed_def]
            show (if n.dir = true then _ else _) = false
            rw [← HDr.out, if_pos rfl]
            show (decide ((1 : Int) = 0) && n.parts.isEmpty) = false
            rfl
          · exact hP6.out.kept (L := [q]) (by rw [hw7]; exact (Kept.refl _ _).setCell (fun _ => by simp) _) (by simpa using Hpq.out)
          · rw [hw7]; exact k56.out.setCell (fun h => absurd h (by have := Hgeq.out; show ¬ q < w5.heap.size; omega)) _))
        clear hmQ
        go_wp2
        go_meet
        case rel => exact ⟨rfl, mQ, hrel.out _ rfl⟩
    case rest =>
      obtain ⟨rfl, mQ, hM⟩ := hcut
      have V12 := hid (V5.out.kept hM.out.2.2.2.2.2.2.2.2.2.2)
      have K12 := hid (K5.out.trans hM.out.2.2.2.2.2.2.2.2.2.2)
      obtain ⟨j0, hj0, hy0, hy1, hy2⟩ := info_parts node_zero'
      have hn30 : ns.length ≤ 30 := by omega
      have hci : ¬ c = i := by omega
      have hi1 : i + 1 ≤ ns.length := hil
      have hww : IntKind.i64.wrap ((i : Int) + 1) = (i : Int) + 1 := IntWalk.i64_in _ (by omega)
      obtain ⟨wd, hwd⟩ : ∃ wd, wd = wc := ⟨_, rfl⟩
      rw [← hwd] at hM V12 K12
      go_upto_region 12 with fail
      rw [← hwd]
      clear hwd
      go_cut [8] (fun s8 wx => ∃ (a8 : Option Addr) (c8 : Nat), s8 = .slice a8 (ns.length + 1) c8 ∧ Hid (Kept [] wd wx ∧ ∀ wv, Kept [] wx wv → Nodes wv a8 c8 (ns.take (i + 1) ++ ns.drop i)))
      case first =>
        refine wp_region_held_drew (S := Kept [] wd) (by kernel_rfl) (Kept.refl _ _).drew (fun hH => ?_)
        refine takeH 1 (.slice (some x) ns.length c) rfl (by kernel_rfl) (by kernel_rfl) (by kernel_rfl) (fun _ _ _ h => h) (by rfl) (fun v hv => by have h := (V12.out.kept hv).c1; go_simp) hH ?_
        simp only [Act.put, List.setIfInBounds_toArray, List.set_cons_succ, List.set_cons_zero]
        refine takeH 2 (.int .i64 (i : Int)) rfl (by kernel_rfl) (by kernel_rfl) (by kernel_rfl) (fun _ _ _ h => h) (by rfl) (fun v hv => by have h := (V12.out.kept hv).c2; go_simp) hH ?_
        simp only [Act.put, List.setIfInBounds_toArray, List.set_cons_succ, List.set_cons_zero]
        refine takeH 3 (.int .i64 ((i : Int) + 1)) rfl (by kernel_rfl) (by kernel_rfl) (by kernel_rfl) (fun _ _ _ h => h) (by rfl) (fun v hv => by go_simp) hH ?_
        simp only [Act.put, List.setIfInBounds_toArray, List.set_cons_succ, List.set_cons_zero]
        refine takeH 4 (.slice (some x) (i + 1) c) rfl (by kernel_rfl) (by kernel_rfl) (by kernel_rfl) (fun _ _ _ h => h) (by rfl) (fun v hv => by go_simp; intro hh; exact absurd (hh (by omega)) (by omega)) hH ?_
        simp only [Act.put, List.setIfInBounds_toArray, List.set_cons_succ, List.set_cons_zero]
        refine takeH 6 (.slice (some x) ns.length c) rfl (by kernel_rfl) (by kernel_rfl) (by kernel_rfl) (fun _ _ _ h => h) (by rfl) (fun v hv => by have h := (V12.out.kept hv).c1; go_simp) hH ?_
        simp only [Act.put, List.setIfInBounds_toArray, List.set_cons_succ, List.set_cons_zero]
        refine takeH 7 (.int .i64 (i : Int)) rfl (by kernel_rfl) (by kernel_rfl) (by kernel_rfl) (fun _ _ _ h => h) (by rfl) (fun v hv => by have h := (V12.out.kept hv).c2; go_simp) hH ?_
        simp only [Act.put, List.setIfInBounds_toArray, List.set_cons_succ, List.set_cons_zero]
        refine takeH 8 (.slice (some (x.add (i * 36))) (ns.length - i) (c - i)) rfl (by kernel_rfl) (by kernel_rfl) (by kernel_rfl) (fun _ _ _ h => h) (by rfl) (fun v hv => by go_simp; intro hh; omega) hH ?_
        simp only [Act.put, List.setIfInBounds_toArray, List.set_cons_succ, List.set_cons_zero]
        obtain ⟨U, hU⟩ : ∃ U, U = wd.drew := ⟨_, rfl⟩
        have kU : Kept [] wd U := hU ▸ (Kept.refl _ _).drew
        rw [← hU]
        clear hU hH
        obtain ⟨U1, hU1⟩ : ∃ U1, U1 = U.alloc (.cells #[] 42) := ⟨_, rfl⟩
        have KU1 := hid (show Kept [] wd U1 from hU1 ▸ kU.alloc _)
        have hr0 := hid (show U1.ownsRow wd.heap.size 42 36 (.slice (some ⟨U.heap.size, 0, none⟩) 0 0) 0 [] from row0 (by rw [hU1]; exact heap_alloc_at rfl) _ kU.size)
        refine runH 0 rfl (by kernel_rfl) (by rfl) (.slice (some ⟨U.heap.size, 0, none⟩) 0 0) U1 (by subst hU1; go_simp) KU1.out ?_
        simp only [Act.put, List.setIfInBounds_toArray, List.set_cons_succ, List.set_cons_zero]
        have hA := (H.out U1 (K12.out.trans KU1.out)).take_ (i + 1)
        have hAl : (ns.take (i + 1)).length = i + 1 := by rw [List.length_take]; omega
        refine appendKH 5 rfl (by kernel_rfl) rfl (.tmp 54) (.tmp 58) 22 rfl wd.heap.size 42 j0 _ 36 88 Tryd.underlying22 hj0 hy0 hy1 hy2 (by rw [Value.cells, List.size_toArray, zNode_len]) (by decide) _ 0 [] rfl hr0.out (.slice (some x) (i + 1) c) (i + 1) ((ns.take (i + 1)).flatMap c36) rfl (Or.inr ⟨x, c, rfl, hA.cells x rfl⟩) (by rw [flat_len c36 36 c36_len, hAl]) (c36_one _) (by unfold maxLen; omega) (by omega) KU1.out.size ?_
        intro b2 c2' U2 hown2 hgrow2 _ _
        have KU2 := hid (show Kept [] wd U2 from KU1.out.trans' (Kept.of_row hgrow2) (fun y hy hm => by rw [Option.mem_toList] at hm; have := (own_block_lt hr0.out hm).1; omega))
        refine ⟨KU2.out, ?_⟩
        simp only [Act.put, List.setIfInBounds_toArray, List.set_cons_succ, List.set_cons_zero]
        simp only [Nat.zero_add, List.nil_append] at hown2 ⊢
        have ho2 := hid hown2
        have hB := (H.out U2 (K12.out.trans KU2.out)).drop_ i (by omega)
        have hBl : (ns.drop i).length = ns.length - i := by rw [List.length_drop]
        clear hown2 hgrow2 hr0 hA
        refine appendKH 9 rfl (by kernel_rfl) rfl (.tmp 59) (.tmp 62) 22 rfl wd.heap.size 42 j0 _ 36 88 Tryd.underlying22 hj0 hy0 hy1 hy2 (by rw [Value.cells, List.size_toArray, zNode_len]) (by decide) (.slice b2 (i + 1) c2') (i + 1) _ rfl ho2.out (.slice (some (x.add (i * 36))) (ns.length - i) (c - i)) (ns.length - i) ((ns.drop i).flatMap c36) rfl (Or.inr ⟨x.add (i * 36), c - i, rfl, hB.cells _ rfl⟩) (by rw [flat_len c36 36 c36_len, hBl]) (c36_one _) (by unfold maxLen; omega) (by omega) KU2.out.size ?_
        intro b3 c3' U3 hown3 hgrow3 _ _
        have KU3 := hid (show Kept [] wd U3 from KU2.out.trans' (Kept.of_row hgrow3) (fun y hy hm => by rw [Option.mem_toList] at hm; have := (own_block_lt ho2.out hm).1; omega))
        refine ⟨KU3.out, ?_⟩
        simp only [Act.put, List.setIfInBounds_toArray, List.set_cons_succ, List.set_cons_zero]
        have hl3 : i + 1 + (ns.length - i) = ns.length + 1 := by omega
        have hT : (ns.take (i + 1) ++ ns.drop i).length = ns.length + 1 := by rw [List.length_append, hAl, hBl, hl3]
        rw [← List.flatMap_append, hl3] at hown3
        rw [hl3]
        have hres := hid (show Kept [] wd U3 ∧ ∀ wv, Kept [] U3 wv → Nodes wv b3 c3' (ns.take (i + 1) ++ ns.drop i) from ⟨KU3.out, fun wv hv => tnodes_of_row (ns := ns.take (i + 1) ++ ns.drop i) (fun n hn => by
          rcases List.mem_append.1 hn with hn | hn
          · exact (H.out wv (K12.out.trans (KU3.out.trans hv))).ok n (List.mem_of_mem_take hn)
          · exact (H.out wv (K12.out.trans (KU3.out.trans hv))).ok n (List.mem_of_mem_drop hn)) (by rw [hT]; exact hv.owns hown3 (by simp))⟩)
        clear hown3 hgrow3 ho2 hB
        refine takeH 10 (.slice b3 (ns.length + 1) c3') rfl (by kernel_rfl) (by kernel_rfl) (by kernel_rfl) (fun _ _ _ h => h) (by rfl) (fun v hv => by go_simp) KU3.out ?_
        simp only [Act.put, List.setIfInBounds_toArray, List.set_cons_succ, List.set_cons_zero]
        refine wpAnyH_done (by kernel_rfl) ?_ _
        go_wp2_with fail
        go_meet
        exact ⟨b3, c3', rfl, hres⟩
      case rest =>
        obtain ⟨a8, c8, rfl, hT8⟩ := hcut
        have V13 := hid (V12.out.kept hT8.out.1)
        have K13 := hid (K12.out.trans hT8.out.1)
        obtain ⟨we, hwe⟩ : ∃ we, we = wc := ⟨_, rfl⟩
        rw [← hwe] at hT8 V13 K13
        go_upto_region 13 with fail
        rw [← hwe]
        clear hwe
        go_cut [9] (fun s9 wx => ∃ (a9 : Option Addr) (c9 : Nat), s9 = .slice a9 (ns.length - 1) c9 ∧ Hid (Kept [] we wx ∧ ∀ wv, Kept [] wx wv → Nodes wv a9 c9 (ns.take i ++ ns.drop (i + 1))))
        case first =>
          rcases Nat.decEq c (i + 1) with hc1 | hc1
          · have hc1' : ¬ c = i + 1 := hc1
            refine wp_region_held_drew (S := Kept [] we) (by kernel_rfl) (Kept.refl _ _).drew (fun hH => ?_)
            refine takeH 1 (.slice (some x) ns.length c) rfl (by kernel_rfl) (by kernel_rfl) (by kernel_rfl) (fun _ _ _ h => h) (by rfl) (fun v hv => by have h := (V13.out.kept hv).c1; go_simp) hH ?_
            simp only [Act.put, List.setIfInBounds_toArray, List.set_cons_succ, List.set_cons_zero]
            refine takeH 2 (.int .i64 (i : Int)) rfl (by kernel_rfl) (by kernel_rfl) (by kernel_rfl) (fun _ _ _ h => h) (by rfl) (fun v hv => by have h := (V13.out.kept hv).c2; go_simp) hH ?_
            simp only [Act.put, List.setIfInBounds_toArray, List.set_cons_succ, List.set_cons_zero]
            refine takeH 3 (.slice (some x) i c) rfl (by kernel_rfl) (by kernel_rfl) (by kernel_rfl) (fun _ _ _ h => h) (by rfl) (fun v hv => by go_simp; intros; omega) hH ?_
            simp only [Act.put, List.setIfInBounds_toArray, List.set_cons_succ, List.set_cons_zero]
            refine takeH 5 (.slice (some x) ns.length c) rfl (by kernel_rfl) (by kernel_rfl) (by kernel_rfl) (fun _ _ _ h => h) (by rfl) (fun v hv => by have h := (V13.out.kept hv).c1; go_simp) hH ?_
            simp only [Act.put, List.setIfInBounds_toArray, List.set_cons_succ, List.set_cons_zero]
            refine takeH 6 (.int .i64 (i : Int)) rfl (by kernel_rfl) (by kernel_rfl) (by kernel_rfl) (fun _ _ _ h => h) (by rfl) (fun v hv => by have h := (V13.out.kept hv).c2; go_simp) hH ?_
            simp only [Act.put, List.setIfInBounds_toArray, List.set_cons_succ, List.set_cons_zero]
            refine takeH 7 (.int .i64 ((i : Int) + 1)) rfl (by kernel_rfl) (by kernel_rfl) (by kernel_rfl) (fun _ _ _ h => h) (by rfl) (fun v hv => by go_simp) hH ?_
            simp only [Act.put, List.setIfInBounds_toArray, List.set_cons_succ, List.set_cons_zero]
            refine takeH 8 (.slice (some (x.add ((i + 1) * 36))) (ns.length - (i + 1)) (c - (i + 1))) rfl (by kernel_rfl) (by kernel_rfl) (by kernel_rfl) (fun _ _ _ h => h) (by rfl) (fun v hv => by go_simp; intros; omega) hH ?_
            simp only [Act.put, List.setIfInBounds_toArray, List.set_cons_succ, List.set_cons_zero]
            obtain ⟨U, hU⟩ : ∃ U, U = we.drew := ⟨_, rfl⟩
            have kU : Kept [] we U := hU ▸ (Kept.refl _ _).drew
            rw [← hU]
            clear hU hH
            obtain ⟨U1, hU1⟩ : ∃ U1, U1 = U.alloc (.cells #[] 42) := ⟨_, rfl⟩
            have KU1 := hid (show Kept [] we U1 from hU1 ▸ kU.alloc _)
            have hr0 := hid (show U1.ownsRow we.heap.size 42 36 (.slice (some ⟨U.heap.size, 0, none⟩) 0 0) 0 [] from row0 (by rw [hU1]; exact heap_alloc_at rfl) _ kU.size)
            refine runH 0 rfl (by kernel_rfl) (by rfl) (.slice (some ⟨U.heap.size, 0, none⟩) 0 0) U1 (by subst hU1; go_simp) KU1.out ?_
            simp only [Act.put, List.setIfInBounds_toArray, List.set_cons_succ, List.set_cons_zero]
            have hA := (H.out U1 (K13.out.trans KU1.out)).take_ i
            have hAl : (ns.take i).length = i := by rw [List.length_take]; omega
            refine appendKH 4 rfl (by kernel_rfl) rfl (.tmp 64) (.tmp 67) 22 rfl we.heap.size 42 j0 _ 36 88 Tryd.underlying22 hj0 hy0 hy1 hy2 (by rw [Value.cells, List.size_toArray, zNode_len]) (by decide) _ 0 [] rfl hr0.out (.slice (some x) i c) i ((ns.take i).flatMap c36) rfl (Or.inr ⟨x, _, rfl, hA.cells x rfl⟩) (by rw [flat_len c36 36 c36_len, hAl]) (c36_one _) (by unfold maxLen; omega) (by omega) KU1.out.size ?_
            intro b2 c2' U2 hown2 hgrow2 _ _
            have KU2 := hid (show Kept [] we U2 from KU1.out.trans' (Kept.of_row hgrow2) (fun y hy hm => by rw [Option.mem_toList] at hm; have := (own_block_lt hr0.out hm).1; omega))
            refine ⟨KU2.out, ?_⟩
            simp only [Act.put, List.setIfInBounds_toArray, List.set_cons_succ, List.set_cons_zero]
            simp only [Nat.zero_add, List.nil_append] at hown2 ⊢
            have ho2 := hid hown2
            have hB := (H.out U2 (K13.out.trans KU2.out)).drop_ (i + 1) (by omega)
            have hBl : (ns.drop (i + 1)).length = ns.length - (i + 1) := by rw [List.length_drop]
            clear hown2 hgrow2 hr0 hA
            refine appendKH 9 rfl (by kernel_rfl) rfl (.tmp 68) (.tmp 72) 22 rfl we.heap.size 42 j0 _ 36 88 Tryd.underlying22 hj0 hy0 hy1 hy2 (by rw [Value.cells, List.size_toArray, zNode_len]) (by decide) (.slice b2 i c2') i _ rfl ho2.out (.slice (some (x.add ((i + 1) * 36))) (ns.length - (i + 1)) (c - (i + 1))) (ns.length - (i + 1)) ((ns.drop (i + 1)).flatMap c36) rfl (Or.inr ⟨x.add ((i + 1) * 36), c - (i + 1), rfl, hB.cells _ rfl⟩) (by rw [flat_len c36 36 c36_len, hBl]) (c36_one _) (by unfold maxLen; omega) (by omega) KU2.out.size ?_
            intro b3 c3' U3 hown3 hgrow3 _ _
            have KU3 := hid (show Kept [] we U3 from KU2.out.trans' (Kept.of_row hgrow3) (fun y hy hm => by rw [Option.mem_toList] at hm; have := (own_block_lt ho2.out hm).1; omega))
            refine ⟨KU3.out, ?_⟩
            simp only [Act.put, List.setIfInBounds_toArray, List.set_cons_succ, List.set_cons_zero]
            have hl3 : i + (ns.length - (i + 1)) = ns.length - 1 := by omega
            have hT : (ns.take i ++ ns.drop (i + 1)).length = ns.length - 1 := by rw [List.length_append, hAl, hBl, hl3]
            rw [← List.flatMap_append, hl3] at hown3
            rw [hl3]
            have hres := hid (show Kept [] we U3 ∧ ∀ wv, Kept [] U3 wv → Nodes wv b3 c3' (ns.take i ++ ns.drop (i + 1)) from ⟨KU3.out, fun wv hv => tnodes_of_row (ns := ns.take i ++ ns.drop (i + 1)) (fun n hn => by
              rcases List.mem_append.1 hn with hn | hn
              · exact (H.out wv (K13.out.trans (KU3.out.trans hv))).ok n (List.mem_of_mem_take hn)
              · exact (H.out wv (K13.out.trans (KU3.out.trans hv))).ok n (List.mem_of_mem_drop hn)) (by rw [hT]; exact hv.owns hown3 (by simp))⟩)
            clear hown3 hgrow3 ho2
            refine takeH 10 (.slice b3 (ns.length - 1) c3') rfl (by kernel_rfl) (by kernel_rfl) (by kernel_rfl) (fun _ _ _ h => h) (by rfl) (fun v hv => by go_simp) KU3.out ?_
            simp only [Act.put, List.setIfInBounds_toArray, List.set_cons_succ, List.set_cons_zero]
            refine wpAnyH_done (by kernel_rfl) ?_ _
            go_wp2_with fail
            go_meet
            exact ⟨b3, c3', rfl, hres⟩
          · subst hc1
            refine wp_region_held_drew (S := Kept [] we) (by kernel_rfl) (Kept.refl _ _).drew (fun hH => ?_)
            refine takeH 1 (.slice (some x) ns.length (i + 1)) rfl (by kernel_rfl) (by kernel_rfl) (by kernel_rfl) (fun _ _ _ h => h) (by rfl) (fun v hv => by have h := (V13.out.kept hv).c1; go_simp) hH ?_
            simp only [Act.put, List.setIfInBounds_toArray, List.set_cons_succ, List.set_cons_zero]
            refine takeH 2 (.int .i64 (i : Int)) rfl (by kernel_rfl) (by kernel_rfl) (by kernel_rfl) (fun _ _ _ h => h) (by rfl) (fun v hv => by have h := (V13.out.kept hv).c2; go_simp) hH ?_
            simp only [Act.put, List.setIfInBounds_toArray, List.set_cons_succ, List.set_cons_zero]
            refine takeH 3 (.slice (some x) i (i + 1)) rfl (by kernel_rfl) (by kernel_rfl) (by kernel_rfl) (fun _ _ _ h => h) (by rfl) (fun v hv => by go_simp; intros; omega) hH ?_
            simp only [Act.put, List.setIfInBounds_toArray, List.set_cons_succ, List.set_cons_zero]
            refine takeH 5 (.slice (some x) ns.length (i + 1)) rfl (by kernel_rfl) (by kernel_rfl) (by kernel_rfl) (fun _ _ _ h => h) (by rfl) (fun v hv => by have h := (V13.out.kept hv).c1; go_simp) hH ?_
            simp only [Act.put, List.setIfInBounds_toArray, List.set_cons_succ, List.set_cons_zero]
            refine takeH 6 (.int .i64 (i : Int)) rfl (by kernel_rfl) (by kernel_rfl) (by kernel_rfl) (fun _ _ _ h => h) (by rfl) (fun v hv => by have h := (V13.out.kept hv).c2; go_simp) hH ?_
            simp only [Act.put, List.setIfInBounds_toArray, List.set_cons_succ, List.set_cons_zero]
            refine takeH 7 (.int .i64 ((i : Int) + 1)) rfl (by kernel_rfl) (by kernel_rfl) (by kernel_rfl) (fun _ _ _ h => h) (by rfl) (fun v hv => by go_simp) hH ?_
            simp only [Act.put, List.setIfInBounds_toArray, List.set_cons_succ, List.set_cons_zero]
            refine takeH 8 (.slice (some x) (ns.length - (i + 1)) ((i + 1) - (i + 1))) rfl (by kernel_rfl) (by kernel_rfl) (by kernel_rfl) (fun _ _ _ h => h) (by rfl) (fun v hv => by go_simp; intros; omega) hH ?_
            simp only [Act.put, List.setIfInBounds_toArray, List.set_cons_succ, List.set_cons_zero]
            obtain ⟨U, hU⟩ : ∃ U, U = we.drew := ⟨_, rfl⟩
            have kU : Kept [] we U := hU ▸ (Kept.refl _ _).drew
            rw [← hU]
            clear hU hH
            obtain ⟨U1, hU1⟩ : ∃ U1, U1 = U.alloc (.cells #[] 42) := ⟨_, rfl⟩
            have KU1 := hid (show Kept [] we U1 from hU1 ▸ kU.alloc _)
            have hr0 := hid (show U1.ownsRow we.heap.size 42 36 (.slice (some ⟨U.heap.size, 0, none⟩) 0 0) 0 [] from row0 (by rw [hU1]; exact heap_alloc_at rfl) _ kU.size)
            refine runH 0 rfl (by kernel_rfl) (by rfl) (.slice (some ⟨U.heap.size, 0, none⟩) 0 0) U1 (by subst hU1; go_simp) KU1.out ?_
            simp only [Act.put, List.setIfInBounds_toArray, List.set_cons_succ, List.set_cons_zero]
            have hA := (H.out U1 (K13.out.trans KU1.out)).take_ i
            have hAl : (ns.take i).length = i := by rw [List.length_take]; omega
            refine appendKH 4 rfl (by kernel_rfl) rfl (.tmp 64) (.tmp 67) 22 rfl we.heap.size 42 j0 _ 36 88 Tryd.underlying22 hj0 hy0 hy1 hy2 (by rw [Value.cells, List.size_toArray, zNode_len]) (by decide) _ 0 [] rfl hr0.out (.slice (some x) i (i + 1)) i ((ns.take i).flatMap c36) rfl (Or.inr ⟨x, _, rfl, hA.cells x rfl⟩) (by rw [flat_len c36 36 c36_len, hAl]) (c36_one _) (by unfold maxLen; omega) (by omega) KU1.out.size ?_
            intro b2 c2' U2 hown2 hgrow2 _ _
            have KU2 := hid (show Kept [] we U2 from KU1.out.trans' (Kept.of_row hgrow2) (fun y hy hm => by rw [Option.mem_toList] at hm; have := (own_block_lt hr0.out hm).1; omega))
            refine ⟨KU2.out, ?_⟩
            simp only [Act.put, List.setIfInBounds_toArray, List.set_cons_succ, List.set_cons_zero]
            simp only [Nat.zero_add, List.nil_append] at hown2 ⊢
            have ho2 := hid hown2
            have hdn : ns.drop (i + 1) = [] := List.drop_eq_nil_of_le (by omega)
            have hBl : (ns.drop (i + 1)).length = ns.length - (i + 1) := by rw [List.length_drop]
            clear hown2 hgrow2 hr0 hA
            refine appendKH 9 rfl (by kernel_rfl) rfl (.tmp 68) (.tmp 72) 22 rfl we.heap.size 42 j0 _ 36 88 Tryd.underlying22 hj0 hy0 hy1 hy2 (by rw [Value.cells, List.size_toArray, zNode_len]) (by decide) (.slice b2 i c2') i _ rfl ho2.out (.slice (some x) (ns.length - (i + 1)) ((i + 1) - (i + 1))) (ns.length - (i + 1)) ((ns.drop (i + 1)).flatMap c36) rfl (Or.inr ⟨x, (i + 1) - (i + 1), rfl, fun j u hj => by rw [hdn] at hj; simp at hj⟩) (by rw [flat_len c36 36 c36_len, hBl]) (c36_one _) (by unfold maxLen; omega) (by omega) KU2.out.size ?_
            intro b3 c3' U3 hown3 hgrow3 _ _
            have KU3 := hid (show Kept [] we U3 from KU2.out.trans' (Kept.of_row hgrow3) (fun y hy hm => by rw [Option.mem_toList] at hm; have := (own_block_lt ho2.out hm).1; omega))
            refine ⟨KU3.out, ?_⟩
            simp only [Act.put, List.setIfInBounds_toArray, List.set_cons_succ, List.set_cons_zero]
            have hl3 : i + (ns.length - (i + 1)) = ns.length - 1 := by omega
            have hT : (ns.take i ++ ns.drop (i + 1)).length = ns.length - 1 := by rw [List.length_append, hAl, hBl, hl3]
            rw [← List.flatMap_append, hl3] at hown3
            rw [hl3]
            have hres := hid (show Kept [] we U3 ∧ ∀ wv, Kept [] U3 wv → Nodes wv b3 c3' (ns.take i ++ ns.drop (i + 1)) from ⟨KU3.out, fun wv hv => tnodes_of_row (ns := ns.take i ++ ns.drop (i + 1)) (fun n hn => by
              rcases List.mem_append.1 hn with hn | hn
              · exact (H.out wv (K13.out.trans (KU3.out.trans hv))).ok n (List.mem_of_mem_take hn)
              · exact (H.out wv (K13.out.trans (KU3.out.trans hv))).ok n (List.mem_of_mem_drop hn)) (by rw [hT]; exact hv.owns hown3 (by simp))⟩)
            clear hown3 hgrow3 ho2
            refine takeH 10 (.slice b3 (ns.length - 1) c3') rfl (by kernel_rfl) (by kernel_rfl) (by kernel_rfl) (fun _ _ _ h => h) (by rfl) (fun v hv => by go_simp) KU3.out ?_
            simp only [Act.put, List.setIfInBounds_toArray, List.set_cons_succ, List.set_cons_zero]
            refine wpAnyH_done (by kernel_rfl) ?_ _
            go_wp2_with fail
            go_meet
            exact ⟨b3, c3', rfl, hres⟩
        case rest =>
          obtain ⟨a9, c9, rfl, hT9⟩ := hcut
          have V14 := hid (V13.out.kept hT9.out.1)
          have K14 := hid (K13.out.trans hT9.out.1)
          have hni := hid (show ns[i]? = some n by
            have h1 : ns[i]? = (ns.take i ++ n :: ns.drop (i + 1))[i]? := congrArg (fun l => l[i]?) hsplit.out
            rw [h1, List.getElem?_append_right (by rw [List.length_take]; omega), List.length_take, Nat.min_eq_left (by omega), Nat.sub_self]; rfl)
          have hparts := hid (show ∀ m ∈ ns, m.parts.length ≤ 1000000 from fun m hm => by have := HF.out.1 m hm; unfold NodeR.few at this; omega)
          obtain ⟨wg, hwg⟩ : ∃ wg, wg = wc := ⟨_, rfl⟩
          rw [← hwg] at hT9 V14 K14
          have hF14 := hid (fun (v : World) (hv : Kept [] wg v) => show Calls Tryd.prog 18 #[.slice (some x) ns.length c, .string n.name] v (fun e w' => Found v w' ns n.nd.name e ∧ Kept [] v w') from by
            have h := t_find (some x) c ns n.nd.name v (fun wr hr => H.out wr (K14.out.trans (hv.trans hr))) hparts.out
            rw [show S n.nd.name = n.name from S_of n.name] at h
            exact h)
          go_upto_region 14 with fail
          rw [← hwg]
          clear hwg
          go_cut [10, 11] (fun s10 s11 wx => s11 = .bool true ∧ ∃ (r : Nat) (m : NodeR), s10 = .pointer (some ⟨r, 0, none⟩) ∧ Hid (Kept [] wg wx ∧ NAt wx r m ∧ m.nd = n.nd))
          case first =>
            refine wp_region_held_drew (S := Kept [] wg) (by kernel_rfl) (Kept.refl _ _).drew (fun hH => ?_)
            refine takeH 0 (.slice (some x) ns.length c) rfl (by kernel_rfl) (by kernel_rfl) (by kernel_rfl) (fun _ _ _ h => h) (by rfl) (fun v hv => by have h := (V14.out.kept hv).c1; go_simp) hH ?_
            simp only [Act.put, List.setIfInBounds_toArray, List.set_cons_succ, List.set_cons_zero]
            refine takeH 1 (.slice (some x) ns.length c) rfl (by kernel_rfl) (by kernel_rfl) (by kernel_rfl) (fun _ _ _ h => h) (by rfl) (fun v hv => by have h := (V14.out.kept hv).c1; go_simp) hH ?_
            simp only [Act.put, List.setIfInBounds_toArray, List.set_cons_succ, List.set_cons_zero]
            refine takeH 2 (.int .i64 (i : Int)) rfl (by kernel_rfl) (by kernel_rfl) (by kernel_rfl) (fun _ _ _ h => h) (by rfl) (fun v hv => by have h := (V14.out.kept hv).c2; go_simp) hH ?_
            simp only [Act.put, List.setIfInBounds_toArray, List.set_cons_succ, List.set_cons_zero]
            refine takeH 3 (.pointer (some (x.add (i * 36)))) rfl (by kernel_rfl) (by kernel_rfl) (by kernel_rfl) (fun _ _ _ h => h) (by rfl) (fun v hv => by go_simp) hH ?_
            simp only [Act.put, List.setIfInBounds_toArray, List.set_cons_succ, List.set_cons_zero]
            refine takeH 4 (.pointer (some (x.add (i * 36)))) rfl (by kernel_rfl) (by kernel_rfl) (by kernel_rfl) (fun _ _ _ h => h) (by rfl) (fun v hv => by go_simp) hH ?_
            simp only [Act.put, List.setIfInBounds_toArray, List.set_cons_succ, List.set_cons_zero]
            refine takeH 5 (.string n.name) rfl (by kernel_rfl) (by kernel_rfl) (by kernel_rfl) (fun _ _ _ h => h) (by rfl) (fun v hv => by have h := ((H.out v (K14.out.trans hv)).at_ x rfl i n hni.out).1; go_simp) hH ?_
            simp only [Act.put, List.setIfInBounds_toArray, List.set_cons_succ, List.set_cons_zero]
            obtain ⟨U, hU⟩ : ∃ U, U = wg.drew := ⟨_, rfl⟩
            have hH0 : Kept [] wg U := hU ▸ (Kept.refl _ _).drew
            rw [← hU]
            clear hU hH
            obtain ⟨U1, hU1⟩ : ∃ U1, U1 = U.alloc (.cells zNode.toArray 42) := ⟨_, rfl⟩
            obtain ⟨b0, hb0'⟩ : ∃ b, b = U.heap.size := ⟨_, rfl⟩
            have z0 := hid (show U1.heap[b0]? = some (.cells zNode.toArray 42 (0, 0)) by rw [hU1]; exact heap_alloc_at hb0')
            have r0 := hid (show nalloc? U b0 U1 from ⟨hb0', hU1⟩)
            have hS0 := hid (show wg.heap.size ≤ b0 by rw [hb0']; exact hH0.size)
            have KU1 := hid (show Kept [] wg U1 from hU1 ▸ hH0.alloc _)
            clear hU1 hb0'
            refine callOrX 6 10 rfl rfl (by kernel_rfl) (by rfl) (by rfl) 18 #[.slice (some x) ns.length c, .string n.name] (by go_simp) ((hF14.out U hH0).mono ?_) (.pointer (some ⟨b0, 0, none⟩)) U1 (by obtain ⟨e1, e2⟩ := r0.out; subst e1; subst e2; go_simp) KU1.out ?_
            · rintro e wf ⟨hfo, kf⟩
              obtain ⟨m, hmn, rfl, hmI, hm32⟩ := hfo.some_ hfi.out
              have hH : Kept [] wg wf := hH0.trans kf
              refine ⟨_, rfl, hH, ?_⟩
              simp only [Act.put, List.setIfInBounds_toArray, List.set_cons_succ, List.set_cons_zero]
              refine takeH 7 (.tuple #[.agg m.cells.toArray, .bool true]) rfl (by kernel_rfl) (by kernel_rfl) (by kernel_rfl) (fun _ _ _ h => h) (by rfl) (fun v hv => by go_simp) hH ?_
              simp only [Act.put, List.setIfInBounds_toArray, List.set_cons_succ, List.set_cons_zero]
              refine takeH 8 (.agg m.cells.toArray) rfl (by kernel_rfl) (by kernel_rfl) (by kernel_rfl) (fun _ _ _ h => h) (by rfl) (fun v hv => by go_simp) hH ?_
              simp only [Act.put, List.setIfInBounds_toArray, List.set_cons_succ, List.set_cons_zero]
              refine takeH 9 (.bool true) rfl (by kernel_rfl) (by kernel_rfl) (by kernel_rfl) (fun _ _ _ h => h) (by rfl) (fun v hv => by go_simp) hH ?_
              simp only [Act.put, List.setIfInBounds_toArray, List.set_cons_succ, List.set_cons_zero]
              obtain ⟨W1', hW1'⟩ : ∃ W1', W1' = wf.alloc (.cells zNode.toArray 42) := ⟨_, rfl⟩
              have hr1 : W1'.heap[wf.heap.size]? = some (.cells zNode.toArray 42 (0, 0)) := by rw [hW1']; exact heap_alloc_at rfl
              have KW1 : Kept [] wg W1' := by rw [hW1']; exact hH.alloc _
              refine runH 10 rfl (by kernel_rfl) (by rfl) (.pointer (some ⟨wf.heap.size, 0, none⟩)) W1' (by rw [hW1']; go_simp) KW1 ?_
              simp only [Act.put, List.setIfInBounds_toArray, List.set_cons_succ, List.set_cons_zero]
              have y1 := st_node (n := m) hr1 hm32
              have KW2 : Kept [] wg (W1'.setRow wf.heap.size m.cells.toArray) := KW1.setRow (fun h => absurd h (by have := hH.size; omega)) _
              have hN2 : NAt (W1'.setRow wf.heap.size m.cells.toArray) wf.heap.size m := setRow_heap _ _ _ _ _ _ hr1
              refine writeH 11 rfl (by kernel_rfl) (by rfl) (W1'.setRow wf.heap.size m.cells.toArray) (by unfold execOp; simp [Act.eval, Instr.storeAt, Instr.sureAddr, Sem.run_bind, Sem.run_pure, Result.andThen_ok, y1]) KW2 ?_
              simp only [Act.put, List.setIfInBounds_toArray, List.set_cons_succ, List.set_cons_zero]
              refine takeH 12 (.bool true) rfl (by kernel_rfl) (by kernel_rfl) (by kernel_rfl) (fun _ _ _ h => h) (by rfl) (fun v hv => by go_simp) KW2 ?_
              simp only [Act.put, List.setIfInBounds_toArray, List.set_cons_succ, List.set_cons_zero]
              refine wpAnyH_done (by kernel_rfl) ?_ _
              generalize W1'.setRow wf.heap.size m.cells.toArray = wt at *
              go_wp2_with fail
              go_meet
              exact ⟨rfl, wf.heap.size, m, rfl, hid ⟨KW2, hN2, hmn⟩⟩
            · simp only [Act.put, List.setIfInBounds_toArray, List.set_cons_succ, List.set_cons_zero]
              refine callX 6 rfl (by kernel_rfl) (by rfl) 18 #[.slice (some x) ns.length c, .string n.name] (by go_simp) ((hF14.out U1 KU1.out).mono ?_)
              rintro e wf ⟨hfo, kf⟩
              obtain ⟨m, hmn, rfl, hmI, hm32⟩ := hfo.some_ hfi.out
              have hH : Kept [] wg wf := KU1.out.trans kf
              refine Or.inl ⟨_, rfl, hH, ?_⟩
              simp only [Act.put, List.setIfInBounds_toArray, List.set_cons_succ, List.set_cons_zero]
              refine takeH 7 (.tuple #[.agg m.cells.toArray, .bool true]) rfl (by kernel_rfl) (by kernel_rfl) (by kernel_rfl) (fun _ _ _ h => h) (by rfl) (fun v hv => by go_simp) hH ?_
              simp only [Act.put, List.setIfInBounds_toArray, List.set_cons_succ, List.set_cons_zero]
              refine takeH 8 (.agg m.cells.toArray) rfl (by kernel_rfl) (by kernel_rfl) (by kernel_rfl) (fun _ _ _ h => h) (by rfl) (fun v hv => by go_simp) hH ?_
              simp only [Act.put, List.setIfInBounds_toArray, List.set_cons_succ, List.set_cons_zero]
              refine takeH 9 (.bool true) rfl (by kernel_rfl) (by kernel_rfl) (by kernel_rfl) (fun _ _ _ h => h) (by rfl) (fun v hv => by go_simp) hH ?_
              simp only [Act.put, List.setIfInBounds_toArray, List.set_cons_succ, List.set_cons_zero]
              have hr1 : wf.heap[b0]? = some (.cells zNode.toArray 42 (0, 0)) := kf.at z0.out (by simp)
              have y1 := st_node (n := m) hr1 hm32
              have KW2 : Kept [] wg (wf.setRow b0 m.cells.toArray) := hH.setRow (fun h => absurd h (by have := hS0.out; omega)) _
              have hN2 : NAt (wf.setRow b0 m.cells.toArray) b0 m := setRow_heap _ _ _ _ _ _ hr1
              refine writeH 11 rfl (by kernel_rfl) (by rfl) (wf.setRow b0 m.cells.toArray) (by unfold execOp; simp [Act.eval, Instr.storeAt, Instr.sureAddr, Sem.run_bind, Sem.run_pure, Result.andThen_ok, y1]) KW2 ?_
              simp only [Act.put, List.setIfInBounds_toArray, List.set_cons_succ, List.set_cons_zero]
              refine takeH 12 (.bool true) rfl (by kernel_rfl) (by kernel_rfl) (by kernel_rfl) (fun _ _ _ h => h) (by rfl) (fun v hv => by go_simp) KW2 ?_
              simp only [Act.put, List.setIfInBounds_toArray, List.set_cons_succ, List.set_cons_zero]
              refine wpAnyH_done (by kernel_rfl) ?_ _
              generalize wf.setRow b0 m.cells.toArray = wt at *
              go_wp2_with fail
              go_meet
              exact ⟨rfl, b0, m, rfl, hid ⟨KW2, hN2, hmn⟩⟩
          case rest =>
            obtain ⟨rfl, r, m, rfl, hR14⟩ := hcut
            obtain ⟨LT, hLT⟩ : ∃ LT, LT = ns.take i ++ ns.drop (i + 1) := ⟨_, rfl⟩
            obtain ⟨TW, hTW⟩ : ∃ TW, TW = ns.take (i + 1) ++ ns.drop i := ⟨_, rfl⟩
            have hLl := hid (show LT.length = ns.length - 1 by rw [hLT, List.length_append, List.length_take, List.length_drop]; omega)
            have hTl := hid (show TW.length = ns.length + 1 by rw [hTW, List.length_append, List.length_take, List.length_drop]; omega)
            have hLp := hid (show ∀ m ∈ LT, m.parts.length ≤ 1000000 from fun m hm => by
              rw [hLT] at hm
              rcases List.mem_append.1 hm with hm | hm
              · exact hparts.out m (List.mem_of_mem_take hm)
              · exact hparts.out m (List.mem_of_mem_drop hm))
            rw [← hLT] at hT9 hl0 hgone
            rw [← hTW] at hT8 ht24
            clear hLT hTW
            have V15 := hid (V14.out.kept hR14.out.1)
            have K15 := hid (K14.out.trans hR14.out.1)
            have hF15 := hid (show Calls Tryd.prog 18 #[.slice a9 (ns.length - 1) c9, .string n.name] wc (fun e w' => Found wc w' LT n.nd.name e ∧ Kept [] wc w') from by
              have h := t_find a9 c9 LT n.nd.name wc (fun wr hr => hT9.out.2 wr (hR14.out.1.trans hr)) hLp.out
              rw [show S n.nd.name = n.name from S_of n.name, hLl.out] at h
              exact h)
            have c1 := V15.out.c1
            have c2 := V15.out.c2
            have cn := ((H.out wc K15.out).at_ x rfl i n hni.out).1
            go_wp2_with fail
            refine hF15.out.mono ?_
            rintro e w15 ⟨hfo, k15⟩
            have he15 : e = .returned (.tuple #[.agg zNode.toArray, .bool false]) := by
              rcases hfo with ⟨_, h2⟩ | ⟨_, _, h1, _⟩
              · exact h2
              · rw [hgone.out] at h1; cases h1
            subst he15
            have k15' := hid k15
            clear hfo k15 c1 c2 cn hF15
            have hzi := hid (show (Tryd.prog.info? 42).map (·.size) = some zNode.length by rw [zNode_len]; exact node_info)
            go_wp2_with (refine wpList_store_at rfl 42 (.tmp 12) (.tmp 92) rfl w15.heap.size 0 zNode rfl rfl 42 zNode (heap_alloc_at rfl) hzi.out (by rw [zNode_len]; decide) zNode_one ?_; refine halt ?_)
            rw [splice36 zNode zNode rfl]
            obtain ⟨wi, hwi⟩ : ∃ wi : World, wi = (w15.alloc (.cells zNode.toArray 42)).setRow w15.heap.size zNode.toArray := ⟨_, rfl⟩
            rw [← hwi]
            refine Halt.mk ?_
            have ki := hid (show Kept [] wc wi by rw [hwi]; exact (k15'.out.alloc _).setRow (fun h => absurd h (by have := k15'.out.size; omega)) _)
            clear hwi
            have V16 := hid (V15.out.kept ki.out)
            have K16 := hid (K15.out.trans ki.out)
            have hPv := hid (fun (v : World) (hv : Kept [] wi v) => show NAt v p mP from hM.out.2.2.2.2.2.2.2.2.2.1.kept (hT8.out.1.trans (hT9.out.1.trans (hR14.out.1.trans (ki.out.trans hv)))) (by simp))
            have hQv := hid (fun (v : World) (hv : Kept [] wi v) => show NAt v q mQ from hM.out.1.kept (hT8.out.1.trans (hT9.out.1.trans (hR14.out.1.trans (ki.out.trans hv)))) (by simp))
            have hRv := hid (fun (v : World) (hv : Kept [] wi v) => show NAt v r m from hR14.out.2.1.kept (ki.out.trans hv) (by simp))
            have mP32 := hid (show mP.sub.length = 32 by rw [hmP]; exact h32.out)
            have mQ32 := hid hM.out.2.2.2.1
            have hnok := hid (fun (v : World) (hv : Kept [] wi v) => (H.out v (K16.out.trans hv)).ok n hmem.out)
            have hset1 := hid (fun (v : World) (hv : Kept [] wi v) => show Calls Tryd.prog 17 #[.agg mP.cells.toArray, .pointer (some ⟨lb, 0, none⟩), .pointer (some ⟨lb + 1, 0, none⟩)] v (fun e w' => e = .returned (.int .i64 38) ∧ Kept [] wi w') from by
              refine (t_set lb (lb + 1) (some x) c ns i mP v (V16.out.kept hv).list (V16.out.kept hv).idx (fun wr hr => H.out wr (K16.out.trans (hv.trans hr))) (fun wr hr => by
                obtain ⟨g1, g2, g3⟩ := hnok.out wr (hv.trans hr)
                rw [hmP]; exact ⟨g1, g2, g3⟩) hil (by omega)).mono ?_
              rintro e w' ⟨rfl, k⟩
              refine ⟨?_, hv.trans k⟩
              have hp38 : mP.nd.err (lastName none ((ns.take i).map NodeR.nd)) = 38 := err_path (by rw [hmP]; show okPart [97, 47, 98] = false; decide)
              rw [hset.out mP, errL_at hEA.out (m := mP.nd) (by rw [hp38]; decide), hp38])
            have hset2 := hid (fun (v : World) (hv : Kept [] wi v) => show Calls Tryd.prog 17 #[.agg mQ.cells.toArray, .pointer (some ⟨lb, 0, none⟩), .pointer (some ⟨lb + 1, 0, none⟩)] v (fun e w' => e = .returned (.int .i64 21) ∧ Kept [] wi w') from by
              obtain ⟨_, q1, q2, q3, q4, q5, q6, q7, q8, _, _⟩ := hM.out
              refine (t_set lb (lb + 1) (some x) c ns i mQ v (V16.out.kept hv).list (V16.out.kept hv).idx (fun wr hr => H.out wr (K16.out.trans (hv.trans hr))) (fun wr hr => by
                obtain ⟨g1, g2, g3⟩ := hnok.out wr (hv.trans hr)
                exact ⟨q3, by rw [q4, q5, q6]; exact g2, q7, q8⟩) hil (by omega)).mono ?_
              rintro e w' ⟨rfl, k⟩
              refine ⟨?_, hv.trans k⟩
              have hp21 : mQ.nd.err (lastName none ((ns.take i).map NodeR.nd)) = 21 := err_form (errL_parts hEA.out).2.2.1 q1 q2
              rw [hset.out mQ, errL_at hEA.out (m := mQ.nd) (by rw [hp21]; decide), hp21])
            have hch1 := hid (fun (v : World) (hv : Kept [] wi v) => show Calls Tryd.prog 16 #[.slice a8 (ns.length + 1) c8] v (fun e w' => e = .returned (.int .i64 24) ∧ Kept [] wi w') from by
              have h := t_check a8 c8 TW v (fun wr hr => hT8.out.2 wr (hT9.out.1.trans (hR14.out.1.trans (ki.out.trans (hv.trans hr)))))
              rw [hTl.out, ht24.out] at h
              exact h.mono fun e w' hh => ⟨hh.1, hv.trans hh.2⟩)
            have hch2 := hid (fun (v : World) (hv : Kept [] wi v) => show Calls Tryd.prog 16 #[.slice a9 (ns.length - 1) c9] v (fun e w' => e = .returned (.int .i64 0) ∧ Kept [] wi w') from by
              have h := t_check a9 c9 LT v (fun wr hr => hT9.out.2 wr (hR14.out.1.trans (ki.out.trans (hv.trans hr))))
              rw [hLl.out, hl0.out] at h
              exact h.mono fun e w' hh => ⟨hh.1, hv.trans hh.2⟩)
            have hmeq := hid (show (m.name.toList == n.name.toList) = true from by
              have h1 := S_beq m.nd.name n.nd.name
              rw [decide_eq_true (congrArg Nd.name hR14.out.2.2)] at h1
              exact h1)
            go_wp2_with fail
            refine wp_region_held_drew (S := Kept [] wi) (by kernel_rfl) (Kept.refl _ _).drew (fun hH => ?_)
            refine takeH 0 (.func (.func 17) #[] #[.pointer (some ⟨lb, 0, none⟩), .pointer (some ⟨lb + 1, 0, none⟩)]) rfl (by kernel_rfl) (by kernel_rfl) (by kernel_rfl) (fun _ _ _ h => h) (by rfl) (fun v hv => by go_simp) hH ?_
            simp only [Act.put, List.setIfInBounds_toArray, List.set_cons_succ, List.set_cons_zero]
            refine takeH 1 (.agg mP.cells.toArray) rfl (by kernel_rfl) (by kernel_rfl) (by kernel_rfl) (fun _ _ _ h => h) (by rfl) (fun v hv => by have h := run_ld_node (hPv.out v hv) (node_size mP mP32.out); unfold execOp; simp [Instr.loadAt, Instr.sureAddr, Sem.run_bind, Sem.run_pure, Result.andThen_ok, Act.eval, h]) hH ?_
            simp only [Act.put, List.setIfInBounds_toArray, List.set_cons_succ, List.set_cons_zero]
            refine callH 2 rfl (by kernel_rfl) (by rfl) 17 #[.agg mP.cells.toArray, .pointer (some ⟨lb, 0, none⟩), .pointer (some ⟨lb + 1, 0, none⟩)] (by go_simp) (.int .i64 38) hH (fun hS => hset1.out _ hS) ?_
            clear hH
            intro wv2 hH
            simp only [Act.put, List.setIfInBounds_toArray, List.set_cons_succ, List.set_cons_zero]
            refine takeH 3 (.bool true) rfl (by kernel_rfl) (by kernel_rfl) (by kernel_rfl) (fun _ _ _ h => h) (by rfl) (fun v hv => by go_simp) hH ?_
            simp only [Act.put, List.setIfInBounds_toArray, List.set_cons_succ, List.set_cons_zero]
            refine takeH 4 (.bool true) rfl (by kernel_rfl) (by kernel_rfl) (by kernel_rfl) (fun _ _ _ h => h) (by rfl) (fun v hv => by go_simp) hH ?_
            simp only [Act.put, List.setIfInBounds_toArray, List.set_cons_succ, List.set_cons_zero]
            refine takeH 5 (.func (.func 17) #[] #[.pointer (some ⟨lb, 0, none⟩), .pointer (some ⟨lb + 1, 0, none⟩)]) rfl (by kernel_rfl) (by kernel_rfl) (by kernel_rfl) (fun _ _ _ h => h) (by rfl) (fun v hv => by go_simp) hH ?_
            simp only [Act.put, List.setIfInBounds_toArray, List.set_cons_succ, List.set_cons_zero]
            refine takeH 6 (.agg mQ.cells.toArray) rfl (by kernel_rfl) (by kernel_rfl) (by kernel_rfl) (fun _ _ _ h => h) (by rfl) (fun v hv => by have h := run_ld_node (hQv.out v hv) (node_size mQ mQ32.out); unfold execOp; simp [Instr.loadAt, Instr.sureAddr, Sem.run_bind, Sem.run_pure, Result.andThen_ok, Act.eval, h]) hH ?_
            simp only [Act.put, List.setIfInBounds_toArray, List.set_cons_succ, List.set_cons_zero]
            refine callH 7 rfl (by kernel_rfl) (by rfl) 17 #[.agg mQ.cells.toArray, .pointer (some ⟨lb, 0, none⟩), .pointer (some ⟨lb + 1, 0, none⟩)] (by go_simp) (.int .i64 21) hH (fun hS => hset2.out _ hS) ?_
            clear hH
            intro wv7 hH
            simp only [Act.put, List.setIfInBounds_toArray, List.set_cons_succ, List.set_cons_zero]
            refine takeH 8 (.bool true) rfl (by kernel_rfl) (by kernel_rfl) (by kernel_rfl) (fun _ _ _ h => h) (by rfl) (fun v hv => by go_simp) hH ?_
            simp only [Act.put, List.setIfInBounds_toArray, List.set_cons_succ, List.set_cons_zero]
            refine takeH 9 (.bool true) rfl (by kernel_rfl) (by kernel_rfl) (by kernel_rfl) (fun _ _ _ h => h) (by rfl) (fun v hv => by go_simp) hH ?_
            simp only [Act.put, List.setIfInBounds_toArray, List.set_cons_succ, List.set_cons_zero]
            refine takeH 10 (.bool true) rfl (by kernel_rfl) (by kernel_rfl) (by kernel_rfl) (fun _ _ _ h => h) (by rfl) (fun v hv => by go_simp) hH ?_
            simp only [Act.put, List.setIfInBounds_toArray, List.set_cons_succ, List.set_cons_zero]
            refine takeH 11 (.slice a8 (ns.length + 1) c8) rfl (by kernel_rfl) (by kernel_rfl) (by kernel_rfl) (fun _ _ _ h => h) (by rfl) (fun v hv => by go_simp) hH ?_
            simp only [Act.put, List.setIfInBounds_toArray, List.set_cons_succ, List.set_cons_zero]
            refine callH 12 rfl (by kernel_rfl) (by rfl) 16 #[.slice a8 (ns.length + 1) c8] (by go_simp) (.int .i64 24) hH (fun hS => hch1.out _ hS) ?_
            clear hH
            intro wv12 hH
            simp only [Act.put, List.setIfInBounds_toArray, List.set_cons_succ, List.set_cons_zero]
            refine takeH 13 (.bool true) rfl (by kernel_rfl) (by kernel_rfl) (by kernel_rfl) (fun _ _ _ h => h) (by rfl) (fun v hv => by go_simp) hH ?_
            simp only [Act.put, List.setIfInBounds_toArray, List.set_cons_succ, List.set_cons_zero]
            refine takeH 14 (.bool true) rfl (by kernel_rfl) (by kernel_rfl) (by kernel_rfl) (fun _ _ _ h => h) (by rfl) (fun v hv => by go_simp) hH ?_
            simp only [Act.put, List.setIfInBounds_toArray, List.set_cons_succ, List.set_cons_zero]
            refine takeH 15 (.bool true) rfl (by kernel_rfl) (by kernel_rfl) (by kernel_rfl) (fun _ _ _ h => h) (by rfl) (fun v hv => by go_simp) hH ?_
            simp only [Act.put, List.setIfInBounds_toArray, List.set_cons_succ, List.set_cons_zero]
            refine takeH 16 (.slice a9 (ns.length - 1) c9) rfl (by kernel_rfl) (by kernel_rfl) (by kernel_rfl) (fun _ _ _ h => h) (by rfl) (fun v hv => by go_simp) hH ?_
            simp only [Act.put, List.setIfInBounds_toArray, List.set_cons_succ, List.set_cons_zero]
            refine callH 17 rfl (by kernel_rfl) (by rfl) 16 #[.slice a9 (ns.length - 1) c9] (by go_simp) (.int .i64 0) hH (fun hS => hch2.out _ hS) ?_
            clear hH
            intro wv17 hH
            simp only [Act.put, List.setIfInBounds_toArray, List.set_cons_succ, List.set_cons_zero]
            refine takeH 18 (.bool true) rfl (by kernel_rfl) (by kernel_rfl) (by kernel_rfl) (fun _ _ _ h => h) (by rfl) (fun v hv => by go_simp) hH ?_
            simp only [Act.put, List.setIfInBounds_toArray, List.set_cons_succ, List.set_cons_zero]
            refine takeH 19 (.bool true) rfl (by kernel_rfl) (by kernel_rfl) (by kernel_rfl) (fun _ _ _ h => h) (by rfl) (fun v hv => by go_simp) hH ?_
            simp only [Act.put, List.setIfInBounds_toArray, List.set_cons_succ, List.set_cons_zero]
            refine takeH 20 (.bool true) rfl (by kernel_rfl) (by kernel_rfl) (by kernel_rfl) (fun _ _ _ h => h) (by rfl) (fun v hv => by go_simp) hH ?_
            simp only [Act.put, List.setIfInBounds_toArray, List.set_cons_succ, List.set_cons_zero]
            refine takeH 21 (.bool true) rfl (by kernel_rfl) (by kernel_rfl) (by kernel_rfl) (fun _ _ _ h => h) (by rfl) (fun v hv => by go_simp) hH ?_
            simp only [Act.put, List.setIfInBounds_toArray, List.set_cons_succ, List.set_cons_zero]
            refine takeH 22 (.bool true) rfl (by kernel_rfl) (by kernel_rfl) (by kernel_rfl) (fun _ _ _ h => h) (by rfl) (fun v hv => by go_simp) hH ?_
            simp only [Act.put, List.setIfInBounds_toArray, List.set_cons_succ, List.set_cons_zero]
            refine takeH 23 (.bool true) rfl (by kernel_rfl) (by kernel_rfl) (by kernel_rfl) (fun _ _ _ h => h) (by rfl) (fun v hv => by go_simp) hH ?_
            simp only [Act.put, List.setIfInBounds_toArray, List.set_cons_succ, List.set_cons_zero]
            refine takeH 24 (.pointer (some ⟨r, 0, none⟩)) rfl (by kernel_rfl) (by kernel_rfl) (by kernel_rfl) (fun _ _ _ h => h) (by rfl) (fun v hv => by go_simp) hH ?_
            simp only [Act.put, List.setIfInBounds_toArray, List.set_cons_succ, List.set_cons_zero]
            refine takeH 25 (.string m.name) rfl (by kernel_rfl) (by kernel_rfl) (by kernel_rfl) (fun _ _ _ h => h) (by rfl) (fun v hv => by have h := (hRv.out v hv).cell 0 _ m.c0; go_simp) hH ?_
            simp only [Act.put, List.setIfInBounds_toArray, List.set_cons_succ, List.set_cons_zero]
            refine takeH 26 (.slice (some x) ns.length c) rfl (by kernel_rfl) (by kernel_rfl) (by kernel_rfl) (fun _ _ _ h => h) (by rfl) (fun v hv => by have h := (V16.out.kept hv).c1; go_simp) hH ?_
            simp only [Act.put, List.setIfInBounds_toArray, List.set_cons_succ, List.set_cons_zero]
            refine takeH 27 (.int .i64 (i : Int)) rfl (by kernel_rfl) (by kernel_rfl) (by kernel_rfl) (fun _ _ _ h => h) (by rfl) (fun v hv => by have h := (V16.out.kept hv).c2; go_simp) hH ?_
            simp only [Act.put, List.setIfInBounds_toArray, List.set_cons_succ, List.set_cons_zero]
            refine takeH 28 (.pointer (some (x.add (i * 36)))) rfl (by kernel_rfl) (by kernel_rfl) (by kernel_rfl) (fun _ _ _ h => h) (by rfl) (fun v hv => by go_simp) hH ?_
            simp only [Act.put, List.setIfInBounds_toArray, List.set_cons_succ, List.set_cons_zero]
            refine takeH 29 (.pointer (some (x.add (i * 36)))) rfl (by kernel_rfl) (by kernel_rfl) (by kernel_rfl) (fun _ _ _ h => h) (by rfl) (fun v hv => by go_simp) hH ?_
            simp only [Act.put, List.setIfInBounds_toArray, List.set_cons_succ, List.set_cons_zero]
            refine takeH 30 (.string n.name) rfl (by kernel_rfl) (by kernel_rfl) (by kernel_rfl) (fun _ _ _ h => h) (by rfl) (fun v hv => by have h := ((H.out v (K16.out.trans hv)).at_ x rfl i n hni.out).1; go_simp) hH ?_
            simp only [Act.put, List.setIfInBounds_toArray, List.set_cons_succ, List.set_cons_zero]
            refine takeH 31 (.bool true) rfl (by kernel_rfl) (by kernel_rfl) (by kernel_rfl) (fun _ _ _ h => h) (by rfl) (fun v hv => by have h := hmeq.out; go_simp) hH ?_
            simp only [Act.put, List.setIfInBounds_toArray, List.set_cons_succ, List.set_cons_zero]
            refine takeH 32 (.bool true) rfl (by kernel_rfl) (by kernel_rfl) (by kernel_rfl) (fun _ _ _ h => h) (by rfl) (fun v hv => by go_simp) hH ?_
            simp only [Act.put, List.setIfInBounds_toArray, List.set_cons_succ, List.set_cons_zero]
            refine takeH 33 (.bool true) rfl (by kernel_rfl) (by kernel_rfl) (by kernel_rfl) (fun _ _ _ h => h) (by rfl) (fun v hv => by go_simp) hH ?_
            simp only [Act.put, List.setIfInBounds_toArray, List.set_cons_succ, List.set_cons_zero]
            refine takeH 34 (.bool false) rfl (by kernel_rfl) (by kernel_rfl) (by kernel_rfl) (fun _ _ _ h => h) (by rfl) (fun v hv => by go_simp) hH ?_
            simp only [Act.put, List.setIfInBounds_toArray, List.set_cons_succ, List.set_cons_zero]
            refine takeH 35 (.bool true) rfl (by kernel_rfl) (by kernel_rfl) (by kernel_rfl) (fun _ _ _ h => h) (by rfl) (fun v hv => by go_simp) hH ?_
            simp only [Act.put, List.setIfInBounds_toArray, List.set_cons_succ, List.set_cons_zero]
            refine takeH 36 (.bool true) rfl (by kernel_rfl) (by kernel_rfl) (by kernel_rfl) (fun _ _ _ h => h) (by rfl) (fun v hv => by go_simp) hH ?_
            simp only [Act.put, List.setIfInBounds_toArray, List.set_cons_succ, List.set_cons_zero]
            refine takeH 37 (.bool true) rfl (by kernel_rfl) (by kernel_rfl) (by kernel_rfl) (fun _ _ _ h => h) (by rfl) (fun v hv => by go_simp) hH ?_
            simp only [Act.put, List.setIfInBounds_toArray, List.set_cons_succ, List.set_cons_zero]
            refine wpAnyH_done (by kernel_rfl) ?_ _
            have HF := hid (K16.out.trans hH)
            clear hH
            go_wp2
            go_ret
            exact ⟨rfl, HF.out⟩
end Go.Proofs.YtdojpioclojalaaDoor
