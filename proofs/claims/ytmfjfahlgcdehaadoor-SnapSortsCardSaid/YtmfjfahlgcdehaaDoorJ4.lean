import Derived.Test.YtmfjfahlgcdehaaDoorJ3
import Derived.Test.YtmfjfahlgcdehaaDoorJ0
import Derived.Test.YtmfjfahlgcdehaaDoorHW
import Derived.Test.YtmfjfahlgcdehaaDoorN1

/- snap.read. -/
namespace Go.Proofs.YtmfjfahlgcdehaaDoor
open Go.RowKit Go.Lib

theorem i64_bounds (n : Int) : -9223372036854775808 ≤ IntKind.i64.wrap n ∧ IntKind.i64.wrap n ≤ 9223372036854775807 := by rw [IntKind.wrap_i64]; omega

/-- The snapshot that bytes begin with, and what is left of them. -/
def readS (xs : List UInt8) : Option (Sp × List UInt8) :=
  (rNum 8 xs).bind fun p1 => (rTxt 120 p1.2).bind fun p2 => (rTxt 120 p2.2).bind fun p3 => (rRaw 32 p3.2).bind fun p4 => (rNum 4 p4.2).bind fun p5 => (rNum 8 p5.2).bind fun p6 =>
    some (⟨IntKind.i64.wrap p1.1, p2.1, p3.1, p4.1, IntKind.i64.wrap p5.1, IntKind.i64.wrap p6.1⟩, p6.2)

set_option maxRecDepth 100000 in
theorem list32 : ∀ (r : List Value), r.length = 32 → ∃ x0 x1 x2 x3 x4 x5 x6 x7 x8 x9 y0 y1 y2 y3 y4 y5 y6 y7 y8 y9 z0 z1 z2 z3 z4 z5 z6 z7 z8 z9 v0 v1, r = [x0, x1, x2, x3, x4, x5, x6, x7, x8, x9, y0, y1, y2, y3, y4, y5, y6, y7, y8, y9, z0, z1, z2, z3, z4, z5, z6, z7, z8, z9, v0, v1] := by
  intro r h
  match r, h with
  | [x0, x1, x2, x3, x4, x5, x6, x7, x8, x9, y0, y1, y2, y3, y4, y5, y6, y7, y8, y9, z0, z1, z2, z3, z4, z5, z6, z7, z8, z9, v0, v1], _ => exact ⟨x0, x1, x2, x3, x4, x5, x6, x7, x8, x9, y0, y1, y2, y3, y4, y5, y6, y7, y8, y9, z0, z1, z2, z3, z4, z5, z6, z7, z8, z9, v0, v1, rfl⟩
def snapCells (t f b : Int) (h g : ByteArray) (r : List Value) : List Value := [Value.int .i64 t, Value.string h, Value.string g] ++ r ++ [Value.int .i64 f, Value.int .i64 b]
theorem built_snap (t f b : Int) (h g : ByteArray) (r : List Value) (hr : r.length = 32) :
    Tryd.prog.built 28 [(0, Value.int .i64 t), (1, Value.string h), (2, Value.string g), (3, Value.agg r.toArray), (4, Value.int .i64 f), (5, Value.int .i64 b)] = some (snapCells t f b h g r).toArray := by
  obtain ⟨x0, x1, x2, x3, x4, x5, x6, x7, x8, x9, y0, y1, y2, y3, y4, y5, y6, y7, y8, y9, z0, z1, z2, z3, z4, z5, z6, z7, z8, z9, v0, v1, rfl⟩ := list32 r hr
  kernel_rfl
theorem run_built_snap (w : World) (t f b : Int) (h g : ByteArray) (r : List Value) (hr : r.length = 32) :
    (Instr.build 28 #[(0, Value.int .i64 t), (1, Value.string h), (2, Value.string g), (3, Value.agg r.toArray), (4, Value.int .i64 f), (5, Value.int .i64 b)]).run Tryd.prog w = .ok (Value.agg (snapCells t f b h g r).toArray) w :=
  run_build w _ _ _ (built_snap t f b h g r hr)

/-- How reading a snapshot ends. -/
def ReadS (W : World) (rb : Nat) (a0 : Option Addr) (xs : List UInt8) (e : Ending) (w' : World) : Prop :=
  (∃ s r, readS xs = some (s, r) ∧ s.ok ∧ e = .returned (.agg s.cells.toArray) ∧ Rv W rb a0 r w') ∨ (readS xs = none ∧ Throws e ∧ ∃ r, Rv W rb a0 r w')
def zSnap : List Value := [Value.int .i64 0, Value.string ⟨#[]⟩, Value.string ⟨#[]⟩] ++ List.replicate 32 (Value.int .u8 0) ++ [Value.int .i64 0, Value.int .i64 0]
theorem zSnap_len : zSnap.length = 37 := by unfold zSnap; simp
theorem zero_snap (W : World) : (zeroValue 28).run Tryd.prog W = .ok (.agg zSnap.toArray) W := by kernel_rfl

set_option maxRecDepth 100000 in
set_option maxHeartbeats 4000000 in
theorem j_snapread (rb : Nat) (a0 : Option Addr) (c0 : Nat) (xs : List UInt8) (W : World) (h : Rd W rb a0 c0 xs) (hab : ∀ x, a0 = some x → x.block < W.heap.size) :
    Calls Tryd.prog 64 #[.pointer (some ⟨rb, 0, none⟩)] W (ReadS W rb a0 xs) := by
  have Hab := hid hab
  have hzv := zero_snap
  obtain ⟨W1, hW1⟩ : ∃ W1, W1 = W.alloc (.cells zSnap.toArray 28) := ⟨_, rfl⟩
  have hk1 := hid (show Kept [] W W1 from hW1 ▸ (Kept.refl [] W).alloc _)
  have hbox := hid (show W1.heap[W.heap.size]? = some (.cells zSnap.toArray 28 (0, 0)) from hW1 ▸ heap_alloc_at rfl)
  have R0 := hid ((Rv.new (h.kept hk1.out (by simp) (fun _ _ => by simp))).later (Kept.refl [] W1).drew)
  have hrb := hid (lt_of_block h.here)
  have hbase := hid (fun (v : World) (ys : List UInt8) (hv : Rv W1 rb a0 ys v) => Rv.base hk1.out hv)
  clear h hab
  go_enter Tryd.func64, Tryd.ntmps64
  go_wp2_with fail
  rw [← hW1]
  refine wp_region_held_drew (S := Kept [rb] W) (by kernel_rfl) (hk1.out.drew.wider (by simp)) (fun hH => ?_)
  refine takeH 0 (.pointer (some ⟨rb, 0, none⟩)) rfl (by kernel_rfl) (by kernel_rfl) (by kernel_rfl) (fun _ _ _ h => h) (by rfl) (fun w hSw => by go_simp) hH ?_
  simp only [Act.put, List.setIfInBounds_toArray, List.set_cons_succ, List.set_cons_zero]
  refine takeH 3 (.pointer (some ⟨rb, 0, none⟩)) rfl (by kernel_rfl) (by kernel_rfl) (by kernel_rfl) (fun _ _ _ h => h) (by rfl) (fun w hSw => by go_simp) hH ?_
  simp only [Act.put, List.setIfInBounds_toArray, List.set_cons_succ, List.set_cons_zero]
  refine takeH 5 (.pointer (some ⟨rb, 0, none⟩)) rfl (by kernel_rfl) (by kernel_rfl) (by kernel_rfl) (fun _ _ _ h => h) (by rfl) (fun w hSw => by go_simp) hH ?_
  simp only [Act.put, List.setIfInBounds_toArray, List.set_cons_succ, List.set_cons_zero]
  refine takeH 7 (.pointer (some ⟨rb, 0, none⟩)) rfl (by kernel_rfl) (by kernel_rfl) (by kernel_rfl) (fun _ _ _ h => h) (by rfl) (fun w hSw => by go_simp) hH ?_
  simp only [Act.put, List.setIfInBounds_toArray, List.set_cons_succ, List.set_cons_zero]
  refine takeH 11 (.pointer (some ⟨rb, 0, none⟩)) rfl (by kernel_rfl) (by kernel_rfl) (by kernel_rfl) (fun _ _ _ h => h) (by rfl) (fun w hSw => by go_simp) hH ?_
  simp only [Act.put, List.setIfInBounds_toArray, List.set_cons_succ, List.set_cons_zero]
  refine takeH 14 (.pointer (some ⟨rb, 0, none⟩)) rfl (by kernel_rfl) (by kernel_rfl) (by kernel_rfl) (fun _ _ _ h => h) (by rfl) (fun w hSw => by go_simp) hH ?_
  simp only [Act.put, List.setIfInBounds_toArray, List.set_cons_succ, List.set_cons_zero]
  refine callX 1 rfl (by kernel_rfl) (by rfl) 81 #[.pointer (some ⟨rb, 0, none⟩), .int .i64 8] (by go_simp) ((R0.out.num 8 8 (by decide)).mono ?_)
  rintro e w1 (⟨N1, r1, h1, rfl, hR⟩ | ⟨hno, ⟨n, hn0, older, rfl, hcalm⟩, hR⟩)
  rotate_left
  · refine Or.inr ⟨_, rfl, rfl, Or.inr ⟨?_, ⟨n, hn0, older, rfl, hcalm⟩, _, hbase.out _ _ hR⟩⟩
    unfold readS
    simp [hno]
  refine Or.inl ⟨_, rfl, (hbase.out _ _ hR).kept, ?_⟩
  clear hH
  have hH := (hbase.out _ _ hR).kept
  have R1 := hid hR; have H1 := hid h1
  clear hR h1
  simp only [Act.put, List.setIfInBounds_toArray, List.set_cons_succ, List.set_cons_zero]
  refine takeH 2 (.int .i64 (IntKind.i64.wrap (N1 : Int))) rfl (by kernel_rfl) (by kernel_rfl) (by kernel_rfl) (fun _ _ _ h => h) (by rfl) (fun w hSw => by go_simp) hH ?_
  simp only [Act.put, List.setIfInBounds_toArray, List.set_cons_succ, List.set_cons_zero]
  refine callX 4 rfl (by kernel_rfl) (by rfl) 93 #[.pointer (some ⟨rb, 0, none⟩), .int .i64 120] (by go_simp) ((R1.out.text 120).mono ?_)
  rintro e w2 (⟨t2, r2, h2, rfl, hR⟩ | ⟨hno, ⟨n, hn0, older, rfl, hcalm⟩, hR⟩)
  rotate_left
  · refine Or.inr ⟨_, rfl, rfl, Or.inr ⟨?_, ⟨n, hn0, older, rfl, hcalm⟩, _, hbase.out _ _ hR⟩⟩
    unfold readS
    simp [H1.out, hno]
  refine Or.inl ⟨_, rfl, (hbase.out _ _ hR).kept, ?_⟩
  clear hH
  have hH := (hbase.out _ _ hR).kept
  have R2 := hid hR; have H2 := hid h2
  clear hR h2
  simp only [Act.put, List.setIfInBounds_toArray, List.set_cons_succ, List.set_cons_zero]
  refine callX 6 rfl (by kernel_rfl) (by rfl) 93 #[.pointer (some ⟨rb, 0, none⟩), .int .i64 120] (by go_simp) ((R2.out.text 120).mono ?_)
  rintro e w3 (⟨t3, r3, h3, rfl, hR⟩ | ⟨hno, ⟨n, hn0, older, rfl, hcalm⟩, hR⟩)
  rotate_left
  · refine Or.inr ⟨_, rfl, rfl, Or.inr ⟨?_, ⟨n, hn0, older, rfl, hcalm⟩, _, hbase.out _ _ hR⟩⟩
    unfold readS
    simp [H1.out, H2.out, hno]
  refine Or.inl ⟨_, rfl, (hbase.out _ _ hR).kept, ?_⟩
  clear hH
  have hH := (hbase.out _ _ hR).kept
  have R3 := hid hR; have H3 := hid h3
  clear hR h3
  simp only [Act.put, List.setIfInBounds_toArray, List.set_cons_succ, List.set_cons_zero]
  refine callX 8 rfl (by kernel_rfl) (by rfl) 83 #[.pointer (some ⟨rb, 0, none⟩), .int .i64 32] (by go_simp) ((R3.out.raw 32 (by decide)).mono ?_)
  rintro e w4 (⟨t4, r4, x4, h4, rfl, hl4, hbl, hxb, hcs, hR⟩ | ⟨hno, ⟨n, hn0, older, rfl, hcalm⟩, hR⟩)
  rotate_left
  · refine Or.inr ⟨_, rfl, rfl, Or.inr ⟨?_, ⟨n, hn0, older, rfl, hcalm⟩, _, hbase.out _ _ hR⟩⟩
    unfold readS
    simp [H1.out, H2.out, H3.out, hno]
  refine Or.inl ⟨_, rfl, (hbase.out _ _ hR).kept, ?_⟩
  clear hH
  have hH := (hbase.out _ _ hR).kept
  have hcell := hid (show ∀ v, Kept [rb] W v → ∀ (j : Nat) u, (t4.map B)[j]? = some u → v.cell? (x4.add j) = some u from fun v hv j u hj => by
    rw [List.getElem?_map] at hj
    obtain ⟨b, hb, rfl⟩ := Option.map_eq_some_iff.1 hj
    obtain ⟨y, hy, e⟩ := hbl
    have hlt : (x4.add j).block < W.heap.size := by rw [add_block, e]; exact Hab.out y hy
    have hne : (x4.add j).block ∉ [rb] := by rw [add_block]; simpa using hxb
    rw [hv.cell hlt hne, ← (hbase.out _ _ R3.out).kept.cell hlt hne]
    exact hcs j b hb)
  have hsz := hid (show (Tryd.prog.info? 26).map (·.size) = some (t4.map B).length by rw [List.length_map, hl4]; exact ninfo32)
  have R4 := hid hR; have H4 := hid h4; have HL4 := hid hl4
  clear hR h4 hbl hxb hcs hl4
  simp only [Act.put, List.setIfInBounds_toArray, List.set_cons_succ, List.set_cons_zero]
  refine takeH 9 (.pointer (some x4)) rfl (by kernel_rfl) (by kernel_rfl) (by kernel_rfl) (fun _ _ _ h => h) (by rfl) (fun w hSw => by have h := run_arrayAt (P := Tryd.prog) (w := w) 26 5 32 (some x4) 32 32 Tryd.underlying26 (by decide); go_simp) hH ?_
  simp only [Act.put, List.setIfInBounds_toArray, List.set_cons_succ, List.set_cons_zero]
  refine takeH 10 (.agg (t4.map B).toArray) rfl (by kernel_rfl) (by kernel_rfl) (by kernel_rfl) (fun _ _ _ h => h) (by rfl) (fun w hSw => by have h := run_loadVar_cells w 26 x4 (t4.map B) _ Tryd.underlying26 rfl hsz.out (hcell.out w hSw); unfold execOp; simp [Instr.loadAt, Instr.sureAddr, Sem.run_bind, Sem.run_pure, Result.andThen_ok, Act.eval, h]) hH ?_
  simp only [Act.put, List.setIfInBounds_toArray, List.set_cons_succ, List.set_cons_zero]
  refine callX 12 rfl (by kernel_rfl) (by rfl) 81 #[.pointer (some ⟨rb, 0, none⟩), .int .i64 4] (by go_simp) ((R4.out.num 4 4 (by decide)).mono ?_)
  rintro e w5 (⟨N5, r5, h5, rfl, hR⟩ | ⟨hno, ⟨n, hn0, older, rfl, hcalm⟩, hR⟩)
  rotate_left
  · refine Or.inr ⟨_, rfl, rfl, Or.inr ⟨?_, ⟨n, hn0, older, rfl, hcalm⟩, _, hbase.out _ _ hR⟩⟩
    unfold readS
    simp [H1.out, H2.out, H3.out, H4.out, hno]
  refine Or.inl ⟨_, rfl, (hbase.out _ _ hR).kept, ?_⟩
  clear hH
  have hH := (hbase.out _ _ hR).kept
  have R5 := hid hR; have H5 := hid h5
  clear hR h5
  simp only [Act.put, List.setIfInBounds_toArray, List.set_cons_succ, List.set_cons_zero]
  refine takeH 13 (.int .i64 (IntKind.i64.wrap (N5 : Int))) rfl (by kernel_rfl) (by kernel_rfl) (by kernel_rfl) (fun _ _ _ h => h) (by rfl) (fun w hSw => by go_simp) hH ?_
  simp only [Act.put, List.setIfInBounds_toArray, List.set_cons_succ, List.set_cons_zero]
  refine callX 15 rfl (by kernel_rfl) (by rfl) 81 #[.pointer (some ⟨rb, 0, none⟩), .int .i64 8] (by go_simp) ((R5.out.num 8 8 (by decide)).mono ?_)
  rintro e w6 (⟨N6, r6, h6, rfl, hR⟩ | ⟨hno, ⟨n, hn0, older, rfl, hcalm⟩, hR⟩)
  rotate_left
  · refine Or.inr ⟨_, rfl, rfl, Or.inr ⟨?_, ⟨n, hn0, older, rfl, hcalm⟩, _, hbase.out _ _ hR⟩⟩
    unfold readS
    simp [H1.out, H2.out, H3.out, H4.out, H5.out, hno]
  refine Or.inl ⟨_, rfl, (hbase.out _ _ hR).kept, ?_⟩
  clear hH
  have hH := (hbase.out _ _ hR).kept
  have R6 := hid hR; have H6 := hid h6
  clear hR h6
  simp only [Act.put, List.setIfInBounds_toArray, List.set_cons_succ, List.set_cons_zero]
  refine takeH 16 (.int .i64 (IntKind.i64.wrap (N6 : Int))) rfl (by kernel_rfl) (by kernel_rfl) (by kernel_rfl) (fun _ _ _ h => h) (by rfl) (fun w hSw => by go_simp) hH ?_
  simp only [Act.put, List.setIfInBounds_toArray, List.set_cons_succ, List.set_cons_zero]
  obtain ⟨cs, hcs⟩ : ∃ cs, cs = snapCells (IntKind.i64.wrap (N1 : Int)) (IntKind.i64.wrap (N5 : Int)) (IntKind.i64.wrap (N6 : Int)) ⟨t2.toArray⟩ ⟨t3.toArray⟩ (t4.map B) := ⟨_, rfl⟩
  refine takeH 17 (.agg cs.toArray) rfl (by kernel_rfl) (by kernel_rfl) (by kernel_rfl) (fun _ _ _ h => h) (by rfl) (fun w hSw => by have h := run_built_snap w (IntKind.i64.wrap (N1 : Int)) (IntKind.i64.wrap (N5 : Int)) (IntKind.i64.wrap (N6 : Int)) ⟨t2.toArray⟩ ⟨t3.toArray⟩ (t4.map B) (by rw [List.length_map]; exact HL4.out); unfold execOp; simp only [← hcs] at h; simp [Act.eval, h]) hH ?_
  simp only [Act.put, List.setIfInBounds_toArray, List.set_cons_succ, List.set_cons_zero]
  obtain ⟨bcs, hbl⟩ : ∃ b, b = W.heap.size := ⟨_, rfl⟩
  have hkey := hid (show bcs ∉ [rb] by have := hrb.out; simp; omega)
  have hbx := hid (R6.out.kept.at hbox.out (by rw [← hbl]; exact hkey.out))
  have hcl := hid (show cs.length = zSnap.length by rw [hcs]; unfold snapCells; rw [zSnap_len]; simp [HL4.out])
  have hone := hid (show ∀ v ∈ cs, v.oneCell' = true from by
    intro v hv
    rw [hcs] at hv
    unfold snapCells at hv
    simp only [List.mem_append, List.mem_cons, List.mem_map, List.not_mem_nil, or_false] at hv
    rcases hv with ((rfl | rfl | rfl) | ⟨b, _, rfl⟩) | (rfl | rfl) <;> rfl)
  have hinf := hid (show (Tryd.prog.info? 28).map (·.size) = some cs.length by rw [hcl, zSnap_len]; exact snap_info)
  have hspl := hid (splice36 zSnap cs hcl)
  have hcl0 := hid hcl
  clear hcl
  refine writeH 18 rfl (by kernel_rfl) (by rfl) (w6.setRow bcs cs.toArray) ?_ (hH.setRow (fun h => by omega) _) ?_
  · have h := run_storeVar_at (P := Tryd.prog) w6 bcs 0 28 28 zSnap cs (by rw [hbl]; exact hbx.out) hinf.out (by rw [hcl0.out]; omega) hone.out
    rw [hspl.out] at h
    unfold execOp
    simp [Act.eval, Instr.storeAt, Instr.sureAddr, Sem.run_bind, Sem.run_pure, Result.andThen_ok, ← hbl, h]
  · refine wpAnyH_done (by kernel_rfl) ?_ _
    have R7 := hid (show Rv W rb a0 r6 (w6.setRow bcs cs.toArray) from by
      obtain ⟨a, c, q1, q2, q3⟩ := hbase.out _ _ R6.out
      have hk : Kept [bcs] w6 (w6.setRow bcs cs.toArray) := (Kept.refl _ _).setRow (fun _ => by simp) _
      exact ⟨a, c, q1.kept hk (by have := hkey.out; simp at this ⊢; omega) (fun x hx => by obtain ⟨y, hy, e⟩ := q3 x hx; have := Hab.out y hy; simp; omega), q2.setRow (fun h => by omega) _, q3⟩)
    have hb7 := hid (show (w6.setRow bcs cs.toArray).heap[bcs]? = some (.cells cs.toArray 28 (0, 0)) from setRow_heap _ _ _ _ _ _ (by rw [hbl]; exact hbx.out))
    rw [← hbl]
    generalize w6.setRow bcs cs.toArray = w7 at *
    clear hbx hone hspl
    go_wp2
    have hld := run_loadVar_cells (P := Tryd.prog) w7 28 ⟨bcs, 0, none⟩ cs _ Tryd.underlying28 rfl hinf.out (fun j v hj => by
      have e : (⟨bcs, 0, none⟩ : Addr).add j = ⟨bcs, j, none⟩ := by unfold Addr.add; split <;> simp_all
      rw [e, cell_of_row w7 _ j _ _ _ hb7.out]; simpa using hj)
    refine bodyPost_ret (v := .agg cs.toArray) ?_ rfl ?_
    · exact results_cell Tryd.results64 rfl hld
    · have b1 := i64_bounds (N1 : Int); have b5 := i64_bounds (N5 : Int); have b6 := i64_bounds (N6 : Int)
      refine Or.inl ⟨⟨IntKind.i64.wrap (N1 : Int), t2, t3, t4, IntKind.i64.wrap (N5 : Int), IntKind.i64.wrap (N6 : Int)⟩, r6, ?_, ⟨HL4.out, b1.1, b1.2, b5.1, b5.2, b6.1, b6.2⟩, by rw [hcs]; rfl, R7.out⟩
      unfold readS
      simp [H1.out, H2.out, H3.out, H4.out, H5.out, H6.out]
end Go.Proofs.YtmfjfahlgcdehaaDoor
