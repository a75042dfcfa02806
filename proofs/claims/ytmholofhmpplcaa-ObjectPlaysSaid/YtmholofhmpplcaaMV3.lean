import Derived.Test.YtmholofhmpplcaaMV2

/- coldstorelaw06.same. -/
namespace Go.Proofs.Ytmholofhmpplcaa
open Go.RowKit Go.Lib Go.Maps

set_option maxRecDepth 100000 in
set_option maxHeartbeats 4000000 in
theorem same06 (w : World) (U : List Nat) (p T : Nat) (more : List Value) (q : Int) (es fs : List Ent) (fv : Value) (fl : List Bool) (k : Nat) (h : Ob w U p T more q es fv fl k) (hl : es.length < 1000) (hs : sizeE es ≤ 1000000000) (base : Nat) (ra : Option Addr) (n rc : Nat) (hr : Rf w base (.slice ra n rc) fs) (hn : n = fs.length) (hse : SameE es fs) (q2 left : Int) (flv : Value) :
    Calls Try.prog 13 #[.pointer (some ⟨p, 0, none⟩), stR (.slice ra n rc) q2 k left flv] w fun e w' => e = .returned (.bool true) ∧ Kept [] w w' := by
  have hnm := hid (names_any (w.alloc (.cells #[.slice ra n rc, .int .i64 q2, .int .i64 k, .int .i64 left, flv] 35)) U p T more q es fv fl k (h.kept ((Kept.refl [] w).alloc _) (by simp)) 1000 hl (by decide))
  have HOB := hid (fun X (hX : Kept [] w X) => h.kept hX (by simp))
  have HR := hid hr; have HN := hid hn; have HSE := hid hse
  have hlen := hse.length; have hsize := hid hse.size
  have hnb : n < 1000 := by omega
  have HEN := hid (show es.length = n by omega)
  obtain ⟨W0, hW0⟩ : ∃ W0, W0 = w.alloc (.cells #[.slice ra n rc, .int .i64 q2, .int .i64 k, .int .i64 left, flv] 35) := ⟨_, rfl⟩
  have HW0 := hid hW0
  have k0 := hid (show Kept [] w W0 from hW0 ▸ (Kept.refl [] w).alloc _)
  obtain ⟨b0, hb0⟩ : ∃ b0, b0 = w.heap.size := ⟨_, rfl⟩
  have HB0 := hid hb0
  have hx0 := hid (show W0.heap[b0]? = some (.cells #[.slice ra n rc, .int .i64 q2, .int .i64 k, .int .i64 left, flv] 35 (0, 0)) from by rw [hW0, hb0]; exact heap_alloc_at rfl)
  rw [← hW0] at hnm
  rw [hlen, ← hn] at hnm
  clear hW0 hb0 h hl hr hn hse hlen
  unfold stR
  go_enter Try.func13, Try.ntmps13
  go_wp2_with fail
  rw [← HW0.out, ← HB0.out]
  refine hnm.out.mono ?_
  rintro e W ⟨vx, vy, rfl, k1, hox, hoy⟩
  obtain ⟨la, lc, rfl⟩ := owns_slice hox
  obtain ⟨oa, oc, rfl⟩ := owns_slice hoy
  have K1 := hid (k0.out.trans k1)
  have HOX := hid hox; have HOY := hid hoy
  have HB := hid (k1.at hx0.out (by simp))
  have hb0W := hid (lt_of_block HB.out)
  have hr0 := hid (fun X (hX : Kept [] W X) => (show X.cell? ⟨b0, 0, none⟩ = some (.slice ra n rc) from by rw [cell_of_row _ _ 0 _ _ _ (hX.at HB.out (by simp))]; rfl))
  have hr2 := hid (fun X (hX : Kept [] W X) => (show X.cell? ⟨b0, 2, none⟩ = some (.int .i64 k) from by rw [cell_of_row _ _ 2 _ _ _ (hX.at HB.out (by simp))]; rfl))
  have hrs := hid (fun X (hX : Kept [] W X) => ref_st X b0 (.slice ra n rc) q2 k left flv (hX.at HB.out (by simp)))
  have hcl := hid (fun X (hX : Kept [] W X) => ob_len X U p T more q es fv fl k (HOB.out X (K1.out.trans hX)))
  have hcs := hid (fun X (hX : Kept [] W X) => ob_size X U p T more q es fv fl k (HOB.out X (K1.out.trans hX)))
  have hco := hid (fun X (hX : Kept [] W X) => ob_ops X U p T more q es fv fl k (HOB.out X (K1.out.trans hX)))
  rw [HEN.out] at hcl
  have hsb := hid (show sizeE fs ≤ 1000000000 from by rw [← hsize.out]; exact hs)
  have hrz := hid (fun X (hX : Kept [] W X) => (by
    have h1 := HR.out.keep (K1.out.trans hX)
    rw [HN.out] at h1
    have h2 := ref_size ra rc fs q2 k left flv X h1.rowT (by have := HN.out; omega) hsb.out
    rw [← HN.out] at h2
    exact h2 : Calls Try.prog 31 #[stR (.slice ra n rc) q2 k left flv] X fun e w' => e = .returned (.int .i64 (sizeE fs : Int)) ∧ Kept [] X w'))
  rw [hsize.out] at hcs
  obtain ⟨sz, hsz⟩ : ∃ sz, sz = sizeE fs := ⟨_, rfl⟩
  rw [← hsz] at hcs hrz
  have hH0 : Kept [] W W.drew := (Kept.refl [] W).drew
  clear k1 hox hoy hnm hsz hs
  go_wp2_with fail
  refine wp_region_held_drew (S := fun v => Kept [] W v) (by kernel_rfl) hH0 (fun hH => ?_)
  refine takeH 0 (.slice la n lc) rfl (by kernel_rfl) (by kernel_rfl) (by kernel_rfl) (fun _ _ _ h => h) (by rfl) (fun v hv => by go_simp) hH ?_
  simp only [Act.put, List.setIfInBounds_toArray, List.set_cons_succ, List.set_cons_zero]
  refine takeH 1 (.int .i64 n) rfl (by kernel_rfl) (by kernel_rfl) (by kernel_rfl) (fun _ _ _ h => h) (by rfl) (fun v hv => by go_simp) hH ?_
  simp only [Act.put, List.setIfInBounds_toArray, List.set_cons_succ, List.set_cons_zero]
  refine takeH 2 (.pointer (some ⟨b0, 0, none⟩)) rfl (by kernel_rfl) (by kernel_rfl) (by kernel_rfl) (fun _ _ _ h => h) (by rfl) (fun v hv => by go_simp) hH ?_
  simp only [Act.put, List.setIfInBounds_toArray, List.set_cons_succ, List.set_cons_zero]
  refine takeH 3 (.slice ra n rc) rfl (by kernel_rfl) (by kernel_rfl) (by kernel_rfl) (fun _ _ _ h => h) (by rfl) (fun v hv => by have h := hr0.out v hv; go_simp) hH ?_
  simp only [Act.put, List.setIfInBounds_toArray, List.set_cons_succ, List.set_cons_zero]
  refine takeH 4 (.int .i64 n) rfl (by kernel_rfl) (by kernel_rfl) (by kernel_rfl) (fun _ _ _ h => h) (by rfl) (fun v hv => by go_simp) hH ?_
  simp only [Act.put, List.setIfInBounds_toArray, List.set_cons_succ, List.set_cons_zero]
  refine takeH 5 (.bool false) rfl (by kernel_rfl) (by kernel_rfl) (by kernel_rfl) (fun _ _ _ h => h) (by rfl) (fun v hv => by go_simp) hH ?_
  simp only [Act.put, List.setIfInBounds_toArray, List.set_cons_succ, List.set_cons_zero]
  refine takeH 6 (.bool false) rfl (by kernel_rfl) (by kernel_rfl) (by kernel_rfl) (fun _ _ _ h => h) (by rfl) (fun v hv => by go_simp) hH ?_
  simp only [Act.put, List.setIfInBounds_toArray, List.set_cons_succ, List.set_cons_zero]
  refine takeH 7 (.pointer (some ⟨p, 0, none⟩)) rfl (by kernel_rfl) (by kernel_rfl) (by kernel_rfl) (fun _ _ _ h => h) (by rfl) (fun v hv => by go_simp) hH ?_
  simp only [Act.put, List.setIfInBounds_toArray, List.set_cons_succ, List.set_cons_zero]
  refine takeH 9 (.pointer (some ⟨b0, 0, none⟩)) rfl (by kernel_rfl) (by kernel_rfl) (by kernel_rfl) (fun _ _ _ h => h) (by rfl) (fun v hv => by go_simp) hH ?_
  simp only [Act.put, List.setIfInBounds_toArray, List.set_cons_succ, List.set_cons_zero]
  refine takeH 10 (.slice ra n rc) rfl (by kernel_rfl) (by kernel_rfl) (by kernel_rfl) (fun _ _ _ h => h) (by rfl) (fun v hv => by have h := hr0.out v hv; go_simp) hH ?_
  simp only [Act.put, List.setIfInBounds_toArray, List.set_cons_succ, List.set_cons_zero]
  refine takeH 11 (.int .i64 n) rfl (by kernel_rfl) (by kernel_rfl) (by kernel_rfl) (fun _ _ _ h => h) (by rfl) (fun v hv => by go_simp) hH ?_
  simp only [Act.put, List.setIfInBounds_toArray, List.set_cons_succ, List.set_cons_zero]
  refine callR 8 rfl (by kernel_rfl) (by rfl) 21 #[.pointer (some ⟨p, 0, none⟩)] (by go_simp) (.int .i64 n) (fun v => W.drew = v) (fun v h => h ▸ hH) (hcl.out _ hH) ?_
  rintro y rfl
  simp only [Act.put, List.setIfInBounds_toArray, List.set_cons_succ, List.set_cons_zero]
  refine takeH 12 (.bool false) rfl (by kernel_rfl) (by kernel_rfl) (by kernel_rfl) (fun _ _ _ h => h) (by rfl) (fun v hv => by go_simp) hH ?_
  simp only [Act.put, List.setIfInBounds_toArray, List.set_cons_succ, List.set_cons_zero]
  refine takeH 13 (.bool false) rfl (by kernel_rfl) (by kernel_rfl) (by kernel_rfl) (fun _ _ _ h => h) (by rfl) (fun v hv => by go_simp) hH ?_
  simp only [Act.put, List.setIfInBounds_toArray, List.set_cons_succ, List.set_cons_zero]
  refine takeH 14 (.bool false) rfl (by kernel_rfl) (by kernel_rfl) (by kernel_rfl) (fun _ _ _ h => h) (by rfl) (fun v hv => by go_simp) hH ?_
  simp only [Act.put, List.setIfInBounds_toArray, List.set_cons_succ, List.set_cons_zero]
  refine takeH 15 (.pointer (some ⟨p, 0, none⟩)) rfl (by kernel_rfl) (by kernel_rfl) (by kernel_rfl) (fun _ _ _ h => h) (by rfl) (fun v hv => by go_simp) hH ?_
  simp only [Act.put, List.setIfInBounds_toArray, List.set_cons_succ, List.set_cons_zero]
  refine takeH 17 (stR (.slice ra n rc) q2 k left flv) rfl (by kernel_rfl) (by kernel_rfl) (by kernel_rfl) (fun _ _ _ h => h) (by rfl) (fun v hv => by have h := hrs.out v hv; unfold execOp; simp [Instr.loadAt, Instr.sureAddr, Sem.run_bind, Sem.run_pure, Result.andThen_ok, Act.eval, h]) hH ?_
  simp only [Act.put, List.setIfInBounds_toArray, List.set_cons_succ, List.set_cons_zero]
  refine callR 16 rfl (by kernel_rfl) (by rfl) 22 #[.pointer (some ⟨p, 0, none⟩)] (by go_simp) (.int .i64 (sz : Int)) (fun v => W.drew = v) (fun v h => h ▸ hH) (hcs.out _ hH) ?_
  rintro y rfl
  simp only [Act.put, List.setIfInBounds_toArray, List.set_cons_succ, List.set_cons_zero]
  refine callR 18 rfl (by kernel_rfl) (by rfl) 31 #[stR (.slice ra n rc) q2 k left flv] (by go_simp) (.int .i64 (sz : Int)) (fun v => Kept [] W.drew v) (fun v h => hH.trans h) (hrz.out _ hH) ?_
  rintro v2 hv2
  simp only [Act.put, List.setIfInBounds_toArray, List.set_cons_succ, List.set_cons_zero]
  refine takeH 19 (.bool false) rfl (by kernel_rfl) (by kernel_rfl) (by kernel_rfl) (fun _ _ _ h => h) (by rfl) (fun v hv => by go_simp) (hH.trans hv2) ?_
  simp only [Act.put, List.setIfInBounds_toArray, List.set_cons_succ, List.set_cons_zero]
  refine takeH 20 (.bool false) rfl (by kernel_rfl) (by kernel_rfl) (by kernel_rfl) (fun _ _ _ h => h) (by rfl) (fun v hv => by go_simp) (hH.trans hv2) ?_
  simp only [Act.put, List.setIfInBounds_toArray, List.set_cons_succ, List.set_cons_zero]
  refine takeH 21 (.bool false) rfl (by kernel_rfl) (by kernel_rfl) (by kernel_rfl) (fun _ _ _ h => h) (by rfl) (fun v hv => by go_simp) (hH.trans hv2) ?_
  simp only [Act.put, List.setIfInBounds_toArray, List.set_cons_succ, List.set_cons_zero]
  refine takeH 22 (.pointer (some ⟨p, 0, none⟩)) rfl (by kernel_rfl) (by kernel_rfl) (by kernel_rfl) (fun _ _ _ h => h) (by rfl) (fun v hv => by go_simp) (hH.trans hv2) ?_
  simp only [Act.put, List.setIfInBounds_toArray, List.set_cons_succ, List.set_cons_zero]
  refine takeH 24 (.pointer (some ⟨b0, 2, none⟩)) rfl (by kernel_rfl) (by kernel_rfl) (by kernel_rfl) (fun _ _ _ h => h) (by rfl) (fun v hv => by go_simp) (hH.trans hv2) ?_
  simp only [Act.put, List.setIfInBounds_toArray, List.set_cons_succ, List.set_cons_zero]
  refine takeH 25 (.int .i64 k) rfl (by kernel_rfl) (by kernel_rfl) (by kernel_rfl) (fun _ _ _ h => h) (by rfl) (fun v hv => by have h := hr2.out v hv; go_simp) (hH.trans hv2) ?_
  simp only [Act.put, List.setIfInBounds_toArray, List.set_cons_succ, List.set_cons_zero]
  refine callR 23 rfl (by kernel_rfl) (by rfl) 20 #[.pointer (some ⟨p, 0, none⟩)] (by go_simp) (.int .i64 k) (fun v => v2 = v) (fun v h => h ▸ (hH.trans hv2)) (hco.out _ (hH.trans hv2)) ?_
  rintro y rfl
  simp only [Act.put, List.setIfInBounds_toArray, List.set_cons_succ, List.set_cons_zero]
  refine takeH 26 (.bool false) rfl (by kernel_rfl) (by kernel_rfl) (by kernel_rfl) (fun _ _ _ h => h) (by rfl) (fun v hv => by go_simp) (hH.trans hv2) ?_
  simp only [Act.put, List.setIfInBounds_toArray, List.set_cons_succ, List.set_cons_zero]
  refine takeH 27 (.bool false) rfl (by kernel_rfl) (by kernel_rfl) (by kernel_rfl) (fun _ _ _ h => h) (by rfl) (fun v hv => by go_simp) (hH.trans hv2) ?_
  simp only [Act.put, List.setIfInBounds_toArray, List.set_cons_succ, List.set_cons_zero]
  refine wpAnyH_done (by kernel_rfl) ?_ _
  have K2 := hid (hH.trans hv2)
  have g0 : v2.cell? ⟨b0, 0, none⟩ = some (.slice ra n rc) := hr0.out _ K2.out
  have HRT := hid (show RowT v2 ra fs from by
    have h1 := HR.out.keep (K1.out.trans K2.out)
    rw [HN.out] at h1
    exact h1.rowT)
  have HX2 := hid (K2.out.owns HOX.out (by simp))
  have HY2 := hid (K2.out.owns HOY.out (by simp))
  clear hv2 hH hH0 hcl hcs hco hrz hrs hr0 hr2
  go_wp2_with fail
  go_loopw [45] (fun s wr => ∃ i : Nat, i ≤ n ∧ s = .int .i64 i ∧ Hid (Kept [] v2 wr)) (fun s _ => n - (intOf s).toNat)
  case atStart => exact ⟨0, Nat.zero_le _, rfl, hid (Kept.refl _ _)⟩
  case round =>
    obtain ⟨i, hi, rfl, hkr⟩ := hrel
    by_cases h1 : i < n
    · have hi2 : i < fs.length := by have := HN.out; omega
      have hi3 : i < es.length := by have := HEN.out; omega
      obtain ⟨x, rfl⟩ : ∃ x, ra = some x := by
        cases ra with
        | none => exact absurd (HRT.out.1 rfl) (fun e => by rw [e] at hi2; simp at hi2)
        | some x => exact ⟨x, rfl⟩
      obtain ⟨q0, q1, ea, ec, hev, -⟩ := HRT.out.2 x rfl i fs[i] (by simp)
      rw [hev] at q1
      have c0 := (hkr.out.cell (World.block_lt_of_cell? _ _ q0) (by simp)).trans q0
      have c1 := (hkr.out.cell (World.block_lt_of_cell? _ _ q1) (by simp)).trans q1
      obtain ⟨g, rfl⟩ : ∃ g, la = some ⟨g, 0, none⟩ := by
        rcases HX2.out.2 with ⟨_, h0⟩ | ⟨g, cap, cur, hv, _⟩
        · omega
        · simp at hv; exact ⟨g, hv.1⟩
      obtain ⟨g2, rfl⟩ : ∃ g, oa = some ⟨g, 0, none⟩ := by
        rcases HY2.out.2 with ⟨_, h0⟩ | ⟨g, cap, cur, hv, _⟩
        · omega
        · simp at hv; exact ⟨g, hv.1⟩
      have hsi := congrArg (fun l => l[i]?) HSE.out
      simp only [List.getElem?_map, List.getElem?_eq_getElem hi2, List.getElem?_eq_getElem hi3, Option.map_some] at hsi
      have hst : strip es[i] = strip fs[i] := by simpa using hsi
      have hnm : es[i].name = fs[i].name := by have := congrArg Ent.name hst; exact this
      have hbl : es[i].b.length = fs[i].b.length := by have := congrArg (fun e : Ent => e.b.length) hst; exact this
      obtain ⟨s, hs⟩ : ∃ s, s = S fs[i].name := ⟨_, rfl⟩
      obtain ⟨sl, hsl⟩ : ∃ sl : Nat, sl = fs[i].b.length := ⟨_, rfl⟩
      rw [← hs] at c0
      rw [← hsl] at c1
      have e0 : wr.cell? ⟨g, i, none⟩ = some (.string s) := owns_cell (hkr.out.owns HX2.out (by simp)) (by rw [List.getElem?_map, List.getElem?_eq_getElem hi3]; show some (Value.string (S es[i].name)) = _; rw [hnm, hs])
      have e1 : wr.cell? ⟨g2, i, none⟩ = some (.int .i64 sl) := owns_cell (hkr.out.owns HY2.out (by simp)) (by rw [List.getElem?_map, List.getElem?_eq_getElem hi3]; show some (Value.int .i64 (es[i].b.length : Int)) = _; rw [hbl, hsl])
      obtain ⟨W3, hW3⟩ : ∃ W3, W3 = wr.alloc (.cells #[.string s, .slice ea sl ec] 75) := ⟨_, rfl⟩
      have HW3 := hid hW3
      have k3 := hid (show Kept [] wr W3 from hW3 ▸ (Kept.refl [] wr).alloc _)
      have hx3 := hid (show W3.heap[wr.heap.size]? = some (.cells #[.string s, .slice ea sl ec] 75 (0, 0)) from hW3 ▸ heap_alloc_at rfl)
      have t0 : W3.cell? ⟨wr.heap.size, 0, none⟩ = some (.string s) := by rw [cell_of_row _ _ 0 _ _ _ hx3.out]; rfl
      have t1 : W3.cell? ⟨wr.heap.size, 1, none⟩ = some (.slice ea sl ec) := by rw [cell_of_row _ _ 1 _ _ _ hx3.out]; rfl
      have e0' := (k3.out.cell (World.block_lt_of_cell? _ _ e0) (by simp)).trans e0
      have e1' := (k3.out.cell (World.block_lt_of_cell? _ _ e1) (by simp)).trans e1
      have HLT := hid h1
      have hkd := hid (fun n => (hkr.out.trans k3.out).drewN n)
      clear hs hsl hnm hbl hst hsi hev q0 q1 hi2 hi3 hW3
      go_wp2_with fail
      rw [← HW3.out]
      clear c0 c1 e0 e1
      go_wp2_with fail
      go_quiet (fail)
      have hk2 := hid (hkd.out nq)
      generalize W3.drewN nq = W4 at *
      go_wp2_with fail
      exact ⟨⟨i + 1, by have := HLT.out; omega, by go_num, hk2⟩, by simp [intOf]; have := HLT.out; omega⟩
    · obtain rfl : i = n := by omega
      go_wp2
      go_ret
      exact ⟨rfl, (K1.out.trans K2.out).trans hkr.out⟩
end Go.Proofs.Ytmholofhmpplcaa


/- ObjectPlays: the store and its reference, side by side. -/
namespace Go.Proofs.Ytmholofhmpplcaa
open Go.RowKit Go.Lib Go.Maps

theorem Src.kept {S : List Nat} {w w' : World} {v : Value} {n : Nat} {xs : List Value} (h : Src w v n xs) (hk : Kept S w w') (hS : xs ≠ [] → ∀ g, v.ownBlock = some g → g ∉ S) : Src w' v n xs := by
  rcases h with g | ⟨y, c, rfl, g2⟩
  · exact Or.inl g
  · exact Or.inr ⟨y, c, rfl, fun j u hj => (hk.cell (World.block_lt_of_cell? w _ (g2 j u hj)) (by rw [add_block]; exact hS (fun e => by rw [e] at hj; simp at hj) _ rfl)).trans (g2 j u hj)⟩
theorem Rf.kept {S : List Nat} {w w' : World} {base : Nat} {rv : Value} {es : List Ent} (h : Rf w base rv es) (hk : Kept S w w') (hr : ∀ g, rv.ownBlock = some g → g ∉ S) (ht : ∀ e ∈ es, e.b ≠ [] → ∀ g, e.v.ownBlock = some g → g ∉ S) : Rf w' base rv es :=
  ⟨hk.owns h.row hr, fun e he => by obtain ⟨a, c, h1, h2⟩ := h.th e he; exact ⟨a, c, h1, h2.kept hk (fun hne => ht e he (fun h0 => hne (by rw [h0]; rfl)))⟩, Nat.le_trans h.low hk.size⟩
theorem SameE.symm {es fs : List Ent} (h : SameE es fs) : SameE fs es := Eq.symm h
theorem SameE.rising {es fs : List Ent} (h : SameE es fs) (hr : Rising es) : Rising fs := by
  have h1 : es.map (·.name) = fs.map (·.name) := by
    have := congrArg (fun l => l.map (·.name)) h
    simp only [List.map_map] at this
    exact this
  unfold Rising at *
  rw [← h1]; exact hr
theorem SameE.names' {es fs : List Ent} (h : SameE es fs) : es.map (·.name) = fs.map (·.name) := by
  have := congrArg (fun l => l.map (·.name)) h
  simp only [List.map_map] at this
  exact this
theorem SameE.gotE {es fs : List Ent} (h : SameE es fs) (fl : List Bool) (nm : List UInt8) : gotE fl es nm = gotE fl fs nm := by
  unfold Go.Proofs.Ytmholofhmpplcaa.gotE; rw [(h.find nm).1]
theorem SameE.gotB {es fs : List Ent} (h : SameE es fs) (fl : List Bool) (nm : List UInt8) : gotB fl es nm = gotB fl fs nm := by
  unfold Go.Proofs.Ytmholofhmpplcaa.gotB; rw [(h.find nm).2]
theorem SameE.gotL {es fs : List Ent} (h : SameE es fs) (fl : List Bool) (nm : List UInt8) : gotL fl es nm = gotL fl fs nm := by
  unfold Go.Proofs.Ytmholofhmpplcaa.gotL namesL; rw [h.names']
theorem SameE.drop {es fs : List Ent} (h : SameE es fs) (fl : List Bool) (nm : List UInt8) : SameE (dropE fl es nm) (dropE fl fs nm) := by
  unfold dropE; split
  · exact h.del nm
  · exact h
theorem mem_drop {fl : List Bool} {nm : List UInt8} {e : Ent} {es : List Ent} (h : e ∈ dropE fl es nm) : e ∈ es := by
  unfold dropE at h; split at h
  · exact (mem_del.1 h).1
  · exact h
theorem len_drop_le (fl : List Bool) (nm : List UInt8) (es : List Ent) : (dropE fl es nm).length ≤ es.length := by
  unfold dropE; split
  · exact len_del_le _ _
  · exact Nat.le_refl _
/-- A store and its reference hold the same. D: the arguments' world; U: the store's blocks; f: the fuse; T: the faults'. -/
structure PS (D : Nat) (W : World) (p : Nat) (q : Int) (f : Nat) (T : List Nat) (es fs : List Ent) (U : List Nat) (fl : List Bool) (k : Nat) (left : Int) (row flv : Value) : Prop where
  ob : Ob W U p 58 [] q es (.pointer (some ⟨f, 0, none⟩)) fl k
  fu : FuV W U (.pointer (some ⟨f, 0, none⟩)) left
  rf : ∃ base, Rf W base row fs
  rb : ∀ g, row.ownBlock = some g → g ∉ U ∧ g ≠ f ∧ D ≤ g
  th : ∀ e ∈ fs, e.b ≠ [] → ∀ g, e.v.ownBlock = some g → g < D
  se : SameE es fs
  fr : SrcS W T flv fl.length (fl.map .bool)
  tl : ∀ x ∈ T, x < D
  ul : ∀ x ∈ U, D ≤ x
  fb : D ≤ f
  dl : D ≤ W.heap.size
  fle : fl.length ≤ 1000
  bd : sizeE es ≤ 200 * k ∧ es.length ≤ k
variable {D : Nat} {W W' V : World} {p : Nat} {q : Int} {f : Nat} {T : List Nat} {es fs es' fs' : List Ent} {U U' : List Nat} {fl : List Bool} {k : Nat} {left : Int} {row flv row' flv' : Value}
theorem PS.flt (h : PS D W p q f T es fs U fl k left row flv) : f < W.heap.size ∧ f ∉ U ∧ (-1 ≤ left ∧ left ≤ 9223372036854775807) := by
  rcases h.fu with ⟨h, _⟩ | ⟨g, hg, h2, h3, h4, h5⟩
  · simp at h
  · simp at hg; subst hg; exact ⟨lt_of_block h3, h2, h4, h5⟩
theorem PS.kept {S : List Nat} (h : PS D W p q f T es fs U fl k left row flv) (hk : Kept S W W') (hU : ∀ x ∈ S, x ∉ U ∧ x ≠ f ∧ D ≤ x ∧ row.ownBlock ≠ some x) : PS D W' p q f T es fs U fl k left row flv := by
  obtain ⟨h1, h2, ⟨b, h3⟩, h4, h5, h6, h7, h8, h9, h10, h11, h12, h13⟩ := h
  exact ⟨h1.kept hk (fun x hx hm => (hU x hm).1 hx), h2.kept hk (fun x hx hm => by simp [fuB] at hx; exact (hU x hm).2.1 hx), ⟨b, h3.kept hk (fun g hg hm => (hU g hm).2.2.2 hg) (fun e he hne g hg hm => by have := h5 e he hne g hg; have := (hU g hm).2.2.1; omega)⟩, h4, h5, h6, h7.kept hk (fun x hx hm => by have := h8 x hx; have := (hU x hm).2.2.1; omega), h8, h9, h10, Nat.le_trans h11 hk.size, h12, h13⟩
theorem PS.keep (h : PS D W p q f T es fs U fl k left row flv) (hk : Kept [] W W') : PS D W' p q f T es fs U fl k left row flv := h.kept hk (by simp)
/-- Behind the store's own step: the reference as it was. -/
theorem PS.mid (h : PS D W p q f T es fs U fl k left row flv) (hk : Kept (U ++ [f]) W V) : (∃ base, Rf V base row fs) ∧ SrcS V T flv fl.length (fl.map .bool) := by
  obtain ⟨b, hr⟩ := h.rf
  refine ⟨⟨b, hr.kept hk (fun g hg hm => ?_) (fun e he hne g hg hm => ?_)⟩, h.fr.kept hk (fun x hx hm => ?_)⟩
  · have := h.rb g hg
    simp at hm
    rcases hm with hm | hm
    · exact this.1 hm
    · exact this.2.1 hm
  · have h1 := h.th e he hne g hg
    simp at hm
    rcases hm with hm | hm
    · have := h.ul g hm; omega
    · have := h.fb; omega
  · have h1 := h.tl x hx
    simp at hm
    rcases hm with hm | hm
    · have := h.ul x hm; omega
    · have := h.fb; omega
/-- The next state, of its parts. -/
theorem PS.next (h : PS D W p q f T es fs U fl k left row flv) {V W' : World} (hV : W.heap.size ≤ V.heap.size) {S : List Nat} (hVW : Kept S V W') (hS : ∀ x ∈ S, x ∉ U' ∧ x ≠ f)
    (ho : Ob V U' p 58 [] q es' (.pointer (some ⟨f, 0, none⟩)) (fl.drop 1) (k + 1)) (hf : FuV V U' (.pointer (some ⟨f, 0, none⟩)) (decL left)) (hU : ∀ x ∈ U', x ∈ U ∨ W.heap.size ≤ x)
    (hr : ∃ base, Rf W' base row' fs') (hrb : ∀ g, row'.ownBlock = some g → row.ownBlock = some g ∨ V.heap.size ≤ g) (ht : ∀ e ∈ fs', e.b ≠ [] → ∀ g, e.v.ownBlock = some g → g < D) (hs : SameE es' fs')
    (hfr : SrcS W' T flv' (fl.drop 1).length ((fl.drop 1).map .bool)) (hz : sizeE es' ≤ 200 * (k + 1) ∧ es'.length ≤ k + 1) : PS D W' p q f T es' fs' U' (fl.drop 1) (k + 1) (decL left) row' flv' := by
  refine ⟨ho.kept hVW (fun x hx hm => (hS x hm).1 hx), hf.kept hVW (fun x hx hm => by simp [fuB] at hx; exact (hS x hm).2 hx), hr, fun g hg => ?_, ht, hs, hfr, h.tl, fun x hx => ?_, h.fb, ?_, by have := h.fle; simp; omega, hz⟩
  · have hd := h.dl
    rcases hrb g hg with h1 | h1
    · obtain ⟨b, hr0⟩ := h.rf
      have h2 := (hr0.row.lt g h1).2
      refine ⟨fun hm => ?_, (h.rb g h1).2⟩
      rcases hU g hm with h3 | h3
      · exact (h.rb g h1).1 h3
      · omega
    · have h3 := h.flt.1
      refine ⟨fun hm => ?_, by omega, by omega⟩
      have := ho.bound g hm
      omega
  · rcases hU x hx with h1 | h1
    · exact h.ul x h1
    · have := h.dl; omega
  · have := h.dl; have := hVW.size; omega
/-- What a step leaves. -/
def StepR (D : Nat) (w : World) (p : Nat) (q : Int) (f : Nat) (T : List Nat) (U : List Nat) (k : Nat) (e : Ending) (w' : World) : Prop :=
  ∃ (es' fs' : List Ent) (U' : List Nat) (fl' : List Bool) (k' : Nat) (left' : Int) (row' flv' : Value), e = .returned (.tuple #[stR row' q k' left' flv', .bool true]) ∧ Kept (U ++ [f]) w w' ∧ (∀ x ∈ U', x ∈ U ∨ w.heap.size ≤ x) ∧ PS D w' p q f T es' fs' U' fl' k' left' row' flv' ∧ k' ≤ k + 1
end Go.Proofs.Ytmholofhmpplcaa
