import Derived.Test.YtfefpblneihmgaaDoorFC

/- cache: Spoil of any sum. -/
namespace Go.Proofs.YtfefpblneihmgaaDoor
open Go.RowKit Go.Lib Go.Maps
set_option maxRecDepth 100000 in
set_option maxHeartbeats 4000000 in
theorem ca_spoil_none (D : Nat) (w : World) (U : List Nat) (p : Nat) (lim : Int) (ns : List Kn) (h : Ca D w U p lim ns) (id : List UInt8) (h32 : id.length = 32) (hf : id ∉ ns.map (·.id)) (bit : Int) :
    Calls Tryd.prog 18 #[.pointer (some ⟨p, 0, none⟩), .agg (id.map B).toArray, .int .i64 bit] w fun e w' => e = .returned (.bool false) ∧ Kept [] w w' := by
  have HC := hid h
  obtain ⟨⟨mv, h1, h2, h3⟩, h4, h5, _⟩ := h
  have hfind := find_not hf
  obtain ⟨W, hW⟩ : ∃ W, W = w.alloc (.cells (id.map B).toArray 34) := ⟨_, rfl⟩
  have hk := hid (show Kept [] w W from hW ▸ (Kept.refl [] w).alloc _)
  have hb := hid (show W.heap[w.heap.size]? = some (.cells (id.map B).toArray 34 (0, 0)) from hW ▸ heap_alloc_at rfl)
  have HW := hid hW
  have hmv := hid (fun v (hv : Kept [] W v) => (ca_cells (show CaAt v p lim (sizeK ns) mv (fstP ns none) (lstP none ns) from (hk.out.trans hv).at h1 (by simp))).2.2.1)
  have hld := hid (fun v (hv : Kept [] W v) => ld_idB v w.heap.size id h32 (hv.at hb.out (by simp)))
  have hlk := hid (fun v (hv : Kept [] W v) => (show (Instr.lookup 62 mv (.agg (id.map B).toArray) true).run Tryd.prog v = .ok (.tuple #[.pointer none, .bool false]) v from by
    have := im_look (h2.kept (hk.out.trans hv) (fun b _ => by simp)) id h32
    rw [hfind] at this
    exact this))
  obtain ⟨iv, hiv⟩ : ∃ iv, iv = (id.map B).toArray := ⟨_, rfl⟩
  rw [← hiv] at hld hlk HW ⊢
  clear h1 h2 h3 h4 h5 hW hfind hiv hb hf
  go_enter Tryd.func18, Tryd.ntmps18
  go_wp2_with fail
  rw [← HW.out]
  have hH0 : Kept [] W W.drew := (Kept.refl [] W).drew
  refine wp_region_held_drew (S := fun v => Kept [] W v) (by kernel_rfl) hH0 (fun hH => ?_)
  refine takeH 0 (.pointer (some ⟨p, 0, none⟩)) rfl (by kernel_rfl) (by kernel_rfl) (by kernel_rfl) (fun _ _ _ h => h) (by rfl) (fun v hv => by go_simp) hH ?_
  simp only [Act.put, List.setIfInBounds_toArray, List.set_cons_succ, List.set_cons_zero]
  refine takeH 1 (.pointer (some ⟨p, 0, none⟩)) rfl (by kernel_rfl) (by kernel_rfl) (by kernel_rfl) (fun _ _ _ h => h) (by rfl) (fun v hv => by go_simp) hH ?_
  simp only [Act.put, List.setIfInBounds_toArray, List.set_cons_succ, List.set_cons_zero]
  refine takeH 2 (.pointer (some ⟨p, 2, none⟩)) rfl (by kernel_rfl) (by kernel_rfl) (by kernel_rfl) (fun _ _ _ h => h) (by rfl) (fun v hv => by go_simp) hH ?_
  simp only [Act.put, List.setIfInBounds_toArray, List.set_cons_succ, List.set_cons_zero]
  refine takeH 3 (mv) rfl (by kernel_rfl) (by kernel_rfl) (by kernel_rfl) (fun _ _ _ h => h) (by rfl) (fun v hv => by have h := hmv.out v hv; go_simp) hH ?_
  simp only [Act.put, List.setIfInBounds_toArray, List.set_cons_succ, List.set_cons_zero]
  refine takeH 4 (.agg iv) rfl (by kernel_rfl) (by kernel_rfl) (by kernel_rfl) (fun _ _ _ h => h) (by rfl) (fun v hv => by have h := hld.out v hv; unfold execOp; simp [Instr.loadAt, Instr.sureAddr, Sem.run_bind, Sem.run_pure, Result.andThen_ok, Act.eval, h]) hH ?_
  simp only [Act.put, List.setIfInBounds_toArray, List.set_cons_succ, List.set_cons_zero]
  refine takeH 5 (.tuple #[.pointer none, .bool false]) rfl (by kernel_rfl) (by kernel_rfl) (by kernel_rfl) (fun _ _ _ h => h) (by rfl) (fun v hv => by have h := hlk.out v hv; unfold execOp; simp [Act.eval, Sem.run_bind, Sem.run_pure, Result.andThen_ok, h]) hH ?_
  simp only [Act.put, List.setIfInBounds_toArray, List.set_cons_succ, List.set_cons_zero]
  refine takeH 6 (.tuple #[.pointer none, .bool false]) rfl (by kernel_rfl) (by kernel_rfl) (by kernel_rfl) (fun _ _ _ h => h) (by rfl) (fun v hv => by go_simp) hH ?_
  simp only [Act.put, List.setIfInBounds_toArray, List.set_cons_succ, List.set_cons_zero]
  refine takeH 7 (.pointer none) rfl (by kernel_rfl) (by kernel_rfl) (by kernel_rfl) (fun _ _ _ h => h) (by rfl) (fun v hv => by go_simp) hH ?_
  simp only [Act.put, List.setIfInBounds_toArray, List.set_cons_succ, List.set_cons_zero]
  refine takeH 8 (.bool false) rfl (by kernel_rfl) (by kernel_rfl) (by kernel_rfl) (fun _ _ _ h => h) (by rfl) (fun v hv => by go_simp) hH ?_
  simp only [Act.put, List.setIfInBounds_toArray, List.set_cons_succ, List.set_cons_zero]
  refine takeH 9 (.pointer none) rfl (by kernel_rfl) (by kernel_rfl) (by kernel_rfl) (fun _ _ _ h => h) (by rfl) (fun v hv => by go_simp) hH ?_
  simp only [Act.put, List.setIfInBounds_toArray, List.set_cons_succ, List.set_cons_zero]
  refine takeH 10 (.bool false) rfl (by kernel_rfl) (by kernel_rfl) (by kernel_rfl) (fun _ _ _ h => h) (by rfl) (fun v hv => by go_simp) hH ?_
  simp only [Act.put, List.setIfInBounds_toArray, List.set_cons_succ, List.set_cons_zero]
  refine wpAnyH_done (by kernel_rfl) ?_ _
  go_wp2
  go_ret
  exact ⟨rfl, hk.out.trans hH0⟩
set_option maxRecDepth 100000 in
set_option maxHeartbeats 4000000 in
theorem ca_spoil_empty (D : Nat) (w : World) (U : List Nat) (p : Nat) (lim : Int) (ns : List Kn) (h : Ca D w U p lim ns) (n : Kn) (hn : n ∈ ns) (hne : n.bs = []) (id : List UInt8) (hid0 : id = n.id) (bit : Int) :
    Calls Tryd.prog 18 #[.pointer (some ⟨p, 0, none⟩), .agg (id.map B).toArray, .int .i64 bit] w fun e w' => e = .returned (.bool false) ∧ Kept [] w w' := by
  have HC := hid h
  obtain ⟨⟨mv, h1, h2, h3⟩, h4, h5, _⟩ := h
  obtain ⟨xa, xb, hln⟩ := h4.mem hn
  have h32 : id.length = 32 := by rw [hid0]; exact hln.1
  have hfind : findI id (pairK ns) = some n.b := by
    obtain ⟨A, C, rfl⟩ := List.append_of_mem hn
    rw [hid0]
    exact find_here HC.out.ids
  obtain ⟨va, vc, hv0⟩ : ∃ a c, n.v = .slice a 0 c := by
    obtain ⟨a, c, e⟩ := owns_slice (h5 n hn).1
    rw [hne] at e
    exact ⟨a, c, e⟩
  have hcd := hid (fun V (hV : Kept [] w V) => (show V.cell? ⟨n.b, 32, none⟩ = some (.slice va 0 vc) from by
    have h1 := (kn_cells hln.1 (hV.at hln.2 (by simp))).1
    rw [hv0] at h1
    exact h1))
  obtain ⟨W, hW⟩ : ∃ W, W = w.alloc (.cells (id.map B).toArray 34) := ⟨_, rfl⟩
  have hk := hid (show Kept [] w W from hW ▸ (Kept.refl [] w).alloc _)
  have hb := hid (show W.heap[w.heap.size]? = some (.cells (id.map B).toArray 34 (0, 0)) from hW ▸ heap_alloc_at rfl)
  have HW := hid hW
  have hmv := hid (fun v (hv : Kept [] W v) => (ca_cells (show CaAt v p lim (sizeK ns) mv (fstP ns none) (lstP none ns) from (hk.out.trans hv).at h1 (by simp))).2.2.1)
  have hld := hid (fun v (hv : Kept [] W v) => ld_idB v w.heap.size id h32 (hv.at hb.out (by simp)))
  have hlk := hid (fun v (hv : Kept [] W v) => (show (Instr.lookup 62 mv (.agg (id.map B).toArray) true).run Tryd.prog v = .ok (.tuple #[.pointer (some ⟨n.b, 0, none⟩), .bool true]) v from by
    have := im_look (h2.kept (hk.out.trans hv) (fun b _ => by simp)) id h32
    rw [hfind] at this
    exact this))
  obtain ⟨iv, hiv⟩ : ∃ iv, iv = (id.map B).toArray := ⟨_, rfl⟩
  rw [← hiv] at hld hlk HW ⊢
  clear h1 h2 h3 h4 h5 hW hfind hiv hb hn hne hid0 hln hv0
  go_enter Tryd.func18, Tryd.ntmps18
  go_wp2_with fail
  rw [← HW.out]
  have hH0 : Kept [] W W.drew := (Kept.refl [] W).drew
  refine wp_region_held_drew (S := fun v => Kept [] W v) (by kernel_rfl) hH0 (fun hH => ?_)
  refine takeH 0 (.pointer (some ⟨p, 0, none⟩)) rfl (by kernel_rfl) (by kernel_rfl) (by kernel_rfl) (fun _ _ _ h => h) (by rfl) (fun v hv => by go_simp) hH ?_
  simp only [Act.put, List.setIfInBounds_toArray, List.set_cons_succ, List.set_cons_zero]
  refine takeH 1 (.pointer (some ⟨p, 0, none⟩)) rfl (by kernel_rfl) (by kernel_rfl) (by kernel_rfl) (fun _ _ _ h => h) (by rfl) (fun v hv => by go_simp) hH ?_
  simp only [Act.put, List.setIfInBounds_toArray, List.set_cons_succ, List.set_cons_zero]
  refine takeH 2 (.pointer (some ⟨p, 2, none⟩)) rfl (by kernel_rfl) (by kernel_rfl) (by kernel_rfl) (fun _ _ _ h => h) (by rfl) (fun v hv => by go_simp) hH ?_
  simp only [Act.put, List.setIfInBounds_toArray, List.set_cons_succ, List.set_cons_zero]
  refine takeH 3 (mv) rfl (by kernel_rfl) (by kernel_rfl) (by kernel_rfl) (fun _ _ _ h => h) (by rfl) (fun v hv => by have h := hmv.out v hv; go_simp) hH ?_
  simp only [Act.put, List.setIfInBounds_toArray, List.set_cons_succ, List.set_cons_zero]
  refine takeH 4 (.agg iv) rfl (by kernel_rfl) (by kernel_rfl) (by kernel_rfl) (fun _ _ _ h => h) (by rfl) (fun v hv => by have h := hld.out v hv; unfold execOp; simp [Instr.loadAt, Instr.sureAddr, Sem.run_bind, Sem.run_pure, Result.andThen_ok, Act.eval, h]) hH ?_
  simp only [Act.put, List.setIfInBounds_toArray, List.set_cons_succ, List.set_cons_zero]
  refine takeH 5 (.tuple #[.pointer (some ⟨n.b, 0, none⟩), .bool true]) rfl (by kernel_rfl) (by kernel_rfl) (by kernel_rfl) (fun _ _ _ h => h) (by rfl) (fun v hv => by have h := hlk.out v hv; unfold execOp; simp [Act.eval, Sem.run_bind, Sem.run_pure, Result.andThen_ok, h]) hH ?_
  simp only [Act.put, List.setIfInBounds_toArray, List.set_cons_succ, List.set_cons_zero]
  refine takeH 6 (.tuple #[.pointer (some ⟨n.b, 0, none⟩), .bool true]) rfl (by kernel_rfl) (by kernel_rfl) (by kernel_rfl) (fun _ _ _ h => h) (by rfl) (fun v hv => by go_simp) hH ?_
  simp only [Act.put, List.setIfInBounds_toArray, List.set_cons_succ, List.set_cons_zero]
  refine takeH 7 (.pointer (some ⟨n.b, 0, none⟩)) rfl (by kernel_rfl) (by kernel_rfl) (by kernel_rfl) (fun _ _ _ h => h) (by rfl) (fun v hv => by go_simp) hH ?_
  simp only [Act.put, List.setIfInBounds_toArray, List.set_cons_succ, List.set_cons_zero]
  refine takeH 8 (.bool true) rfl (by kernel_rfl) (by kernel_rfl) (by kernel_rfl) (fun _ _ _ h => h) (by rfl) (fun v hv => by go_simp) hH ?_
  simp only [Act.put, List.setIfInBounds_toArray, List.set_cons_succ, List.set_cons_zero]
  refine takeH 9 (.pointer (some ⟨n.b, 0, none⟩)) rfl (by kernel_rfl) (by kernel_rfl) (by kernel_rfl) (fun _ _ _ h => h) (by rfl) (fun v hv => by go_simp) hH ?_
  simp only [Act.put, List.setIfInBounds_toArray, List.set_cons_succ, List.set_cons_zero]
  refine takeH 10 (.bool true) rfl (by kernel_rfl) (by kernel_rfl) (by kernel_rfl) (fun _ _ _ h => h) (by rfl) (fun v hv => by go_simp) hH ?_
  simp only [Act.put, List.setIfInBounds_toArray, List.set_cons_succ, List.set_cons_zero]
  refine wpAnyH_done (by kernel_rfl) ?_ _
  have c32 : W.drew.cell? ⟨n.b, 32, none⟩ = some (.slice va 0 vc) := hcd.out _ (hk.out.trans hH0)
  go_wp2
  go_ret
  exact ⟨rfl, hk.out.trans hH0⟩
theorem spoil_mid {A C : List Kn} {n : Kn} (h : ((A ++ n :: C).map (·.id)).Nodup) (f : List UInt8) : (datK (A ++ n :: C)).map (fun e => if e.1 = n.id then (e.1, f) else e) = datK (A ++ { n with bs := f } :: C) := by
  rw [List.map_append, List.map_cons] at h
  have h1 := (List.nodup_append.1 h).2.2
  have h2 := (List.nodup_cons.1 (List.nodup_append.1 h).2.1).1
  unfold datK
  rw [List.map_append, List.map_append, List.map_append, List.map_cons, List.map_cons, List.map_cons]
  have e1 : (A.map fun n => (n.id, n.bs)).map (fun e => if e.1 = n.id then (e.1, f) else e) = A.map fun n => (n.id, n.bs) := by
    rw [List.map_map]
    refine List.map_congr_left fun x hx => ?_
    have : x.id ≠ n.id := h1 x.id (List.mem_map_of_mem hx) n.id (by simp)
    simp [this]
  have e2 : (C.map fun n => (n.id, n.bs)).map (fun e => if e.1 = n.id then (e.1, f) else e) = C.map fun n => (n.id, n.bs) := by
    rw [List.map_map]
    refine List.map_congr_left fun x hx => ?_
    have : x.id ≠ n.id := fun e => h2 (by rw [← e]; exact List.mem_map_of_mem hx)
    simp [this]
  rw [e1, e2]
  simp
theorem spoilL_map {id : List UInt8} {l : List (List UInt8 × List UInt8)} {bs : List UInt8} {bit : Int} (h : findD id l = some bs) (hnd : (l.map (·.1)).Nodup) : (l.map fun e => if e.1 = id then (e.1, flipB e.2 (bitAt bit bs)) else e) = l.map fun e => if e.1 = id then (e.1, flipB bs (bitAt bit bs)) else e := by
  induction l with
  | nil => rfl
  | cons e r ih =>
    rw [List.map_cons, List.nodup_cons] at hnd
    unfold findD at h
    by_cases he : e.1 = id
    · rw [if_pos he] at h
      have hb : e.2 = bs := Option.some.inj h
      have hr : ∀ x ∈ r, x.1 ≠ id := fun x hx hxe => hnd.1 (by rw [he, ← hxe]; exact List.mem_map_of_mem hx)
      rw [List.map_cons, List.map_cons, if_pos he, if_pos he, hb]
      congr 1
      exact List.map_congr_left fun x hx => by rw [if_neg (hr x hx), if_neg (hr x hx)]
    · rw [if_neg he] at h
      rw [List.map_cons, List.map_cons, if_neg he, if_neg he, ih h hnd.2]
theorem ca_spoil (D : Nat) (w : World) (U : List Nat) (p : Nat) (lim : Int) (ns : List Kn) (h : Ca D w U p lim ns) (hz : sizeK ns ≤ 100000000) (id : List UInt8) (h32 : id.length = 32) (bit : Int) (hb1 : -9223372036854775808 ≤ bit) (hb2 : bit ≤ 9223372036854775807) :
    Calls Tryd.prog 18 #[.pointer (some ⟨p, 0, none⟩), .agg (id.map B).toArray, .int .i64 bit] w fun e w' => e = .returned (.bool (spoilL id bit (datK ns)).isSome) ∧ Kept U w w' ∧ ∃ ns', Ca D w' U p lim ns' ∧ datK ns' = (spoilL id bit (datK ns)).getD (datK ns) := by
  by_cases hf : id ∈ ns.map (·.id)
  · obtain ⟨n, hn, rfl⟩ := List.mem_map.1 hf
    by_cases hne : n.bs = []
    · refine (ca_spoil_empty D w U p lim ns h n hn hne n.id rfl bit).mono ?_
      rintro e w' ⟨rfl, hk⟩
      have hs : spoilL n.id bit (datK ns) = none := by
        obtain ⟨A, C, rfl⟩ := List.append_of_mem hn
        unfold spoilL
        rw [findD_mid h.ids]
        simp [hne]
      rw [hs]
      exact ⟨rfl, hk.wider (fun x _ hx => by simp at hx), ns, h.kept hk (by simp), rfl⟩
    · obtain ⟨A, C, rfl⟩ := List.append_of_mem hn
      refine (ca_spoil_some D w U p lim A n C h hz hne bit hb1 hb2).mono ?_
      rintro e w' ⟨rfl, hk, hc⟩
      have hfd := findD_mid h.ids
      have hs : spoilL n.id bit (datK (A ++ n :: C)) = some (datK (A ++ { n with bs := flipB n.bs (bitAt bit n.bs) } :: C)) := by
        unfold spoilL
        rw [hfd]
        simp only
        rw [if_neg hne, spoilL_map hfd (by rw [ids_dat]; exact h.ids), spoil_mid h.ids]
      rw [hs]
      exact ⟨rfl, hk, _, hc, rfl⟩
  · refine (ca_spoil_none D w U p lim ns h id h32 hf bit).mono ?_
    rintro e w' ⟨rfl, hk⟩
    have hs : spoilL id bit (datK ns) = none := by unfold spoilL; rw [findD_not hf]
    rw [hs]
    exact ⟨rfl, hk.wider (fun x _ hx => by simp at hx), ns, h.kept hk (by simp), rfl⟩
end Go.Proofs.YtfefpblneihmgaaDoor
