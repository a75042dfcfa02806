import Derived.Test.YtmholofhmpplcaaV5

/- ref06.Drop, Get. -/
namespace Go.Proofs.Ytmholofhmpplcaa
open Go.RowKit Go.Lib Go.Maps

theorem results_cell3 {P : Program} {fn : Func} {tmps : Array Value} {w : World} {k i j T : Nat} {x : Addr} {v u t : Value} (hr : fn.results = #[.cell k T, .tmp i, .tmp j]) (ht : tmps[k]?.getD undef = .pointer (some x)) (hu : tmps[i]?.getD undef = u) (htj : tmps[j]?.getD undef = t) (hl : (loadVar T x).run P w = .ok v w) : (results fn tmps).run P w = .ok (.tuple #[v, u, t]) w := by
  unfold results
  rw [hr]
  simp [Sem.run_bind, ht, hu, htj, asAddr, hl]
/-- What a reference's Get tells. -/
def RefG (w : World) (q k' l' : Int) (rv : Value) (T : List Nat) (fl : List Bool) (es : List Ent) (er : Int) (bb : List UInt8) (e : Ending) (w' : World) : Prop :=
  ∃ a m c flv', e = .returned (.tuple #[stR rv q k' l' flv', .slice a m c, .int .i64 er]) ∧ Kept [] w w' ∧ (∃ base', Rf w' base' rv es) ∧ m = bb.length ∧ Src w' (.slice a m c) m (bb.map B) ∧ SrcS w' T flv' (fl.drop 1).length ((fl.drop 1).map .bool)
set_option maxRecDepth 100000 in
set_option maxHeartbeats 4000000 in
theorem ref_drop (ra : Option Addr) (n rc : Nat) (es : List Ent) (q k left : Int) (flv : Value) (fl : List Bool) (T : List Nat) (base : Nat) (w : World) (h : Rf w base (.slice ra n rc) es) (hn : n = es.length) (hris : Rising es) (hm : n ≤ 4000)
    (hf : SrcS w T flv fl.length (fl.map .bool)) (h0 : left ≠ 0) (hl : -1 ≤ left ∧ left ≤ 9223372036854775807) (hk : 0 ≤ k ∧ k ≤ 1099511627776) (hT : ∀ x ∈ T, x < w.heap.size) (hfl : fl.length ≤ 1000000)
    (nm : List UInt8) (hnm : nm.length ≤ 1000000000) :
    Calls Try.prog 28 #[stR (.slice ra n rc) q k left flv, .string (S nm)] w (RefR w q (k + 1) (decL left) (.slice ra n rc) T fl (dropE fl es nm) (gotE fl es nm)) := by
  have H := hid h; have HN := hid hn; have HRIS := hid hris
  have HTH := hid (fun e (he : e ∈ es) W (hk : Kept [] w W) => (show ∃ a c, e.v = .slice a e.b.length c ∧ Src W e.v e.b.length (e.b.map B) from by obtain ⟨a, c, h1, h2⟩ := h.th e he; exact ⟨a, c, h1, h2.keep hk⟩))
  obtain ⟨b0, hb0⟩ : ∃ b0, b0 = w.heap.size := ⟨_, rfl⟩
  obtain ⟨b1, hb1⟩ : ∃ b1, b1 = w.heap.size + 1 := ⟨_, rfl⟩
  have HB0 := hid hb0; have HB1 := hid hb1
  have HTB := hid hT
  obtain ⟨k2, hk2⟩ : ∃ k2, k2 = k + 1 := ⟨_, rfl⟩
  obtain ⟨l2, hl2⟩ : ∃ l2, l2 = decL left := ⟨_, rfl⟩
  obtain ⟨W0, hW0⟩ : ∃ W0, W0 = (w.alloc (.cells #[.slice ra n rc, .int .i64 q, .int .i64 k, .int .i64 left, flv] 35)).alloc (.cells #[.slice none 0 0, .int .i64 0, .int .i64 0, .int .i64 0, .slice none 0 0] 35) := ⟨_, rfl⟩
  have HW0 := hid hW0
  have k0 := hid (show Kept [] w W0 from hW0 ▸ ((Kept.refl [] w).alloc _).alloc _)
  have hx0 := hid (show W0.heap[b0]? = some (.cells [.slice ra n rc, .int .i64 q, .int .i64 k, .int .i64 left, flv].toArray 35 (0, 0)) from by rw [hW0, hb0]; exact heap_alloc_old (heap_alloc_at rfl))
  have hx1 := hid (show W0.heap[b1]? = some (.cells [.slice none 0 0, .int .i64 0, .int .i64 0, .int .i64 0, .slice none 0 0].toArray 35 (0, 0)) from by rw [hW0, hb1]; exact heap_alloc_at (by simp))
  have hop := hid (ref_op ra n rc q k left flv fl T W0 (hf.kept k0.out (by simp)) h0 hl hk (fun x hx => Nat.lt_of_lt_of_le (hT x hx) k0.out.size) hfl)
  rw [← hk2, ← hl2] at hop ⊢
  have HTF := hid (there_find hris nm)
  unfold stR at hop ⊢
  clear hb0 hb1 h hn hris hT hk2 hl2 hW0 hf h0 hl hk hfl
  go_enter Try.func28, Try.ntmps28
  go_wp2_with fail
  rw [← HW0.out, ← HB1.out, ← HB0.out]
  refine hop.out.mono ?_
  rintro e w1 ⟨flv2, rfl, k1, hf2⟩
  have hflv2 : ∃ a n c, flv2 = .slice a n c := by obtain ⟨_, a, c, e, _⟩ := hf2; exact ⟨a, _, c, e⟩
  have kw1 := hid (k0.out.trans k1)
  have hx01 := hid (k1.at hx0.out (by simp))
  have hx11 := hid (k1.at hx1.out (by simp))
  obtain ⟨V1, hV1⟩ : ∃ V1, V1 = w1.setRow b0 (splice [.slice ra n rc, .int .i64 q, .int .i64 k, .int .i64 left, flv] 0 [.slice ra n rc, .int .i64 q, .int .i64 k2, .int .i64 l2, flv2]).toArray := ⟨_, rfl⟩
  have HV1 := hid hV1
  have HB := hid (show V1.heap[b0]? = some (.cells [.slice ra n rc, .int .i64 q, .int .i64 k2, .int .i64 l2, flv2].toArray 35 (0, 0)) from by rw [hV1]; exact setRow_heap _ _ _ _ _ _ hx01.out)
  have kr := hid (show Kept [b0] w1 V1 from hV1 ▸ (Kept.refl _ _).setRow (fun _ => by simp) _)
  have HZ := hid (kr.out.at hx11.out (by simp; have := HB0.out; have := HB1.out; omega))
  have KW := hid (show Kept [] w V1 from kw1.out.trans' kr.out (fun x hx hm => by simp at hm; subst hm; have := HB0.out; omega))
  have HF2 := hid (hf2.kept kr.out (fun x hx hm => by simp at hm; subst hm; have := HTB.out x hx; have := HB0.out; omega))
  have hx01' := hx01.out
  clear k1 hf2 hV1 hop
  go_wp2_with (refine wpList_store_at rfl 35 (.tmp 2) (.tmp 12) rfl b0 0 [.slice ra n rc, .int .i64 q, .int .i64 k2, .int .i64 l2, flv2] rfl rfl 35 [.slice ra n rc, .int .i64 q, .int .i64 k, .int .i64 left, flv] hx01' (by kernel_rfl) (by simp) (one5 hflv2 _ _ _ _ _ _) ?_; refine halt ?_)
  refine Halt.mk ?_
  rw [← HV1.out]
  clear hx01'
  have c0 : V1.cell? ⟨b0, 0, none⟩ = some (.slice ra n rc) := by rw [cell_of_row _ _ 0 _ _ _ HB.out]; rfl
  have c1 : V1.cell? ⟨b0, 1, none⟩ = some (.int .i64 q) := by rw [cell_of_row _ _ 1 _ _ _ HB.out]; rfl
  have c2 : V1.cell? ⟨b0, 2, none⟩ = some (.int .i64 k2) := by rw [cell_of_row _ _ 2 _ _ _ HB.out]; rfl
  have c3 : V1.cell? ⟨b0, 3, none⟩ = some (.int .i64 l2) := by rw [cell_of_row _ _ 3 _ _ _ HB.out]; rfl
  have c4 : V1.cell? ⟨b0, 4, none⟩ = some (flv2) := by rw [cell_of_row _ _ 4 _ _ _ HB.out]; rfl
  by_cases ho : opE fl = 0
  · have HO := hid ho
    obtain ⟨oe, hoe⟩ : ∃ oe, oe = opE fl := ⟨_, rfl⟩
    rw [← hoe] at ho ⊢
    subst ho
    clear hoe
    have hrT := hid (show RowT V1 ra es from by
      have h1 := H.out.keep KW.out
      rw [HN.out] at h1
      exact h1.rowT)
    have hfi := hid (by
      have h1 := ref_find ra rc es q k2 l2 flv2 nm V1 hrT.out (by have := HN.out; omega)
      rw [← HN.out] at h1
      unfold stR at h1
      exact h1)
    obtain ⟨at0, hat⟩ : ∃ at0, at0 = atE nm es := ⟨_, rfl⟩
    have HAT := hid hat
    obtain ⟨th, hth⟩ : ∃ th, th = thereE nm es := ⟨_, rfl⟩
    have HTH2 := hid hth
    rw [← hat, ← hth] at hfi
    clear hat hth
    go_wp2_with fail
    refine hfi.out.mono ?_
    rintro e V2 ⟨rfl, k2x⟩
    have KW2 := hid (KW.out.trans k2x)
    have HB2 := hid (k2x.at HB.out (by simp))
    have HZ2 := hid (k2x.at HZ.out (by simp))
    have HF3 := hid (HF2.out.kept k2x (by simp))
    replace HB := HB2; replace HZ := HZ2; replace KW := KW2; replace HF2 := HF3
    clear hfi k2x c0 c1 c2 c3 c4 hrT
    have c0 : V2.cell? ⟨b0, 0, none⟩ = some (.slice ra n rc) := by rw [cell_of_row _ _ 0 _ _ _ HB.out]; rfl
    have c1 : V2.cell? ⟨b0, 1, none⟩ = some (.int .i64 q) := by rw [cell_of_row _ _ 1 _ _ _ HB.out]; rfl
    have c2 : V2.cell? ⟨b0, 2, none⟩ = some (.int .i64 k2) := by rw [cell_of_row _ _ 2 _ _ _ HB.out]; rfl
    have c3 : V2.cell? ⟨b0, 3, none⟩ = some (.int .i64 l2) := by rw [cell_of_row _ _ 3 _ _ _ HB.out]; rfl
    have c4 : V2.cell? ⟨b0, 4, none⟩ = some (flv2) := by rw [cell_of_row _ _ 4 _ _ _ HB.out]; rfl
    have HR2 := hid (show Rf V2 base (.slice ra n rc) es from H.out.keep KW.out)
    cases th
    · have HFN := hid (show findE nm es = none from by
        have h1 := HTF.out.1
        rw [← HTH2.out] at h1
        simpa using h1.symm)
      have kz := hid (show Kept [b1] V2 (V2.setRow b1 (splice [.slice none 0 0, .int .i64 0, .int .i64 0, .int .i64 0, .slice none 0 0] 0 [.slice ra n rc, .int .i64 q, .int .i64 k2, .int .i64 l2, flv2]).toArray) from (Kept.refl _ _).setRow (fun _ => by simp) _)
      have hld := hid (ref_st (V2.setRow b1 (splice [.slice none 0 0, .int .i64 0, .int .i64 0, .int .i64 0, .slice none 0 0] 0 [.slice ra n rc, .int .i64 q, .int .i64 k2, .int .i64 l2, flv2]).toArray) b1 (.slice ra n rc) q k2 l2 flv2 (setRow_heap _ _ _ _ _ _ HZ.out))
      go_wp2_with (refine wpList_store_at rfl 35 (.tmp 4) (.tmp 26) rfl b1 0 [.slice ra n rc, .int .i64 q, .int .i64 k2, .int .i64 l2, flv2] rfl rfl 35 [.slice none 0 0, .int .i64 0, .int .i64 0, .int .i64 0, .slice none 0 0] HZ.out (by kernel_rfl) (by simp) (one5 hflv2 _ _ _ _ _ _) ?_; refine halt ?_)
      refine Halt.mk ?_
      go_wp2_with fail
      refine bodyPost_ret (v := .tuple #[stR (.slice ra n rc) q k2 l2 flv2, .int .i64 4]) (results_cell2 Try.results28 rfl rfl hld.out) rfl ?_
      have kf := KW.out.trans' kz.out (fun x hx hm => by simp at hm; subst hm; have := HB1.out; omega)
      refine ⟨.slice ra n rc, flv2, ?_, kf, ⟨base, ?_⟩, fun g hg => Or.inl hg, HF2.out.kept kz.out (fun x hx hm => by simp at hm; subst hm; have := HTB.out x hx; have := HB1.out; omega)⟩
      · rw [show gotE fl es nm = 4 from by unfold gotE; rw [if_pos HO.out, HFN.out]; first | done | rfl]; first | done | rfl
      · rw [show dropE fl es nm = es from by unfold dropE; rw [if_pos HO.out]; exact del_none HFN.out]; exact H.out.keep kf
    · obtain ⟨en, hen⟩ : ∃ en, findE nm es = some en := by
        have h1 := HTF.out.1
        rw [← HTH2.out] at h1
        exact Option.isSome_iff_exists.1 h1.symm
      have HEN := hid hen
      have hget : es[at0]? = some en := by rw [HAT.out]; exact HTF.out.2 en hen
      have hatl := (List.getElem?_eq_some_iff.1 hget).1
      have hwo := hid (by
        have h1 := ref_without (.slice ra n rc) es q k2 l2 flv2 base V2 HR2.out at0 hatl (by have := HN.out; omega) hflv2
        unfold stR at h1
        exact h1)
      have HSUB := hid (show ∀ e, e ∈ es.take at0 ++ es.drop (at0 + 1) → e ∈ es from fun e he => by
        rcases List.mem_append.1 he with g | g
        · exact List.mem_of_mem_take g
        · exact List.mem_of_mem_drop g)
      clear hget hatl hen
      go_wp2_with fail
      refine hwo.out.mono ?_
      rintro e V3 ⟨rv4, rfl, k4x, rf4⟩
      obtain ⟨ra4, rc4, hrv4⟩ := rf4.slice
      obtain ⟨n4, hn4⟩ : ∃ n4, n4 = (es.take at0 ++ es.drop (at0 + 1)).length := ⟨_, rfl⟩
      rw [← hn4] at hrv4
      subst hrv4
      have RF4 := hid rf4
      have HZ3 := hid (k4x.at HZ.out (by simp))
      have KW3 := hid (KW.out.trans k4x)
      have HF4 := hid (HF2.out.kept k4x (by simp))
      have hb1V := hid (show b1 < V2.heap.size from lt_of_block HZ.out)
      clear hwo k4x rf4 hn4 c0 c1 c2 c3 c4
      have kz := hid (show Kept [b1] V3 (V3.setRow b1 (splice [.slice none 0 0, .int .i64 0, .int .i64 0, .int .i64 0, .slice none 0 0] 0 [.slice ra4 n4 rc4, .int .i64 q, .int .i64 k2, .int .i64 l2, flv2]).toArray) from (Kept.refl _ _).setRow (fun _ => by simp) _)
      have hld := hid (ref_st (V3.setRow b1 (splice [.slice none 0 0, .int .i64 0, .int .i64 0, .int .i64 0, .slice none 0 0] 0 [.slice ra4 n4 rc4, .int .i64 q, .int .i64 k2, .int .i64 l2, flv2]).toArray) b1 (.slice ra4 n4 rc4) q k2 l2 flv2 (setRow_heap _ _ _ _ _ _ HZ3.out))
      go_wp2_with (refine wpList_store_at rfl 35 (.tmp 4) (.tmp 29) rfl b1 0 [.slice ra4 n4 rc4, .int .i64 q, .int .i64 k2, .int .i64 l2, flv2] rfl rfl 35 [.slice none 0 0, .int .i64 0, .int .i64 0, .int .i64 0, .slice none 0 0] HZ3.out (by kernel_rfl) (by simp) (one5 hflv2 _ _ _ _ _ _) ?_; refine halt ?_)
      refine Halt.mk ?_
      go_wp2_with fail
      refine bodyPost_ret (v := .tuple #[stR (.slice ra4 n4 rc4) q k2 l2 flv2, .int .i64 0]) (results_cell2 Try.results28 rfl rfl hld.out) rfl ?_
      have kf := KW3.out.trans' kz.out (fun x hx hm => by simp at hm; subst hm; have := HB1.out; omega)
      refine ⟨.slice ra4 n4 rc4, flv2, ?_, kf, ⟨V2.heap.size, ?_⟩, fun g hg => Or.inr ?_, HF4.out.kept kz.out (fun x hx hm => by simp at hm; subst hm; have := HTB.out x hx; have := HB1.out; omega)⟩
      · rw [show gotE fl es nm = 0 from by unfold gotE; rw [if_pos HO.out, HEN.out]; first | done | rfl]; first | done | rfl
      · rw [show dropE fl es nm = es.take at0 ++ es.drop (at0 + 1) from by unfold dropE; rw [if_pos HO.out, del_at HRIS.out nm HEN.out, HAT.out]]
        exact ⟨kz.out.owns RF4.out.row (fun g hg hm => by simp at hm; have := (RF4.out.row.lt g hg).1; have := hb1V.out; omega), fun e he => HTH.out e (HSUB.out e he) _ kf, Nat.le_trans RF4.out.low kz.out.size⟩
      · have := (RF4.out.row.lt g hg).1; have := KW.out.size; omega
  · obtain ⟨oe, hoe⟩ : ∃ oe, oe = opE fl := ⟨_, rfl⟩
    have hob : (oe == 0) = false := by rw [hoe]; simpa using ho
    have HOE := hid hoe
    have HON := hid (show ¬ opE fl = 0 from ho)
    rw [← hoe]
    clear hoe ho

    have kz := hid (show Kept [b1] V1 (V1.setRow b1 (splice [.slice none 0 0, .int .i64 0, .int .i64 0, .int .i64 0, .slice none 0 0] 0 [.slice ra n rc, .int .i64 q, .int .i64 k2, .int .i64 l2, flv2]).toArray) from (Kept.refl _ _).setRow (fun _ => by simp) _)
    have hld := hid (ref_st (V1.setRow b1 (splice [.slice none 0 0, .int .i64 0, .int .i64 0, .int .i64 0, .slice none 0 0] 0 [.slice ra n rc, .int .i64 q, .int .i64 k2, .int .i64 l2, flv2]).toArray) b1 (.slice ra n rc) q k2 l2 flv2 (setRow_heap _ _ _ _ _ _ HZ.out))
    go_wp2_with (refine wpList_store_at rfl 35 (.tmp 4) (.tmp 16) rfl b1 0 [.slice ra n rc, .int .i64 q, .int .i64 k2, .int .i64 l2, flv2] rfl rfl 35 [.slice none 0 0, .int .i64 0, .int .i64 0, .int .i64 0, .slice none 0 0] HZ.out (by kernel_rfl) (by simp) (one5 hflv2 _ _ _ _ _ _) ?_; refine halt ?_)
    refine Halt.mk ?_
    go_wp2_with fail
    refine bodyPost_ret (v := .tuple #[stR (.slice ra n rc) q k2 l2 flv2, .int .i64 oe]) (results_cell2 Try.results28 rfl rfl hld.out) rfl ?_
    have kf := KW.out.trans' kz.out (fun x hx hm => by simp at hm; subst hm; have := HB1.out; omega)
    refine ⟨.slice ra n rc, flv2, ?_, kf, ⟨base, ?_⟩, fun g hg => Or.inl hg, HF2.out.kept kz.out (fun x hx hm => by simp at hm; subst hm; have := HTB.out x hx; have := HB1.out; omega)⟩
    · rw [show gotE fl es nm = oe from by unfold gotE; rw [if_neg HON.out, HOE.out]]; first | done | rfl
    · rw [show dropE fl es nm = es from by unfold dropE; rw [if_neg HON.out]]; exact H.out.keep kf
set_option maxRecDepth 100000 in
set_option maxHeartbeats 4000000 in
theorem ref_get (ra : Option Addr) (n rc : Nat) (es : List Ent) (q k left : Int) (flv : Value) (fl : List Bool) (T : List Nat) (base : Nat) (w : World) (h : Rf w base (.slice ra n rc) es) (hn : n = es.length) (hris : Rising es) (hm : n ≤ 4000)
    (hf : SrcS w T flv fl.length (fl.map .bool)) (h0 : left ≠ 0) (hl : -1 ≤ left ∧ left ≤ 9223372036854775807) (hk : 0 ≤ k ∧ k ≤ 1099511627776) (hT : ∀ x ∈ T, x < w.heap.size) (hfl : fl.length ≤ 1000000)
    (nm : List UInt8) (hnm : nm.length ≤ 1000000000) :
    Calls Try.prog 26 #[stR (.slice ra n rc) q k left flv, .string (S nm)] w (RefG w q (k + 1) (decL left) (.slice ra n rc) T fl es (gotE fl es nm) (gotB fl es nm)) := by
  have H := hid h; have HN := hid hn; have HRIS := hid hris
  have HTH := hid (fun e (he : e ∈ es) W (hk : Kept [] w W) => (show ∃ a c, e.v = .slice a e.b.length c ∧ Src W e.v e.b.length (e.b.map B) from by obtain ⟨a, c, h1, h2⟩ := h.th e he; exact ⟨a, c, h1, h2.keep hk⟩))
  obtain ⟨b0, hb0⟩ : ∃ b0, b0 = w.heap.size := ⟨_, rfl⟩
  obtain ⟨b1, hb1⟩ : ∃ b1, b1 = w.heap.size + 1 := ⟨_, rfl⟩
  have HB0 := hid hb0; have HB1 := hid hb1
  have HTB := hid hT
  obtain ⟨k2, hk2⟩ : ∃ k2, k2 = k + 1 := ⟨_, rfl⟩
  obtain ⟨l2, hl2⟩ : ∃ l2, l2 = decL left := ⟨_, rfl⟩
  obtain ⟨W0, hW0⟩ : ∃ W0, W0 = (w.alloc (.cells #[.slice ra n rc, .int .i64 q, .int .i64 k, .int .i64 left, flv] 35)).alloc (.cells #[.slice none 0 0, .int .i64 0, .int .i64 0, .int .i64 0, .slice none 0 0] 35) := ⟨_, rfl⟩
  have HW0 := hid hW0
  have k0 := hid (show Kept [] w W0 from hW0 ▸ ((Kept.refl [] w).alloc _).alloc _)
  have hx0 := hid (show W0.heap[b0]? = some (.cells [.slice ra n rc, .int .i64 q, .int .i64 k, .int .i64 left, flv].toArray 35 (0, 0)) from by rw [hW0, hb0]; exact heap_alloc_old (heap_alloc_at rfl))
  have hx1 := hid (show W0.heap[b1]? = some (.cells [.slice none 0 0, .int .i64 0, .int .i64 0, .int .i64 0, .slice none 0 0].toArray 35 (0, 0)) from by rw [hW0, hb1]; exact heap_alloc_at (by simp))
  have hop := hid (ref_op ra n rc q k left flv fl T W0 (hf.kept k0.out (by simp)) h0 hl hk (fun x hx => Nat.lt_of_lt_of_le (hT x hx) k0.out.size) hfl)
  rw [← hk2, ← hl2] at hop ⊢
  have HTF := hid (there_find hris nm)
  unfold stR at hop ⊢
  clear hb0 hb1 h hn hris hT hk2 hl2 hW0 hf h0 hl hk hfl
  go_enter Try.func26, Try.ntmps26
  go_wp2_with fail
  rw [← HW0.out, ← HB1.out, ← HB0.out]
  refine hop.out.mono ?_
  rintro e w1 ⟨flv2, rfl, k1, hf2⟩
  have hflv2 : ∃ a n c, flv2 = .slice a n c := by obtain ⟨_, a, c, e, _⟩ := hf2; exact ⟨a, _, c, e⟩
  have kw1 := hid (k0.out.trans k1)
  have hx01 := hid (k1.at hx0.out (by simp))
  have hx11 := hid (k1.at hx1.out (by simp))
  obtain ⟨V1, hV1⟩ : ∃ V1, V1 = w1.setRow b0 (splice [.slice ra n rc, .int .i64 q, .int .i64 k, .int .i64 left, flv] 0 [.slice ra n rc, .int .i64 q, .int .i64 k2, .int .i64 l2, flv2]).toArray := ⟨_, rfl⟩
  have HV1 := hid hV1
  have HB := hid (show V1.heap[b0]? = some (.cells [.slice ra n rc, .int .i64 q, .int .i64 k2, .int .i64 l2, flv2].toArray 35 (0, 0)) from by rw [hV1]; exact setRow_heap _ _ _ _ _ _ hx01.out)
  have kr := hid (show Kept [b0] w1 V1 from hV1 ▸ (Kept.refl _ _).setRow (fun _ => by simp) _)
  have HZ := hid (kr.out.at hx11.out (by simp; have := HB0.out; have := HB1.out; omega))
  have KW := hid (show Kept [] w V1 from kw1.out.trans' kr.out (fun x hx hm => by simp at hm; subst hm; have := HB0.out; omega))
  have HF2 := hid (hf2.kept kr.out (fun x hx hm => by simp at hm; subst hm; have := HTB.out x hx; have := HB0.out; omega))
  have hx01' := hx01.out
  clear k1 hf2 hV1 hop
  go_wp2_with (refine wpList_store_at rfl 35 (.tmp 2) (.tmp 13) rfl b0 0 [.slice ra n rc, .int .i64 q, .int .i64 k2, .int .i64 l2, flv2] rfl rfl 35 [.slice ra n rc, .int .i64 q, .int .i64 k, .int .i64 left, flv] hx01' (by kernel_rfl) (by simp) (one5 hflv2 _ _ _ _ _ _) ?_; refine halt ?_)
  refine Halt.mk ?_
  rw [← HV1.out]
  clear hx01'
  have c0 : V1.cell? ⟨b0, 0, none⟩ = some (.slice ra n rc) := by rw [cell_of_row _ _ 0 _ _ _ HB.out]; rfl
  have c1 : V1.cell? ⟨b0, 1, none⟩ = some (.int .i64 q) := by rw [cell_of_row _ _ 1 _ _ _ HB.out]; rfl
  have c2 : V1.cell? ⟨b0, 2, none⟩ = some (.int .i64 k2) := by rw [cell_of_row _ _ 2 _ _ _ HB.out]; rfl
  have c3 : V1.cell? ⟨b0, 3, none⟩ = some (.int .i64 l2) := by rw [cell_of_row _ _ 3 _ _ _ HB.out]; rfl
  have c4 : V1.cell? ⟨b0, 4, none⟩ = some (flv2) := by rw [cell_of_row _ _ 4 _ _ _ HB.out]; rfl
  by_cases ho : opE fl = 0
  · have HO := hid ho
    obtain ⟨oe, hoe⟩ : ∃ oe, oe = opE fl := ⟨_, rfl⟩
    rw [← hoe] at ho ⊢
    subst ho
    clear hoe
    have hrT := hid (show RowT V1 ra es from by
      have h1 := H.out.keep KW.out
      rw [HN.out] at h1
      exact h1.rowT)
    have hfi := hid (by
      have h1 := ref_find ra rc es q k2 l2 flv2 nm V1 hrT.out (by have := HN.out; omega)
      rw [← HN.out] at h1
      unfold stR at h1
      exact h1)
    obtain ⟨at0, hat⟩ : ∃ at0, at0 = atE nm es := ⟨_, rfl⟩
    have HAT := hid hat
    obtain ⟨th, hth⟩ : ∃ th, th = thereE nm es := ⟨_, rfl⟩
    have HTH2 := hid hth
    rw [← hat, ← hth] at hfi
    clear hat hth
    go_wp2_with fail
    refine hfi.out.mono ?_
    rintro e V2 ⟨rfl, k2x⟩
    have KW2 := hid (KW.out.trans k2x)
    have HB2 := hid (k2x.at HB.out (by simp))
    have HZ2 := hid (k2x.at HZ.out (by simp))
    have HF3 := hid (HF2.out.kept k2x (by simp))
    replace HB := HB2; replace HZ := HZ2; replace KW := KW2; replace HF2 := HF3
    clear hfi k2x c0 c1 c2 c3 c4 hrT
    have c0 : V2.cell? ⟨b0, 0, none⟩ = some (.slice ra n rc) := by rw [cell_of_row _ _ 0 _ _ _ HB.out]; rfl
    have c1 : V2.cell? ⟨b0, 1, none⟩ = some (.int .i64 q) := by rw [cell_of_row _ _ 1 _ _ _ HB.out]; rfl
    have c2 : V2.cell? ⟨b0, 2, none⟩ = some (.int .i64 k2) := by rw [cell_of_row _ _ 2 _ _ _ HB.out]; rfl
    have c3 : V2.cell? ⟨b0, 3, none⟩ = some (.int .i64 l2) := by rw [cell_of_row _ _ 3 _ _ _ HB.out]; rfl
    have c4 : V2.cell? ⟨b0, 4, none⟩ = some (flv2) := by rw [cell_of_row _ _ 4 _ _ _ HB.out]; rfl
    have HR2 := hid (show Rf V2 base (.slice ra n rc) es from H.out.keep KW.out)
    cases th
    · have HFN := hid (show findE nm es = none from by
        have h1 := HTF.out.1
        rw [← HTH2.out] at h1
        simpa using h1.symm)
      have kz := hid (show Kept [b1] V2 (V2.setRow b1 (splice [.slice none 0 0, .int .i64 0, .int .i64 0, .int .i64 0, .slice none 0 0] 0 [.slice ra n rc, .int .i64 q, .int .i64 k2, .int .i64 l2, flv2]).toArray) from (Kept.refl _ _).setRow (fun _ => by simp) _)
      have hld := hid (ref_st (V2.setRow b1 (splice [.slice none 0 0, .int .i64 0, .int .i64 0, .int .i64 0, .slice none 0 0] 0 [.slice ra n rc, .int .i64 q, .int .i64 k2, .int .i64 l2, flv2]).toArray) b1 (.slice ra n rc) q k2 l2 flv2 (setRow_heap _ _ _ _ _ _ HZ.out))
      go_wp2_with (refine wpList_store_at rfl 35 (.tmp 4) (.tmp 27) rfl b1 0 [.slice ra n rc, .int .i64 q, .int .i64 k2, .int .i64 l2, flv2] rfl rfl 35 [.slice none 0 0, .int .i64 0, .int .i64 0, .int .i64 0, .slice none 0 0] HZ.out (by kernel_rfl) (by simp) (one5 hflv2 _ _ _ _ _ _) ?_; refine halt ?_)
      refine Halt.mk ?_
      go_wp2_with fail
      refine bodyPost_ret (v := .tuple #[stR (.slice ra n rc) q k2 l2 flv2, .slice none 0 0, .int .i64 4]) (results_cell3 Try.results26 rfl rfl rfl hld.out) rfl ?_
      have kf := KW.out.trans' kz.out (fun x hx hm => by simp at hm; subst hm; have := HB1.out; omega)
      refine ⟨none, 0, 0, flv2, ?_, kf, ⟨base, H.out.keep kf⟩, ?_, ?_, HF2.out.kept kz.out (fun x hx hm => by simp at hm; subst hm; have := HTB.out x hx; have := HB1.out; omega)⟩
      · rw [show gotE fl es nm = 4 from by unfold gotE; rw [if_pos HO.out, HFN.out]; first | done | rfl]; first | done | rfl
      · rw [show gotB fl es nm = [] from by unfold gotB; rw [if_pos HO.out]; unfold lookB; rw [HFN.out]]; first | done | rfl
      · rw [show gotB fl es nm = [] from by unfold gotB; rw [if_pos HO.out]; unfold lookB; rw [HFN.out]]; exact Or.inl ⟨rfl, rfl, rfl⟩
    · obtain ⟨en, hen⟩ : ∃ en, findE nm es = some en := by
        have h1 := HTF.out.1
        rw [← HTH2.out] at h1
        exact Option.isSome_iff_exists.1 h1.symm
      have HEN := hid hen
      have hget : es[at0]? = some en := by rw [HAT.out]; exact HTF.out.2 en hen
      have hatl := (List.getElem?_eq_some_iff.1 hget).1
      have hrT2 := hid (show RowT V2 ra es from by
        have h1 := HR2.out
        rw [HN.out] at h1
        exact h1.rowT)
      obtain ⟨x, rfl⟩ : ∃ x, ra = some x := by
        cases ra with
        | none => exact absurd (hrT2.out.1 rfl) (fun e => by rw [e] at hatl; simp at hatl)
        | some x => exact ⟨x, rfl⟩
      obtain ⟨q0, q1, ea, ec, hev, hsrc⟩ := hrT2.out.2 x rfl at0 en hget
      rw [hev] at q1 hsrc
      have hatn : at0 < n := by rw [HN.out]; exact hatl
      obtain ⟨el, hel⟩ : ∃ el, el = en.b.length := ⟨_, rfl⟩
      rw [← hel] at q1 hsrc
      have HEL := hid hel
      have HEV := hid (show en.v = .slice ea el ec from by rw [hev, hel])
      have HSRC := hid (HTH.out en (List.mem_of_getElem? hget))
      have hxb := hid (show x.block ≠ b1 from by
        obtain ⟨g, hg⟩ : ∃ g, x = ⟨g, 0, none⟩ := by
          have h1 := HR2.out.row
          rcases h1.2 with ⟨hv, _⟩ | ⟨g, cap, cur, hv, _⟩
          · simp at hv
          · simp at hv; exact ⟨g, hv.1⟩
        rw [hg]
        have h1 := (H.out.row.lt g (by rw [hg]; rfl)).2
        have := HB1.out
        show g ≠ b1
        omega)
      have hld0 := hid (fun X (hX : Kept [b1] V2 X) => ref_st X b0 (.slice (some x) n rc) q k2 l2 flv2 (hX.at HB.out (by simp; have := HB0.out; have := HB1.out; omega)))
      have hr0 := hid (fun X (hX : Kept [b1] V2 X) => (show X.cell? ⟨b0, 0, none⟩ = some (.slice (some x) n rc) from by rw [cell_of_row _ _ 0 _ _ _ (hX.at HB.out (by simp; have := HB0.out; have := HB1.out; omega))]; rfl))
      have hc1 := hid (fun X (hX : Kept [b1] V2 X) => (hX.cell (World.block_lt_of_cell? _ _ q1) (by simp [add_block]; exact hxb.out)).trans q1)
      have hkd := hid (show Kept [b1] V2 V2.drew from (Kept.refl _ V2).drew)
      have HZd := hid (show V2.drew.heap[b1]? = some (.cells [.slice none 0 0, .int .i64 0, .int .i64 0, .int .i64 0, .slice none 0 0].toArray 35 (0, 0)) from HZ.out)
      have kz := hid (show Kept [b1] V2.drew (V2.drew.setRow b1 (splice [.slice none 0 0, .int .i64 0, .int .i64 0, .int .i64 0, .slice none 0 0] 0 [.slice (some x) n rc, .int .i64 q, .int .i64 k2, .int .i64 l2, flv2]).toArray) from (Kept.refl _ _).setRow (fun _ => by simp) _)
      have hld := hid (ref_st (V2.drew.setRow b1 (splice [.slice none 0 0, .int .i64 0, .int .i64 0, .int .i64 0, .slice none 0 0] 0 [.slice (some x) n rc, .int .i64 q, .int .i64 k2, .int .i64 l2, flv2]).toArray) b1 (.slice (some x) n rc) q k2 l2 flv2 (setRow_heap _ _ _ _ _ _ HZd.out))
      have hsto := hid (run_storeVar_at (P := Try.prog) V2.drew b1 0 35 35 [.slice none 0 0, .int .i64 0, .int .i64 0, .int .i64 0, .slice none 0 0] [.slice (some x) n rc, .int .i64 q, .int .i64 k2, .int .i64 l2, flv2] HZd.out (by kernel_rfl) (by simp) (one5 hflv2 _ _ _ _ _ _))
      have hinr : (at0 : Int) < (n : Int) := by omega
      clear hev hel hget hatl q0 q1 hsrc hen
      go_wp2_with fail
      refine wp_region_held_drew (S := fun v => Kept [b1] V2 v) (by kernel_rfl) hkd.out (fun hH => ?_)
      refine takeH 0 (stR (.slice (some x) n rc) q k2 l2 flv2) rfl (by kernel_rfl) (by kernel_rfl) (by kernel_rfl) (fun _ _ _ h => h) (by rfl) (fun v hv => by have h := hld0.out v hv; unfold execOp; simp [Instr.loadAt, Instr.sureAddr, Sem.run_bind, Sem.run_pure, Result.andThen_ok, Act.eval, h]) hH ?_
      simp only [Act.put, List.setIfInBounds_toArray, List.set_cons_succ, List.set_cons_zero]
      refine takeH 1 (.pointer (some ⟨b0, 0, none⟩)) rfl (by kernel_rfl) (by kernel_rfl) (by kernel_rfl) (fun _ _ _ h => h) (by rfl) (fun v hv => by go_simp) hH ?_
      simp only [Act.put, List.setIfInBounds_toArray, List.set_cons_succ, List.set_cons_zero]
      refine takeH 2 (.slice (some x) n rc) rfl (by kernel_rfl) (by kernel_rfl) (by kernel_rfl) (fun _ _ _ h => h) (by rfl) (fun v hv => by have h := hr0.out v hv; go_simp) hH ?_
      simp only [Act.put, List.setIfInBounds_toArray, List.set_cons_succ, List.set_cons_zero]
      refine takeH 3 (.int .i64 at0) rfl (by kernel_rfl) (by kernel_rfl) (by kernel_rfl) (fun _ _ _ h => h) (by rfl) (fun v hv => by go_simp) hH ?_
      simp only [Act.put, List.setIfInBounds_toArray, List.set_cons_succ, List.set_cons_zero]
      refine takeH 4 (.pointer (some (x.add (at0 * 2)))) rfl (by kernel_rfl) (by kernel_rfl) (by kernel_rfl) (fun _ _ _ h => h) (by rfl) (fun v hv => by go_simp) hH ?_
      simp only [Act.put, List.setIfInBounds_toArray, List.set_cons_succ, List.set_cons_zero]
      refine takeH 5 (.pointer (some ⟨(x.add (at0 * 2)).block, (x.add (at0 * 2)).off + 1, none⟩)) rfl (by kernel_rfl) (by kernel_rfl) (by kernel_rfl) (fun _ _ _ h => h) (by rfl) (fun v hv => by go_simp) hH ?_
      simp only [Act.put, List.setIfInBounds_toArray, List.set_cons_succ, List.set_cons_zero]
      refine takeH 6 (.slice ea el ec) rfl (by kernel_rfl) (by kernel_rfl) (by kernel_rfl) (fun _ _ _ h => h) (by rfl) (fun v hv => by have h := hc1.out v hv; go_simp) hH ?_
      simp only [Act.put, List.setIfInBounds_toArray, List.set_cons_succ, List.set_cons_zero]
      refine writeH 7 rfl (by kernel_rfl) (by rfl) ((V2.drew.setRow b1 (splice [.slice none 0 0, .int .i64 0, .int .i64 0, .int .i64 0, .slice none 0 0] 0 [.slice (some x) n rc, .int .i64 q, .int .i64 k2, .int .i64 l2, flv2]).toArray)) (by have h := hsto.out; unfold execOp; simp [Act.eval, Instr.storeAt, Instr.sureAddr, Sem.run_bind, Sem.run_pure, Result.andThen_ok, stR, h]) ((hkd.out.trans kz.out)) ?_
      simp only [Act.put, List.setIfInBounds_toArray, List.set_cons_succ, List.set_cons_zero]
      refine takeH 8 (.slice ea el ec) rfl (by kernel_rfl) (by kernel_rfl) (by kernel_rfl) (fun _ _ _ h => h) (by rfl) (fun v hv => by go_simp) (hkd.out.trans kz.out) ?_
      simp only [Act.put, List.setIfInBounds_toArray, List.set_cons_succ, List.set_cons_zero]
      refine takeH 9 (.int .i64 0) rfl (by kernel_rfl) (by kernel_rfl) (by kernel_rfl) (fun _ _ _ h => h) (by rfl) (fun v hv => by go_simp) (hkd.out.trans kz.out) ?_
      simp only [Act.put, List.setIfInBounds_toArray, List.set_cons_succ, List.set_cons_zero]
      refine wpAnyH_done (by kernel_rfl) ?_ _
      go_wp2_with fail
      refine bodyPost_ret (v := .tuple #[stR (.slice (some x) n rc) q k2 l2 flv2, .slice ea el ec, .int .i64 0]) (results_cell3 Try.results26 rfl rfl rfl hld.out) rfl ?_
      have kf := KW.out.trans' (hkd.out.trans kz.out) (fun x hx hm => by simp at hm; subst hm; have := HB1.out; omega)
      refine ⟨ea, el, ec, flv2, ?_, kf, ⟨base, H.out.keep kf⟩, ?_, ?_, (HF2.out.kept (hkd.out.trans kz.out) (fun x hx hm => by simp at hm; subst hm; have := HTB.out x hx; have := HB1.out; omega))⟩
      · rw [show gotE fl es nm = 0 from by unfold gotE; rw [if_pos HO.out, HEN.out]; first | done | rfl]; first | done | rfl
      · rw [show gotB fl es nm = en.b from by unfold gotB; rw [if_pos HO.out]; unfold lookB; rw [HEN.out]]; exact HEL.out
      · rw [show gotB fl es nm = en.b from by unfold gotB; rw [if_pos HO.out]; unfold lookB; rw [HEN.out]]
        obtain ⟨a9, c9, h1, h2⟩ := HSRC.out _ kf
        rw [← HEV.out, HEL.out]; exact h2
  · obtain ⟨oe, hoe⟩ : ∃ oe, oe = opE fl := ⟨_, rfl⟩
    have hob : (oe == 0) = false := by rw [hoe]; simpa using ho
    have HOE := hid hoe
    have HON := hid (show ¬ opE fl = 0 from ho)
    rw [← hoe]
    clear hoe ho

    have kz := hid (show Kept [b1] V1 (V1.setRow b1 (splice [.slice none 0 0, .int .i64 0, .int .i64 0, .int .i64 0, .slice none 0 0] 0 [.slice ra n rc, .int .i64 q, .int .i64 k2, .int .i64 l2, flv2]).toArray) from (Kept.refl _ _).setRow (fun _ => by simp) _)
    have hld := hid (ref_st (V1.setRow b1 (splice [.slice none 0 0, .int .i64 0, .int .i64 0, .int .i64 0, .slice none 0 0] 0 [.slice ra n rc, .int .i64 q, .int .i64 k2, .int .i64 l2, flv2]).toArray) b1 (.slice ra n rc) q k2 l2 flv2 (setRow_heap _ _ _ _ _ _ HZ.out))
    go_wp2_with (refine wpList_store_at rfl 35 (.tmp 4) (.tmp 17) rfl b1 0 [.slice ra n rc, .int .i64 q, .int .i64 k2, .int .i64 l2, flv2] rfl rfl 35 [.slice none 0 0, .int .i64 0, .int .i64 0, .int .i64 0, .slice none 0 0] HZ.out (by kernel_rfl) (by simp) (one5 hflv2 _ _ _ _ _ _) ?_; refine halt ?_)
    refine Halt.mk ?_
    go_wp2_with fail
    refine bodyPost_ret (v := .tuple #[stR (.slice ra n rc) q k2 l2 flv2, .slice none 0 0, .int .i64 oe]) (results_cell3 Try.results26 rfl rfl rfl hld.out) rfl ?_
    have kf := KW.out.trans' kz.out (fun x hx hm => by simp at hm; subst hm; have := HB1.out; omega)
    refine ⟨none, 0, 0, flv2, ?_, kf, ⟨base, H.out.keep kf⟩, ?_, ?_, HF2.out.kept kz.out (fun x hx hm => by simp at hm; subst hm; have := HTB.out x hx; have := HB1.out; omega)⟩
    · rw [show gotE fl es nm = oe from by unfold gotE; rw [if_neg HON.out, HOE.out]]; first | done | rfl
    · rw [show gotB fl es nm = [] from by unfold gotB; rw [if_neg HON.out]]; first | done | rfl
    · rw [show gotB fl es nm = [] from by unfold gotB; rw [if_neg HON.out]]; exact Or.inl ⟨rfl, rfl, rfl⟩
end Go.Proofs.Ytmholofhmpplcaa


/- ref06.List. -/
namespace Go.Proofs.Ytmholofhmpplcaa
open Go.RowKit Go.Lib Go.Maps

/-- The names so far. -/
def NL (V wr : World) (pre : List UInt8) (es : List Ent) (i : Nat) (v : Value) (m : Nat) : Prop :=
  Kept [] V wr ∧ m = (namesL (es.take i) pre).length ∧ wr.ownsRow V.heap.size 9 1 v m ((namesL (es.take i) pre).map encStr)
/-- What a reference's List tells. -/
def RefL (w : World) (q k' l' : Int) (rv : Value) (T : List Nat) (fl : List Bool) (es : List Ent) (er : Int) (ns : List (List UInt8)) (e : Ending) (w' : World) : Prop :=
  ∃ a m c flv', e = .returned (.tuple #[stR rv q k' l' flv', .slice a m c, .int .i64 er]) ∧ Kept [] w w' ∧ (∃ base', Rf w' base' rv es) ∧ (m = (ns.map encStr).length ∧ w'.ownsRow w.heap.size 9 1 (.slice a m c) m (ns.map encStr)) ∧ SrcS w' T flv' (fl.drop 1).length ((fl.drop 1).map .bool)
set_option maxRecDepth 100000 in
set_option maxHeartbeats 4000000 in
theorem ref_list (ra : Option Addr) (n rc : Nat) (es : List Ent) (q k left : Int) (flv : Value) (fl : List Bool) (T : List Nat) (base : Nat) (w : World) (h : Rf w base (.slice ra n rc) es) (hn : n = es.length) (hris : Rising es) (hm : n ≤ 4000)
    (hf : SrcS w T flv fl.length (fl.map .bool)) (h0 : left ≠ 0) (hl : -1 ≤ left ∧ left ≤ 9223372036854775807) (hk : 0 ≤ k ∧ k ≤ 1099511627776) (hT : ∀ x ∈ T, x < w.heap.size) (hfl : fl.length ≤ 1000000)
    (nm : List UInt8) (hnm : nm.length ≤ 1000000000) (hen : ∀ e ∈ es, e.name.length ≤ 1000000000) :
    Calls Try.prog 29 #[stR (.slice ra n rc) q k left flv, .string (S nm)] w (RefL w q (k + 1) (decL left) (.slice ra n rc) T fl es (opE fl) (gotL fl es nm)) := by
  have H := hid h; have HN := hid hn; have HRIS := hid hris
  have HTH := hid (fun e (he : e ∈ es) W (hk : Kept [] w W) => (show ∃ a c, e.v = .slice a e.b.length c ∧ Src W e.v e.b.length (e.b.map B) from by obtain ⟨a, c, h1, h2⟩ := h.th e he; exact ⟨a, c, h1, h2.keep hk⟩))
  obtain ⟨b0, hb0⟩ : ∃ b0, b0 = w.heap.size := ⟨_, rfl⟩
  obtain ⟨b1, hb1⟩ : ∃ b1, b1 = w.heap.size + 1 := ⟨_, rfl⟩
  have HB0 := hid hb0; have HB1 := hid hb1
  have HTB := hid hT
  obtain ⟨k2, hk2⟩ : ∃ k2, k2 = k + 1 := ⟨_, rfl⟩
  obtain ⟨l2, hl2⟩ : ∃ l2, l2 = decL left := ⟨_, rfl⟩
  obtain ⟨W0, hW0⟩ : ∃ W0, W0 = (w.alloc (.cells #[.slice ra n rc, .int .i64 q, .int .i64 k, .int .i64 left, flv] 35)).alloc (.cells #[.slice none 0 0, .int .i64 0, .int .i64 0, .int .i64 0, .slice none 0 0] 35) := ⟨_, rfl⟩
  have HW0 := hid hW0
  have k0 := hid (show Kept [] w W0 from hW0 ▸ ((Kept.refl [] w).alloc _).alloc _)
  have hx0 := hid (show W0.heap[b0]? = some (.cells [.slice ra n rc, .int .i64 q, .int .i64 k, .int .i64 left, flv].toArray 35 (0, 0)) from by rw [hW0, hb0]; exact heap_alloc_old (heap_alloc_at rfl))
  have hx1 := hid (show W0.heap[b1]? = some (.cells [.slice none 0 0, .int .i64 0, .int .i64 0, .int .i64 0, .slice none 0 0].toArray 35 (0, 0)) from by rw [hW0, hb1]; exact heap_alloc_at (by simp))
  have hop := hid (ref_op ra n rc q k left flv fl T W0 (hf.kept k0.out (by simp)) h0 hl hk (fun x hx => Nat.lt_of_lt_of_le (hT x hx) k0.out.size) hfl)
  rw [← hk2, ← hl2] at hop ⊢
  have HNM := hid hen
  clear hen
  unfold stR at hop ⊢
  clear hb0 hb1 h hn hris hT hk2 hl2 hW0 hf h0 hl hk hfl
  go_enter Try.func29, Try.ntmps29
  go_wp2_with fail
  rw [← HW0.out, ← HB1.out, ← HB0.out]
  refine hop.out.mono ?_
  rintro e w1 ⟨flv2, rfl, k1, hf2⟩
  have hflv2 : ∃ a n c, flv2 = .slice a n c := by obtain ⟨_, a, c, e, _⟩ := hf2; exact ⟨a, _, c, e⟩
  have kw1 := hid (k0.out.trans k1)
  have hx01 := hid (k1.at hx0.out (by simp))
  have hx11 := hid (k1.at hx1.out (by simp))
  obtain ⟨V1, hV1⟩ : ∃ V1, V1 = w1.setRow b0 (splice [.slice ra n rc, .int .i64 q, .int .i64 k, .int .i64 left, flv] 0 [.slice ra n rc, .int .i64 q, .int .i64 k2, .int .i64 l2, flv2]).toArray := ⟨_, rfl⟩
  have HV1 := hid hV1
  have HB := hid (show V1.heap[b0]? = some (.cells [.slice ra n rc, .int .i64 q, .int .i64 k2, .int .i64 l2, flv2].toArray 35 (0, 0)) from by rw [hV1]; exact setRow_heap _ _ _ _ _ _ hx01.out)
  have kr := hid (show Kept [b0] w1 V1 from hV1 ▸ (Kept.refl _ _).setRow (fun _ => by simp) _)
  have HZ := hid (kr.out.at hx11.out (by simp; have := HB0.out; have := HB1.out; omega))
  have KW := hid (show Kept [] w V1 from kw1.out.trans' kr.out (fun x hx hm => by simp at hm; subst hm; have := HB0.out; omega))
  have HF2 := hid (hf2.kept kr.out (fun x hx hm => by simp at hm; subst hm; have := HTB.out x hx; have := HB0.out; omega))
  have hx01' := hx01.out
  clear k1 hf2 hV1 hop
  go_wp2_with (refine wpList_store_at rfl 35 (.tmp 2) (.tmp 13) rfl b0 0 [.slice ra n rc, .int .i64 q, .int .i64 k2, .int .i64 l2, flv2] rfl rfl 35 [.slice ra n rc, .int .i64 q, .int .i64 k, .int .i64 left, flv] hx01' (by kernel_rfl) (by simp) (one5 hflv2 _ _ _ _ _ _) ?_; refine halt ?_)
  refine Halt.mk ?_
  rw [← HV1.out]
  clear hx01'
  have c0 : V1.cell? ⟨b0, 0, none⟩ = some (.slice ra n rc) := by rw [cell_of_row _ _ 0 _ _ _ HB.out]; rfl
  have c1 : V1.cell? ⟨b0, 1, none⟩ = some (.int .i64 q) := by rw [cell_of_row _ _ 1 _ _ _ HB.out]; rfl
  have c2 : V1.cell? ⟨b0, 2, none⟩ = some (.int .i64 k2) := by rw [cell_of_row _ _ 2 _ _ _ HB.out]; rfl
  have c3 : V1.cell? ⟨b0, 3, none⟩ = some (.int .i64 l2) := by rw [cell_of_row _ _ 3 _ _ _ HB.out]; rfl
  have c4 : V1.cell? ⟨b0, 4, none⟩ = some (flv2) := by rw [cell_of_row _ _ 4 _ _ _ HB.out]; rfl
  by_cases ho : opE fl = 0
  · have HO := hid ho
    obtain ⟨oe, hoe⟩ : ∃ oe, oe = opE fl := ⟨_, rfl⟩
    rw [← hoe] at ho ⊢
    subst ho
    clear hoe
    obtain ⟨i0, hi0, hz0, hz1, hz2⟩ := info_split info_str
    have hb1V := hid (show b1 < V1.heap.size from lt_of_block HZ.out)
    have HRT := hid (show RowT V1 ra es from by
      have h1 := H.out.keep KW.out
      rw [HN.out] at h1
      exact h1.rowT)
    obtain ⟨W, hW⟩ : ∃ W, W = V1.alloc (.cells #[] 9) := ⟨_, rfl⟩
    have HW := hid hW
    have kW := hid (show Kept [] V1 W from hW ▸ (Kept.refl [] V1).alloc _)
    have hb2 := hid (show W.heap[V1.heap.size]? = some (.cells #[] 9 (0, 0)) from hW ▸ heap_alloc_at rfl)
    have hI0 := hid (show NL V1 W nm es 0 (.slice (some ⟨V1.heap.size, 0, none⟩) 0 0) 0 from ⟨kW.out, by simp [namesL], by simp [namesL]; exact ⟨by simp, Or.inr ⟨V1.heap.size, 0, #[], rfl, Nat.le_refl _, hb2.out, by simp, by unfold maxLen; omega, by simp, by simp⟩⟩⟩)
    clear hW c0 c1 c2 c3 c4
    go_wp2_with fail
    rw [← HW.out]
    go_loopw [8, 9] (fun s8 s9 wr => ∃ (i m : Nat), i ≤ n ∧ s9 = .int .i64 i ∧ Hid (NL V1 wr nm es i s8 m)) (fun _ s9 _ => n - (intOf s9).toNat)
    case atStart => exact ⟨0, 0, Nat.zero_le _, rfl, hI0⟩
    case round =>
      clear hI0
      obtain ⟨i, m, hi, rfl, hst⟩ := hrel
      obtain ⟨hkr, hmm, hrow⟩ := hst.out
      obtain ⟨av, cv, hav⟩ := owns_slice hrow
      subst hav
      have HKR := hid hkr; have HMM := hid hmm; have HROW := hid hrow
      have HBR := hid (hkr.at HB.out (by simp))
      have HZR := hid (hkr.at HZ.out (by simp))
      have c0 : wr.cell? ⟨b0, 0, none⟩ = some (.slice ra n rc) := by rw [cell_of_row _ _ 0 _ _ _ HBR.out]; rfl
      have c1 : wr.cell? ⟨b0, 1, none⟩ = some (.int .i64 q) := by rw [cell_of_row _ _ 1 _ _ _ HBR.out]; rfl
      have c2 : wr.cell? ⟨b0, 2, none⟩ = some (.int .i64 k2) := by rw [cell_of_row _ _ 2 _ _ _ HBR.out]; rfl
      have c3 : wr.cell? ⟨b0, 3, none⟩ = some (.int .i64 l2) := by rw [cell_of_row _ _ 3 _ _ _ HBR.out]; rfl
      have c4 : wr.cell? ⟨b0, 4, none⟩ = some (flv2) := by rw [cell_of_row _ _ 4 _ _ _ HBR.out]; rfl
      have hmn : m ≤ 4000 := by
        rw [hmm]
        have h1 := sub_len ((es.take i).map (·.name)) (fun x => Lib.hasPrefix x nm)
        unfold namesL
        simp at h1 ⊢
        omega
      by_cases hlt : i < n
      · have hlt' : i < es.length := by have := HN.out; omega
        obtain ⟨en, hen⟩ : ∃ e, es[i]? = some e := ⟨es[i], by simp⟩
        obtain ⟨x, rfl⟩ : ∃ x, ra = some x := by
          cases ra with
          | none => exact absurd (HRT.out.1 rfl) (fun e => by rw [e] at hlt'; simp at hlt')
          | some x => exact ⟨x, rfl⟩
        obtain ⟨q0, _⟩ := HRT.out.2 x rfl i en hen
        have g0 := (hkr.cell (World.block_lt_of_cell? _ _ q0) (by simp)).trans q0
        have hbg := hid (begins_any en.name nm wr (by have := HNM.out en (List.mem_of_getElem? hen); omega) (by omega))
        have hnx := hid (show namesL (es.take (i + 1)) nm = namesL (es.take i) nm ++ (if Lib.hasPrefix en.name nm then [en.name] else []) from by
          unfold namesL
          rw [List.take_add_one, hen]
          simp [List.filter_append, List.filter_cons]
          first | done | (split <;> simp_all))
        have HLT := hid hlt
        obtain ⟨hp, hhp⟩ : ∃ hp, hp = Lib.hasPrefix en.name nm := ⟨_, rfl⟩
        have HHP := hid hhp
        rw [← hhp] at hbg hnx
        clear hst hrow hkr hmm hlt' hen q0 hhp
        cases hp
        · go_wp2_with fail
          refine hbg.out.mono ?_
          rintro e y ⟨rfl, rfl⟩
          have hI := hid (show NL V1 wr nm es (i + 1) (.slice av m cv) m from ⟨HKR.out, by rw [hnx.out]; simpa using HMM.out, by rw [hnx.out]; simpa using HROW.out⟩)
          clear hbg
          go_wp2
          go_roundw
          case rel => exact ⟨i + 1, m, HLT.out, by go_num, hI⟩
          case measure => simp [intOf]; omega
        · go_wp2_with fail
          refine hbg.out.mono ?_
          rintro e y ⟨rfl, rfl⟩
          have hkal := hid (show Kept [] wr (wr.alloc (.cells #[.string (S en.name)] 9)) from (Kept.refl [] wr).alloc _)
          have hrow3 := hid (hkal.out.owns HROW.out (by simp))
          clear hbg
          go_wp2_with (at_builtin; refine halt ?_)
          refine Halt.mk ?_
          refine wpList_append_src _ rfl _ _ _ rfl V1.heap.size 9 i0 _ 16 Try.underlying44 hi0 hz0 hz1 hz2 rfl (.slice av m cv) m ((namesL (es.take i) nm).map encStr) rfl hrow3.out (.slice (some ⟨wr.heap.size, 0, none⟩) 1 1) 1 [.string (S en.name)] rfl (Or.inr ⟨_, _, rfl, cell_one_new _ _ _⟩) rfl (by simp [Value.oneCell']) (by unfold maxLen; omega) (by omega) (by have := hkal.out.size; have := HKR.out.size; omega) ?_
          intro v4 w4 hown4 hgr4 _ hf4
          have kg := hid (Kept.of_row hgr4)
          have hI := hid (show NL V1 w4 nm es (i + 1) v4 (m + 1) from ⟨(HKR.out.trans hkal.out).trans' kg.out (fun z hz hm => by
              exfalso
              have hm' : (Value.slice av m cv).ownBlock = some z := by simpa using hm
              have := (HROW.out.lt z hm').1
              omega), by rw [hnx.out]; simp [HMM.out], by rw [hnx.out]; simpa [encS] using hown4⟩)
          clear hown4 hgr4 hf4
          go_wp2
          go_roundw
          case rel => exact ⟨i + 1, m + 1, HLT.out, by go_num, hI⟩
          case measure => simp [intOf]; omega
      · obtain rfl : n = i := by omega
        have HMM2 := hid (show m = (namesL es nm).length from by rw [hmm, HN.out, List.take_length])
        have HROW2 := hid (show wr.ownsRow V1.heap.size 9 1 (.slice av m cv) m ((namesL es nm).map encStr) from by have := hrow; rw [HN.out, List.take_length] at this; exact this)
        replace HMM := HMM2; replace HROW := HROW2
        clear hst hrow hkr hmm hlt
        have kz := hid (show Kept [b1] wr (wr.setRow b1 (splice [.slice none 0 0, .int .i64 0, .int .i64 0, .int .i64 0, .slice none 0 0] 0 [.slice ra n rc, .int .i64 q, .int .i64 k2, .int .i64 l2, flv2]).toArray) from (Kept.refl _ _).setRow (fun _ => by simp) _)
        have hld := hid (ref_st (wr.setRow b1 (splice [.slice none 0 0, .int .i64 0, .int .i64 0, .int .i64 0, .slice none 0 0] 0 [.slice ra n rc, .int .i64 q, .int .i64 k2, .int .i64 l2, flv2]).toArray) b1 (.slice ra n rc) q k2 l2 flv2 (setRow_heap _ _ _ _ _ _ HZR.out))
        go_wp2_with (refine wpList_store_at rfl 35 (.tmp 4) (.tmp 44) rfl b1 0 [.slice ra n rc, .int .i64 q, .int .i64 k2, .int .i64 l2, flv2] rfl rfl 35 [.slice none 0 0, .int .i64 0, .int .i64 0, .int .i64 0, .slice none 0 0] HZR.out (by kernel_rfl) (by simp) (one5 hflv2 _ _ _ _ _ _) ?_; refine halt ?_)
        refine Halt.mk ?_
        go_wp2_with fail
        refine bodyPost_ret (v := .tuple #[stR (.slice ra n rc) q k2 l2 flv2, .slice av m cv, .int .i64 0]) (results_cell3 Try.results29 rfl rfl rfl hld.out) rfl ?_
        have kf := (KW.out.trans HKR.out).trans' kz.out (fun x hx hm => by simp at hm; subst hm; have := HB1.out; omega)
        refine ⟨av, m, cv, flv2, ?_, kf, ⟨base, H.out.keep kf⟩, ?_, (HF2.out.kept HKR.out (by simp)).kept kz.out (fun x hx hm => by simp at hm; subst hm; have := HTB.out x hx; have := HB1.out; omega)⟩
        · rw [HO.out]; first | done | rfl
        · have e1 : gotL fl es nm = namesL es nm := by unfold gotL; rw [if_pos HO.out]
          rw [e1]
          have h1 := kz.out.owns HROW.out (fun g hg hm => by simp at hm; have := (HROW.out.lt g hg).1; have := hb1V.out; omega)
          exact ⟨by rw [HMM.out]; simp, owns_low h1 (Nat.le_trans (Nat.le_refl _) KW.out.size)⟩
  · obtain ⟨oe, hoe⟩ : ∃ oe, oe = opE fl := ⟨_, rfl⟩
    have hob : (oe == 0) = false := by rw [hoe]; simpa using ho
    have HOE := hid hoe
    have HON := hid (show ¬ opE fl = 0 from ho)
    rw [← hoe]
    clear hoe ho

    have kz := hid (show Kept [b1] V1 (V1.setRow b1 (splice [.slice none 0 0, .int .i64 0, .int .i64 0, .int .i64 0, .slice none 0 0] 0 [.slice ra n rc, .int .i64 q, .int .i64 k2, .int .i64 l2, flv2]).toArray) from (Kept.refl _ _).setRow (fun _ => by simp) _)
    have hld := hid (ref_st (V1.setRow b1 (splice [.slice none 0 0, .int .i64 0, .int .i64 0, .int .i64 0, .slice none 0 0] 0 [.slice ra n rc, .int .i64 q, .int .i64 k2, .int .i64 l2, flv2]).toArray) b1 (.slice ra n rc) q k2 l2 flv2 (setRow_heap _ _ _ _ _ _ HZ.out))
    go_wp2_with (refine wpList_store_at rfl 35 (.tmp 4) (.tmp 17) rfl b1 0 [.slice ra n rc, .int .i64 q, .int .i64 k2, .int .i64 l2, flv2] rfl rfl 35 [.slice none 0 0, .int .i64 0, .int .i64 0, .int .i64 0, .slice none 0 0] HZ.out (by kernel_rfl) (by simp) (one5 hflv2 _ _ _ _ _ _) ?_; refine halt ?_)
    refine Halt.mk ?_
    go_wp2_with fail
    refine bodyPost_ret (v := .tuple #[stR (.slice ra n rc) q k2 l2 flv2, .slice none 0 0, .int .i64 oe]) (results_cell3 Try.results29 rfl rfl rfl hld.out) rfl ?_
    have kf := KW.out.trans' kz.out (fun x hx hm => by simp at hm; subst hm; have := HB1.out; omega)
    refine ⟨none, 0, 0, flv2, ?_, kf, ⟨base, H.out.keep kf⟩, ?_, HF2.out.kept kz.out (fun x hx hm => by simp at hm; subst hm; have := HTB.out x hx; have := HB1.out; omega)⟩
    · rw [HOE.out]; first | done | rfl
    · rw [show gotL fl es nm = [] from by unfold gotL; rw [if_neg HON.out]]; exact ⟨rfl, World.ownsRow_nil _ _ _ 1⟩
end Go.Proofs.Ytmholofhmpplcaa
