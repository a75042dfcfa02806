import Derived.Test.YtmholofhmpplcaaMV3

/- step: Drop. -/
namespace Go.Proofs.Ytmholofhmpplcaa
open Go.RowKit Go.Lib Go.Maps

set_option maxRecDepth 100000 in
set_option maxHeartbeats 4000000 in
theorem step_drop (D : Nat) (w : World) (p : Nat) (q : Int) (f : Nat) (T : List Nat) (es fs : List Ent) (U : List Nat) (fl : List Bool) (k : Nat) (left : Int) (row flv : Value) (h : PS D w p q f T es fs U fl k left row flv) (h0 : left ≠ 0) (hk : k ≤ 60) (nm : List UInt8) (hnm : nm.length ≤ 100) (bv : Value) :
   Calls Try.prog 12 #[.pointer (some ⟨p, 0, none⟩), stR row q k left flv, .agg #[.int .i64 3, .string (S nm), bv]] w (StepR D w p q f T U k) := by
  have H := hid h
  obtain ⟨base, hrf⟩ := h.rf
  obtain ⟨ra, rc, rfl⟩ := owns_slice hrf.row
  obtain ⟨n, hn⟩ : ∃ n, n = fs.length := ⟨_, rfl⟩
  have HN := hid hn
  have hfv : ∃ a n c, flv = .slice a n c := by obtain ⟨_, a, c, e, _⟩ := h.fr; exact ⟨a, _, c, e⟩
  have HFV := hid hfv
  obtain ⟨b0, hb0⟩ : ∃ b0, b0 = w.heap.size := ⟨_, rfl⟩
  obtain ⟨b1, hb1⟩ : ∃ b1, b1 = w.heap.size + 1 := ⟨_, rfl⟩
  obtain ⟨b2, hb2⟩ : ∃ b2, b2 = w.heap.size + 1 + 1 := ⟨_, rfl⟩
  have HB0 := hid hb0; have HB1 := hid hb1; have HB2 := hid hb2
  rw [← hn] at h hrf ⊢
  obtain ⟨W0, hW0⟩ : ∃ W0, W0 = ((w.alloc (.cells #[.slice ra n rc, .int .i64 q, .int .i64 k, .int .i64 left, flv] 35)).alloc (.cells #[.int .i64 3, .string (S nm), bv] 38)).alloc (.cells #[.slice none 0 0, .int .i64 0, .int .i64 0, .int .i64 0, .slice none 0 0] 35) := ⟨_, rfl⟩
  have HW0 := hid hW0
  have k0 := hid (show Kept [] w W0 from hW0 ▸ (((Kept.refl [] w).alloc _).alloc _).alloc _)
  have hs0 := hid (show W0.heap.size = w.heap.size + 3 from by rw [hW0]; simp)
  have hx0 := hid (show W0.heap[b0]? = some (.cells #[.slice ra n rc, .int .i64 q, .int .i64 k, .int .i64 left, flv] 35 (0, 0)) from by rw [hW0, hb0]; exact heap_alloc_old (heap_alloc_old (heap_alloc_at rfl)))
  have hx1 := hid (show W0.heap[b1]? = some (.cells #[.int .i64 3, .string (S nm), bv] 38 (0, 0)) from by rw [hW0, hb1]; exact heap_alloc_old (heap_alloc_at (by simp)))
  have hx2 := hid (show W0.heap[b2]? = some (.cells [.slice none 0 0, .int .i64 0, .int .i64 0, .int .i64 0, .slice none 0 0].toArray 35 (0, 0)) from by rw [hW0, hb2]; exact heap_alloc_at (by simp))
  have P0 := hid (h.keep k0.out)
  have hcs := hid (ob_drop W0 U p _ [] q es (.pointer (some ⟨f, 0, none⟩)) fl k left nm (by omega) P0.out.ob (by omega) P0.out.fu h0)
  have hou := hid (show ∀ x, w.heap.size ≤ x → x ∉ U ++ [f] from fun x hx hm => by
    simp at hm
    rcases hm with hm | hm
    · have := h.ob.bound x hm; omega
    · have := h.flt.1; omega)
  have hl := hid h.flt.2.2; have hbd := hid h.bd; have hse := hid h.se; have hfl := hid h.fle; have hth := hid h.th
  have hT := hid (fun x (hx : x ∈ T) => (show x < w.heap.size from Nat.lt_of_lt_of_le (h.tl x hx) h.dl))
  have hris := hid (h.se.rising h.ob.rising)
  have H0 := hid h0; have HK := hid hk
  obtain ⟨oe, hoe⟩ : ∃ oe, oe = gotE fl es nm := ⟨_, rfl⟩
  have HOE := hid (hoe.trans (h.se.gotE fl nm))
  rw [← hoe] at hcs
  clear hW0 hb0 hb1 hb2 h hrf hn hfv h0 hk hoe
  unfold stR
  go_enter Try.func12, Try.ntmps12
  go_wp2_with fail
  rw [← HW0.out, ← HB2.out, ← HB1.out, ← HB0.out]
  refine hcs.out.mono ?_
  rintro e V ⟨rfl, k1, ob1, fu1⟩
  have K1 := hid (show Kept (U ++ [f]) W0 V from by simpa [fuB] using k1)
  have OB1 := hid ob1; have FU1 := hid fu1
  have hB0 := hid (K1.out.at hx0.out (hou.out _ (by have := HB0.out; omega)))
  have hB1 := hid (K1.out.at hx1.out (hou.out _ (by have := HB1.out; omega)))
  have hB2 := hid (K1.out.at hx2.out (hou.out _ (by have := HB2.out; omega)))
  have hrs := hid (ref_st V b0 (.slice ra n rc) q k left flv hB0.out)
  have c1 : V.cell? ⟨b1, 1, none⟩ = some (.string (S nm)) := by rw [cell_of_row _ _ 1 _ _ _ hB1.out]; rfl
  have PM := hid (P0.out.mid K1.out)
  have hrd := hid (by
    obtain ⟨⟨b, h1⟩, h2⟩ := PM.out
    exact ref_drop ra n rc fs q k left flv fl T b V h1 HN.out hris.out (by have := hse.out.length; have := hbd.out; have := HK.out; have := HN.out; omega) h2 H0.out hl.out (by have := HK.out; omega) (fun x hx => by have := hT.out x hx; have := hs0.out; have := K1.out.size; omega) (by have := hfl.out; omega) nm (by omega))
  rw [← HOE.out] at hrd
  clear k1 ob1 fu1 hcs
  unfold stR at hrs hrd
  go_wp2_with (refine wpList_load_cells rfl 35 (.tmp 4) rfl ⟨b0, 0, none⟩ rfl [.slice ra n rc, .int .i64 q, .int .i64 k, .int .i64 left, flv] _ Try.underlying35 rfl (by kernel_rfl) (cells_of hB0.out) ?_; refine halt ?_)
  refine Halt.mk ?_
  go_wp2_with fail
  refine hrd.out.mono ?_
  rintro e V2 ⟨rv', flv', rfl, k2, hr2, hrb, hf2⟩
  have K2 := hid k2; have HR2 := hid hr2; have HRB := hid hrb; have HF2 := hid hf2
  have hC2 := hid (k2.at hB2.out (by simp))
  obtain ⟨ra', n', rc', rfl⟩ : ∃ a m c, rv' = .slice a m c := by
    obtain ⟨b', h1⟩ := hr2
    obtain ⟨a, c, h2⟩ := owns_slice h1.row
    exact ⟨a, _, c, h2⟩
  have hfv2 : ∃ a n c, flv' = .slice a n c := by obtain ⟨_, a, c, e, _⟩ := hf2; exact ⟨a, _, c, e⟩
  clear k2 hr2 hrb hf2 hrd
  obtain ⟨k3, hk3⟩ : ∃ k3 : Int, k3 = (k : Int) + 1 := ⟨_, rfl⟩
  obtain ⟨l3, hl3⟩ : ∃ l3, l3 = decL left := ⟨_, rfl⟩
  have HK3 := hid hk3; have HL3 := hid hl3
  unfold stR
  rw [← hk3, ← hl3]
  clear hk3 hl3
  obtain ⟨b3, hb3⟩ : ∃ b3, b3 = V2.heap.size := ⟨_, rfl⟩
  have HB3 := hid hb3
  obtain ⟨V3, hV3⟩ : ∃ V3, V3 = V2.alloc (.cells #[.slice none 0 0, .int .i64 0, .int .i64 0, .int .i64 0, .slice none 0 0] 35) := ⟨_, rfl⟩
  have HV3 := hid hV3
  have hy3 := hid (show V3.heap[b3]? = some (.cells [.slice none 0 0, .int .i64 0, .int .i64 0, .int .i64 0, .slice none 0 0].toArray 35 (0, 0)) from by rw [hV3, hb3]; exact heap_alloc_at rfl)
  have kv3 := hid (show Kept [] V2 V3 from hV3 ▸ (Kept.refl _ _).alloc _)
  obtain ⟨V4, hV4⟩ : ∃ V4, V4 = V3.setRow b3 (splice [.slice none 0 0, .int .i64 0, .int .i64 0, .int .i64 0, .slice none 0 0] 0 [.slice ra' n' rc', .int .i64 q, .int .i64 k3, .int .i64 l3, flv']).toArray := ⟨_, rfl⟩
  have HV4 := hid hV4
  have hy4 := hid (show V4.heap[b3]? = some (.cells [.slice ra' n' rc', .int .i64 q, .int .i64 k3, .int .i64 l3, flv'].toArray 35 (0, 0)) from by rw [hV4]; exact setRow_heap _ _ _ _ _ _ hy3.out)
  have kv4 := hid (show Kept [b3] V3 V4 from hV4 ▸ (Kept.refl _ _).setRow (fun _ => by simp) _)
  have hb23 := hid (show b2 ≠ b3 from by have := lt_of_block hC2.out; omega)
  have hz4 := hid (kv4.out.at (kv3.out.at hC2.out (by simp)) (by simpa using hb23.out))
  obtain ⟨V5, hV5⟩ : ∃ V5, V5 = V4.setRow b2 (splice [.slice none 0 0, .int .i64 0, .int .i64 0, .int .i64 0, .slice none 0 0] 0 [.slice ra' n' rc', .int .i64 q, .int .i64 k3, .int .i64 l3, flv']).toArray := ⟨_, rfl⟩
  have HV5 := hid hV5
  have kv5 := hid (show Kept [b2] V4 V5 from hV5 ▸ (Kept.refl _ _).setRow (fun _ => by simp) _)
  have hld := hid (ref_st V5 b2 (.slice ra' n' rc') q k3 l3 flv' (by rw [hV5]; exact setRow_heap _ _ _ _ _ _ hz4.out))
  have kV := hid (show Kept [b2] V V5 from by
    have h1 : Kept [] V2 V4 := kv3.out.trans' kv4.out (fun x hx hm => by simp at hm; subst hm; have := HB3.out; omega)
    have h2 : Kept [] V V4 := K2.out.trans h1
    exact (h2.wider (fun x _ hx => by simp at hx)).trans kv5.out)
  clear hV3 hV4 hV5 hb3
  go_wp2_with (refine wpList_store_at rfl 35 (.tmp 21) (.tmp 117) rfl V2.heap.size 0 [.slice ra' n' rc', .int .i64 q, .int .i64 k3, .int .i64 l3, flv'] rfl rfl 35 [.slice none 0 0, .int .i64 0, .int .i64 0, .int .i64 0, .slice none 0 0] (heap_alloc_at rfl) (by kernel_rfl) (by simp) (one5 hfv2 _ _ _ _ _ _) ?_; refine halt ?_)
  refine Halt.mk ?_
  rw [← HV3.out, ← HB3.out, ← HV4.out]
  go_wp2_with (refine wpList_load_cells rfl 35 (.tmp 21) rfl ⟨b3, 0, none⟩ rfl [.slice ra' n' rc', .int .i64 q, .int .i64 k3, .int .i64 l3, flv'] _ Try.underlying35 rfl (by kernel_rfl) (cells_of hy4.out) ?_; refine halt ?_)
  refine Halt.mk ?_
  go_wp2_with (refine wpList_store_at rfl 35 (.tmp 6) (.tmp 119) rfl b2 0 [.slice ra' n' rc', .int .i64 q, .int .i64 k3, .int .i64 l3, flv'] rfl rfl 35 [.slice none 0 0, .int .i64 0, .int .i64 0, .int .i64 0, .slice none 0 0] hz4.out (by kernel_rfl) (by simp) (one5 hfv2 _ _ _ _ _ _) ?_; refine halt ?_)
  refine Halt.mk ?_
  rw [← HV5.out]
  go_wp2_with fail
  refine bodyPost_ret (v := .tuple #[stR (.slice ra' n' rc') q k3 l3 flv', .bool true]) (results_cell2 Try.results12 rfl rfl hld.out) rfl ?_
  have hb2n := hid (show ∀ x, x ∈ U → x ≠ b2 from fun x hx e => hou.out b2 (by have := HB2.out; omega) (by subst e; simp [hx]))
  have hb2f := hid (show f ≠ b2 from fun e => hou.out b2 (by have := HB2.out; omega) (by subst e; simp))
  have hkk : Kept [b2] V2 V5 := by
    have h1 : Kept [] V2 V4 := kv3.out.trans' kv4.out (fun x hx hm => by simp at hm; subst hm; have := HB3.out; omega)
    exact (h1.wider (fun x _ hx => by simp at hx)).trans kv5.out
  refine ⟨dropE fl es nm, dropE fl fs nm, U, fl.drop 1, k + 1, decL left, .slice ra' n' rc', flv', by rw [HK3.out, HL3.out]; rfl, ?_, fun x hx => Or.inl hx, ?_, Nat.le_refl _⟩
  · exact ((k0.out.wider (fun x _ hx => by simp at hx)).trans K1.out).trans' kV.out (fun x hx hm => by simp at hm; subst hm; have := HB2.out; omega)
  · refine PS.next (V := V) (row := .slice ra n rc) (by rw [HN.out]; exact H.out) (by have := hs0.out; have := K1.out.size; omega) kV.out (fun x hx => by simp at hx; subst hx; exact ⟨fun hm => hb2n.out _ hm rfl, hb2f.out.symm⟩) OB1.out FU1.out (fun x hx => Or.inl hx) ?_ HRB.out (fun e he => hth.out e (mem_drop he)) (hse.out.drop fl nm) ?_ ?_
    · obtain ⟨b', h1⟩ := HR2.out
      refine ⟨b', h1.kept hkk (fun g hg hm => ?_) (fun e he hne g hg hm => ?_)⟩
      · simp at hm; subst hm
        rcases HRB.out _ hg with h2 | h2
        · obtain ⟨bb, h3⟩ := H.out.rf
          have h4 := (h3.row.lt _ (by rw [← HN.out]; exact h2)).2
          have := HB2.out; omega
        · have := lt_of_block hB2.out; omega
      · simp at hm; subst hm
        have h2 := hth.out e (mem_drop he) hne _ hg
        have := H.out.dl; have := HB2.out; omega
    · exact HF2.out.kept hkk (fun x hx hm => by simp at hm; subst hm; have := hT.out _ hx; have := HB2.out; omega)
    · have h1 := hbd.out
      have h2 := drop_size fl es nm
      have h3 := len_drop_le fl nm es
      omega
end Go.Proofs.Ytmholofhmpplcaa


/- step: kinds that do nothing. -/
namespace Go.Proofs.Ytmholofhmpplcaa
open Go.RowKit Go.Lib Go.Maps

set_option maxRecDepth 100000 in
set_option maxHeartbeats 4000000 in
theorem step_idle (D : Nat) (w : World) (p : Nat) (q : Int) (f : Nat) (T : List Nat) (es fs : List Ent) (U : List Nat) (fl : List Bool) (k : Nat) (left : Int) (row flv : Value) (h : PS D w p q f T es fs U fl k left row flv) (nm : List UInt8) (bv : Value) (kd : Int) (hkd : kd < 0 ∨ 4 < kd) :
   Calls Try.prog 12 #[.pointer (some ⟨p, 0, none⟩), stR row q k left flv, .agg #[.int .i64 kd, .string (S nm), bv]] w (StepR D w p q f T U k) := by
  have H := hid h
  obtain ⟨base, hrf⟩ := h.rf
  obtain ⟨ra, rc, rfl⟩ := owns_slice hrf.row
  obtain ⟨n, hn⟩ : ∃ n, n = fs.length := ⟨_, rfl⟩
  have HN := hid hn
  have hfv : ∃ a n c, flv = .slice a n c := by obtain ⟨_, a, c, e, _⟩ := h.fr; exact ⟨a, _, c, e⟩
  have HFV := hid hfv
  obtain ⟨b0, hb0⟩ : ∃ b0, b0 = w.heap.size := ⟨_, rfl⟩
  obtain ⟨b1, hb1⟩ : ∃ b1, b1 = w.heap.size + 1 := ⟨_, rfl⟩
  obtain ⟨b2, hb2⟩ : ∃ b2, b2 = w.heap.size + 1 + 1 := ⟨_, rfl⟩
  have HB0 := hid hb0; have HB1 := hid hb1; have HB2 := hid hb2
  rw [← hn] at h hrf ⊢
  obtain ⟨W0, hW0⟩ : ∃ W0, W0 = ((w.alloc (.cells #[.slice ra n rc, .int .i64 q, .int .i64 k, .int .i64 left, flv] 35)).alloc (.cells #[.int .i64 kd, .string (S nm), bv] 38)).alloc (.cells #[.slice none 0 0, .int .i64 0, .int .i64 0, .int .i64 0, .slice none 0 0] 35) := ⟨_, rfl⟩
  have HW0 := hid hW0
  have k0 := hid (show Kept [] w W0 from hW0 ▸ (((Kept.refl [] w).alloc _).alloc _).alloc _)
  have hs0 := hid (show W0.heap.size = w.heap.size + 3 from by rw [hW0]; simp)
  have hx0 := hid (show W0.heap[b0]? = some (.cells #[.slice ra n rc, .int .i64 q, .int .i64 k, .int .i64 left, flv] 35 (0, 0)) from by rw [hW0, hb0]; exact heap_alloc_old (heap_alloc_old (heap_alloc_at rfl)))
  have hx1 := hid (show W0.heap[b1]? = some (.cells #[.int .i64 kd, .string (S nm), bv] 38 (0, 0)) from by rw [hW0, hb1]; exact heap_alloc_old (heap_alloc_at (by simp)))
  have hx2 := hid (show W0.heap[b2]? = some (.cells [.slice none 0 0, .int .i64 0, .int .i64 0, .int .i64 0, .slice none 0 0].toArray 35 (0, 0)) from by rw [hW0, hb2]; exact heap_alloc_at (by simp))
  have P0 := hid (h.keep k0.out)
  have hou := hid (show ∀ x, w.heap.size ≤ x → x ∉ U ++ [f] from fun x hx hm => by
    simp at hm
    rcases hm with hm | hm
    · have := h.ob.bound x hm; omega
    · have := h.flt.1; omega)
  have e0 : (kd == 0) = false := by simp; omega
  have e1 : (kd == 1) = false := by simp; omega
  have e2 : (kd == 2) = false := by simp; omega
  have e3 : (kd == 3) = false := by simp; omega
  have e4 : (kd == 4) = false := by simp; omega
  have hrs := hid (ref_st W0 b0 (.slice ra n rc) q k left flv hx0.out)
  obtain ⟨V5, hV5⟩ : ∃ V5, V5 = W0.setRow b2 (splice [.slice none 0 0, .int .i64 0, .int .i64 0, .int .i64 0, .slice none 0 0] 0 [.slice ra n rc, .int .i64 q, .int .i64 k, .int .i64 left, flv]).toArray := ⟨_, rfl⟩
  have HV5 := hid hV5
  have kv5 := hid (show Kept [b2] W0 V5 from hV5 ▸ (Kept.refl _ _).setRow (fun _ => by simp) _)
  have hld := hid (ref_st V5 b2 (.slice ra n rc) q k left flv (by rw [hV5]; exact setRow_heap _ _ _ _ _ _ hx2.out))
  have KW := hid (show Kept [] w V5 from k0.out.trans' kv5.out (fun x hx hm => by simp at hm; subst hm; omega))
  clear hW0 hb0 hb1 hb2 h hrf hn hfv hV5 hkd
  unfold stR
  go_enter Try.func12, Try.ntmps12
  go_wp2_with (refine wpList_store_at rfl 35 (.tmp 6) (.tmp 149) rfl (w.heap.size + 1 + 1) 0 [.slice ra n rc, .int .i64 q, .int .i64 k, .int .i64 left, flv] rfl rfl 35 [.slice none 0 0, .int .i64 0, .int .i64 0, .int .i64 0, .slice none 0 0] (heap_alloc_at (by simp)) (by kernel_rfl) (by simp) (one5 HFV.out _ _ _ _ _ _) ?_; refine halt ?_)
  refine Halt.mk ?_
  rw [← HW0.out, ← HB2.out, ← HB1.out, ← HB0.out, ← HV5.out]
  go_wp2_with fail
  refine bodyPost_ret (v := .tuple #[stR (.slice ra n rc) q k left flv, .bool true]) (results_cell2 Try.results12 rfl rfl hld.out) rfl ?_
  exact ⟨es, fs, U, fl, k, left, .slice ra n rc, flv, rfl, KW.out.wider (fun x _ hx => by simp at hx), fun x hx => Or.inl hx, by rw [HN.out]; exact H.out.keep KW.out, Nat.le_succ _⟩
end Go.Proofs.Ytmholofhmpplcaa
