import Derived.Test.YtmholofhmpplcaaVC
import Derived.Test.YtmholofhmpplcaaMC
import Derived.Test.YtmholofhmpplcaaMQ

/- step: Get. -/
namespace Go.Proofs.Ytmholofhmpplcaa
open Go.RowKit Go.Lib Go.Maps

/-- A row of bytes of the call's own, whatever they are now. -/
def XB (w : World) (a : Option Addr) (n : Nat) : Prop := n = 0 ∨ ∃ g cur, a = some ⟨g, 0, none⟩ ∧ w.heap[g]? = some (.cells cur 5 (0, 0)) ∧ ∀ j, j < n → ∃ z, cur[j]? = some (.int .u8 z)
theorem XB.of_owns {w : World} {base : Nat} {a : Option Addr} {n c : Nat} {bs : List UInt8} (h : w.ownsRow base 5 1 (.slice a n c) n (bs.map B)) (hn : n = bs.length) : XB w a n := by
  rcases h.2 with ⟨h1, _⟩ | ⟨g, cap, cur, h1, hb, hh, _⟩
  · simp at h1; exact Or.inl h1.2.1
  · simp at h1
    obtain ⟨rfl, rfl⟩ := h1
    refine Or.inr ⟨g, cur, rfl, hh, fun j hj => ?_⟩
    have h2 := owns_cell h (i := j) (v := B (bs[j]'(by omega))) (by rw [List.getElem?_map, List.getElem?_eq_getElem (by omega)]; rfl)
    rw [cell_of_row _ _ _ _ _ _ hh] at h2
    exact ⟨_, h2⟩
theorem XB.get {w : World} {a : Option Addr} {n i : Nat} (h : XB w a n) (hi : i < n) : ∃ g z, a = some ⟨g, 0, none⟩ ∧ w.cell? ⟨g, i, none⟩ = some (.int .u8 z) ∧ w.frozen? ⟨g, i, none⟩ = false := by
  rcases h with h | ⟨g, cur, rfl, hh, hc⟩
  · omega
  · obtain ⟨z, hz⟩ := hc i hi
    exact ⟨g, z, rfl, by rw [cell_of_row _ _ _ _ _ _ hh]; exact hz, free_of_row' hh _⟩
theorem XB.set {w : World} {g n i : Nat} (h : XB w (some ⟨g, 0, none⟩) n) (hi : i < n) (z : Int) : XB (w.setCell ⟨g, i, none⟩ (.int .u8 z)) (some ⟨g, 0, none⟩) n := by
  rcases h with h | ⟨g', cur, hg, hh, hc⟩
  · omega
  · simp at hg
    subst hg
    obtain ⟨z0, hz0⟩ := hc i hi
    have hsz : i < cur.size := by
      rcases Nat.lt_or_ge i cur.size with h | h
      · exact h
      · rw [Array.getElem?_eq_none h] at hz0; simp at hz0
    refine Or.inr ⟨g, cur.setIfInBounds i (.int .u8 z), rfl, ?_, fun j hj => ?_⟩
    · exact Go.heap_setCell_same w g i cur _ _ hh
    · by_cases e : i = j
      · subst e
        exact ⟨z, by rw [Array.getElem?_setIfInBounds_self_of_lt hsz]⟩
      · rw [Array.getElem?_setIfInBounds_ne e]
        exact hc j hj
theorem gotB_small {es fs : List Ent} {fl : List Bool} {nm : List UInt8} {k : Nat} (h : SameE es fs) (hz : sizeE es ≤ 200 * k) (hk : k ≤ 60) : (gotB fl fs nm).length ≤ 1000000000000 := by
  rw [h.size] at hz
  unfold gotB; split
  · unfold lookB
    cases hf : findE nm fs with
    | none => simp
    | some e => have h1 := sizeE_mem (find_mem hf).1; simp; omega
  · simp
theorem srcB_of_owns {w : World} {base : Nat} {a : Option Addr} {c : Nat} {xs : List UInt8} (h : w.ownsRow base 5 1 (.slice a xs.length c) xs.length (xs.map B)) : SrcB w (.slice a xs.length c) xs := src_own h
theorem srcB_of_src {w : World} {a : Option Addr} {c : Nat} {xs : List UInt8} (h : Src w (.slice a xs.length c) xs.length (xs.map B)) : SrcB w (.slice a xs.length c) xs := h
theorem XB.kept {S : List Nat} {w w' : World} {a : Option Addr} {n c : Nat} (h : XB w a n) (hk : Kept S w w') (hS : ∀ g, (Value.slice a n c).ownBlock = some g → g ∉ S) : XB w' a n := by
  rcases h with h | ⟨g, cur, rfl, hh, hc⟩
  · exact Or.inl h
  · exact Or.inr ⟨g, cur, rfl, hk.at hh (hS g rfl), hc⟩

set_option maxRecDepth 100000 in
set_option maxHeartbeats 4000000 in
theorem step_get (D : Nat) (w : World) (p : Nat) (q : Int) (f : Nat) (T : List Nat) (es fs : List Ent) (U : List Nat) (fl : List Bool) (k : Nat) (left : Int) (row flv : Value) (h : PS D w p q f T es fs U fl k left row flv) (h0 : left ≠ 0) (hk : k ≤ 60) (nm : List UInt8) (hnm : nm.length ≤ 100) (bv : Value) :
   Calls Try.prog 12 #[.pointer (some ⟨p, 0, none⟩), stR row q k left flv, .agg #[.int .i64 2, .string (S nm), bv]] w (StepR D w p q f T U k) := by
  have H := hid h
  obtain ⟨base, hrf⟩ := h.rf
  obtain ⟨ra, rc, rfl⟩ := owns_slice hrf.row
  obtain ⟨n, hn⟩ : ∃ n, n = fs.length := ⟨_, rfl⟩
  have HN := hid hn
  have hfv : ∃ a n c, flv = .slice a n c := by obtain ⟨_, a, c, e, _⟩ := h.fr; exact ⟨a, _, c, e⟩
  have HFV := hid hfv
  obtain ⟨b0, hb0⟩ : ∃ b0, b0 = w.heap.size := ⟨_, rfl⟩
  obtain ⟨b1, hb1⟩ : ∃ b1, b1 = w.heap.size + 1 := ⟨_, rfl⟩
  obtain ⟨b2, hb2⟩ : ∃ b2, b2 = w.heap.size + 1 + 1 := ⟨_, rfl⟩
  have HB0 := hid hb0; have HB1 := hid hb1; have HB2 := hid hb2
  rw [← hn] at h hrf ⊢
  obtain ⟨W0, hW0⟩ : ∃ W0, W0 = ((w.alloc (.cells #[.slice ra n rc, .int .i64 q, .int .i64 k, .int .i64 left, flv] 35)).alloc (.cells #[.int .i64 2, .string (S nm), bv] 38)).alloc (.cells #[.slice none 0 0, .int .i64 0, .int .i64 0, .int .i64 0, .slice none 0 0] 35) := ⟨_, rfl⟩
  have HW0 := hid hW0
  have k0 := hid (show Kept [] w W0 from hW0 ▸ (((Kept.refl [] w).alloc _).alloc _).alloc _)
  have hs0 := hid (show W0.heap.size = w.heap.size + 3 from by rw [hW0]; simp)
  have hx0 := hid (show W0.heap[b0]? = some (.cells #[.slice ra n rc, .int .i64 q, .int .i64 k, .int .i64 left, flv] 35 (0, 0)) from by rw [hW0, hb0]; exact heap_alloc_old (heap_alloc_old (heap_alloc_at rfl)))
  have hx1 := hid (show W0.heap[b1]? = some (.cells #[.int .i64 2, .string (S nm), bv] 38 (0, 0)) from by rw [hW0, hb1]; exact heap_alloc_old (heap_alloc_at (by simp)))
  have hx2 := hid (show W0.heap[b2]? = some (.cells [.slice none 0 0, .int .i64 0, .int .i64 0, .int .i64 0, .slice none 0 0].toArray 35 (0, 0)) from by rw [hW0, hb2]; exact heap_alloc_at (by simp))
  have P0 := hid (h.keep k0.out)
  have hcs := hid (ob_get_own W0 U p _ [] q es (.pointer (some ⟨f, 0, none⟩)) fl k left nm (by omega) P0.out.ob (by omega) P0.out.fu h0)
  have hou := hid (show ∀ x, w.heap.size ≤ x → x ∉ U ++ [f] from fun x hx hm => by
    simp at hm
    rcases hm with hm | hm
    · have := h.ob.bound x hm; omega
    · have := h.flt.1; omega)
  have hl := hid h.flt.2.2; have hbd := hid h.bd; have hse := hid h.se; have hfl := hid h.fle; have hth := hid h.th
  have hT := hid (fun x (hx : x ∈ T) => (show x < w.heap.size from Nat.lt_of_lt_of_le (h.tl x hx) h.dl))
  have hris := hid (h.se.rising h.ob.rising)
  have H0 := hid h0; have HK := hid hk
  obtain ⟨oe, hoe⟩ : ∃ oe, oe = gotE fl es nm := ⟨_, rfl⟩
  obtain ⟨gl, hgl⟩ : ∃ gl, gl = gotB fl es nm := ⟨_, rfl⟩
  have hpu := hid h.ob.hp
  have HGL := hid (hgl.trans (h.se.gotB fl nm))
  rw [← hoe, ← hgl] at hcs
  have HOE := hid (hoe.trans (h.se.gotE fl nm))
  clear hW0 hb0 hb1 hb2 h hrf hn hfv h0 hk hoe hgl
  unfold stR
  go_enter Try.func12, Try.ntmps12
  go_wp2_with fail
  rw [← HW0.out, ← HB2.out, ← HB1.out, ← HB0.out]
  refine hcs.out.mono ?_
  rintro e V ⟨lv, rfl, k1, ob1, fu1, ol1⟩
  have K1 := hid (show Kept (U ++ [f]) W0 V from k1.wider (fun x _ hx => by simp [fuB] at hx; rcases hx with rfl | rfl <;> simp [hpu.out]))
  obtain ⟨la, lc, rfl⟩ := owns_slice ol1
  obtain ⟨ln, hln⟩ : ∃ ln, ln = gl.length := ⟨_, rfl⟩
  rw [← hln] at ol1 ⊢
  have HLN := hid hln
  have OL1 := hid ol1
  clear hln ol1
  have OB1 := hid ob1; have FU1 := hid fu1
  have hB0 := hid (K1.out.at hx0.out (hou.out _ (by have := HB0.out; omega)))
  have hB1 := hid (K1.out.at hx1.out (hou.out _ (by have := HB1.out; omega)))
  have hB2 := hid (K1.out.at hx2.out (hou.out _ (by have := HB2.out; omega)))
  have hrs := hid (ref_st V b0 (.slice ra n rc) q k left flv hB0.out)
  have c1 : V.cell? ⟨b1, 1, none⟩ = some (.string (S nm)) := by rw [cell_of_row _ _ 1 _ _ _ hB1.out]; rfl
  have PM := hid (P0.out.mid K1.out)
  have hrd := hid (by
    obtain ⟨⟨b, h1⟩, h2⟩ := PM.out
    exact ref_get ra n rc fs q k left flv fl T b V h1 HN.out hris.out (by have := hse.out.length; have := hbd.out; have := HK.out; have := HN.out; omega) h2 H0.out hl.out (by have := HK.out; omega) (fun x hx => by have := hT.out x hx; have := hs0.out; have := K1.out.size; omega) (by have := hfl.out; omega) nm (by omega))
  rw [← HOE.out, ← HGL.out] at hrd
  clear k1 ob1 fu1 hcs
  unfold stR at hrs hrd
  go_wp2_with (refine wpList_load_cells rfl 35 (.tmp 4) rfl ⟨b0, 0, none⟩ rfl [.slice ra n rc, .int .i64 q, .int .i64 k, .int .i64 left, flv] _ Try.underlying35 rfl (by kernel_rfl) (cells_of hB0.out) ?_; refine halt ?_)
  refine Halt.mk ?_
  go_wp2_with fail
  refine hrd.out.mono ?_
  rintro e V2 ⟨wa, wm, wc, flv', rfl, k2, hr2, hwm, ow, hf2⟩
  have K2 := hid k2; have HR2 := hid hr2; have HF2 := hid hf2; have HWM := hid hwm; have OW := hid ow
  have hC2 := hid (k2.at hB2.out (by simp))
  have hfv2 : ∃ a n c, flv' = .slice a n c := by obtain ⟨_, a, c, e, _⟩ := hf2; exact ⟨a, _, c, e⟩
  clear k2 hr2 hf2 hrd hwm ow
  obtain ⟨k3, hk3⟩ : ∃ k3 : Int, k3 = (k : Int) + 1 := ⟨_, rfl⟩
  obtain ⟨l3, hl3⟩ : ∃ l3, l3 = decL left := ⟨_, rfl⟩
  have HK3 := hid hk3; have HL3 := hid hl3
  unfold stR
  rw [← hk3, ← hl3]
  clear hk3 hl3
  obtain ⟨b3, hb3⟩ : ∃ b3, b3 = V2.heap.size := ⟨_, rfl⟩
  have HB3 := hid hb3
  obtain ⟨V3, hV3⟩ : ∃ V3, V3 = V2.alloc (.cells #[.slice none 0 0, .int .i64 0, .int .i64 0, .int .i64 0, .slice none 0 0] 35) := ⟨_, rfl⟩
  have HV3 := hid hV3
  have hy3 := hid (show V3.heap[b3]? = some (.cells [.slice none 0 0, .int .i64 0, .int .i64 0, .int .i64 0, .slice none 0 0].toArray 35 (0, 0)) from by rw [hV3, hb3]; exact heap_alloc_at rfl)
  have kv3 := hid (show Kept [] V2 V3 from hV3 ▸ (Kept.refl _ _).alloc _)
  obtain ⟨V4, hV4⟩ : ∃ V4, V4 = V3.setRow b3 (splice [.slice none 0 0, .int .i64 0, .int .i64 0, .int .i64 0, .slice none 0 0] 0 [.slice ra n rc, .int .i64 q, .int .i64 k3, .int .i64 l3, flv']).toArray := ⟨_, rfl⟩
  have HV4 := hid hV4
  have hy4 := hid (show V4.heap[b3]? = some (.cells [.slice ra n rc, .int .i64 q, .int .i64 k3, .int .i64 l3, flv'].toArray 35 (0, 0)) from by rw [hV4]; exact setRow_heap _ _ _ _ _ _ hy3.out)
  have kv4 := hid (show Kept [b3] V3 V4 from hV4 ▸ (Kept.refl _ _).setRow (fun _ => by simp) _)
  have hb23 := hid (show b2 ≠ b3 from by have := lt_of_block hC2.out; omega)
  have hz4 := hid (kv4.out.at (kv3.out.at hC2.out (by simp)) (by simpa using hb23.out))
  have kVV4 := hid (show Kept [] V V4 from by
    have h1 : Kept [] V2 V4 := kv3.out.trans' kv4.out (fun x hx hm => by simp at hm; subst hm; have := HB3.out; omega)
    exact K2.out.trans h1)
  clear hV3 hV4 hb3
  go_wp2_with (refine wpList_store_at rfl 35 (.tmp 15) (.tmp 81) rfl V2.heap.size 0 [.slice ra n rc, .int .i64 q, .int .i64 k3, .int .i64 l3, flv'] rfl rfl 35 [.slice none 0 0, .int .i64 0, .int .i64 0, .int .i64 0, .slice none 0 0] (heap_alloc_at rfl) (by kernel_rfl) (by simp) (one5 hfv2 _ _ _ _ _ _) ?_; refine halt ?_)
  refine Halt.mk ?_
  rw [← HV3.out, ← HB3.out, ← HV4.out]
  have hwl : Hid (wm = ln) := by show wm = ln; rw [HWM.out, HLN.out]
  have hsame := hid (show Calls Try.prog 27 #[.slice la ln lc, .slice wa wm wc] V4 fun e w' => e = .returned (.bool true) ∧ V4 = w' from by
    rw [hwl.out]
    have h2 : SrcB V4 (.slice la gl.length lc) gl := srcB_of_owns (by have h1 := kVV4.out.owns OL1.out (by simp); rw [HLN.out] at h1; exact h1)
    have h3 : SrcB V4 (.slice wa gl.length wc) gl := srcB_of_src (by
      have h1 := (OW.out.keep (kv3.out.trans' kv4.out (fun x hx hm => by simp at hm; subst hm; have := HB3.out; omega)))
      rw [HWM.out] at h1; exact h1)
    rw [HLN.out]
    exact same_src la wa lc wc gl V4 h2 h3)
  go_wp2_with fail
  refine hsame.out.mono ?_
  rintro e w5 ⟨rfl, rfl⟩
  clear hsame
  have hln2 := hid (show ln ≤ 1000000000000 from by have h1 := HLN.out; have h2 := HGL.out; have h3 := hbd.out; have h4 := HK.out; rw [h1, h2]; exact gotB_small hse.out h3.1 h4)
  have HXB := hid (show XB V4 la ln from XB.of_owns ((kVV4.out.owns OL1.out (by simp))) HLN.out)
  go_wp2_with fail
  go_loopw [94] (fun s wr => ∃ i : Nat, i ≤ ln ∧ s = .int .i64 i ∧ Hid (Kept (Value.slice la ln lc).ownBlock.toList V4 wr) ∧ Hid (XB wr la ln)) (fun s _ => ln - (intOf s).toNat)
  case atStart => exact ⟨0, Nat.zero_le _, rfl, hid (Kept.refl _ _), HXB⟩
  case round =>
    obtain ⟨i, hi, rfl, hkr, hxb⟩ := hrel
    by_cases h1 : i < ln
    · as_aux_lemma =>
        obtain ⟨g, z, rfl, hcell, hfree⟩ := hxb.out.get h1
        have HLT := hid h1
        have hI : (0 : Int) ≤ i := by omega
        have hI2 : (i : Int) < ln := by omega
        have hI3 : (ln : Int) ≤ 1000000000000 := by have := hln2.out; omega
        go_wp2_with fail
        refine ⟨⟨i + 1, by have := HLT.out; omega, by go_num, hid (hkr.out.setCell (p := ⟨g, i, none⟩) (fun _ => by simp [Value.ownBlock]) _), hid (hxb.out.set HLT.out _)⟩, by simp [intOf]; have := HLT.out; omega⟩
    · as_aux_lemma =>
        obtain rfl : i = ln := by omega
        have HG := hid (fun g (hg : (Value.slice la i lc).ownBlock = some g) => OL1.out.lt g hg)
        have hy5 := hid (hkr.out.at hy4.out (fun hm => by simp at hm; have := (HG.out _ hm).2; have := HB3.out; have := K2.out.size; omega))
        have hz5 := hid (hkr.out.at hz4.out (fun hm => by simp at hm; have := (HG.out _ hm).1; have := hs0.out; have := HB2.out; omega))
        go_wp2_with (refine wpList_load_cells rfl 35 (.tmp 15) rfl ⟨b3, 0, none⟩ rfl [.slice ra n rc, .int .i64 q, .int .i64 k3, .int .i64 l3, flv'] _ Try.underlying35 rfl (by kernel_rfl) (cells_of hy5.out) ?_; refine halt ?_)
        refine Halt.mk ?_
        obtain ⟨V5, hV5⟩ : ∃ V5, V5 = wr.setRow b2 (splice [.slice none 0 0, .int .i64 0, .int .i64 0, .int .i64 0, .slice none 0 0] 0 [.slice ra n rc, .int .i64 q, .int .i64 k3, .int .i64 l3, flv']).toArray := ⟨_, rfl⟩
        have HV5 := hid hV5
        have kv5 := hid (show Kept (b2 :: (Value.slice la i lc).ownBlock.toList) V4 V5 from (hkr.out.wider (fun x _ hx => List.mem_cons_of_mem _ hx)).trans (hV5 ▸ (Kept.refl _ _).setRow (fun _ => by simp) _))
        have hld := hid (ref_st V5 b2 (.slice ra n rc) q k3 l3 flv' (by rw [hV5]; exact setRow_heap _ _ _ _ _ _ hz5.out))
        clear hV5
        go_wp2_with (refine wpList_store_at rfl 35 (.tmp 6) (.tmp 104) rfl b2 0 [.slice ra n rc, .int .i64 q, .int .i64 k3, .int .i64 l3, flv'] rfl rfl 35 [.slice none 0 0, .int .i64 0, .int .i64 0, .int .i64 0, .slice none 0 0] hz5.out (by kernel_rfl) (by simp) (one5 hfv2 _ _ _ _ _ _) ?_; refine halt ?_)
        refine Halt.mk ?_
        rw [← HV5.out]
        go_wp2_with fail
        refine bodyPost_ret (v := .tuple #[stR (.slice ra n rc) q k3 l3 flv', .bool true]) (results_cell2 Try.results12 rfl rfl hld.out) rfl ?_
        have hb2n := hid (show ∀ x, x ∈ U → x ≠ b2 from fun x hx e => hou.out b2 (by have := HB2.out; omega) (by subst e; simp [hx]))
        have hb2f := hid (show f ≠ b2 from fun e => hou.out b2 (by have := HB2.out; omega) (by subst e; simp))
        have hkk : Kept (b2 :: (Value.slice la i lc).ownBlock.toList) V2 V5 := by
          have h1 : Kept [] V2 V4 := kv3.out.trans' kv4.out (fun x hx hm => by simp at hm; subst hm; have := HB3.out; omega)
          exact (h1.wider (fun x _ hx => by simp at hx)).trans kv5.out
        have kV : Hid (Kept (b2 :: (Value.slice la i lc).ownBlock.toList) V V5) := (kVV4.out.wider (fun x _ hx => by simp at hx)).trans kv5.out
        have hin := hid (show ∀ x, x ∈ (b2 :: (Value.slice la i lc).ownBlock.toList) → w.heap.size ≤ x ∧ x < V.heap.size from fun x hx => by
          rcases List.mem_cons.1 hx with rfl | hx
          · have := HB2.out; have := lt_of_block hB2.out; omega
          · have := HG.out x (by simpa using hx); have := hs0.out; omega)
        refine ⟨es, fs, U, fl.drop 1, k + 1, decL left, .slice ra n rc, flv', by rw [HK3.out, HL3.out]; rfl, ?_, fun x hx => Or.inl hx, ?_, Nat.le_refl _⟩
        · exact ((k0.out.wider (fun x _ hx => by simp at hx)).trans K1.out).trans' kV.out (fun x hx hm => by have := (hin.out x hm).1; omega)
        · refine PS.next (V := V) (row := .slice ra n rc) (by rw [HN.out]; exact H.out) (by have := hs0.out; have := K1.out.size; omega) kV.out (fun x hx => ⟨fun hm => by have := H.out.ob.bound x hm; have := (hin.out x hx).1; omega, fun e => by have := H.out.flt.1; have := (hin.out x hx).1; omega⟩) OB1.out FU1.out (fun x hx => Or.inl hx) ?_ (fun g hg => Or.inl hg) hth.out hse.out ?_ ?_
          · obtain ⟨b', h1⟩ := HR2.out
            refine ⟨b', h1.kept hkk (fun g hg hm => ?_) (fun e he hne g hg hm => ?_)⟩
            · have h2 := (hin.out g hm).1
              obtain ⟨bb, h3⟩ := H.out.rf
              have h4 := (h3.row.lt _ (by rw [← HN.out]; exact hg)).2
              omega
            · have h2 := (hin.out g hm).1
              have h3 := hth.out e he hne _ hg
              have := H.out.dl; omega
          · exact HF2.out.kept hkk (fun x hx hm => by have := hT.out _ hx; have := (hin.out x hm).1; omega)
          · have h1 := hbd.out
            omega
end Go.Proofs.Ytmholofhmpplcaa
