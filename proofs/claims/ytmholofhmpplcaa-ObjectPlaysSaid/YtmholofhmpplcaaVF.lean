import Derived.Test.YtmholofhmpplcaaVE
import Derived.Test.YtmholofhmpplcaaMQ

/- step: Put. -/
namespace Go.Proofs.Ytmholofhmpplcaa
open Go.RowKit Go.Lib Go.Maps

set_option maxRecDepth 100000 in
set_option maxHeartbeats 4000000 in
theorem step_put1 (D : Nat) (w : World) (p : Nat) (q : Int) (f : Nat) (T : List Nat) (es fs : List Ent) (U : List Nat) (fl : List Bool) (k : Nat) (left : Int) (row flv : Value) (h : PS D w p q f T es fs U fl k left row flv) (h0 : left ≠ 0) (hk : k ≤ 60) (nm : List UInt8) (hnm : nm.length ≤ 100) (ba : Option Addr) (bs : List UInt8) (nb bc : Nat) (hnb : nb = bs.length) (hbl : nb ≤ 200) (hbs : ∀ W, Kept [] w W → Src W (.slice ba nb bc) nb (bs.map B)) (hbd : bs ≠ [] → ∀ g, (Value.slice ba nb bc).ownBlock = some g → g < D) :
   Calls Try.prog 12 #[.pointer (some ⟨p, 0, none⟩), stR row q k left flv, .agg #[.int .i64 1, .string (S nm), .slice ba nb bc]] w (StepR D w p q f T U k) := by
  have H := hid h
  obtain ⟨base, hrf⟩ := h.rf
  obtain ⟨ra, rc, rfl⟩ := owns_slice hrf.row
  obtain ⟨n, hn⟩ : ∃ n, n = fs.length := ⟨_, rfl⟩
  have HN := hid hn
  have hfv : ∃ a n c, flv = .slice a n c := by obtain ⟨_, a, c, e, _⟩ := h.fr; exact ⟨a, _, c, e⟩
  have HFV := hid hfv
  obtain ⟨b0, hb0⟩ : ∃ b0, b0 = w.heap.size := ⟨_, rfl⟩
  obtain ⟨b1, hb1⟩ : ∃ b1, b1 = w.heap.size + 1 := ⟨_, rfl⟩
  obtain ⟨b2, hb2⟩ : ∃ b2, b2 = w.heap.size + 1 + 1 := ⟨_, rfl⟩
  have HB0 := hid hb0; have HB1 := hid hb1; have HB2 := hid hb2
  rw [← hn] at h hrf ⊢
  obtain ⟨W0, hW0⟩ : ∃ W0, W0 = ((w.alloc (.cells #[.slice ra n rc, .int .i64 q, .int .i64 k, .int .i64 left, flv] 35)).alloc (.cells #[.int .i64 1, .string (S nm), .slice ba nb bc] 38)).alloc (.cells #[.slice none 0 0, .int .i64 0, .int .i64 0, .int .i64 0, .slice none 0 0] 35) := ⟨_, rfl⟩
  have HW0 := hid hW0
  have k0 := hid (show Kept [] w W0 from hW0 ▸ (((Kept.refl [] w).alloc _).alloc _).alloc _)
  have hs0 := hid (show W0.heap.size = w.heap.size + 3 from by rw [hW0]; simp)
  have hx0 := hid (show W0.heap[b0]? = some (.cells #[.slice ra n rc, .int .i64 q, .int .i64 k, .int .i64 left, flv] 35 (0, 0)) from by rw [hW0, hb0]; exact heap_alloc_old (heap_alloc_old (heap_alloc_at rfl)))
  have hx1 := hid (show W0.heap[b1]? = some (.cells #[.int .i64 1, .string (S nm), .slice ba nb bc] 38 (0, 0)) from by rw [hW0, hb1]; exact heap_alloc_old (heap_alloc_at (by simp)))
  have hx2 := hid (show W0.heap[b2]? = some (.cells [.slice none 0 0, .int .i64 0, .int .i64 0, .int .i64 0, .slice none 0 0].toArray 35 (0, 0)) from by rw [hW0, hb2]; exact heap_alloc_at (by simp))
  have P0 := hid (h.keep k0.out)
  have hou := hid (show ∀ x, w.heap.size ≤ x → x ∉ U ++ [f] from fun x hx hm => by
    simp at hm
    rcases hm with hm | hm
    · have := h.ob.bound x hm; omega
    · have := h.flt.1; omega)
  have hl := hid h.flt.2.2; have hbdd := hid h.bd; have hse := hid h.se; have hfl := hid h.fle; have hth := hid h.th
  have hT := hid (fun x (hx : x ∈ T) => (show x < w.heap.size from Nat.lt_of_lt_of_le (h.tl x hx) h.dl))
  have hris := hid (h.se.rising h.ob.rising)
  have H0 := hid h0; have HK := hid hk
  have HBS := hid hbs; have HNB := hid hnb; have HBD := hid hbd
  have hse2 := hid h.se
  have hfu := hid h.flt
  have hbo := hid h.ob.bound
  have hpu := hid h.ob.hp
  obtain ⟨i0, hi0, hz0, hz1, hz2⟩ := info_split info_byte
  have hbu := build_0b
  have hnb2 : nb ≤ 200 := hbl
  clear hW0 hb0 hb1 hb2 h hrf hn hfv h0 hk hbs hnb hbd
  unfold stR
  go_enter Try.func12, Try.ntmps12
  go_wp2_with (at_builtin; refine halt ?_)
  refine Halt.mk ?_
  rw [← HW0.out, ← HB2.out, ← HB1.out, ← HB0.out]
  rw [show b2 + 1 = W0.heap.size from by have := HB2.out; have := hs0.out; omega]
  have hsz := hs0.out
  have hka := hid (show Kept [] W0 (W0.alloc (.cells #[] 5)) from (Kept.refl [] W0).alloc _)
  have hown0 := hid (show (W0.alloc (.cells #[] 5)).ownsRow W0.heap.size 5 1 (.slice (some ⟨W0.heap.size, 0, none⟩) 0 0) 0 [] from ⟨rfl, Or.inr ⟨W0.heap.size, 0, #[], rfl, Nat.le_refl _, heap_alloc_at rfl, by simp, by unfold maxLen; omega, by simp, by simp⟩⟩)
  have hsr0 := hid (HBS.out _ (k0.out.trans hka.out))
  have hln0 := hid (show (bs.map B).length = nb by simp [HNB.out])
  have hone0 := hid (show ∀ u ∈ bs.map B, u.oneCell' = true by intro u hu; simp at hu; obtain ⟨b, _, rfl⟩ := hu; rfl)
  refine wpList_append_src _ rfl _ _ _ rfl W0.heap.size 5 i0 _ 1 Try.underlying36 hi0 hz0 hz1 hz2 rfl (.slice (some ⟨W0.heap.size, 0, none⟩) 0 0) 0 [] rfl hown0.out (.slice ba nb bc) nb (bs.map B) rfl hsr0.out hln0.out hone0.out ?_ ?_ ?_ ?_
  · unfold maxLen; omega
  · omega
  · simp
  intro v4 w4 hown4 hgr4 _ hf4
  simp only [Nat.zero_add, List.nil_append] at hown4
  obtain ⟨la, lc, rfl⟩ := owns_slice hown4
  have k4 := hid (show Kept [] W0 w4 from hka.out.trans' (Kept.of_row hgr4) (fun x hx hm => by simp [Value.ownBlock] at hm; omega))
  have P4 := hid (P0.out.keep k4.out)
  have OL1 := hid hown4
  have HG := hid (fun g (hg : (Value.slice la nb lc).ownBlock = some g) => hown4.lt g hg)
  have hx04 := hid (k4.out.at hx0.out (by simp))
  have hx14 := hid (k4.out.at hx1.out (by simp))
  have hx24 := hid (k4.out.at hx2.out (by simp))
  have hup := hid (fun x (hx : x ∈ U) => (show x < W0.heap.size from Nat.lt_of_lt_of_le (hbo.out x hx) k0.out.size))
  obtain ⟨oe, hoe⟩ : ∃ oe, oe = putErr fl nm bs.length q ((sizeE es : Int) - (lookB nm es).length + bs.length) (findE nm es).isSome es.length := ⟨_, rfl⟩
  have hput := hid (by
    have h1 := ob_put w4 U p _ [] q es (.pointer (some ⟨f, 0, none⟩)) fl k left nm (by omega) P4.out.ob (by have := HK.out; omega) P4.out.fu H0.out la lc bs (fun W kW => by
      have h2 := src_own (kW.owns hown4 (fun g hg hm => by
        have h3 := (HG.out g hg).1
        simp [fuB] at hm
        rcases hm with rfl | rfl
        · have := hup.out _ hpu.out; omega
        · have := hfu.out.1; have := k0.out.size; omega))
      rw [HNB.out] at h2
      exact h2) (by have := hbdd.out.1; have := HK.out; have := HNB.out; omega)
    rw [← hoe, ← HNB.out] at h1
    exact h1)
  have HOE := hid (show oe = putErr fl nm nb q ((sizeE fs : Int) - (lookB nm fs).length + nb) (findE nm fs).isSome fs.length from by
    rw [hoe, hse.out.size, (hse.out.find nm).1, (hse.out.find nm).2, hse.out.length, HNB.out])
  have cn1 : w4.cell? ⟨b1, 1, none⟩ = some (.string (S nm)) := by rw [cell_of_row _ _ 1 _ _ _ hx14.out]; rfl
  clear hown4 hgr4 hf4 hka hown0 hsr0 hoe
  go_wp2_with fail
  refine hput.out.mono ?_
  rintro e V ⟨v', U', rfl, k1, hU', ob1, fu1⟩
  have K1 := hid (show Kept (U ++ [f]) w4 V from by simpa [fuB] using k1)
  have OB1 := hid ob1; have FU1 := hid fu1; have HU := hid hU'
  have hou4 := hid (show ∀ x, w.heap.size ≤ x → x < w4.heap.size → x ∉ U' ∧ x ≠ f from fun x h1 h2 => by
    refine ⟨fun hm => ?_, fun e => by have := hfu.out.1; omega⟩
    rcases HU.out x hm with h3 | h3
    · have := hbo.out x h3; omega
    · omega)
  have hB0 := hid (K1.out.at hx04.out (hou.out _ (by have := HB0.out; omega)))
  have hB1 := hid (K1.out.at hx14.out (hou.out _ (by have := HB1.out; omega)))
  have hB2 := hid (K1.out.at hx24.out (hou.out _ (by have := HB2.out; omega)))
  have OLV := hid (K1.out.owns OL1.out (fun g hg => hou.out _ (by have := (HG.out g hg).1; have := hs0.out; omega)))
  have PM := hid (P4.out.mid K1.out)
  have HXB := hid (show XB V la nb from XB.of_owns OLV.out HNB.out)
  clear k1 ob1 fu1 hU' hput cn1
  go_wp2_with fail
  go_loopw [44] (fun s wr => ∃ i : Nat, i ≤ nb ∧ s = .int .i64 i ∧ Hid (Kept (Value.slice la nb lc).ownBlock.toList V wr) ∧ Hid (XB wr la nb)) (fun s _ => nb - (intOf s).toNat)
  case atStart => exact ⟨0, Nat.zero_le _, rfl, hid (Kept.refl _ _), HXB⟩
  case round =>
    obtain ⟨i, hi, rfl, hkr, hxb⟩ := hrel
    by_cases h1 : i < nb
    · as_aux_lemma =>
        obtain ⟨g, z, rfl, hcell, hfree⟩ := hxb.out.get h1
        have HLT := hid h1
        have hI : (0 : Int) ≤ i := by omega
        have hI2 : (i : Int) < nb := by omega
        go_wp2_with fail
        refine ⟨⟨i + 1, by have := HLT.out; omega, by go_num, hid (hkr.out.setCell (p := ⟨g, i, none⟩) (fun _ => by simp [Value.ownBlock]) _), hid (hxb.out.set HLT.out _)⟩, by simp [intOf]; have := HLT.out; omega⟩
    · as_aux_lemma =>
        obtain rfl : i = nb := by omega
        have hgs := hid (show ∀ x, x < W0.heap.size → x ∉ (Value.slice la i lc).ownBlock.toList from fun x hx hm => by have := (HG.out x (by simpa using hm)).1; omega)
        have hB0r := hid (hkr.out.at hB0.out (hgs.out _ (by have := HB0.out; have := hs0.out; omega)))
        have hB1r := hid (hkr.out.at hB1.out (hgs.out _ (by have := HB1.out; have := hs0.out; omega)))
        have hB2r := hid (hkr.out.at hB2.out (hgs.out _ (by have := HB2.out; have := hs0.out; omega)))
        have c1 : wr.cell? ⟨b1, 1, none⟩ = some (.string (S nm)) := by rw [cell_of_row _ _ 1 _ _ _ hB1r.out]; rfl
        have c2 : wr.cell? ⟨b1, 2, none⟩ = some (.slice ba i bc) := by rw [cell_of_row _ _ 2 _ _ _ hB1r.out]; rfl
        have KA := hid (show Kept (U ++ [f]) w V from ((k0.out.trans k4.out).wider (fun x _ hx => by simp at hx)).trans K1.out)
        have hdw := hid (show D ≤ w.heap.size from H.out.dl)
        have hDu := hid (show ∀ x, x < D → x ∉ U ++ [f] from fun x hx hm => by
          simp at hm
          rcases hm with hm | hm
          · have := H.out.ul x hm; omega
          · have := H.out.fb; omega)
        have HBW := hid (show ∀ W, Kept [] wr W → Src W (.slice ba i bc) i (bs.map B) from fun W hW => by
          have h1 := (HBS.out w (Kept.refl _ _)).kept KA.out (fun hne g hg => hDu.out _ (HBD.out (fun h0 => hne (by rw [h0]; rfl)) g hg))
          have h2 := h1.kept hkr.out (fun hne g hg => hgs.out g (by have := HBD.out (fun h0 => hne (by rw [h0]; rfl)) g hg; have := hs0.out; have := hdw.out; omega))
          exact h2.keep hW)
        have hrd := hid (by
          obtain ⟨⟨b, h1⟩, h2⟩ := PM.out
          have h3 : Rf wr b (.slice ra n rc) fs := h1.kept hkr.out (fun g hg => hgs.out g (by
            obtain ⟨bb, h3⟩ := H.out.rf
            have h4 := (h3.row.lt _ (by rw [← HN.out]; exact hg)).2
            have := hs0.out; omega)) (fun e he hne g hg => hgs.out g (by have := hth.out e he hne g hg; have := hs0.out; have := hdw.out; omega))
          have h4 := h2.kept hkr.out (fun x hx => hgs.out x (by have := hT.out x hx; have := hs0.out; omega))
          exact ref_put ra n rc fs q k left flv fl T b wr h3 HN.out hris.out (by have := hse.out.length; have := hbdd.out; have := HK.out; have := HN.out; omega) (by have := hse.out.size; have := hbdd.out.1; have := HK.out; omega) h4 H0.out hl.out (by have := HK.out; omega) (fun x hx => by have := hT.out x hx; have := KA.out.size; have := hkr.out.size; omega) (by have := hfl.out; omega) nm (by omega) ba i bc bs HNB.out HBW.out (by omega) oe HOE.out)
        unfold stR at hrd
        go_wp2_with (refine wpList_load_cells rfl 35 (.tmp 4) rfl ⟨b0, 0, none⟩ rfl [.slice ra n rc, .int .i64 q, .int .i64 k, .int .i64 left, flv] _ Try.underlying35 rfl (by kernel_rfl) (cells_of hB0r.out) ?_; refine halt ?_)
        refine Halt.mk ?_
        go_wp2_with fail
        refine hrd.out.mono ?_
        rintro e V2 ⟨rv', flv', rfl, k2, hr2, hrb, hf2⟩
        have K2 := hid k2; have HR2 := hid hr2; have HRB := hid hrb; have HF2 := hid hf2
        have hC2 := hid (k2.at hB2r.out (by simp))
        obtain ⟨ra', n', rc', rfl⟩ : ∃ a m c, rv' = .slice a m c := by
          obtain ⟨b', h1⟩ := hr2
          obtain ⟨a, c, h2⟩ := owns_slice h1.row
          exact ⟨a, _, c, h2⟩
        have hfv2 : ∃ a n c, flv' = .slice a n c := by obtain ⟨_, a, c, e, _⟩ := hf2; exact ⟨a, _, c, e⟩
        clear k2 hr2 hrb hf2 hrd
        obtain ⟨k3, hk3⟩ : ∃ k3 : Int, k3 = (k : Int) + 1 := ⟨_, rfl⟩
        obtain ⟨l3, hl3⟩ : ∃ l3, l3 = decL left := ⟨_, rfl⟩
        have HK3 := hid hk3; have HL3 := hid hl3
        unfold stR
        rw [← hk3, ← hl3]
        clear hk3 hl3
        obtain ⟨b3, hb3⟩ : ∃ b3, b3 = V2.heap.size := ⟨_, rfl⟩
        have HB3 := hid hb3
        obtain ⟨V3, hV3⟩ : ∃ V3, V3 = V2.alloc (.cells #[.slice none 0 0, .int .i64 0, .int .i64 0, .int .i64 0, .slice none 0 0] 35) := ⟨_, rfl⟩
        have HV3 := hid hV3
        have hy3 := hid (show V3.heap[b3]? = some (.cells [.slice none 0 0, .int .i64 0, .int .i64 0, .int .i64 0, .slice none 0 0].toArray 35 (0, 0)) from by rw [hV3, hb3]; exact heap_alloc_at rfl)
        have kv3 := hid (show Kept [] V2 V3 from hV3 ▸ (Kept.refl _ _).alloc _)
        obtain ⟨V4, hV4⟩ : ∃ V4, V4 = V3.setRow b3 (splice [.slice none 0 0, .int .i64 0, .int .i64 0, .int .i64 0, .slice none 0 0] 0 [.slice ra' n' rc', .int .i64 q, .int .i64 k3, .int .i64 l3, flv']).toArray := ⟨_, rfl⟩
        have HV4 := hid hV4
        have hy4 := hid (show V4.heap[b3]? = some (.cells [.slice ra' n' rc', .int .i64 q, .int .i64 k3, .int .i64 l3, flv'].toArray 35 (0, 0)) from by rw [hV4]; exact setRow_heap _ _ _ _ _ _ hy3.out)
        have kv4 := hid (show Kept [b3] V3 V4 from hV4 ▸ (Kept.refl _ _).setRow (fun _ => by simp) _)
        have hb23 := hid (show b2 ≠ b3 from by have := lt_of_block hC2.out; omega)
        have hz4 := hid (kv4.out.at (kv3.out.at hC2.out (by simp)) (by simpa using hb23.out))
        obtain ⟨V5, hV5⟩ : ∃ V5, V5 = V4.setRow b2 (splice [.slice none 0 0, .int .i64 0, .int .i64 0, .int .i64 0, .slice none 0 0] 0 [.slice ra' n' rc', .int .i64 q, .int .i64 k3, .int .i64 l3, flv']).toArray := ⟨_, rfl⟩
        have HV5 := hid hV5
        have kv5 := hid (show Kept [b2] V4 V5 from hV5 ▸ (Kept.refl _ _).setRow (fun _ => by simp) _)
        have hld := hid (ref_st V5 b2 (.slice ra' n' rc') q k3 l3 flv' (by rw [hV5]; exact setRow_heap _ _ _ _ _ _ hz4.out))
        clear hV3 hV4 hV5 hb3
        go_wp2_with (refine wpList_store_at rfl 35 (.tmp 11) (.tmp 61) rfl V2.heap.size 0 [.slice ra' n' rc', .int .i64 q, .int .i64 k3, .int .i64 l3, flv'] rfl rfl 35 [.slice none 0 0, .int .i64 0, .int .i64 0, .int .i64 0, .slice none 0 0] (heap_alloc_at rfl) (by kernel_rfl) (by simp) (one5 hfv2 _ _ _ _ _ _) ?_; refine halt ?_)
        refine Halt.mk ?_
        rw [← HV3.out, ← HB3.out, ← HV4.out]
        go_wp2_with (refine wpList_load_cells rfl 35 (.tmp 11) rfl ⟨b3, 0, none⟩ rfl [.slice ra' n' rc', .int .i64 q, .int .i64 k3, .int .i64 l3, flv'] _ Try.underlying35 rfl (by kernel_rfl) (cells_of hy4.out) ?_; refine halt ?_)
        refine Halt.mk ?_
        go_wp2_with (refine wpList_store_at rfl 35 (.tmp 6) (.tmp 63) rfl b2 0 [.slice ra' n' rc', .int .i64 q, .int .i64 k3, .int .i64 l3, flv'] rfl rfl 35 [.slice none 0 0, .int .i64 0, .int .i64 0, .int .i64 0, .slice none 0 0] hz4.out (by kernel_rfl) (by simp) (one5 hfv2 _ _ _ _ _ _) ?_; refine halt ?_)
        refine Halt.mk ?_
        rw [← HV5.out]
        go_wp2_with fail
        refine bodyPost_ret (v := .tuple #[stR (.slice ra' n' rc') q k3 l3 flv', .bool true]) (results_cell2 Try.results12 rfl rfl hld.out) rfl ?_
        have hkk : Kept [b2] V2 V5 := by
          have h1 : Kept [] V2 V4 := kv3.out.trans' kv4.out (fun x hx hm => by simp at hm; subst hm; have := HB3.out; omega)
          exact (h1.wider (fun x _ hx => by simp at hx)).trans kv5.out
        have kV : Hid (Kept (b2 :: (Value.slice la i lc).ownBlock.toList) V V5) := (hkr.out.wider (fun x _ hx => List.mem_cons_of_mem _ hx)).trans ((K2.out.wider (fun x _ hx => by simp at hx)).trans (hkk.wider (fun x _ hx => by simp at hx; simp [hx])))
        have hin := hid (show ∀ x, x ∈ (b2 :: (Value.slice la i lc).ownBlock.toList) → w.heap.size ≤ x ∧ x < w4.heap.size from fun x hx => by
          rcases List.mem_cons.1 hx with rfl | hx
          · have := HB2.out; have := lt_of_block hx24.out; omega
          · have := HG.out x (by simpa using hx); have := hs0.out; omega)
        have hwV := hid (show w4.heap.size ≤ V.heap.size from K1.out.size)
        refine ⟨if oe = 0 then putE ⟨nm, v', bs⟩ es else es, ifOKL oe (putE ⟨nm, .slice ba i bc, bs⟩ fs) fs, U', fl.drop 1, k + 1, decL left, .slice ra' n' rc', flv', by rw [HK3.out, HL3.out]; rfl, ?_, fun x hx => ?_, ?_, Nat.le_refl _⟩
        · exact KA.out.trans' kV.out (fun x hx hm => by have := (hin.out x hm).1; omega)
        · rcases HU.out x hx with h | h
          · exact Or.inl h
          · right; have := k4.out.size; have := hs0.out; omega
        · refine PS.next (V := V) (row := .slice ra n rc) (by rw [HN.out]; exact H.out) KA.out.size kV.out (fun x hx => hou4.out x (hin.out x hx).1 (hin.out x hx).2) OB1.out FU1.out (fun x hx => ?_) ?_ (fun g hg => ?_) (fun e he => ?_) ?_ ?_ ?_
          · rcases HU.out x hx with h | h
            · exact Or.inl h
            · right; have := k4.out.size; have := hs0.out; omega
          · obtain ⟨b', h1⟩ := HR2.out
            refine ⟨b', h1.kept hkk (fun g hg hm => ?_) (fun e he hne g hg hm => ?_)⟩
            · simp at hm; subst hm
              rcases HRB.out _ hg with h2 | h2
              · obtain ⟨bb, h3⟩ := H.out.rf
                have h4 := (h3.row.lt _ (by rw [← HN.out]; exact h2)).2
                have := HB2.out; omega
              · have := lt_of_block hB2r.out; omega
            · simp at hm; subst hm
              have h2 : e ∈ fs ∨ e = ⟨nm, .slice ba i bc, bs⟩ := by
                unfold ifOKL at he; split at he
                · rcases mem_put.1 he with h | h
                  · exact Or.inr h
                  · exact Or.inl h.1
                · exact Or.inl he
              have hb := HB2.out; have hd := hdw.out
              rcases h2 with h2 | rfl
              · have := hth.out e h2 hne _ hg; omega
              · have := HBD.out hne _ hg; omega
          · rcases HRB.out g hg with h2 | h2
            · exact Or.inl h2
            · right; have := hkr.out.size; omega
          · unfold ifOKL at he; split at he
            · rcases mem_put.1 he with rfl | h
              · exact HBD.out
              · exact hth.out e h.1
            · exact hth.out e he
          · unfold ifOKL; split
            · exact hse.out.put nm bs v' _
            · exact hse.out
          · exact HF2.out.kept hkk (fun x hx hm => by simp at hm; subst hm; have := hT.out _ hx; have := HB2.out; omega)
          · have h1 := hbdd.out
            have h2 := size_put_le ⟨nm, v', bs⟩ es
            have h3 := len_put_le ⟨nm, v', bs⟩ es
            have h4 := HNB.out
            simp only at h2
            split <;> omega
end Go.Proofs.Ytmholofhmpplcaa
