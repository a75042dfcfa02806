import Derived.Test.YtmkdjonlfkfnlaaDoorMV
import Derived.Test.YtmkdjonlfkfnlaaDoorN3
import Derived.Deep.CutBlock
import Derived.Lib.SliceRun
import Derived.Deep.DeepCutAuto

/- CachePlays: the walk. -/
namespace Go.Proofs.YtmkdjonlfkfnlaaDoor
open Go.RowKit Go.Lib Go.Maps

theorem all_zero (p : Nat) (w : World) : Calls Tryd.prog 18 #[.pointer (some ⟨p, 0, none⟩), .int .i64 0] w fun e w' => ∃ a2 c2, e = .returned (.slice a2 0 c2) ∧ Kept [] w w' := by
  go_enter Tryd.func18, Tryd.ntmps18
  go_wp2_with fail
  obtain ⟨W, hW⟩ : ∃ W, W = ((((w.alloc (.cells #[.int .i64 0] 3)).alloc (.cells #[.slice (some ⟨w.heap.size + 1 + 1, 0, none⟩) 0 0] 46)).alloc (.cells #[] 34)).alloc (.cells #[.slice (some ⟨w.heap.size + 1 + 1, 0, none⟩) 0 0] 46)) := ⟨_, rfl⟩
  have hb : W.heap[w.heap.size + 1]? = some (.cells #[.slice (some ⟨w.heap.size + 1 + 1, 0, none⟩) 0 0] 46 (0, 0)) := by rw [hW]; exact heap_alloc_old (heap_alloc_old (heap_alloc_at (by simp)))
  have hc : W.cell? ⟨w.heap.size + 1, 0, none⟩ = some (.slice (some ⟨w.heap.size + 1 + 1, 0, none⟩) 0 0) := by rw [cell_of_row _ _ 0 _ _ _ hb]; rfl
  have hk : Kept [] w W := by rw [hW]; exact ((((Kept.refl [] w).alloc _).alloc _).alloc _).alloc _
  rw [← hW]
  refine bodyPost_ret (v := .slice (some ⟨w.heap.size + 1 + 1, 0, none⟩) 0 0) (results_cell Tryd.results18 rfl (by have h := hc; go_simp)) rfl ?_
  exact ⟨_, _, rfl, hk⟩
theorem and3 (n : Int) : bits .and .i64 n 3 = n % 4 := by
  have h7 : (BitVec.ofInt 64 3).toNat = 2 ^ 2 - 1 := by decide
  have key : (BitVec.ofInt 64 n &&& BitVec.ofInt 64 3).toNat = (n % ((2 ^ 64 : Nat) : Int)).toNat % 2 ^ 2 := by
    rw [BitVec.toNat_and, BitVec.toNat_ofInt, h7, Nat.and_two_pow_sub_one_eq_mod]
  show IntKind.i64.wrap ((BitVec.ofInt 64 n &&& BitVec.ofInt 64 3).toNat : Nat) = n % 4
  rw [key, IntKind.wrap_i64]
  omega
set_option maxRecDepth 100000 in
set_option maxHeartbeats 16000000 in
theorem plays_do (lim : Int) (hl2 : lim ≤ 9223372036854775807) (a1 : Option Addr) (c1 : Nat) (ops : List OpK) (most : Int) (w : World) (ht : Tabs w) (hst : IsStepsK w a1 ops) (hm : ops.length ≤ 9223372036854775807) :
    Calls Tryd.prog 3 #[.int .i64 lim, .slice a1 ops.length c1, .int .i64 most] w fun e w' => e = .returned (.bool true) ∧ Kept [] w w' := by
  have hal := hid (alive14 w ht)
  have hstk : ∀ W, Kept [] w W → IsStepsK W a1 ops := fun W hk => ⟨hst.1, fun x hx i o ho => by
    obtain ⟨q0, q1, q2, q3, q4⟩ := hst.2 x hx i o ho
    exact ⟨(hk.cell (World.block_lt_of_cell? w _ q0) (by simp)).trans q0, (hk.cell (World.block_lt_of_cell? w _ q1) (by simp)).trans q1, (hk.cell (World.block_lt_of_cell? w _ q2) (by simp)).trans q2, q3.kept hk (by simp), q4⟩⟩
  have hfw := hid (fun W (hk : Kept [] w W) => few14 a1 c1 ops W (hstk W hk) hm)
  have HST := hid hst; have HT := hid ht
  obtain ⟨lm, hlm⟩ : ∃ lm : Int, lm = max lim 0 := ⟨_, rfl⟩
  have HLM := hid hlm
  obtain ⟨n, hn⟩ : ∃ n, n = ops.length := ⟨_, rfl⟩
  have HN := hid hn
  rw [← hn] at hfw ⊢
  clear ht hst hstk hm hlm
  by_cases hfew : FewK ops
  · rw [decide_eq_true hfew] at hfw
    have HF := hid hfew
    have n30 : n ≤ 30 := by rw [hn]; exact hfew.2
    obtain ⟨zv, hzv⟩ : ∃ zv, zv = (idz.map B).toArray := ⟨_, rfl⟩
    have hzz : ∀ W, (zeroValue 34).run Tryd.prog W = .ok (.agg zv) W := by rw [hzv]; exact zero_idN
    have hzs := hid (show zv.size = 32 from by rw [hzv]; simp [idz])
    clear hfew hn hzv
    go_enter Tryd.func3, Tryd.ntmps3
    go_wp2_with fail
    refine hal.out.mono ?_
    rintro e w1 ⟨rfl, k1⟩
    have hfw1 := hid (hfw.out w1 k1)
    have K1 := hid k1
    clear k1 hal hfw
    go_wp2_with fail
    refine hfw1.out.mono ?_
    rintro e w2 ⟨rfl, k2⟩
    have hnew := hid (cs_new w w2 (K1.out.trans k2) HT.out lim hl2)
    rw [← HLM.out] at hnew
    clear k2 hfw1
    go_wp2_with fail
    refine hnew.out.mono ?_
    rintro e w3 ⟨rfl, k3, cc3⟩
    obtain ⟨p, hp⟩ : ∃ p, p = w2.heap.size := ⟨_, rfl⟩
    rw [← hp] at cc3 ⊢
    have hmx : max lim 0 = lm := HLM.out.symm
    obtain ⟨xb, hxb⟩ : ∃ xb, xb = w3.heap.size := ⟨_, rfl⟩
    obtain ⟨w4, hw4⟩ : ∃ w4, w4 = w3.alloc (.cells #[.slice none 0 0, .int .i64 lm] 29) := ⟨_, rfl⟩
    have hI0 := hid (show PI w w4 p lm xb 0 from by
      have k34 : Kept [] w3 w4 := by rw [hw4]; exact (Kept.refl [] w3).alloc _
      refine ⟨[p], .slice none 0 0, [], ⟨cc3.keep0 k34, ⟨0, ⟨⟨by simp [kC], Or.inl ⟨rfl, rfl⟩⟩, fun e he => by simp at he, Nat.zero_le _⟩⟩, fun g hg => by simp [Value.ownBlock] at hg, fun e he => by simp at he, by rw [hw4, hxb]; exact heap_alloc_at rfl, fun hm => ?_, by have := cc3.kept.size; omega⟩, by simp [datE, szD], by simp, fun e he => by simp at he⟩
      have := (cc3.bound _ hm).2
      omega)
    have HXB := hid hxb; have HW4 := hid hw4
    clear k3 cc3 hp hnew hxb hw4
    go_upto_region 6 with fail
    go_cut [8] (fun s wx => s = .pointer (some ⟨xb, 0, none⟩) ∧ w4 = wx)
    case first =>
      rcases Int.lt_or_le lim 0 with hs | hs
      · have e0 : lm = 0 := by have := HLM.out; omega
        have hmx2 : ¬ (0 ≤ lim) := by omega
        go_wp2_with fail
        go_meet
        exact ⟨by rw [HXB.out], by rw [HW4.out, e0]⟩
      · have e0 : lm = lim := by have := HLM.out; omega
        go_wp2_with fail
        go_meet
        exact ⟨by rw [HXB.out], by rw [HW4.out, e0]⟩
    case rest =>
     obtain ⟨rfl, rfl⟩ := hcut
     clear hmx
     go_wp2_with fail
     go_loopw [38] (fun s wr => ∃ i : Nat, i ≤ n ∧ s = .int .i64 i ∧ Hid (PI w wr p lm xb i)) (fun s _ => n - (intOf s).toNat)
     case atStart => exact ⟨0, Nat.zero_le _, rfl, hI0⟩
     case round =>
       clear hI0
       obtain ⟨i, hi, rfl, hpi⟩ := hrel
       obtain ⟨U, rv, es, hpc, hsz, hll, hb100⟩ := hpi.out.ex
       have PCR := hid hpc; have HSZ := hid hsz; have HLL := hid hll; have HB100 := hid hb100
       clear hpc hsz hll hb100 hpi
       by_cases hlt : i < n
       · obtain ⟨o, ho⟩ : ∃ o, ops[i]? = some o := ⟨ops[i]'(by rw [← HN.out]; exact hlt), by simp⟩
         obtain ⟨x, rfl⟩ : ∃ x, a1 = some x := by
           cases a1 with
           | none => have h1 := HST.out.1 rfl; rw [h1] at ho; simp at ho
           | some x => exact ⟨x, rfl⟩
         obtain ⟨q0, q1, q2, hsrc, hbc1, hbc2, hb1, hb2⟩ := HST.out.2 x rfl i o ho
         have ho100 := HF.out.1 o (List.mem_of_getElem? ho)
         have hkx := PCR.out.cs.kept
         have g0 := (hkx.cell (World.block_lt_of_cell? w _ q0) (by simp)).trans q0
         have g1 := (hkx.cell (World.block_lt_of_cell? w _ q1) (by simp)).trans q1
         have g2 := (hkx.cell (World.block_lt_of_cell? w _ q2) (by simp)).trans q2
         obtain ⟨hrd, hrn⟩ := reads_srcb hsrc
         have hsv := hid (fun W (hk : Kept [] w W) => hsrc.kept hk (by simp))
         have hrlt := hid (fun (hh : o.bs ≠ []) y (hy : o.ba = some y) => hrd.lt hh y hy)
         have hrds := hid (fun W (hk : Kept [] w W) => hrd.kept hk (fun _ _ _ => by simp))
         obtain ⟨K, B1, oa, oc, bs⟩ := o
         dsimp only at *
         obtain ⟨k, hk⟩ : ∃ k, k = bs.length := ⟨_, rfl⟩
         have HK := hid hk; have HRN := hid hrn; have HBC := hid (And.intro hbc1 hbc2); have HB := hid (And.intro hb1 hb2); have HLT := hid hlt; have H100 := hid ho100
         rw [← hk] at g2
         clear q0 q1 q2 ho hsrc hbc1 hbc2 hb1 hb2 ho100 hkx hrd hrn hk
         obtain ⟨W, hW⟩ : ∃ W, W = wr.alloc (.cells #[.int .i64 K, .int .i64 B1, .slice oa k oc] 32) := ⟨_, rfl⟩
         have HW := hid hW
         have hkW := hid (show Kept [] wr W from hW ▸ (Kept.refl [] wr).alloc _)
         obtain ⟨ob, hob⟩ : ∃ ob, ob = wr.heap.size := ⟨_, rfl⟩
         have HOB := hid hob
         have hop := hid (show W.heap[ob]? = some (.cells #[.int .i64 K, .int .i64 B1, .slice oa k oc] 32 (0, 0)) from by rw [hW, hob]; exact heap_alloc_at rfl)
         obtain ⟨id, hids⟩ : ∃ id, id = Sha.sum bs := ⟨_, rfl⟩
         have L32 := hid (show id.length = 32 from by rw [hids]; exact Sha.sum_len _)
         obtain ⟨ib, hib⟩ : ∃ i, i = (id.map B).toArray := ⟨_, rfl⟩
         have CW := hid (PCR.out.keep hkW.out)
         have hof := hid (refof_sum oa oc bs W (hrds.out W CW.out.cs.kept) HRN.out (by have := H100.out; omega))
         rw [← hids, ← hib, ← HK.out] at hof
         have HID := hid hids; have HIB := hid hib
         clear hW hob hids hib
         go_wp2_with fail
         rw [← HOB.out, ← HW.out]
         refine hof.out.mono ?_
         rintro e W2 ⟨rfl, k2⟩
         obtain ⟨q, hq⟩ : ∃ q, q = W2.heap.size := ⟨_, rfl⟩
         obtain ⟨z3, hz3⟩ : ∃ z3, z3 = W2.alloc (.cells zv 34) := ⟨_, rfl⟩
         have r0 : z3.heap[q]? = some (.cells zv 34 (0, 0)) := by rw [hz3, hq]; exact heap_alloc_at rfl
         obtain ⟨W3, hW3⟩ : ∃ W3, W3 = z3.setRow q ib := ⟨_, rfl⟩
         have t0 : W3.heap[q]? = some (.cells ib 34 (0, 0)) := by rw [hW3]; exact setRow_heap _ _ _ _ _ _ r0
         have k23 : Kept [] W2 W3 := by
           rw [hW3, hz3, hq]
           exact ((Kept.refl [] W2).alloc _).setRow (fun h => absurd h (by omega)) _
         have C3 := hid ((CW.out.keep k2).keep k23)
         have hs2 := k2.size
         have hop3 := hid (k23.at (k2.at hop.out (by simp)) (by simp))
         have ib32 : ib.size = 32 := by rw [HIB.out]; simp [L32.out]
         have SI := hid (show (Tryd.prog.info? 34).map (·.size) = some ib.size ∧ zv.size = ib.size ∧ ib.all (·.oneCell') = true from ⟨by rw [ib32]; kernel_rfl, by rw [ib32, hzs.out], by rw [HIB.out]; exact id_one id⟩)
         have R0 := hid r0; have T0 := hid t0; have HQ := hid hq; have HZ3 := hid hz3; have HW3 := hid hW3
         have HQX := hid (show q ≠ xb ∧ ob ≠ xb from ⟨by have h1 := PCR.out.lt; have h2 := hkW.out.size; omega, by have h1 := PCR.out.lt; have := HOB.out; omega⟩)
         have hqo := hid (show ob < q ∧ q < W3.heap.size from ⟨by have h1 := lt_of_block (k2.at hop.out (by simp)); omega, lt_of_block t0⟩)
         clear k2 hq hz3 hW3 r0 t0 k23 hs2 ib32 hof CW hop PCR
         go_wp2_with (refine wpList_store_row rfl 34 (.tmp 11) (.tmp 44) rfl W2.heap.size ib rfl rfl _ _ (by rw [← HZ3.out, ← HQ.out]; exact R0.out) SI.out.1 SI.out.2.1 SI.out.2.2 ?_; refine halt ?_)
         refine Halt.mk ?_
         rw [← HZ3.out, ← HQ.out, ← HW3.out]
         clear R0 HZ3 HW3 HQ
         have b0 : W3.cell? ⟨ob, 0, none⟩ = some (.int .i64 K) := by rw [cell_of_row _ _ 0 _ _ _ hop3.out]; rfl
         have hne : ∃ U rv es, PC w W3 p lm xb U (datE es) rv es ∧ szD (datE es) ≤ 100 * i ∧ es.length ≤ i ∧ (∀ e ∈ es, e.b.length ≤ 100) := ⟨U, rv, es, C3.out, HSZ.out, HLL.out, HB100.out⟩
         clear hne
         go_upto_block 2 with fail
         go_cut [12] (fun s wx => s = .bool true ∧ Hid (PI w wx p lm xb (i + 1)))
         case first =>
           by_cases h0 : K = 0
           · subst h0
             obtain ⟨j0, hj0, hz0, hz1, hz2⟩ := info_parts info_u8
             have b2 : W3.cell? ⟨ob, 2, none⟩ = some (.slice oa k oc) := by rw [cell_of_row _ _ 2 _ _ _ hop3.out]; rfl
             obtain ⟨W4, hW4⟩ : ∃ V, V = W3.alloc (.cells #[] 5) := ⟨_, rfl⟩
             have k34 : Kept [] W3 W4 := by rw [hW4]; exact (Kept.refl [] W3).alloc _
             have b24 : (W3.alloc (.cells #[] 5)).cell? ⟨ob, 2, none⟩ = some (.slice oa k oc) := by rw [← hW4]; exact (k34.cell (World.block_lt_of_cell? W3 _ b2) (by simp)).trans b2
             have ha4 := hid (show W4.ownsRow W3.heap.size 5 1 (.slice (some ⟨W3.heap.size, 0, none⟩) 0 0) 0 [] from by rw [hW4]; exact World.ownsRow_made W3 (base := W3.heap.size) (e := 5) (size := 1) #[] 0 (Nat.le_refl _) (by decide) (by simp))
             have hsz4 := hid (show W3.heap.size < W4.heap.size from by rw [hW4]; simp)
             have hs4 := hid (hsv.out W4 (C3.out.keep k34).cs.kept)
             have HW4' := hid hW4
             have hk100 : k ≤ 100 := by rw [HK.out]; exact H100.out
             clear hW4 k34 b2
             go_upto_region 15 with fail
             go_wp2_with (at_builtin; refine halt ?_)
             refine Halt.mk ?_
             rw [← HW4'.out]
             refine wpList_append_src _ rfl _ _ _ rfl W3.heap.size 5 j0 _ 1 Tryd.underlying30 hj0 hz0 hz1 hz2 rfl (.slice (some ⟨W3.heap.size, 0, none⟩) 0 0) 0 [] rfl ha4.out (.slice oa k oc) k (bs.map B) rfl (by have h5 := hs4.out; unfold SrcB at h5; rw [← HK.out] at h5; exact h5) (by simp; exact HK.out.symm) (B_oneCell bs) (by unfold maxLen; omega) (by omega) (by have := hsz4.out; omega) ?_
             intro v5 W5 o5 g5 _ f5
             simp only [Nat.zero_add, List.nil_append] at o5
             obtain ⟨a5, c5, rfl⟩ := owns_slice o5
             have k35 := hid (show Kept [] W3 W5 from by
               have k45 : Kept [W3.heap.size] W4 W5 := Kept.of_row g5
               have k34 : Kept [] W3 W4 := by rw [HW4'.out]; exact (Kept.refl [] W3).alloc _
               exact k34.trans' k45 (fun y hy hm => by simp at hm; omega))
             have O5 := hid o5
             have C5 := hid (C3.out.keep k35.out)
             have T5 := hid (k35.out.at T0.out (by simp))
             have hop5 := hid (k35.out.at hop3.out (by simp))
             clear o5 g5 f5 ha4 hs4 b24 HW4' hsz4 b0
             obtain ⟨bb, hrk⟩ := C5.out.rk
             obtain ⟨ra, rc, rfl⟩ := hrk.slice
             have hlm0 : 0 ≤ lm := by rw [HLM.out]; omega
             have hlm1 : lm ≤ 9223372036854775807 := by rw [HLM.out]; omega
             have hsp := hid (rk_put (lim := lm) hrk C5.out.nd (by have := HLL.out; omega) (by have := HSZ.out; omega) hlm0 hlm1 oa oc bs (hsv.out W5 C5.out.cs.kept) (by have := H100.out; omega))
             rw [← HID.out, ← HIB.out, ← HK.out] at hsp
             unfold rK at hsp
             have hldx := hid (rk_ld W5 xb (.slice ra es.length rc) lm C5.out.bx)
             unfold rK at hldx
             have b25 : W5.cell? ⟨ob, 2, none⟩ = some (.slice oa k oc) := by rw [cell_of_row _ _ 2 _ _ _ hop5.out]; rfl
             obtain ⟨m3, hm3⟩ : ∃ m, m = es.length := ⟨_, rfl⟩
             have HM3 := hid hm3
             rw [← hm3] at hldx hsp
             clear hrk hm3
             go_upto_region 16 with fail
             go_wp2_with (refine wpList_ldv rfl 29 (.tmp 8) rfl ⟨xb, 0, none⟩ rfl (.agg #[.slice ra m3 rc, .int .i64 lm]) hldx.out ?_; refine halt ?_)
             refine Halt.mk ?_
             go_wp2_with fail
             refine hsp.out.mono ?_
             rintro e W6 ⟨rv6, es6, rfl, nx6, dat6, mem6⟩
             obtain ⟨ra6, m6, rc6, rfl⟩ : ∃ a m c, rv6 = .slice a m c := by obtain ⟨b, hr⟩ := nx6.rk; obtain ⟨a, c, e⟩ := hr.slice; exact ⟨a, _, c, e⟩
             have NX6 := hid nx6; have DAT6 := hid dat6; have MEM6 := hid mem6
             clear nx6 dat6 mem6 hsp hldx b25
             rw [← HM3.out] at C5
             have TH6 := hid (show ∀ f ∈ es6, (f ∈ es ∧ f.b.length ≤ 100) ∨ (f.v = .slice oa k oc ∧ f.b.length = k ∧ (f.b ≠ [] → ∀ g, f.v.ownBlock = some g → g < w.heap.size)) from fun f hf => by
               rcases MEM6.out f hf with h | h
               · exact Or.inl ⟨h, HB100.out f h⟩
               · obtain ⟨b, hr⟩ := NX6.out.rk
                 obtain ⟨_, a, c, e1, _⟩ := hr.th f hf
                 rw [h] at e1
                 simp at e1
                 refine Or.inr ⟨h, e1.2.1.symm, fun hne g hg => ?_⟩
                 rw [h] at hg
                 have hb0 : bs ≠ [] := fun h0 => hne (List.eq_nil_of_length_eq_zero (by rw [← e1.2.1, HK.out, h0]; rfl))
                 cases oa with
                 | none => simp [Value.ownBlock] at hg
                 | some yy =>
                   have h5 := hrlt.out hb0 yy rfl
                   simp [Value.ownBlock] at hg
                   omega)
             obtain ⟨y, hy⟩ : ∃ y, y = W6.heap.size := ⟨_, rfl⟩
             obtain ⟨z7, hz7⟩ : ∃ V, V = (W6.alloc (.cells #[.slice ra6 m6 rc6, .int .i64 lm] 29)).alloc (.cells zv 34) := ⟨_, rfl⟩
             have r7 : z7.heap[y + 1]? = some (.cells zv 34 (0, 0)) := by rw [hz7, hy]; exact heap_alloc_at (by simp)
             obtain ⟨W7, hW7⟩ : ∃ V, V = z7.setRow (y + 1) ib := ⟨_, rfl⟩
             have k67 : Kept [] W6 W7 := by
               rw [hW7, hz7, hy]
               exact (((Kept.refl [] W6).alloc _).alloc _).setRow (fun h => absurd h (by omega)) _
             have y7 : W7.heap[y]? = some (.cells #[.slice ra6 m6 rc6, .int .i64 lm] 29 (0, 0)) := by
               rw [hW7]
               have h1 : z7.heap[y]? = some (.cells #[.slice ra6 m6 rc6, .int .i64 lm] 29 (0, 0)) := by rw [hz7, hy]; exact heap_alloc_old (heap_alloc_at rfl)
               exact ((Kept.refl [y + 1] z7).setRow (fun _ => by simp) ib).at h1 (by simp)
             have q7 : W7.heap[y + 1]? = some (.cells ib 34 (0, 0)) := by rw [hW7]; exact setRow_heap _ _ _ _ _ _ r7
             have nx7 : Nx W5 W7 (.slice ra m3 rc) (.slice ra6 m6 rc6) es6 := ⟨NX6.out.kept.trans k67, by obtain ⟨b, hr⟩ := NX6.out.rk; exact ⟨b, hr.keep k67⟩, NX6.out.own⟩
             have hldy := hid (rk_ld W7 y (.slice ra6 m6 rc6) lm y7)
             unfold rK at hldy
             have hbx7 := hid (nx7.kept.at C5.out.bx (by simp))
             obtain ⟨W8, hW8⟩ : ∃ V, V = W7.setRow xb (splice [.slice ra m3 rc, .int .i64 lm] 0 [.slice ra6 m6 rc6, .int .i64 lm]).toArray := ⟨_, rfl⟩
             have k78 : Kept [xb] W7 W8 := by rw [hW8]; exact (Kept.refl [xb] W7).setRow (fun _ => by simp) _
             have P8 := hid (C5.out.turn nx7 (fun e he => by
               rcases TH6.out e he with h | h
               · exact Or.inl h.1
               · exact Or.inr (fun g hg => Or.inl (fun hne => h.2.2 hne g hg))) k78 (by rw [hW8]; exact setRow_heap _ _ _ _ _ _ hbx7.out))
             have hys := hid (show W5.heap.size ≤ y from by rw [hy]; exact NX6.out.kept.size)
             have hyf := hid (show y + 1 ∉ U ∧ y + 1 ≠ xb from by
               have h1 := C5.out.fresh (g := y + 1) (by have := hys.out; omega)
               exact ⟨h1.1, h1.2.1⟩)
             have Q8 := hid (k78.at q7 (by simpa using hyf.out.2))
             have OFR := hid (fun b (hb : (Value.slice a5 k c5).ownBlock = some b) => (show b ∉ U ∧ b ≠ xb ∧ w.heap.size ≤ b ∧ (Value.slice ra m3 rc).ownBlock ≠ some b ∧ (∀ e ∈ es, e.b ≠ [] → e.v.ownBlock ≠ some b) ∧ b < W5.heap.size ∧ W3.heap.size ≤ b from by
               have h1 := O5.out.lt b hb
               have h2 := C3.out.fresh h1.1
               rw [← HM3.out] at h2
               exact ⟨h2.1, h2.2.1, h2.2.2.1, h2.2.2.2.1, h2.2.2.2.2, h1.2, h1.1⟩))
             have O8 := hid (show W8.ownsRow W3.heap.size 5 1 (.slice a5 k c5) k (bs.map B) from k78.owns (nx7.kept.owns O5.out (by simp)) (fun b hb hm => by simp at hm; exact (OFR.out b hb).2.1 hm))
             have hS8 := hid (show W5.heap.size ≤ W8.heap.size from Nat.le_trans nx7.kept.size k78.size)
             obtain ⟨r1, r2, r3, r4, r5⟩ := reads_row O8.out
             have hcs := hid (show Calls Tryd.prog 10 #[.pointer (some ⟨p, 0, none⟩), .slice a5 k c5] W8.drew fun e v => e = .returned (.agg ib) ∧ Kept U W8.drew v ∧ ∃ U', More W8.drew v U U' ∧ CS w v U' p lm (datE es6) from by
               have h1 := cs_put (P8.out.cs.keep0 (Kept.refl _ _).drew) (by have := HSZ.out; omega) (by rw [show (datE es).length = es.length from by unfold datE; simp]; have := HLL.out; omega) a5 c5 bs (r1.kept ((Kept.refl [] W8).drew) (fun _ _ _ => by simp)) (fun _ x0 hx0 => (OFR.out x0.block (by rw [hx0]; rfl)).1) r5 (by omega) r4 (by omega)
               rw [← HID.out, ← HIB.out, ← HK.out, ← DAT6.out] at h1
               exact h1)
             have ldq8 := hid (fun v (hv : Kept U W8 v) => (show (loadVar 34 ⟨y + 1, 0, none⟩).run Tryd.prog v = .ok (.agg ib) v from by
               have h1 := hv.at Q8.out hyf.out.1
               rw [HIB.out] at h1 ⊢
               exact ld_idB v (y + 1) id L32.out h1))
             have heq := hid (show ∀ v : World, (Op.equalIn 10000 34 (.agg ib) (.agg ib)).run Tryd.prog v = .ok true v from fun v => by rw [HIB.out, id_equal _ _ L32.out L32.out v]; simp)
             have HZ7 := hid hz7; have HW7 := hid hW7; have HW8 := hid hW8; have HY := hid hy; have R7 := hid r7
             clear hz7 hW7 hW8 hy r7 k67 y7 q7 nx7 k78 r1 r2 r3 r4 r5
             go_wp2_with (refine wpList_store_row rfl 34 (.tmp 15) (.tmp 60) rfl (W6.heap.size + 1) ib rfl rfl _ _ (by rw [← HZ7.out, ← HY.out]; exact R7.out) SI.out.1 SI.out.2.1 SI.out.2.2 ?_; refine halt ?_)
             refine Halt.mk ?_
             rw [← HZ7.out, ← HY.out, ← HW7.out]
             go_wp2_with (refine wpList_ldv rfl 29 (.tmp 14) rfl ⟨y, 0, none⟩ rfl (.agg #[.slice ra6 m6 rc6, .int .i64 lm]) hldy.out ?_; refine halt ?_)
             refine Halt.mk ?_
             go_wp2_with (refine wpList_store_at rfl 29 (.tmp 8) (.tmp 61) rfl xb 0 [.slice ra6 m6 rc6, .int .i64 lm] rfl rfl 29 [.slice ra m3 rc, .int .i64 lm] hbx7.out (by kernel_rfl) (by simp) (k_two _ _ _ _) ?_; refine halt ?_)
             refine Halt.mk ?_
             rw [← HW8.out]
             clear HZ7 HW7 HW8 R7 hldy hbx7
             go_upto_region 18 with fail
             have hH0 : Kept U W8 W8.drew := (Kept.refl _ W8).drew
             refine wp_region_held_drew (S := fun v => Kept U W8 v) (by kernel_rfl) hH0 (fun hH => ?_)
             refine takeH 0 (.pointer (some ⟨p, 0, none⟩)) rfl (by kernel_rfl) (by kernel_rfl) (by kernel_rfl) (fun _ _ _ h => h) (by rfl) (fun v hv => by go_simp) hH ?_
             simp only [Act.put, List.setIfInBounds_toArray, List.set_cons_succ, List.set_cons_zero]
             refine takeH 1 (.slice a5 k c5) rfl (by kernel_rfl) (by kernel_rfl) (by kernel_rfl) (fun _ _ _ h => h) (by rfl) (fun v hv => by go_simp) hH ?_
             simp only [Act.put, List.setIfInBounds_toArray, List.set_cons_succ, List.set_cons_zero]
             refine takeH 3 (.agg ib) rfl (by kernel_rfl) (by kernel_rfl) (by kernel_rfl) (fun _ _ _ h => h) (by rfl) (fun v hv => by have h := ldq8.out v hv; unfold execOp; simp [Instr.loadAt, Instr.sureAddr, Sem.run_bind, Sem.run_pure, Result.andThen_ok, Act.eval, h]) hH ?_
             simp only [Act.put, List.setIfInBounds_toArray, List.set_cons_succ, List.set_cons_zero]
             refine callR 2 rfl (by kernel_rfl) (by rfl) 10 #[.pointer (some ⟨p, 0, none⟩), .slice a5 k c5] (by go_simp) (.agg ib) (fun v => Kept U W8.drew v ∧ ∃ U', More W8.drew v U U' ∧ CS w v U' p lm (datE es6)) (fun v h => hH0.trans h.1) (hcs.out) ?_
             rintro v9 ⟨k9, U9, m9, c9⟩
             simp only [Act.put, List.setIfInBounds_toArray, List.set_cons_succ, List.set_cons_zero]
             refine takeH 4 (.bool true) rfl (by kernel_rfl) (by kernel_rfl) (by kernel_rfl) (fun _ _ _ h => h) (by rfl) (fun v hv => by have h := heq.out v; go_simp) (hH0.trans k9) ?_
             simp only [Act.put, List.setIfInBounds_toArray, List.set_cons_succ, List.set_cons_zero]
             refine takeH 5 (.bool true) rfl (by kernel_rfl) (by kernel_rfl) (by kernel_rfl) (fun _ _ _ h => h) (by rfl) (fun v hv => by go_simp) (hH0.trans k9) ?_
             simp only [Act.put, List.setIfInBounds_toArray, List.set_cons_succ, List.set_cons_zero]
             refine wpAnyH_done (by kernel_rfl) ?_ _
             have P9 := hid (P8.out.cache (hH0.trans k9) m9 c9)
             have O9 := hid (show v9.ownsRow W3.heap.size 5 1 (.slice a5 k c5) k (bs.map B) from (hH0.trans k9).owns O8.out (fun b hb hm => (OFR.out b hb).1 hm))
             obtain ⟨w10, hclr, k10⟩ := k_clear v9 O9.out
             have P10 := P9.out.kept k10 (fun b hb => by
               have hb' : (Value.slice a5 k c5).ownBlock = some b := by simpa using hb
               have h1 := OFR.out b hb'
               refine ⟨fun hm => ?_, h1.2.1, h1.2.2.1, fun hr => ?_⟩
               · rcases m9.1 b hm with h2 | h2
                 · exact h1.1 h2
                 · have h3 : W8.heap.size ≤ b := h2.1
                   have := hS8.out; omega
               · rcases NX6.out.own b hr with h2 | h2
                 · exact h1.2.2.2.1 h2
                 · omega) (fun b hb e he hne hm => by
               have hb' : (Value.slice a5 k c5).ownBlock = some b := by simpa using hb
               have h1 := OFR.out b hb'
               rcases TH6.out e he with h2 | h2
               · exact h1.2.2.2.2.1 e h2.1 hne hm
               · have h3 := h2.2.2 hne b hm
                 have := h1.2.2.1; omega)
             have hfin := hid (show PI w w10 p lm xb (i + 1) from by
               have h1 := k_putD_grow lm (datE es) bs
               have h2 := putD_len lm (datE es) bs
               have h3 := len_of_dat DAT6.out
               have h4 : (datE es).length = es.length := by unfold datE; simp
               refine ⟨U9, _, es6, P10, by rw [DAT6.out]; have := HSZ.out; have := H100.out; omega, by have := HLL.out; omega, fun e he => ?_⟩
               rcases TH6.out e he with h5 | h5
               · exact h5.2
               · rw [h5.2.1]; exact hk100)
             clear P10 k10 k9 m9 c9 hH0 hH hcs ldq8 heq
             go_wp2_with fail
             go_meet
             exact ⟨rfl, hfin⟩
           by_cases h1 : K = 1
           · subst h1
             obtain ⟨j0, hj0, hz0, hz1, hz2⟩ := info_parts info_u8
             have b2 : W3.cell? ⟨ob, 2, none⟩ = some (.slice oa k oc) := by rw [cell_of_row _ _ 2 _ _ _ hop3.out]; rfl
             obtain ⟨W4, hW4⟩ : ∃ V, V = W3.alloc (.cells #[] 5) := ⟨_, rfl⟩
             have k34 : Kept [] W3 W4 := by rw [hW4]; exact (Kept.refl [] W3).alloc _
             have b24 : (W3.alloc (.cells #[] 5)).cell? ⟨ob, 2, none⟩ = some (.slice oa k oc) := by rw [← hW4]; exact (k34.cell (World.block_lt_of_cell? W3 _ b2) (by simp)).trans b2
             have ha4 := hid (show W4.ownsRow W3.heap.size 5 1 (.slice (some ⟨W3.heap.size, 0, none⟩) 0 0) 0 [] from by rw [hW4]; exact World.ownsRow_made W3 (base := W3.heap.size) (e := 5) (size := 1) #[] 0 (Nat.le_refl _) (by decide) (by simp))
             have hsz4 := hid (show W3.heap.size < W4.heap.size from by rw [hW4]; simp)
             have hs4 := hid (hsv.out W4 (C3.out.keep k34).cs.kept)
             have HW4' := hid hW4
             have hk100 : k ≤ 100 := by rw [HK.out]; exact H100.out
             clear hW4 k34 b2
             go_upto_region 15 with fail
             go_wp2_with (at_builtin; refine halt ?_)
             refine Halt.mk ?_
             rw [← HW4'.out]
             refine wpList_append_src _ rfl _ _ _ rfl W3.heap.size 5 j0 _ 1 Tryd.underlying30 hj0 hz0 hz1 hz2 rfl (.slice (some ⟨W3.heap.size, 0, none⟩) 0 0) 0 [] rfl ha4.out (.slice oa k oc) k (bs.map B) rfl (by have h5 := hs4.out; unfold SrcB at h5; rw [← HK.out] at h5; exact h5) (by simp; exact HK.out.symm) (B_oneCell bs) (by unfold maxLen; omega) (by omega) (by have := hsz4.out; omega) ?_
             intro v5 W5 o5 g5 _ f5
             simp only [Nat.zero_add, List.nil_append] at o5
             obtain ⟨a5, c5, rfl⟩ := owns_slice o5
             have k35 := hid (show Kept [] W3 W5 from by
               have k45 : Kept [W3.heap.size] W4 W5 := Kept.of_row g5
               have k34 : Kept [] W3 W4 := by rw [HW4'.out]; exact (Kept.refl [] W3).alloc _
               exact k34.trans' k45 (fun y hy hm => by simp at hm; omega))
             have O5 := hid o5
             have C5 := hid (C3.out.keep k35.out)
             have T5 := hid (k35.out.at T0.out (by simp))
             have hop5 := hid (k35.out.at hop3.out (by simp))
             clear o5 g5 f5 ha4 hs4 b24 HW4' hsz4 b0
             obtain ⟨bb, hrk⟩ := C5.out.rk
             obtain ⟨ra, rc, rfl⟩ := hrk.slice
             have hlm0 : 0 ≤ lm := by rw [HLM.out]; omega
             have hlm1 : lm ≤ 9223372036854775807 := by rw [HLM.out]; omega
             have hsp := hid (rk_put (lim := lm) hrk C5.out.nd (by have := HLL.out; omega) (by have := HSZ.out; omega) hlm0 hlm1 oa oc bs (hsv.out W5 C5.out.cs.kept) (by have := H100.out; omega))
             rw [← HID.out, ← HIB.out, ← HK.out] at hsp
             unfold rK at hsp
             have hldx := hid (rk_ld W5 xb (.slice ra es.length rc) lm C5.out.bx)
             unfold rK at hldx
             have b25 : W5.cell? ⟨ob, 2, none⟩ = some (.slice oa k oc) := by rw [cell_of_row _ _ 2 _ _ _ hop5.out]; rfl
             obtain ⟨m3, hm3⟩ : ∃ m, m = es.length := ⟨_, rfl⟩
             have HM3 := hid hm3
             rw [← hm3] at hldx hsp
             clear hrk hm3
             go_upto_region 16 with fail
             go_wp2_with (refine wpList_ldv rfl 29 (.tmp 8) rfl ⟨xb, 0, none⟩ rfl (.agg #[.slice ra m3 rc, .int .i64 lm]) hldx.out ?_; refine halt ?_)
             refine Halt.mk ?_
             go_wp2_with fail
             refine hsp.out.mono ?_
             rintro e W6 ⟨rv6, es6, rfl, nx6, dat6, mem6⟩
             obtain ⟨ra6, m6, rc6, rfl⟩ : ∃ a m c, rv6 = .slice a m c := by obtain ⟨b, hr⟩ := nx6.rk; obtain ⟨a, c, e⟩ := hr.slice; exact ⟨a, _, c, e⟩
             have NX6 := hid nx6; have DAT6 := hid dat6; have MEM6 := hid mem6
             clear nx6 dat6 mem6 hsp hldx b25
             rw [← HM3.out] at C5
             have TH6 := hid (show ∀ f ∈ es6, (f ∈ es ∧ f.b.length ≤ 100) ∨ (f.v = .slice oa k oc ∧ f.b.length = k ∧ (f.b ≠ [] → ∀ g, f.v.ownBlock = some g → g < w.heap.size)) from fun f hf => by
               rcases MEM6.out f hf with h | h
               · exact Or.inl ⟨h, HB100.out f h⟩
               · obtain ⟨b, hr⟩ := NX6.out.rk
                 obtain ⟨_, a, c, e1, _⟩ := hr.th f hf
                 rw [h] at e1
                 simp at e1
                 refine Or.inr ⟨h, e1.2.1.symm, fun hne g hg => ?_⟩
                 rw [h] at hg
                 have hb0 : bs ≠ [] := fun h0 => hne (List.eq_nil_of_length_eq_zero (by rw [← e1.2.1, HK.out, h0]; rfl))
                 cases oa with
                 | none => simp [Value.ownBlock] at hg
                 | some yy =>
                   have h5 := hrlt.out hb0 yy rfl
                   simp [Value.ownBlock] at hg
                   omega)
             obtain ⟨y, hy⟩ : ∃ y, y = W6.heap.size := ⟨_, rfl⟩
             obtain ⟨z7, hz7⟩ : ∃ V, V = (W6.alloc (.cells #[.slice ra6 m6 rc6, .int .i64 lm] 29)).alloc (.cells zv 34) := ⟨_, rfl⟩
             have r7 : z7.heap[y + 1]? = some (.cells zv 34 (0, 0)) := by rw [hz7, hy]; exact heap_alloc_at (by simp)
             obtain ⟨W7, hW7⟩ : ∃ V, V = z7.setRow (y + 1) ib := ⟨_, rfl⟩
             have k67 : Kept [] W6 W7 := by
               rw [hW7, hz7, hy]
               exact (((Kept.refl [] W6).alloc _).alloc _).setRow (fun h => absurd h (by omega)) _
             have y7 : W7.heap[y]? = some (.cells #[.slice ra6 m6 rc6, .int .i64 lm] 29 (0, 0)) := by
               rw [hW7]
               have h1 : z7.heap[y]? = some (.cells #[.slice ra6 m6 rc6, .int .i64 lm] 29 (0, 0)) := by rw [hz7, hy]; exact heap_alloc_old (heap_alloc_at rfl)
               exact ((Kept.refl [y + 1] z7).setRow (fun _ => by simp) ib).at h1 (by simp)
             have q7 : W7.heap[y + 1]? = some (.cells ib 34 (0, 0)) := by rw [hW7]; exact setRow_heap _ _ _ _ _ _ r7
             have nx7 : Nx W5 W7 (.slice ra m3 rc) (.slice ra6 m6 rc6) es6 := ⟨NX6.out.kept.trans k67, by obtain ⟨b, hr⟩ := NX6.out.rk; exact ⟨b, hr.keep k67⟩, NX6.out.own⟩
             have hldy := hid (rk_ld W7 y (.slice ra6 m6 rc6) lm y7)
             unfold rK at hldy
             have hbx7 := hid (nx7.kept.at C5.out.bx (by simp))
             obtain ⟨W8, hW8⟩ : ∃ V, V = W7.setRow xb (splice [.slice ra m3 rc, .int .i64 lm] 0 [.slice ra6 m6 rc6, .int .i64 lm]).toArray := ⟨_, rfl⟩
             have k78 : Kept [xb] W7 W8 := by rw [hW8]; exact (Kept.refl [xb] W7).setRow (fun _ => by simp) _
             have P8 := hid (C5.out.turn nx7 (fun e he => by
               rcases TH6.out e he with h | h
               · exact Or.inl h.1
               · exact Or.inr (fun g hg => Or.inl (fun hne => h.2.2 hne g hg))) k78 (by rw [hW8]; exact setRow_heap _ _ _ _ _ _ hbx7.out))
             have hys := hid (show W5.heap.size ≤ y from by rw [hy]; exact NX6.out.kept.size)
             have hyf := hid (show y + 1 ∉ U ∧ y + 1 ≠ xb from by
               have h1 := C5.out.fresh (g := y + 1) (by have := hys.out; omega)
               exact ⟨h1.1, h1.2.1⟩)
             have Q8 := hid (k78.at q7 (by simpa using hyf.out.2))
             have OFR := hid (fun b (hb : (Value.slice a5 k c5).ownBlock = some b) => (show b ∉ U ∧ b ≠ xb ∧ w.heap.size ≤ b ∧ (Value.slice ra m3 rc).ownBlock ≠ some b ∧ (∀ e ∈ es, e.b ≠ [] → e.v.ownBlock ≠ some b) ∧ b < W5.heap.size ∧ W3.heap.size ≤ b from by
               have h1 := O5.out.lt b hb
               have h2 := C3.out.fresh h1.1
               rw [← HM3.out] at h2
               exact ⟨h2.1, h2.2.1, h2.2.2.1, h2.2.2.2.1, h2.2.2.2.2, h1.2, h1.1⟩))
             have O8 := hid (show W8.ownsRow W3.heap.size 5 1 (.slice a5 k c5) k (bs.map B) from k78.owns (nx7.kept.owns O5.out (by simp)) (fun b hb hm => by simp at hm; exact (OFR.out b hb).2.1 hm))
             have hS8 := hid (show W5.heap.size ≤ W8.heap.size from Nat.le_trans nx7.kept.size k78.size)
             obtain ⟨r1, r2, r3, r4, r5⟩ := reads_row O8.out
             have hcs := hid (show Calls Tryd.prog 10 #[.pointer (some ⟨p, 0, none⟩), .slice a5 k c5] W8.drew fun e v => e = .returned (.agg ib) ∧ Kept U W8.drew v ∧ ∃ U', More W8.drew v U U' ∧ CS w v U' p lm (datE es6) from by
               have h1 := cs_put (P8.out.cs.keep0 (Kept.refl _ _).drew) (by have := HSZ.out; omega) (by rw [show (datE es).length = es.length from by unfold datE; simp]; have := HLL.out; omega) a5 c5 bs (r1.kept ((Kept.refl [] W8).drew) (fun _ _ _ => by simp)) (fun _ x0 hx0 => (OFR.out x0.block (by rw [hx0]; rfl)).1) r5 (by omega) r4 (by omega)
               rw [← HID.out, ← HIB.out, ← HK.out, ← DAT6.out] at h1
               exact h1)
             have ldq8 := hid (fun v (hv : Kept U W8 v) => (show (loadVar 34 ⟨y + 1, 0, none⟩).run Tryd.prog v = .ok (.agg ib) v from by
               have h1 := hv.at Q8.out hyf.out.1
               rw [HIB.out] at h1 ⊢
               exact ld_idB v (y + 1) id L32.out h1))
             have heq := hid (show ∀ v : World, (Op.equalIn 10000 34 (.agg ib) (.agg ib)).run Tryd.prog v = .ok true v from fun v => by rw [HIB.out, id_equal _ _ L32.out L32.out v]; simp)
             have HZ7 := hid hz7; have HW7 := hid hW7; have HW8 := hid hW8; have HY := hid hy; have R7 := hid r7
             clear hz7 hW7 hW8 hy r7 k67 y7 q7 nx7 k78 r1 r2 r3 r4 r5
             go_wp2_with (refine wpList_store_row rfl 34 (.tmp 15) (.tmp 60) rfl (W6.heap.size + 1) ib rfl rfl _ _ (by rw [← HZ7.out, ← HY.out]; exact R7.out) SI.out.1 SI.out.2.1 SI.out.2.2 ?_; refine halt ?_)
             refine Halt.mk ?_
             rw [← HZ7.out, ← HY.out, ← HW7.out]
             go_wp2_with (refine wpList_ldv rfl 29 (.tmp 14) rfl ⟨y, 0, none⟩ rfl (.agg #[.slice ra6 m6 rc6, .int .i64 lm]) hldy.out ?_; refine halt ?_)
             refine Halt.mk ?_
             go_wp2_with (refine wpList_store_at rfl 29 (.tmp 8) (.tmp 61) rfl xb 0 [.slice ra6 m6 rc6, .int .i64 lm] rfl rfl 29 [.slice ra m3 rc, .int .i64 lm] hbx7.out (by kernel_rfl) (by simp) (k_two _ _ _ _) ?_; refine halt ?_)
             refine Halt.mk ?_
             rw [← HW8.out]
             clear HZ7 HW7 HW8 R7 hldy hbx7
             go_upto_region 18 with fail
             have hH0 : Kept U W8 W8.drew := (Kept.refl _ W8).drew
             refine wp_region_held_drew (S := fun v => Kept U W8 v) (by kernel_rfl) hH0 (fun hH => ?_)
             refine takeH 0 (.pointer (some ⟨p, 0, none⟩)) rfl (by kernel_rfl) (by kernel_rfl) (by kernel_rfl) (fun _ _ _ h => h) (by rfl) (fun v hv => by go_simp) hH ?_
             simp only [Act.put, List.setIfInBounds_toArray, List.set_cons_succ, List.set_cons_zero]
             refine takeH 1 (.slice a5 k c5) rfl (by kernel_rfl) (by kernel_rfl) (by kernel_rfl) (fun _ _ _ h => h) (by rfl) (fun v hv => by go_simp) hH ?_
             simp only [Act.put, List.setIfInBounds_toArray, List.set_cons_succ, List.set_cons_zero]
             refine takeH 3 (.agg ib) rfl (by kernel_rfl) (by kernel_rfl) (by kernel_rfl) (fun _ _ _ h => h) (by rfl) (fun v hv => by have h := ldq8.out v hv; unfold execOp; simp [Instr.loadAt, Instr.sureAddr, Sem.run_bind, Sem.run_pure, Result.andThen_ok, Act.eval, h]) hH ?_
             simp only [Act.put, List.setIfInBounds_toArray, List.set_cons_succ, List.set_cons_zero]
             refine callR 2 rfl (by kernel_rfl) (by rfl) 10 #[.pointer (some ⟨p, 0, none⟩), .slice a5 k c5] (by go_simp) (.agg ib) (fun v => Kept U W8.drew v ∧ ∃ U', More W8.drew v U U' ∧ CS w v U' p lm (datE es6)) (fun v h => hH0.trans h.1) (hcs.out) ?_
             rintro v9 ⟨k9, U9, m9, c9⟩
             simp only [Act.put, List.setIfInBounds_toArray, List.set_cons_succ, List.set_cons_zero]
             refine takeH 4 (.bool true) rfl (by kernel_rfl) (by kernel_rfl) (by kernel_rfl) (fun _ _ _ h => h) (by rfl) (fun v hv => by have h := heq.out v; go_simp) (hH0.trans k9) ?_
             simp only [Act.put, List.setIfInBounds_toArray, List.set_cons_succ, List.set_cons_zero]
             refine takeH 5 (.bool true) rfl (by kernel_rfl) (by kernel_rfl) (by kernel_rfl) (fun _ _ _ h => h) (by rfl) (fun v hv => by go_simp) (hH0.trans k9) ?_
             simp only [Act.put, List.setIfInBounds_toArray, List.set_cons_succ, List.set_cons_zero]
             refine wpAnyH_done (by kernel_rfl) ?_ _
             have P9 := hid (P8.out.cache (hH0.trans k9) m9 c9)
             have O9 := hid (show v9.ownsRow W3.heap.size 5 1 (.slice a5 k c5) k (bs.map B) from (hH0.trans k9).owns O8.out (fun b hb hm => (OFR.out b hb).1 hm))
             obtain ⟨w10, hclr, k10⟩ := k_clear v9 O9.out
             have P10 := P9.out.kept k10 (fun b hb => by
               have hb' : (Value.slice a5 k c5).ownBlock = some b := by simpa using hb
               have h1 := OFR.out b hb'
               refine ⟨fun hm => ?_, h1.2.1, h1.2.2.1, fun hr => ?_⟩
               · rcases m9.1 b hm with h2 | h2
                 · exact h1.1 h2
                 · have h3 : W8.heap.size ≤ b := h2.1
                   have := hS8.out; omega
               · rcases NX6.out.own b hr with h2 | h2
                 · exact h1.2.2.2.1 h2
                 · omega) (fun b hb e he hne hm => by
               have hb' : (Value.slice a5 k c5).ownBlock = some b := by simpa using hb
               have h1 := OFR.out b hb'
               rcases TH6.out e he with h2 | h2
               · exact h1.2.2.2.2.1 e h2.1 hne hm
               · have h3 := h2.2.2 hne b hm
                 have := h1.2.2.1; omega)
             have hfin := hid (show PI w w10 p lm xb (i + 1) from by
               have h1 := k_putD_grow lm (datE es) bs
               have h2 := putD_len lm (datE es) bs
               have h3 := len_of_dat DAT6.out
               have h4 : (datE es).length = es.length := by unfold datE; simp
               refine ⟨U9, _, es6, P10, by rw [DAT6.out]; have := HSZ.out; have := H100.out; omega, by have := HLL.out; omega, fun e he => ?_⟩
               rcases TH6.out e he with h5 | h5
               · exact h5.2
               · rw [h5.2.1]; exact hk100)
             clear P10 k10 k9 m9 c9 hH0 hH hcs ldq8 heq
             go_wp2_with fail
             go_meet
             exact ⟨rfl, hfin⟩
           by_cases h2 : K = 2
           · subst h2
             obtain ⟨bb, hrk⟩ := C3.out.rk
             obtain ⟨ra, rc, rfl⟩ := hrk.slice
             have hsp := hid (rk_get (lim := lm) hrk C3.out.nd (by have := HLL.out; omega) (fun f hf => by have := HB100.out f hf; omega) id L32.out)
             rw [← HIB.out] at hsp
             unfold rK at hsp
             have hldx := hid (rk_ld W3 xb (.slice ra es.length rc) lm C3.out.bx)
             unfold rK at hldx
             have hldq := hid (show (loadVar 34 ⟨q, 0, none⟩).run Tryd.prog W3 = .ok (.agg ib) W3 from by have h1 := ld_idB W3 q id L32.out (by rw [← HIB.out]; exact T0.out); rw [← HIB.out] at h1; exact h1)
             have hsrcs := hid (fun f (hf : f ∈ es) => (hrk.th f hf).2)
             obtain ⟨m3, hm3⟩ : ∃ m, m = es.length := ⟨_, rfl⟩
             have HM3 := hid hm3
             rw [← hm3] at hldx hsp
             clear hrk hm3
             go_upto_region 22 with fail
             go_wp2_with (first | (refine wpList_ldv rfl 29 (.tmp 8) rfl ⟨xb, 0, none⟩ rfl (.agg #[.slice ra m3 rc, .int .i64 lm]) hldx.out ?_) | (refine wpList_ldv rfl 34 (.tmp 11) rfl ⟨q, 0, none⟩ rfl (.agg ib) hldq.out ?_))
             refine hsp.out.mono ?_
             rintro e W4 ⟨rv4, es4, bv, rfl, nx4, dat4, mem4, ans4⟩
             obtain ⟨ra4, m4, rc4, rfl⟩ : ∃ a m c, rv4 = .slice a m c := by obtain ⟨b, hr⟩ := nx4.rk; obtain ⟨a, c, e⟩ := hr.slice; exact ⟨a, _, c, e⟩
             unfold rK
             obtain ⟨go, hgo⟩ : ∃ go, go = getO id (datE es) := ⟨_, rfl⟩
             have HGO := hid hgo
             rw [← hgo] at ans4 ⊢
             obtain ⟨okb, hokb⟩ : ∃ b, b = go.isSome := ⟨_, rfl⟩
             have HOKB := hid hokb
             rw [← hokb]
             have NX4 := hid nx4; have DAT4 := hid dat4; have MEM4 := hid mem4; have ANS4 := hid ans4
             clear nx4 dat4 mem4 ans4 hsp hldx hldq b0 hgo hokb
             rw [← HM3.out] at C3
             go_upto_region 23 with fail
             obtain ⟨W5, hW5⟩ : ∃ V, V = W4.alloc (.cells #[.slice ra4 m4 rc4, .int .i64 lm] 29) := ⟨_, rfl⟩
             have k45 : Kept [] W4 W5 := by rw [hW5]; exact (Kept.refl [] W4).alloc _
             have nx5 : Nx W3 W5 (.slice ra m3 rc) (.slice ra4 m4 rc4) es4 := ⟨NX4.out.kept.trans k45, by obtain ⟨b, hr⟩ := NX4.out.rk; exact ⟨b, hr.keep k45⟩, NX4.out.own⟩
             obtain ⟨y, hy⟩ : ∃ y, y = W4.heap.size := ⟨_, rfl⟩
             have hldy := hid (rk_ld W5 y (.slice ra4 m4 rc4) lm (by rw [hW5, hy]; exact heap_alloc_at rfl))
             unfold rK at hldy
             have hbx5 := hid (nx5.kept.at C3.out.bx (by simp))
             obtain ⟨W6, hW6⟩ : ∃ V, V = W5.setRow xb (splice [.slice ra m3 rc, .int .i64 lm] 0 [.slice ra4 m4 rc4, .int .i64 lm]).toArray := ⟨_, rfl⟩
             have k56 : Kept [xb] W5 W6 := by rw [hW6]; exact (Kept.refl [xb] W5).setRow (fun _ => by simp) _
             have P6 := hid (C3.out.turn nx5 (fun e he => Or.inl (MEM4.out e he)) k56 (by rw [hW6]; exact setRow_heap _ _ _ _ _ _ hbx5.out))
             have ld6 := hid (show (loadVar 34 ⟨q, 0, none⟩).run Tryd.prog W6 = .ok (.agg ib) W6 from by
               have h1 := k56.at (nx5.kept.at T0.out (by simp)) (by simp; exact HQX.out.1)
               rw [HIB.out] at h1 ⊢
               exact ld_idB W6 q id L32.out h1)
             have src6 := hid (fun f (hf : f ∈ es) => (show ∃ a c, f.v = .slice a f.b.length c ∧ SrcB W6 f.v f.b from by
               obtain ⟨a, c, e1, e2⟩ := hsrcs.out f hf
               exact ⟨a, c, e1, k_src_kept (k_src_kept e2 nx5.kept (fun _ _ _ => by simp)) k56 (fun hne g hg hm => by simp at hm; exact (C3.out.th f hf (fun h0 => hne (by rw [h0]; rfl)) g hg).2 hm)⟩))
             have hcs := hid (cs_get P6.out.cs (by have := HSZ.out; omega) (by rw [show (datE es).length = es.length from by unfold datE; simp]; have := HLL.out; omega) id L32.out)
             rw [← HIB.out, ← HGO.out] at hcs
             rw [← HOKB.out] at hcs
             have HW5 := hid hW5; have HW6 := hid hW6; have HY := hid hy
             clear hW5 k45 nx5 hy hW6 k56
             rw [← HW5.out, ← HY.out]
             go_wp2_with (refine wpList_ldv rfl 29 (.tmp 16) rfl ⟨y, 0, none⟩ rfl (.agg #[.slice ra4 m4 rc4, .int .i64 lm]) hldy.out ?_; refine halt ?_)
             refine Halt.mk ?_
             go_wp2_with (refine wpList_store_at rfl 29 (.tmp 8) (.tmp 78) rfl xb 0 [.slice ra4 m4 rc4, .int .i64 lm] rfl rfl 29 [.slice ra m3 rc, .int .i64 lm] hbx5.out (by kernel_rfl) (by simp) (k_two _ _ _ _) ?_; refine halt ?_)
             refine Halt.mk ?_
             rw [← HW6.out]
             clear HW5 HW6 HY hldy hbx5
             go_wp2_with (refine wpList_ldv rfl 34 (.tmp 11) rfl ⟨q, 0, none⟩ rfl (.agg ib) ld6.out ?_; refine halt ?_)
             refine Halt.mk ?_
             go_wp2_with fail
             refine hcs.out.mono ?_
             rintro e w7 ⟨gv, U7, rfl, k7, m7, c7, ga7⟩
             rw [← DAT4.out] at c7
             have P7 := hid (P6.out.cache k7 m7 c7)
             have hfin := hid (fun w8 (hP : PC w w8 p lm xb U7 (datE es4) (.slice ra4 m4 rc4) es4) => (show PI w w8 p lm xb (i + 1) from by
               obtain ⟨z1, z2, z3⟩ := getL_lens_le id es es4 DAT4.out MEM4.out HB100.out
               exact ⟨U7, _, es4, hP, by have := HSZ.out; omega, by have := HLL.out; omega, z3⟩))
             have K7 := hid k7
             clear k7 c7 hcs ld6 m7
             cases go with
             | none =>
               obtain rfl : gv = .slice none 0 0 := ga7
               obtain rfl : bv = .slice none 0 0 := by
                 rcases ANS4.out with ⟨_, h⟩ | ⟨f, _, _, h⟩
                 · exact h
                 · simp at h
               obtain rfl : okb = false := HOKB.out
               have hsame := hid (same_deck none none 0 0 [] [] w7 (Or.inl ⟨rfl, rfl, rfl⟩) (Or.inl ⟨rfl, rfl, rfl⟩))
               simp only [decide_true, List.length_nil] at hsame
               have hclr : ∀ ty, (Builtin.clear_ #[30] ty #[.slice none 0 0]).run Tryd.prog w7 = .ok (.tuple #[]) w7 := fun ty => by
                 have hu : (underlying 30).run Tryd.prog w7 = .ok (.slice 5) w7 := run_underlying Tryd.underlying30 w7
                 unfold Builtin.clear_; simp [Sem.run_bind, hu, Result.andThen_ok, Sem.run_pure]
               have hf7 := hid (hfin.out w7 P7.out)
               clear hfin
               go_wp2_with fail
               refine hsame.out.mono ?_
               rintro e w8 ⟨rfl, rfl⟩
               go_wp2_with fail
               go_meet
               exact ⟨rfl, hf7⟩
             | some gb =>
               obtain rfl : okb = true := HOKB.out
               have OG := Out.of ga7
               obtain ⟨f, hf, hfv, hfb⟩ : ∃ f ∈ es, f.v = bv ∧ f.b = gb := by
                 rcases ANS4.out with ⟨h, _⟩ | ⟨f, h1, h2, h3⟩
                 · simp at h
                 · exact ⟨f, h1, h2, by simpa using h3.symm⟩
               obtain ⟨fa, fc, e1, e2⟩ := src6.out f hf
               have e3 : SrcB w7 f.v f.b := k_src_kept e2 K7.out (fun hne g hg hm => (C3.out.th f hf (fun h0 => hne (by rw [h0]; rfl)) g hg).1 hm)
               rw [hfb] at e1 e3
               rw [e1] at hfv e3
               subst hfv
               obtain ⟨gn, hgn⟩ : ∃ gn, gn = gb.length := ⟨_, rfl⟩
               obtain ⟨ba, hrow⟩ := OG.row
               obtain ⟨gaa, gcc, rfl⟩ : ∃ a c, gv = .slice a gb.length c := owns_slice hrow
               have hsame := hid (same_deck gaa fa gcc fc gb gb w7 (OG.src rfl) e3)
               simp only [decide_true] at hsame
               obtain ⟨w9, hclr, k9⟩ := k_clear w7 hrow
               have hgr : w7.ownsRow W6.heap.size 5 1 (.slice gaa gb.length gcc) gb.length (gb.map B) := ga7.1
               have P9 := P7.out.kept k9 (fun b hb => by
                 have hb' : (Value.slice gaa gb.length gcc).ownBlock = some b := by simpa using hb
                 have h2 := P6.out.fresh (hgr.lt b hb').1
                 exact ⟨(OG.off b hb').1, h2.2.1, h2.2.2.1, h2.2.2.2.1⟩) (fun b hb e he hne hm => by
                 have hb' : (Value.slice gaa gb.length gcc).ownBlock = some b := by simpa using hb
                 exact (P6.out.fresh (hgr.lt b hb').1).2.2.2.2 e he hne hm)
               have hf9 := hid (hfin.out w9 P9)
               rw [← hgn] at hsame hclr ⊢
               clear ga7 hfin OG hrow hgr k9 P9 e1 e2 e3 hf hfb hgn
               go_wp2_with fail
               refine hsame.out.mono ?_
               rintro e w8 ⟨rfl, rfl⟩
               go_wp2_with fail
               go_meet
               exact ⟨rfl, hf9⟩
           by_cases h3 : K = 3
           · subst h3
             obtain ⟨bb, hrk⟩ := C3.out.rk
             obtain ⟨ra, rc, rfl⟩ := hrk.slice
             have hsp := hid (rk_get (lim := lm) hrk C3.out.nd (by have := HLL.out; omega) (fun f hf => by have := HB100.out f hf; omega) id L32.out)
             rw [← HIB.out] at hsp
             unfold rK at hsp
             have hldx := hid (rk_ld W3 xb (.slice ra es.length rc) lm C3.out.bx)
             unfold rK at hldx
             have hldq := hid (show (loadVar 34 ⟨q, 0, none⟩).run Tryd.prog W3 = .ok (.agg ib) W3 from by have h1 := ld_idB W3 q id L32.out (by rw [← HIB.out]; exact T0.out); rw [← HIB.out] at h1; exact h1)
             have hsrcs := hid (fun f (hf : f ∈ es) => (hrk.th f hf).2)
             obtain ⟨m3, hm3⟩ : ∃ m, m = es.length := ⟨_, rfl⟩
             have HM3 := hid hm3
             rw [← hm3] at hldx hsp
             clear hrk hm3
             go_upto_region 22 with fail
             go_wp2_with (first | (refine wpList_ldv rfl 29 (.tmp 8) rfl ⟨xb, 0, none⟩ rfl (.agg #[.slice ra m3 rc, .int .i64 lm]) hldx.out ?_) | (refine wpList_ldv rfl 34 (.tmp 11) rfl ⟨q, 0, none⟩ rfl (.agg ib) hldq.out ?_))
             refine hsp.out.mono ?_
             rintro e W4 ⟨rv4, es4, bv, rfl, nx4, dat4, mem4, ans4⟩
             obtain ⟨ra4, m4, rc4, rfl⟩ : ∃ a m c, rv4 = .slice a m c := by obtain ⟨b, hr⟩ := nx4.rk; obtain ⟨a, c, e⟩ := hr.slice; exact ⟨a, _, c, e⟩
             unfold rK
             obtain ⟨go, hgo⟩ : ∃ go, go = getO id (datE es) := ⟨_, rfl⟩
             have HGO := hid hgo
             rw [← hgo] at ans4 ⊢
             obtain ⟨okb, hokb⟩ : ∃ b, b = go.isSome := ⟨_, rfl⟩
             have HOKB := hid hokb
             rw [← hokb]
             have NX4 := hid nx4; have DAT4 := hid dat4; have MEM4 := hid mem4; have ANS4 := hid ans4
             clear nx4 dat4 mem4 ans4 hsp hldx hldq b0 hgo hokb
             rw [← HM3.out] at C3
             go_upto_region 23 with fail
             obtain ⟨W5, hW5⟩ : ∃ V, V = W4.alloc (.cells #[.slice ra4 m4 rc4, .int .i64 lm] 29) := ⟨_, rfl⟩
             have k45 : Kept [] W4 W5 := by rw [hW5]; exact (Kept.refl [] W4).alloc _
             have nx5 : Nx W3 W5 (.slice ra m3 rc) (.slice ra4 m4 rc4) es4 := ⟨NX4.out.kept.trans k45, by obtain ⟨b, hr⟩ := NX4.out.rk; exact ⟨b, hr.keep k45⟩, NX4.out.own⟩
             obtain ⟨y, hy⟩ : ∃ y, y = W4.heap.size := ⟨_, rfl⟩
             have hldy := hid (rk_ld W5 y (.slice ra4 m4 rc4) lm (by rw [hW5, hy]; exact heap_alloc_at rfl))
             unfold rK at hldy
             have hbx5 := hid (nx5.kept.at C3.out.bx (by simp))
             obtain ⟨W6, hW6⟩ : ∃ V, V = W5.setRow xb (splice [.slice ra m3 rc, .int .i64 lm] 0 [.slice ra4 m4 rc4, .int .i64 lm]).toArray := ⟨_, rfl⟩
             have k56 : Kept [xb] W5 W6 := by rw [hW6]; exact (Kept.refl [xb] W5).setRow (fun _ => by simp) _
             have P6 := hid (C3.out.turn nx5 (fun e he => Or.inl (MEM4.out e he)) k56 (by rw [hW6]; exact setRow_heap _ _ _ _ _ _ hbx5.out))
             have ld6 := hid (show (loadVar 34 ⟨q, 0, none⟩).run Tryd.prog W6 = .ok (.agg ib) W6 from by
               have h1 := k56.at (nx5.kept.at T0.out (by simp)) (by simp; exact HQX.out.1)
               rw [HIB.out] at h1 ⊢
               exact ld_idB W6 q id L32.out h1)
             have src6 := hid (fun f (hf : f ∈ es) => (show ∃ a c, f.v = .slice a f.b.length c ∧ SrcB W6 f.v f.b from by
               obtain ⟨a, c, e1, e2⟩ := hsrcs.out f hf
               exact ⟨a, c, e1, k_src_kept (k_src_kept e2 nx5.kept (fun _ _ _ => by simp)) k56 (fun hne g hg hm => by simp at hm; exact (C3.out.th f hf (fun h0 => hne (by rw [h0]; rfl)) g hg).2 hm)⟩))
             have hcs := hid (cs_get P6.out.cs (by have := HSZ.out; omega) (by rw [show (datE es).length = es.length from by unfold datE; simp]; have := HLL.out; omega) id L32.out)
             rw [← HIB.out, ← HGO.out] at hcs
             rw [← HOKB.out] at hcs
             have HW5 := hid hW5; have HW6 := hid hW6; have HY := hid hy
             clear hW5 k45 nx5 hy hW6 k56
             rw [← HW5.out, ← HY.out]
             go_wp2_with (refine wpList_ldv rfl 29 (.tmp 16) rfl ⟨y, 0, none⟩ rfl (.agg #[.slice ra4 m4 rc4, .int .i64 lm]) hldy.out ?_; refine halt ?_)
             refine Halt.mk ?_
             go_wp2_with (refine wpList_store_at rfl 29 (.tmp 8) (.tmp 78) rfl xb 0 [.slice ra4 m4 rc4, .int .i64 lm] rfl rfl 29 [.slice ra m3 rc, .int .i64 lm] hbx5.out (by kernel_rfl) (by simp) (k_two _ _ _ _) ?_; refine halt ?_)
             refine Halt.mk ?_
             rw [← HW6.out]
             clear HW5 HW6 HY hldy hbx5
             go_wp2_with (refine wpList_ldv rfl 34 (.tmp 11) rfl ⟨q, 0, none⟩ rfl (.agg ib) ld6.out ?_; refine halt ?_)
             refine Halt.mk ?_
             go_wp2_with fail
             refine hcs.out.mono ?_
             rintro e w7 ⟨gv, U7, rfl, k7, m7, c7, ga7⟩
             rw [← DAT4.out] at c7
             have P7 := hid (P6.out.cache k7 m7 c7)
             have hfin := hid (fun w8 (hP : PC w w8 p lm xb U7 (datE es4) (.slice ra4 m4 rc4) es4) => (show PI w w8 p lm xb (i + 1) from by
               obtain ⟨z1, z2, z3⟩ := getL_lens_le id es es4 DAT4.out MEM4.out HB100.out
               exact ⟨U7, _, es4, hP, by have := HSZ.out; omega, by have := HLL.out; omega, z3⟩))
             have K7 := hid k7
             clear k7 c7 hcs ld6 m7
             cases go with
             | none =>
               obtain rfl : gv = .slice none 0 0 := ga7
               obtain rfl : bv = .slice none 0 0 := by
                 rcases ANS4.out with ⟨_, h⟩ | ⟨f, _, _, h⟩
                 · exact h
                 · simp at h
               obtain rfl : okb = false := HOKB.out
               have hsame := hid (same_deck none none 0 0 [] [] w7 (Or.inl ⟨rfl, rfl, rfl⟩) (Or.inl ⟨rfl, rfl, rfl⟩))
               simp only [decide_true, List.length_nil] at hsame
               have hclr : ∀ ty, (Builtin.clear_ #[30] ty #[.slice none 0 0]).run Tryd.prog w7 = .ok (.tuple #[]) w7 := fun ty => by
                 have hu : (underlying 30).run Tryd.prog w7 = .ok (.slice 5) w7 := run_underlying Tryd.underlying30 w7
                 unfold Builtin.clear_; simp [Sem.run_bind, hu, Result.andThen_ok, Sem.run_pure]
               have hf7 := hid (hfin.out w7 P7.out)
               clear hfin
               go_wp2_with fail
               refine hsame.out.mono ?_
               rintro e w8 ⟨rfl, rfl⟩
               go_wp2_with fail
               go_meet
               exact ⟨rfl, hf7⟩
             | some gb =>
               obtain rfl : okb = true := HOKB.out
               have OG := Out.of ga7
               obtain ⟨f, hf, hfv, hfb⟩ : ∃ f ∈ es, f.v = bv ∧ f.b = gb := by
                 rcases ANS4.out with ⟨h, _⟩ | ⟨f, h1, h2, h3⟩
                 · simp at h
                 · exact ⟨f, h1, h2, by simpa using h3.symm⟩
               obtain ⟨fa, fc, e1, e2⟩ := src6.out f hf
               have e3 : SrcB w7 f.v f.b := k_src_kept e2 K7.out (fun hne g hg hm => (C3.out.th f hf (fun h0 => hne (by rw [h0]; rfl)) g hg).1 hm)
               rw [hfb] at e1 e3
               rw [e1] at hfv e3
               subst hfv
               obtain ⟨gn, hgn⟩ : ∃ gn, gn = gb.length := ⟨_, rfl⟩
               obtain ⟨ba, hrow⟩ := OG.row
               obtain ⟨gaa, gcc, rfl⟩ : ∃ a c, gv = .slice a gb.length c := owns_slice hrow
               have hsame := hid (same_deck gaa fa gcc fc gb gb w7 (OG.src rfl) e3)
               simp only [decide_true] at hsame
               obtain ⟨w9, hclr, k9⟩ := k_clear w7 hrow
               have hgr : w7.ownsRow W6.heap.size 5 1 (.slice gaa gb.length gcc) gb.length (gb.map B) := ga7.1
               have P9 := P7.out.kept k9 (fun b hb => by
                 have hb' : (Value.slice gaa gb.length gcc).ownBlock = some b := by simpa using hb
                 have h2 := P6.out.fresh (hgr.lt b hb').1
                 exact ⟨(OG.off b hb').1, h2.2.1, h2.2.2.1, h2.2.2.2.1⟩) (fun b hb e he hne hm => by
                 have hb' : (Value.slice gaa gb.length gcc).ownBlock = some b := by simpa using hb
                 exact (P6.out.fresh (hgr.lt b hb').1).2.2.2.2 e he hne hm)
               have hf9 := hid (hfin.out w9 P9)
               rw [← hgn] at hsame hclr ⊢
               clear ga7 hfin OG hrow hgr k9 P9 e1 e2 e3 hf hfb hgn
               go_wp2_with fail
               refine hsame.out.mono ?_
               rintro e w8 ⟨rfl, rfl⟩
               go_wp2_with fail
               go_meet
               exact ⟨rfl, hf9⟩
           by_cases h4 : K = 4
           · subst h4
             obtain ⟨bb, hrk⟩ := C3.out.rk
             obtain ⟨ra, rc, rfl⟩ := hrk.slice
             have hsp := hid (rk_spoil (lim := lm) hrk C3.out.nd (by have := HLL.out; omega) (fun f hf => by have := HB100.out f hf; omega) id L32.out B1 HB.out.1 HB.out.2)
             rw [← HIB.out] at hsp
             unfold rK at hsp
             have hldx := hid (rk_ld W3 xb (.slice ra es.length rc) lm C3.out.bx)
             unfold rK at hldx
             have hldq := hid (show (loadVar 34 ⟨q, 0, none⟩).run Tryd.prog W3 = .ok (.agg ib) W3 from by have h1 := ld_idB W3 q id L32.out (by rw [← HIB.out]; exact T0.out); rw [← HIB.out] at h1; exact h1)
             have b1 : W3.cell? ⟨ob, 1, none⟩ = some (.int .i64 B1) := by rw [cell_of_row _ _ 1 _ _ _ hop3.out]; rfl
             obtain ⟨m3, hm3⟩ : ∃ m, m = es.length := ⟨_, rfl⟩
             have HM3 := hid hm3
             rw [← hm3] at hldx hsp
             clear hrk hm3
             go_upto_region 28 with fail
             go_wp2_with (first | (refine wpList_ldv rfl 29 (.tmp 8) rfl ⟨xb, 0, none⟩ rfl (.agg #[.slice ra m3 rc, .int .i64 lm]) hldx.out ?_) | (refine wpList_ldv rfl 34 (.tmp 11) rfl ⟨q, 0, none⟩ rfl (.agg ib) hldq.out ?_))
             refine hsp.out.mono ?_
             rintro e W4 ⟨rv4, es4, rfl, nx4, dat4, mem4⟩
             obtain ⟨ra4, m4, rc4, rfl⟩ : ∃ a m c, rv4 = .slice a m c := by obtain ⟨b, hr⟩ := nx4.rk; obtain ⟨a, c, e⟩ := hr.slice; exact ⟨a, _, c, e⟩
             unfold rK
             have NX4 := hid nx4; have DAT4 := hid dat4; have MEM4 := hid mem4
             clear nx4 dat4 mem4 hsp hldx hldq b0 b1
             rw [← HM3.out] at C3
             go_upto_region 29 with fail
             obtain ⟨W5, hW5⟩ : ∃ V, V = W4.alloc (.cells #[.slice ra4 m4 rc4, .int .i64 lm] 29) := ⟨_, rfl⟩
             have k45 : Kept [] W4 W5 := by rw [hW5]; exact (Kept.refl [] W4).alloc _
             have nx5 : Nx W3 W5 (.slice ra m3 rc) (.slice ra4 m4 rc4) es4 := ⟨NX4.out.kept.trans k45, by obtain ⟨b, hr⟩ := NX4.out.rk; exact ⟨b, hr.keep k45⟩, NX4.out.own⟩
             obtain ⟨y, hy⟩ : ∃ y, y = W4.heap.size := ⟨_, rfl⟩
             have hldy := hid (rk_ld W5 y (.slice ra4 m4 rc4) lm (by rw [hW5, hy]; exact heap_alloc_at rfl))
             unfold rK at hldy
             have hbx5 := hid (nx5.kept.at C3.out.bx (by simp))
             obtain ⟨W6, hW6⟩ : ∃ V, V = W5.setRow xb (splice [.slice ra m3 rc, .int .i64 lm] 0 [.slice ra4 m4 rc4, .int .i64 lm]).toArray := ⟨_, rfl⟩
             have k56 : Kept [xb] W5 W6 := by rw [hW6]; exact (Kept.refl [xb] W5).setRow (fun _ => by simp) _
             have P6 := hid (C3.out.turn nx5 (fun e he => by
               rcases MEM4.out e he with h | h
               · exact Or.inl h
               · exact Or.inr (fun g hg => Or.inr (h g hg))) k56 (by rw [hW6]; exact setRow_heap _ _ _ _ _ _ hbx5.out))
             have hqx := hid (show q ≠ xb ∧ ob ≠ xb from HQX.out)
             have ld6 := hid (show (loadVar 34 ⟨q, 0, none⟩).run Tryd.prog W6 = .ok (.agg ib) W6 from by
               have h1 := k56.at (nx5.kept.at T0.out (by simp)) (by simp; exact hqx.out.1)
               rw [HIB.out] at h1 ⊢
               exact ld_idB W6 q id L32.out h1)
             have b16 : W6.cell? ⟨ob, 1, none⟩ = some (.int .i64 B1) := by rw [cell_of_row _ _ 1 _ _ _ (k56.at (nx5.kept.at hop3.out (by simp)) (by simp; exact hqx.out.2))]; rfl
             have hcs := hid (cs_spoil P6.out.cs (by have := HSZ.out; omega) id L32.out B1 HB.out.1 HB.out.2)
             rw [← HIB.out] at hcs
             have HW5 := hid hW5; have HW6 := hid hW6; have HY := hid hy
             obtain ⟨spo, hspo⟩ : ∃ b, b = (spoilL id B1 (datE es)).isSome := ⟨_, rfl⟩
             rw [← hspo] at hcs ⊢
             clear hW5 k45 nx5 hy hW6 k56 hspo
             rw [← HW5.out, ← HY.out]
             go_wp2_with (refine wpList_ldv rfl 29 (.tmp 21) rfl ⟨y, 0, none⟩ rfl (.agg #[.slice ra4 m4 rc4, .int .i64 lm]) hldy.out ?_; refine halt ?_)
             refine Halt.mk ?_
             go_wp2_with (refine wpList_store_at rfl 29 (.tmp 8) (.tmp 104) rfl xb 0 [.slice ra4 m4 rc4, .int .i64 lm] rfl rfl 29 [.slice ra m3 rc, .int .i64 lm] hbx5.out (by kernel_rfl) (by simp) (k_two _ _ _ _) ?_; refine halt ?_)
             refine Halt.mk ?_
             rw [← HW6.out]
             clear HW5 HW6 HY hldy hbx5
             go_wp2_with (refine wpList_ldv rfl 34 (.tmp 11) rfl ⟨q, 0, none⟩ rfl (.agg ib) ld6.out ?_; refine halt ?_)
             refine Halt.mk ?_
             go_wp2_with fail
             refine hcs.out.mono ?_
             rintro e w7 ⟨rfl, k7, c7⟩
             rw [← DAT4.out] at c7
             have P7 := P6.out.cache k7 ⟨fun x hx => Or.inl hx, fun x hx => hx⟩ c7
             have hfin := hid (show PI w w7 p lm xb (i + 1) from by
               have hz := spoil_size id B1 (datE es)
               have hl := len_of_dat DAT4.out
               have hd : (datE es).length = es.length := by unfold datE; simp
               refine ⟨U, _, es4, P7, by rw [DAT4.out, hz.1]; have := HSZ.out; omega, by rw [hl, hz.2, hd]; have := HLL.out; omega, bl_of_lens (by rw [DAT4.out]; exact spoil_lens id B1 (datE es)) HB100.out⟩)
             clear P7 k7 c7 hcs ld6
             go_wp2_with fail
             go_meet
             exact ⟨by simp, hfin⟩
           by_cases h5 : K = 5
           · subst h5
             have hx0 : W3.cell? ⟨xb, 0, none⟩ = some rv := by rw [cell_of_row _ _ 0 _ _ _ C3.out.bx]; rfl
             have hf0 : W3.frozen? ⟨xb, 0, none⟩ = false := k_free C3.out.bx 0
             obtain ⟨W4, hW4⟩ : ∃ V, V = W3.setCell ⟨xb, 0, none⟩ (.slice none 0 0) := ⟨_, rfl⟩
             have k4 : Kept [xb] W3 W4 := by rw [hW4]; exact (Kept.refl [xb] W3).setCell (p := ⟨xb, 0, none⟩) (fun _ => by simp) _
             have P4 := hid (show PC w W4 p lm xb U (datE es) (.slice none 0 0) [] from
               C3.out.turn (rv' := .slice none 0 0) (es' := []) ⟨Kept.refl _ _, ⟨0, ⟨⟨by simp [kC], Or.inl ⟨rfl, rfl⟩⟩, fun e he => by simp at he, Nat.zero_le _⟩⟩, fun g hg => by simp [Value.ownBlock] at hg⟩ (fun e he => by simp at he) k4 (by rw [hW4, Go.heap_setCell_same W3 xb 0 _ _ _ C3.out.bx]; rfl))
             have hwp := hid (cs_wipe P4.out.cs)
             have HW4' := hid hW4
             clear hW4 k4
             go_upto_region 33 with fail
             rw [← HW4'.out]
             go_wp2_with fail
             refine hwp.out.mono ?_
             rintro e w5 ⟨rfl, k5, c5⟩
             have P5 := P4.out.cache k5 ⟨fun x hx => Or.inl hx, fun x hx => hx⟩ c5
             have hfin := hid (show PI w w5 p lm xb (i + 1) from ⟨U, _, [], P5, by simp [datE, szD], by simp, fun e he => by simp at he⟩)
             clear P5 k5 c5 hwp
             go_wp2_with fail
             go_meet
             exact ⟨rfl, hfin⟩
           have n0 : (K == 0) = false := by simpa using h0
           have n1 : (K == 1) = false := by simpa using h1
           have n2 : (K == 2) = false := by simpa using h2
           have n3 : (K == 3) = false := by simpa using h3
           have n4 : (K == 4) = false := by simpa using h4
           have n5 : (K == 5) = false := by simpa using h5
           have hfin := hid (show PI w W3 p lm xb (i + 1) from ⟨U, rv, es, C3.out, by have := HSZ.out; omega, by have := HLL.out; omega, HB100.out⟩)
           clear h0 h1 h2 h3 h4 h5
           go_wp2_with fail
           go_meet
           exact ⟨rfl, hfin⟩
         case rest =>
           obtain ⟨rfl, hP⟩ := hcut
           clear C3 T0 hop3 b0 HSZ HLL HB100 SI
           obtain ⟨U2, rv2, es2, hpc2, hsz2, hll2, hb2⟩ := hP.out.ex
           obtain ⟨rba, hrk2⟩ := hpc2.rk
           obtain ⟨ra2, rc2, rfl⟩ := hrk2.slice
           have HRK := hid hrk2
           have PX := hid hpc2; have HSZ := hid hsz2; have HLL := hid hll2
           obtain ⟨m, hm⟩ : ∃ m, m = es2.length := ⟨_, rfl⟩
           have HM := hid hm
           have hm30 : m ≤ 30 := by rw [hm]; omega
           rw [← hm] at PX HRK
           have hx1 : (wc.alloc (.cells #[] 34)).cell? ⟨xb, 0, none⟩ = some (.slice ra2 m rc2) := by
             have h1 := ((Kept.refl [] wc).alloc (.cells #[] 34)).at PX.out.bx (by simp)
             rw [cell_of_row _ _ 0 _ _ _ h1]; rfl
           obtain ⟨V0, hV0⟩ : ∃ V, V = wc.alloc (.cells #[] 34) := ⟨_, rfl⟩
           have hst0 := hid (show Kept [] wc V0 ∧ V0.ownsRow wc.heap.size 34 32 (.slice (some ⟨wc.heap.size, 0, none⟩) 0 0) 0 [] from ⟨by rw [hV0]; exact (Kept.refl [] wc).alloc _, by rw [hV0]; exact World.ownsRow_made wc (base := wc.heap.size) (e := 34) (size := 32) #[] 0 (Nat.le_refl _) (by decide) (by simp)⟩)
           have HV0 := hid hV0
           obtain ⟨zk, hzk⟩ : ∃ zk, zk = (zid.map B ++ [Value.slice none 0 0]).toArray := ⟨_, rfl⟩
           have hzkk : ∀ W, (zeroValue 48).run Tryd.prog W = .ok (.agg zk) W := by rw [hzk]; exact zero_ke
           have HZK := hid (show zk.size = 33 from by rw [hzk]; simp [zid])
           obtain ⟨i0, hi0, hy0, hy1, hy2⟩ := info_parts id_zero
           clear hpc2 hsz2 hll2 hrk2 hm hV0 hzk
           go_upto_region 36 with fail
           rw [← HV0.out]
           go_loopw [23, 121] (fun s23 s121 wx => ∃ (j : Nat) (a9 : Option Addr) (c9 : Nat), j ≤ m ∧ s121 = .int .i64 j ∧ s23 = .slice a9 j c9 ∧ Hid (Kept [] wc wx) ∧ Hid (wx.ownsRow wc.heap.size 34 32 (.slice a9 j c9) j ((es2.take j).flatMap fun e => e32 e.id))) (fun _ s121 _ => m - (intOf s121).toNat)
           case atStart => exact ⟨0, _, _, Nat.zero_le _, rfl, rfl, hid hst0.out.1, hid (by simpa using hst0.out.2)⟩
           case round =>
             clear hst0 hx1
             obtain ⟨j, a9, c9, hj, rfl, rfl, HK9, HO9⟩ := hrel
             by_cases hlj : j < m
             · obtain ⟨f, hf⟩ : ∃ e, es2[j]? = some e := ⟨es2[j]'(by have := HM.out; omega), by simp⟩
               obtain ⟨x2, rfl, q0, q1, f32, fa, fc, hfv, _⟩ := HRK.out.at j f hf
               obtain ⟨kv, hkv⟩ : ∃ kv, kv = (kE f).toArray := ⟨_, rfl⟩
               have hkvs : kv.size = 33 := by rw [hkv]; exact kE_len f
               have SK := hid (show (Tryd.prog.info? 48).map (·.size) = some kv.size ∧ zk.size = kv.size ∧ kv.all (·.oneCell') = true from ⟨by rw [hkvs]; kernel_rfl, by rw [hkvs, HZK.out], by rw [hkv, Array.all_eq_true']; intro u hu; exact kC_one [f] (fun e he => by simp at he; subst he; exact ⟨fa, _, fc, hfv⟩) u (by simpa [kC] using hu)⟩)
               have hlk := hid (show (loadVar 48 (x2.add (j * 33))).run Tryd.prog wr = .ok (.agg kv) wr from by
                 rw [hkv]
                 refine ke_ld wr _ f f32 (fun z u hz => (HK9.out.cell (World.block_lt_of_cell? wc _ (q0 z u hz)) (by simp)).trans (q0 z u hz)) ?_
                 rw [n_add_add]
                 obtain ⟨gx, rfl⟩ : ∃ g, x2 = ⟨g, 0, none⟩ := by
                   rcases HRK.out.row.2 with ⟨hh, _⟩ | ⟨g, cap, cur, hh, _⟩
                   · simp at hh
                   · simp at hh; exact ⟨g, hh.1⟩
                 rw [k_plain] at q1 ⊢
                 exact (HK9.out.cell (World.block_lt_of_cell? wc _ q1) (by simp)).trans q1)
               obtain ⟨qk, hqk⟩ : ∃ q, q = wr.heap.size := ⟨_, rfl⟩
               obtain ⟨zb, hzb⟩ : ∃ V, V = wr.alloc (.cells zk 48) := ⟨_, rfl⟩
               have RZ := hid (show zb.heap[qk]? = some (.cells zk 48 (0, 0)) from by rw [hzb, hqk]; exact heap_alloc_at rfl)
               obtain ⟨V3, hV3⟩ : ∃ V, V = zb.setRow qk kv := ⟨_, rfl⟩
               have k3 : Kept [] wr V3 := by
                 rw [hV3, hzb, hqk]
                 exact ((Kept.refl [] wr).alloc _).setRow (fun h => absurd h (by omega)) _
               have b3 : V3.heap[qk]? = some (.cells (kE f).toArray 48 (0, 0)) := by rw [hV3, ← hkv]; exact setRow_heap _ _ _ _ _ _ RZ.out
               obtain ⟨iv, hiv⟩ : ∃ iv, iv = (f.id.map B).toArray := ⟨_, rfl⟩
               have hld3 := hid (show (loadVar 34 ⟨qk, 0, none⟩).run Tryd.prog V3 = .ok (.agg iv) V3 from by
                 rw [hiv]
                 exact ld_idA V3 _ f.id f32 (fun z u hz => by
                   refine k_cells_of b3 z u ?_
                   rw [kE_of f32, List.getElem?_append_left (List.getElem?_eq_some_iff.1 hz).1]
                   exact hz))
               have hbn := hid (show (Instr.buildSlice 46 1 #[(0, .agg iv)]).run Tryd.prog V3 = .ok (.slice (some ⟨V3.heap.size, 0, none⟩) 1 1) (V3.alloc (.cells iv 34)) from by rw [hiv]; exact build_idN f.id f32 V3)
               obtain ⟨V4, hV4⟩ : ∃ V, V = V3.alloc (.cells iv 34) := ⟨_, rfl⟩
               have k4 : Kept [] wr V4 := by rw [hV4]; exact k3.trans ((Kept.refl [] V3).alloc _)
               have hnew := hid (show ∀ (z : Nat) u, (e32 f.id)[z]? = some u → V4.cell? ((⟨V3.heap.size, 0, none⟩ : Addr).add z) = some u from by
                 intro z u hz
                 rw [e32_of f32] at hz
                 rw [k_plain, hV4, cell_of_row _ _ z _ _ _ (heap_alloc_at rfl), hiv]; simpa using hz)
               have ho4 := hid (k4.owns HO9.out (by simp))
               have hs4 := hid (show wc.heap.size ≤ V4.heap.size from Nat.le_trans HK9.out.size k4.size)
               have hk4 := hid (HK9.out.trans k4)
               have HQK := hid hqk; have HZB := hid hzb; have HV3 := hid hV3; have HV4 := hid hV4; have HF := hid hf
               clear q0 q1 hfv hkv hkvs hqk hzb hV3 k3 b3 hiv hV4 k4 hf
               go_wp2_with (first | (refine wpList_ldv rfl 48 (.tmp 123) rfl (x2.add (j * 33)) rfl (.agg kv) hlk.out ?_) | (refine wpList_store_row rfl 48 (.tmp 25) (.tmp 124) rfl qk kv (by rw [HQK.out]; rfl) rfl _ _ (by rw [← HZB.out]; exact RZ.out) SK.out.1 SK.out.2.1 SK.out.2.2 ?_; refine halt ?_))
               refine Halt.mk ?_
               rw [← HZB.out, ← HV3.out, ← HQK.out]
               go_wp2_with (first | (refine wpList_ldv rfl 34 (.tmp 126) rfl ⟨qk, 0, none⟩ rfl (.agg iv) hld3.out ?_) | (refine wpList_buildSlice1 rfl _ _ _ rfl (.slice (some ⟨V3.heap.size, 0, none⟩) 1 1) (V3.alloc (.cells iv 34)) (by have h := hbn.out; unfold execOp; simp [Act.eval, Act.put, h]) ?_; refine halt ?_))
               refine Halt.mk ?_
               rw [← HV4.out]
               clear HZB HV3 HQK HV4 RZ hlk hld3 hbn
               go_wp2_with (at_builtin; refine halt ?_)
               refine Halt.mk ?_
               refine wpList_append_k _ rfl _ _ _ rfl wc.heap.size 34 i0 _ 32 32 Tryd.underlying46 hi0 hy0 hy1 hy2 (by rw [Value.cells]; rfl) (by decide) (.slice a9 j c9) j _ rfl ho4.out (.slice (some ⟨V3.heap.size, 0, none⟩) 1 1) 1 (e32 f.id) rfl (Or.inr ⟨_, _, rfl, hnew.out⟩) (by rw [e32_len]) (by have := e32_one [f.id]; simpa using this) (by unfold maxLen; omega) (by omega) hs4.out ?_
               intro v5 V5 ho5 hg5 _ _
               obtain ⟨a5, c5, rfl⟩ := owns_slice ho5
               have hk5 := hid (show Kept [] wc V5 from hk4.out.trans' (Kept.of_row hg5) (fun z hz hm => by
                 have hm' : (Value.slice a9 j c9).ownBlock = some z := by simpa using hm
                 have := (HO9.out.lt z hm').1; omega))
               have ho6 := hid (show V5.ownsRow wc.heap.size 34 32 (.slice a5 (j + 1) c5) (j + 1) ((es2.take (j + 1)).flatMap fun e => e32 e.id) from by
                 rw [List.take_add_one, HF.out, List.flatMap_append]
                 simpa using ho5)
               clear ho5 hg5 hnew ho4 hs4 hk4
               go_wp2
               go_roundw
               case rel => exact ⟨j + 1, a5, c5, by omega, by go_num, rfl, hk5, ho6⟩
               case measure => simp [intOf]; omega
             · obtain rfl : m = j := by omega
               have hf9 : (es2.take m).flatMap (fun e => e32 e.id) = ((datE es2).map (·.1)).flatMap e32 := by
                 rw [HM.out, List.take_length]
                 unfold datE
                 rw [List.map_map, List.flatMap_map]
                 rfl
               rw [hf9] at HO9
               have PW := hid (PX.out.keep HK9.out)
               have RKW := hid (HRK.out.keep HK9.out)
               have hdl : (datE es2).length = m := by unfold datE; rw [List.length_map, HM.out]
               have hHP := hid (show ∀ v, Kept [] wr v → PI w v p lm xb (i + 1) from fun v hv => ⟨U2, _, es2, (PW.out.keep hv), HSZ.out, HLL.out, hb2⟩)
               obtain ⟨ms, hms⟩ : ∃ ms : Nat, (ms : Int) = most % 4 := ⟨(most % 4).toNat, by omega⟩
               have hba : bits .and .i64 most 3 = (ms : Int) := by rw [and3, hms]
               have hms3 : ms ≤ 3 := by omega
               have hal1 := hid (fun v (hv : Kept [] wr v) => (show Calls Tryd.prog 18 #[.pointer (some ⟨p, 0, none⟩), .int .i64 1000] v fun e w' => ∃ u, e = .returned u ∧ ∃ aa cc, u = .slice aa m cc ∧ Kept [] v w' ∧ Ids w' aa cc ((datE es2).map (·.1)) from by
                 have h1 := cs_all (PW.out.keep hv).cs (by omega) 1000 (by decide) (by decide)
                 have htk : ((datE es2).map (·.1)).take 1000 = (datE es2).map (·.1) := List.take_of_length_le (by simp; omega)
                 rw [htk, List.length_map, hdl] at h1
                 refine h1.mono ?_
                 rintro e w' ⟨aa, cc, rfl, k, o⟩
                 have h32 : ∀ id ∈ (datE es2).map (·.1), id.length = 32 := fun id hm => by
                   unfold datE at hm
                   rw [List.map_map] at hm
                   obtain ⟨e, he, rfl⟩ := List.mem_map.1 hm
                   exact (HRK.out.th e he).1
                 have h5 := (ids_of_row (W := w') (base := v.heap.size) (a := aa) (c := cc) h32 (by rw [List.length_map, hdl]; exact o)).1
                 exact ⟨_, rfl, aa, cc, rfl, k, h5⟩))
               have hidr := hid (fun v (hv : Kept [] wr v) => (show Ids v a9 c9 ((datE es2).map (·.1)) from by
                 have h32 : ∀ id ∈ (datE es2).map (·.1), id.length = 32 := fun id hm => by
                   unfold datE at hm
                   rw [List.map_map] at hm
                   obtain ⟨e, he, rfl⟩ := List.mem_map.1 hm
                   exact (HRK.out.th e he).1
                 exact (ids_of_row (W := wr) (base := wc.heap.size) (a := a9) (c := c9) h32 (by rw [List.length_map, hdl]; exact HO9.out)).1.kept hv (by simp)))
               have hsam := hid (fun v (hv : Kept [] wr v) aa cc (hI : Ids v aa cc ((datE es2).map (·.1))) => (show Calls Tryd.prog 17 #[.slice aa m cc, .slice a9 m c9] v fun e w' => e = .returned (.bool true) ∧ Kept [] v w' from by
                 have h1 := sameids_any aa a9 cc c9 ((datE es2).map (·.1)) ((datE es2).map (·.1)) v (fun z hz => hI.kept hz (by simp)) (fun z hz => hidr.out z (hv.trans hz))
                 rw [List.length_map, hdl] at h1
                 simpa using h1))
               have hlen := hid (fun v (hv : Kept [] wr v) => (show Calls Tryd.prog 19 #[.pointer (some ⟨p, 0, none⟩)] v fun e w' => e = .returned (.int .i64 (m : Int)) ∧ Kept [] v w' from by
                 have h1 := cs_len (PW.out.keep hv).cs
                 rw [hdl] at h1
                 refine h1.mono ?_
                 rintro e w' ⟨rfl, rfl⟩
                 exact ⟨rfl, Kept.refl _ _⟩))
               obtain ⟨sz, hszz⟩ : ∃ sz, sz = szD (datE es2) := ⟨_, rfl⟩
               have hsiz := hid (fun v (hv : Kept [] wr v) => (show Calls Tryd.prog 20 #[.pointer (some ⟨p, 0, none⟩)] v fun e w' => e = .returned (.int .i64 (sz : Int)) ∧ Kept [] v w' from by
                 have h1 := cs_size (PW.out.keep hv).cs
                 rw [← hszz] at h1
                 refine h1.mono ?_
                 rintro e w' ⟨rfl, rfl⟩
                 exact ⟨rfl, Kept.refl _ _⟩))
               have hrsz := hid (fun v (hv : Kept [] wr v) => (show Calls Tryd.prog 21 #[.agg #[.slice ra2 m rc2, .int .i64 lm]] v fun e w' => e = .returned (.int .i64 (sz : Int)) ∧ Kept [] v w' from by
                 have hr := RKW.out.keep hv
                 rw [HM.out] at hr ⊢
                 rw [hszz]
                 exact rk_size lm hr (by have := HM.out; omega) (by have := HSZ.out; omega)))
               have hldx := hid (fun v (hv : Kept [] wr v) => (show (loadVar 29 ⟨xb, 0, none⟩).run Tryd.prog v = .ok (.agg #[.slice ra2 m rc2, .int .i64 lm]) v from rk_ld v xb (.slice ra2 m rc2) lm (hv.at PW.out.bx (by simp))))
               obtain ⟨mn, hmn⟩ : ∃ mn, mn = min ms m := ⟨_, rfl⟩
               have hal2 := hid (fun v (hv : Kept [] wr v) => (show Calls Tryd.prog 18 #[.pointer (some ⟨p, 0, none⟩), .int .i64 (ms : Int)] v fun e w' => ∃ u, e = .returned u ∧ ∃ aa cc, u = .slice aa mn cc ∧ Kept [] v w' from by
                 by_cases h0 : ms = 0
                 · subst h0
                   refine (all_zero p v).mono ?_
                   rintro e w' ⟨aa, cc, rfl, k⟩
                   have : mn = 0 := by rw [hmn]; simp
                   rw [this]
                   exact ⟨_, rfl, aa, cc, rfl, k⟩
                 · refine (cs_all (PW.out.keep hv).cs (by omega) ms (by omega) (by omega)).mono ?_
                   rintro e w' ⟨aa, cc, rfl, k, _⟩
                   have e1 : (((datE es2).map (·.1)).take ms).length = mn := by rw [List.length_take, List.length_map, hdl, hmn]
                   rw [e1]
                   exact ⟨_, rfl, aa, cc, rfl, k⟩))
               have hmn1 : min (ms : Int) (m : Int) = (mn : Int) := by rw [hmn]; omega
               have HMN := hid hmn
               clear hlj hf9 hdl hms hszz hmn
               go_upto_region 40 with fail
               have hH0 : Kept [] wr wr.drew := (Kept.refl _ wr).drew
               refine wp_region_held_drew (S := fun v => Kept [] wr v) (by kernel_rfl) hH0 (fun hH => ?_)
               refine takeH 0 (.bool true) rfl (by kernel_rfl) (by kernel_rfl) (by kernel_rfl) (fun _ _ _ h => h) (by rfl) (fun v hv => by go_simp) hH ?_
               simp only [Act.put, List.setIfInBounds_toArray, List.set_cons_succ, List.set_cons_zero]
               refine takeH 1 (.bool false) rfl (by kernel_rfl) (by kernel_rfl) (by kernel_rfl) (fun _ _ _ h => h) (by rfl) (fun v hv => by go_simp) hH ?_
               simp only [Act.put, List.setIfInBounds_toArray, List.set_cons_succ, List.set_cons_zero]
               refine takeH 2 (.bool false) rfl (by kernel_rfl) (by kernel_rfl) (by kernel_rfl) (fun _ _ _ h => h) (by rfl) (fun v hv => by go_simp) hH ?_
               simp only [Act.put, List.setIfInBounds_toArray, List.set_cons_succ, List.set_cons_zero]
               refine takeH 3 (.pointer (some ⟨p, 0, none⟩)) rfl (by kernel_rfl) (by kernel_rfl) (by kernel_rfl) (fun _ _ _ h => h) (by rfl) (fun v hv => by go_simp) hH ?_
               simp only [Act.put, List.setIfInBounds_toArray, List.set_cons_succ, List.set_cons_zero]
               refine takeH 5 (.slice a9 m c9) rfl (by kernel_rfl) (by kernel_rfl) (by kernel_rfl) (fun _ _ _ h => h) (by rfl) (fun v hv => by go_simp) hH ?_
               simp only [Act.put, List.setIfInBounds_toArray, List.set_cons_succ, List.set_cons_zero]
               refine callE 4 rfl (by kernel_rfl) (by rfl) 18 #[.pointer (some ⟨p, 0, none⟩), .int .i64 1000] (by go_simp) (fun u w' => ∃ aa cc, u = .slice aa m cc ∧ Kept [] wr.drew w' ∧ Ids w' aa cc ((datE es2).map (·.1))) (fun u w' h => by obtain ⟨_, _, _, h, _⟩ := h; exact hH0.trans h) (hal1.out _ hH0) ?_
               rintro _ v1 ⟨aa, cc, rfl, k1, I1⟩
               simp only [Act.put, List.setIfInBounds_toArray, List.set_cons_succ, List.set_cons_zero]
               have hH1 : Kept [] wr v1 := hH0.trans k1
               refine callR 6 rfl (by kernel_rfl) (by rfl) 17 #[.slice aa m cc, .slice a9 m c9] (by go_simp) (.bool true) (fun v => Kept [] v1 v) (fun v h => hH1.trans h) (hsam.out v1 hH1 aa cc I1) ?_
               rintro v2 k2
               simp only [Act.put, List.setIfInBounds_toArray, List.set_cons_succ, List.set_cons_zero]
               have hH2 : Kept [] wr v2 := hH1.trans k2
               refine takeH 7 (.bool false) rfl (by kernel_rfl) (by kernel_rfl) (by kernel_rfl) (fun _ _ _ h => h) (by rfl) (fun v hv => by go_simp) hH2 ?_
               simp only [Act.put, List.setIfInBounds_toArray, List.set_cons_succ, List.set_cons_zero]
               refine takeH 8 (.bool false) rfl (by kernel_rfl) (by kernel_rfl) (by kernel_rfl) (fun _ _ _ h => h) (by rfl) (fun v hv => by go_simp) hH2 ?_
               simp only [Act.put, List.setIfInBounds_toArray, List.set_cons_succ, List.set_cons_zero]
               refine takeH 9 (.bool false) rfl (by kernel_rfl) (by kernel_rfl) (by kernel_rfl) (fun _ _ _ h => h) (by rfl) (fun v hv => by go_simp) hH2 ?_
               simp only [Act.put, List.setIfInBounds_toArray, List.set_cons_succ, List.set_cons_zero]
               refine takeH 10 (.pointer (some ⟨p, 0, none⟩)) rfl (by kernel_rfl) (by kernel_rfl) (by kernel_rfl) (fun _ _ _ h => h) (by rfl) (fun v hv => by go_simp) hH2 ?_
               simp only [Act.put, List.setIfInBounds_toArray, List.set_cons_succ, List.set_cons_zero]
               refine takeH 12 (.slice a9 m c9) rfl (by kernel_rfl) (by kernel_rfl) (by kernel_rfl) (fun _ _ _ h => h) (by rfl) (fun v hv => by go_simp) hH2 ?_
               simp only [Act.put, List.setIfInBounds_toArray, List.set_cons_succ, List.set_cons_zero]
               refine takeH 13 (.int .i64 m) rfl (by kernel_rfl) (by kernel_rfl) (by kernel_rfl) (fun _ _ _ h => h) (by rfl) (fun v hv => by go_simp) hH2 ?_
               simp only [Act.put, List.setIfInBounds_toArray, List.set_cons_succ, List.set_cons_zero]
               refine callR 11 rfl (by kernel_rfl) (by rfl) 19 #[.pointer (some ⟨p, 0, none⟩)] (by go_simp) (.int .i64 m) (fun v => Kept [] v2 v) (fun v h => hH2.trans h) (hlen.out v2 hH2) ?_
               rintro v3 k3
               simp only [Act.put, List.setIfInBounds_toArray, List.set_cons_succ, List.set_cons_zero]
               have hH3 : Kept [] wr v3 := hH2.trans k3
               refine takeH 14 (.bool false) rfl (by kernel_rfl) (by kernel_rfl) (by kernel_rfl) (fun _ _ _ h => h) (by rfl) (fun v hv => by go_simp) hH3 ?_
               simp only [Act.put, List.setIfInBounds_toArray, List.set_cons_succ, List.set_cons_zero]
               refine takeH 15 (.bool false) rfl (by kernel_rfl) (by kernel_rfl) (by kernel_rfl) (fun _ _ _ h => h) (by rfl) (fun v hv => by go_simp) hH3 ?_
               simp only [Act.put, List.setIfInBounds_toArray, List.set_cons_succ, List.set_cons_zero]
               refine takeH 16 (.bool false) rfl (by kernel_rfl) (by kernel_rfl) (by kernel_rfl) (fun _ _ _ h => h) (by rfl) (fun v hv => by go_simp) hH3 ?_
               simp only [Act.put, List.setIfInBounds_toArray, List.set_cons_succ, List.set_cons_zero]
               refine takeH 17 (.pointer (some ⟨p, 0, none⟩)) rfl (by kernel_rfl) (by kernel_rfl) (by kernel_rfl) (fun _ _ _ h => h) (by rfl) (fun v hv => by go_simp) hH3 ?_
               simp only [Act.put, List.setIfInBounds_toArray, List.set_cons_succ, List.set_cons_zero]
               refine takeH 19 (.agg #[.slice ra2 m rc2, .int .i64 lm]) rfl (by kernel_rfl) (by kernel_rfl) (by kernel_rfl) (fun _ _ _ h => h) (by rfl) (fun v hv => by have h := hldx.out v hv; unfold execOp; simp [Instr.loadAt, Instr.sureAddr, Sem.run_bind, Sem.run_pure, Result.andThen_ok, Act.eval, h]) hH3 ?_
               simp only [Act.put, List.setIfInBounds_toArray, List.set_cons_succ, List.set_cons_zero]
               refine callR 18 rfl (by kernel_rfl) (by rfl) 20 #[.pointer (some ⟨p, 0, none⟩)] (by go_simp) (.int .i64 sz) (fun v => Kept [] v3 v) (fun v h => hH3.trans h) (hsiz.out v3 hH3) ?_
               rintro v4 k4
               simp only [Act.put, List.setIfInBounds_toArray, List.set_cons_succ, List.set_cons_zero]
               have hH4 : Kept [] wr v4 := hH3.trans k4
               refine callR 20 rfl (by kernel_rfl) (by rfl) 21 #[.agg #[.slice ra2 m rc2, .int .i64 lm]] (by go_simp) (.int .i64 sz) (fun v => Kept [] v4 v) (fun v h => hH4.trans h) (hrsz.out v4 hH4) ?_
               rintro v5 k5
               simp only [Act.put, List.setIfInBounds_toArray, List.set_cons_succ, List.set_cons_zero]
               have hH5 : Kept [] wr v5 := hH4.trans k5
               refine takeH 21 (.bool false) rfl (by kernel_rfl) (by kernel_rfl) (by kernel_rfl) (fun _ _ _ h => h) (by rfl) (fun v hv => by go_simp) hH5 ?_
               simp only [Act.put, List.setIfInBounds_toArray, List.set_cons_succ, List.set_cons_zero]
               refine takeH 22 (.bool false) rfl (by kernel_rfl) (by kernel_rfl) (by kernel_rfl) (fun _ _ _ h => h) (by rfl) (fun v hv => by go_simp) hH5 ?_
               simp only [Act.put, List.setIfInBounds_toArray, List.set_cons_succ, List.set_cons_zero]
               refine takeH 23 (.bool false) rfl (by kernel_rfl) (by kernel_rfl) (by kernel_rfl) (fun _ _ _ h => h) (by rfl) (fun v hv => by go_simp) hH5 ?_
               simp only [Act.put, List.setIfInBounds_toArray, List.set_cons_succ, List.set_cons_zero]
               refine takeH 24 (.pointer (some ⟨p, 0, none⟩)) rfl (by kernel_rfl) (by kernel_rfl) (by kernel_rfl) (fun _ _ _ h => h) (by rfl) (fun v hv => by go_simp) hH5 ?_
               simp only [Act.put, List.setIfInBounds_toArray, List.set_cons_succ, List.set_cons_zero]
               refine takeH 25 (.int .i64 most) rfl (by kernel_rfl) (by kernel_rfl) (by kernel_rfl) (fun _ _ _ h => h) (by rfl) (fun v hv => by go_simp) hH5 ?_
               simp only [Act.put, List.setIfInBounds_toArray, List.set_cons_succ, List.set_cons_zero]
               refine takeH 26 (.int .i64 ms) rfl (by kernel_rfl) (by kernel_rfl) (by kernel_rfl) (fun _ _ _ h => h) (by rfl) (fun v hv => by have h := hba; go_simp) hH5 ?_
               simp only [Act.put, List.setIfInBounds_toArray, List.set_cons_succ, List.set_cons_zero]
               refine takeH 29 (.int .i64 most) rfl (by kernel_rfl) (by kernel_rfl) (by kernel_rfl) (fun _ _ _ h => h) (by rfl) (fun v hv => by go_simp) hH5 ?_
               simp only [Act.put, List.setIfInBounds_toArray, List.set_cons_succ, List.set_cons_zero]
               refine takeH 30 (.int .i64 ms) rfl (by kernel_rfl) (by kernel_rfl) (by kernel_rfl) (fun _ _ _ h => h) (by rfl) (fun v hv => by have h := hba; go_simp) hH5 ?_
               simp only [Act.put, List.setIfInBounds_toArray, List.set_cons_succ, List.set_cons_zero]
               refine takeH 31 (.slice a9 m c9) rfl (by kernel_rfl) (by kernel_rfl) (by kernel_rfl) (fun _ _ _ h => h) (by rfl) (fun v hv => by go_simp) hH5 ?_
               simp only [Act.put, List.setIfInBounds_toArray, List.set_cons_succ, List.set_cons_zero]
               refine takeH 32 (.int .i64 m) rfl (by kernel_rfl) (by kernel_rfl) (by kernel_rfl) (fun _ _ _ h => h) (by rfl) (fun v hv => by go_simp) hH5 ?_
               simp only [Act.put, List.setIfInBounds_toArray, List.set_cons_succ, List.set_cons_zero]
               refine takeH 33 (.int .i64 mn) rfl (by kernel_rfl) (by kernel_rfl) (by kernel_rfl) (fun _ _ _ h => h) (by rfl) (fun v hv => by have h := HMN.out; go_simp; split <;> omega) hH5 ?_
               simp only [Act.put, List.setIfInBounds_toArray, List.set_cons_succ, List.set_cons_zero]
               refine callE 27 rfl (by kernel_rfl) (by rfl) 18 #[.pointer (some ⟨p, 0, none⟩), .int .i64 ms] (by go_simp) (fun u w' => ∃ aa cc, u = .slice aa mn cc ∧ Kept [] v5 w') (fun u w' h => by obtain ⟨_, _, _, h⟩ := h; exact hH5.trans h) (hal2.out v5 hH5) ?_
               rintro _ v6 ⟨aa2, cc2, rfl, k6⟩
               simp only [Act.put, List.setIfInBounds_toArray, List.set_cons_succ, List.set_cons_zero]
               have hH6 : Kept [] wr v6 := hH5.trans k6
               refine takeH 28 (.int .i64 mn) rfl (by kernel_rfl) (by kernel_rfl) (by kernel_rfl) (fun _ _ _ h => h) (by rfl) (fun v hv => by go_simp) hH6 ?_
               simp only [Act.put, List.setIfInBounds_toArray, List.set_cons_succ, List.set_cons_zero]
               refine takeH 34 (.bool false) rfl (by kernel_rfl) (by kernel_rfl) (by kernel_rfl) (fun _ _ _ h => h) (by rfl) (fun v hv => by go_simp) hH6 ?_
               simp only [Act.put, List.setIfInBounds_toArray, List.set_cons_succ, List.set_cons_zero]
               refine takeH 35 (.bool false) rfl (by kernel_rfl) (by kernel_rfl) (by kernel_rfl) (fun _ _ _ h => h) (by rfl) (fun v hv => by go_simp) hH6 ?_
               simp only [Act.put, List.setIfInBounds_toArray, List.set_cons_succ, List.set_cons_zero]
               refine wpAnyH_done (by kernel_rfl) ?_ _
               have hN := hid (hHP.out v6 hH6)
               clear hal1 hidr hsam hlen hsiz hrsz hldx hal2 hHP hH0 hH1 hH2 hH3 hH4 hH5 hH6 hH k1 k2 k3 k4 k5 k6 I1 hba hmn1 hms3
               go_wp2
               go_roundw
               case rel => exact ⟨i + 1, by omega, by go_num, hN⟩
               case measure => simp [intOf]; omega
       · obtain rfl : i = n := by omega
         have hk := hid PCR.out.cs.kept
         clear hlt
         go_wp2
         go_ret
         exact ⟨rfl, hk.out⟩
  · rw [decide_eq_false hfew] at hfw
    clear hn
    go_enter Tryd.func3, Tryd.ntmps3
    go_wp2_with fail
    refine hal.out.mono ?_
    rintro e w1 ⟨rfl, k1⟩
    have hfw1 := hid (hfw.out w1 k1)
    have K1 := hid k1
    clear k1 hal hfw
    go_wp2_with fail
    refine hfw1.out.mono ?_
    rintro e w2 ⟨rfl, k2⟩
    have K2 := hid (K1.out.trans k2)
    clear k2 hfw1
    go_wp2
    go_ret
    exact ⟨rfl, K2.out⟩
end Go.Proofs.YtmkdjonlfkfnlaaDoor
