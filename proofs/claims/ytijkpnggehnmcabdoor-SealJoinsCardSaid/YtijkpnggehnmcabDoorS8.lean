/- seal.Unchain's closure. -/
import Derived.Test.YtijkpnggehnmcabDoorS7
import Derived.WalkSpells
import Derived.Deep.LoopGhost
import Derived.Deep.QuietTactic
import Derived.BigQuiet
import Derived.Deep.RegionHeld3
import Derived.RegionDies
namespace Go.Proofs.YtijkpnggehnmcabDoor
open Go.RowKit Go.Lib

theorem info_sl : (Tryd.prog.info? 22).map (fun i => (i.zero, i.size, i.bytes)) = some (some (.slice none 0 0), 1, 24) := by kernel_rfl

set_option maxHeartbeats 2000000 in
theorem unchain1 (w0 : World) (rb pr pl : Nat) (a : Option Addr) (c : Nat) (xs0 : List UInt8) (W : World) (h : Rd W rb a c xs0) (ht : Tab w0) (hk0 : Kept [] w0 W) (hge : w0.heap.size ≤ rb ∧ w0.heap.size ≤ pr ∧ w0.heap.size ≤ pl) (hne : pr ≠ rb ∧ pl ≠ rb ∧ pr ≠ pl)
    (hpr : ∃ ar cr, W.heap[pr]? = some (.cells #[.slice ar xs0.length cr] 22 (0, 0)) ∧ ∀ W', Kept [] w0 W' → BSl W' ar cr xs0) (hpl : W.heap[pl]? = some (.cells #[.slice none 0 0] 35 (0, 0)))
    (hax : ∀ x, a = some x → Mid w0 W rb pr pl x.block) (hlen : xs0.length ≤ 500000000) :
    Calls Tryd.prog 34 #[.pointer (some ⟨rb, 0, none⟩), .pointer (some ⟨pr, 0, none⟩), .pointer (some ⟨pl, 0, none⟩)] W (Threw (ReadOn rb a [pr, pl] W (fun _ _ W' => UcQ w0 pr pl xs0 W'))) := by
  have lrb := hid (lt_of_block h.here)
  have lpl := hid (lt_of_block hpl)
  have lpr := hid (show pr < W.heap.size from by obtain ⟨ar, cr, h1, _⟩ := hpr; exact lt_of_block h1)
  have hat0 := hid (show UcAt w0 W rb pr pl a xs0 xs0 W from ⟨a, c, Kept.refl _ _, h, fun x hx => ⟨x, hx, rfl⟩, [], by simp, fun rows rest hu => by simpa using hu, hpr, _, [], hpl, World.ownsRow_nil _ _ _ 1, RowsAt.nil _ _⟩)
  have Ht := hid ht; have Hk0 := hid hk0; have Hge := hid hge; have Hne := hid hne; have Hax := hid hax
  clear h ht hk0 hge hne hpr hpl hax
  go_enter Tryd.func34, Tryd.ntmps34
  go_wp2_with fail
  go_loopg [4] xs0.length (fun g s4 wr => ∃ xs : List UInt8, g = xs.length ∧ UcAt w0 W rb pr pl a xs0 xs wr)
  case atStart => exact ⟨xs0, rfl, hat0.out⟩
  case round =>
    obtain ⟨xs, hg, a1, c1, hkw, hrd, hab, hst⟩ := hrel
    have Hg := hid hg; have Hkw := hid hkw; have Hrd := hid hrd; have Hab := hid hab; have Hst := hid hst
    have hleft := hid (left_any' rb a1 c1 xs wr hrd)
    have Hstop := hid (fun (w' : World) (hk : Kept [rb] wr w') (hs : row1 xs = none) => (hst.kept lrb.out ⟨Hne.out.1, Hne.out.2.1⟩ hk).stop Hk0.out.size ⟨lpr.out, lpl.out⟩ hs)
    have hxl : xs.length ≤ 500000000 := by obtain ⟨_, h1, _⟩ := hst; omega
    have hpw := hid (show Kept [rb, pr, pl] wr wr from Kept.refl _ _)
    clear hg hkw hrd hab hst
    by_cases h0 : xs.length = 0
    · have hR := hid (show ReadOn rb a [pr, pl] W (fun _ _ W' => UcQ w0 pr pl xs0 W') 0 wr from ⟨a1, c1, xs, Hrd.out, Hkw.out, Hab.out, Hstop.out wr (Kept.refl _ _) (row1_short xs (by omega))⟩)
      go_wp2_with fail
      refine hleft.out.mono ?_
      rintro e w1 ⟨rfl, rfl⟩
      have hz : (xs.length : Int) ≤ 0 := by omega
      go_wp2
      go_end0
      exact Or.inl ⟨rfl, hR.out⟩
    · have hz : 0 < (xs.length : Int) := by omega
      by_cases h4 : 4 + said xs ≤ xs.length
      · obtain ⟨s, hs⟩ : ∃ s, s = said xs := ⟨_, rfl⟩
        have hkw0 := hid (show Kept [] w0 wr from Hk0.out.trans' Hkw.out (fun x hx hm => by have := Hge.out; simp at hm; omega))
        have hbok := rbytes_ok rb a1 c1 xs (xs.length : Int) (by omega) h4 wr Hrd.out
        have hr1 := Hrd.out.next (m := 4 + said xs) h4
        have hk1 := next_kept wr rb a1 c1 xs (4 + said xs)
        obtain ⟨W1, hW1⟩ : ∃ W1, W1 = nextW wr rb a1 c1 xs (4 + said xs) := ⟨_, rfl⟩
        rw [← hW1] at hbok hr1 hk1
        rw [← hs] at hbok hr1 h4
        obtain ⟨done, hdl, hun, ⟨ar, cr, hprw, hbsl⟩, v, vals, hplw, hown, hrows⟩ := Hst.out
        obtain ⟨va, vc, rfl⟩ := owns_slice hown
        obtain ⟨N, hN⟩ : ∃ N, N = xs.length := ⟨_, rfl⟩
        obtain ⟨L, hL⟩ : ∃ L, L + (4 + s) = N := ⟨N - (4 + s), by omega⟩
        have hpr1 := hk1.at hprw (by simpa using Hne.out.1)
        have hpl1 := hk1.at hplw (by simpa using Hne.out.2.1)
        have hLl : (xs.drop (4 + s)).length = L := by simp; omega
        have hleft1 := hid (fun n => (show Calls Tryd.prog 24 #[.pointer (some ⟨rb, 0, none⟩)] (W1.drewN n) (fun e w' => e = .returned (.int .i64 (L : Int)) ∧ w' = W1.drewN n) from
          (left_any' rb _ _ _ (W1.drewN n) (hr1.kept ((Kept.refl [] W1).drewN n) (by simp) (by simp))).mono fun e w' h => ⟨by rw [h.1, hLl], h.2.symm⟩))
        rw [← hN] at hbok hleft hz hpr1 hxl h4
        have hcap := (hbsl wr hkw0.out).le
        have hcapm := (hbsl wr hkw0.out).max
        unfold maxLen at hcapm
        have hsm : ∃ x, ar = some x := by
          cases ar with
          | none => have := (hbsl wr hkw0.out).nil rfl; omega
          | some x => exact ⟨x, rfl⟩
        obtain ⟨x, rfl⟩ := hsm
        rw [← hN] at hcap
        have hscap : 4 + (s : Int) ≤ (cr : Int) := by omega
        have gpr1 := cell_of_one hpr1
        have hsub : (N : Int) - (L : Int) = 4 + (s : Int) := by omega
        have Hbok := hid hbok; have Hr1 := hid hr1; have Hk1 := hid hk1; have Hs := hid hs; have HN := hid hN; have HLl := hid hLl; have Hpr1 := hid hpr1; have Hpl1 := hid hpl1
        have Hhun := hid hun; have Hbsl := hid hbsl; have Hown := hid hown; have Hrows := hid hrows; have Hdl := hid hdl; have HL := hid hL
        clear hbok hr1 hk1 hs hN hLl hpr1 hpl1 hun hbsl hown hrows hdl hprw hplw hW1 h0 hL
        go_wp2_with fail
        refine hleft.out.mono ?_
        rintro e w1 ⟨rfl, rfl⟩
        go_wp2_with fail
        refine hleft.out.mono ?_
        rintro e w1 ⟨rfl, rfl⟩
        go_wp2_with fail
        refine Hbok.out.mono ?_
        rintro e w1 ⟨rfl, rfl⟩
        go_wp2_with fail
        go_quiet ((go_at_call 24; exact Calls.quiet_of_same (hleft1.out _)))
        go_wp2_with fail
        have hkd := hid (show Kept [rb] wr (W1.drewN nq).drew from (Hk1.out.drewN nq).drew)
        have hrd2 := hid (Hr1.out.kept (((Kept.refl [] W1).drewN nq).drew) (by simp) (by simp))
        have gprd : (W1.drewN nq).cell? ⟨pr, 0, none⟩ = some (.slice (some x) N cr) := gpr1
        have hprd := hid (((Kept.refl [] W1).drewN nq).drew.at Hpr1.out (by simp))
        have hpld := hid (((Kept.refl [] W1).drewN nq).drew.at Hpl1.out (by simp))
        generalize W1.drewN nq = Wd at *
        clear gpr1 hleft1 Hbok
        by_cases h8 : 8 + s ≤ N
        · have hL4 : 4 ≤ L := by have := HL.out; omega
          have hn := rnum_ok rb _ _ (xs.drop (4 + s)) 4 (by rw [sz4, HLl.out]; exact hL4) Wd.drew hrd2.out
          rw [sz4] at hn
          have hrd3 := hrd2.out.next (m := 4) (by rw [HLl.out]; exact hL4)
          have hk3 := next_kept Wd.drew rb (behind a1 c1 (4 + s)) (c1 - (4 + s)) (xs.drop (4 + s)) 4
          obtain ⟨W2, hW2⟩ : ∃ W2, W2 = nextW Wd.drew rb (behind a1 c1 (4 + s)) (c1 - (4 + s)) (xs.drop (4 + s)) 4 := ⟨_, rfl⟩
          rw [← hW2] at hn hrd3 hk3
          have hk32 := hid (hkd.out.trans hk3)
          have hpr2 := hid (hk3.at hprd.out (by simpa using Hne.out.1))
          have hpl2 := hid (hk3.at hpld.out (by simpa using Hne.out.2.1))
          have gpr2 := cell_of_one hpr2.out
          have hk02 := hid (show Kept [] w0 W2 from hkw0.out.trans' hk32.out (fun y hy hm => by have := Hge.out; simp at hm; omega))
          have hsum := sum_any (.slice (some x) (4 + s) cr) (xs.take (4 + s)) W2 ((Hbsl.out W2 hk02.out).take (by rw [← HN.out]; omega)) (Ht.out.kept hk02.out (by simp)) (by simp; omega)
          have hfield := hid (Hrd.out.readField (n := s) (by rw [← HN.out]; exact h4) hk32.out (fun y hy => by simpa using (Hrd.out.src y hy).1))
          have Hrd3 := hid hrd3
          have hab3 := hid (show ∀ y, behind (behind a1 c1 (4 + s)) (c1 - (4 + s)) 4 = some y → ∃ z, a = some z ∧ y.block = z.block from fun y hy => by
            obtain ⟨z, hz, h1⟩ := behind_block y hy
            obtain ⟨z1, hz1, h2⟩ := behind_block z hz
            obtain ⟨z2, hz2, h3⟩ := Hab.out z1 hz1
            exact ⟨z2, hz2, h1.trans (h2.trans h3)⟩)
          have hzl : numOf ((xs.drop (4 + s)).take 4) < 4294967296 := by
            have h1 := numOf_lt ((xs.drop (4 + s)).take 4)
            have h2 : ((xs.drop (4 + s)).take 4).length = 4 := by rw [List.length_take, HLl.out]; omega
            rw [h2] at h1
            omega
          have hrow := hid (show (numOf ((xs.drop (4 + s)).take 4) ≠ (Crc.sum (xs.take (4 + s))).toNat → row1 xs = none) ∧ (numOf ((xs.drop (4 + s)).take 4) = (Crc.sum (xs.take (4 + s))).toNat → row1 xs = some ((xs.drop 4).take s)) from by
            unfold row1
            rw [← Hs.out, ← HN.out]
            exact ⟨fun h => if_neg (fun hh => h hh.2), fun h => if_pos ⟨h8, h⟩⟩)
          have hcl := (Crc.sum (xs.take (4 + s))).isLt
          have hs0 : 0 ≤ 4 + (s : Int) := by omega
          have hst4 : (4 + (s : Int)).toNat = 4 + s := by omega
          clear hW2 hrd3 hk3
          have hn := hid hn
          have hsum := hid hsum
          generalize numOf ((xs.drop (4 + s)).take 4) = z at *
          generalize (Crc.sum (xs.take (4 + s))).toNat = cs at *
          by_cases hzc : z = cs
          · have hzt : (IntKind.u32.wrap (z : Int) == (cs : Int)) = true := by rw [IntKind.wrap_u32]; simp; omega
            have hr1 := hid (hrow.out.2 hzc)
            have gprdd : Wd.drew.cell? ⟨pr, 0, none⟩ = some (.slice (some x) N cr) := gprd
            clear hzc
            go_region_held3 (fun w' => w'.cell? ⟨pr, 0, none⟩ = some (.slice (some x) N cr)) (first | exact gpr2 | exact gprdd)
              (first | (go_at_call 26; refine hn.out.mono ?_; rintro e w' ⟨rfl, rfl⟩) | (go_at_call 13; refine hsum.out.mono ?_; rintro e w' ⟨rfl, rfl⟩) | (go_at_call 25; refine (want_ok 36 _).mono ?_; rintro e w' ⟨rfl, rfl⟩))
            obtain ⟨i0, hi0, hz0, hz1, hz2⟩ := info_parts info_sl
            have gpl2 := cell_of_one hpl2.out
            have gpf2 := free_of_one hpr2.out
            have hownA := hid (((Kept.refl [] W2).alloc (.cells #[.slice (behind a1 (4 + s) 4) s s] 22)).owns (hk32.out.owns Hown.out (fun g hg => by have := (own_block_ge Hown.out g hg).1; have := lrb.out; simp; omega)) (by simp))
            go_wp2_with (at_builtin; refine halt ?_)
            refine Halt.mk ?_
            refine wpList_append_src _ rfl _ _ _ rfl W.heap.size 22 i0 _ 24 Tryd.underlying35 hi0 hz0 hz1 hz2 rfl (.slice va done.length vc) done.length vals rfl hownA.out _ 1 [.slice (behind a1 (4 + s) 4) s s] rfl (Or.inr ⟨_, _, rfl, cell_one_new _ _ _⟩) rfl (by simp [Value.oneCell']) ?_ ?_ ?_ ?_
            · have := Hdl.out; unfold maxLen; omega
            · have := Hdl.out; omega
            · have := hk32.out.size; have := Hkw.out.size; simp; omega
            intro v2 w2 hown2 hgrow2 _ hf2
            obtain ⟨a2, c2, rfl⟩ := owns_slice hown2
            have hnew : ∀ g, (Value.slice va done.length vc).ownBlock = some g → W.heap.size ≤ g := fun g hg => (own_block_ge Hown.out g hg).1
            have hgk := hid (show Kept ((Value.slice va done.length vc).ownBlock.toList) W2 w2 from ((Kept.refl _ W2).alloc _).trans (Kept.of_row hgrow2))
            have hnp : ∀ k, k < W.heap.size → k ∉ (Value.slice va done.length vc).ownBlock.toList := fun k hk hm => by
              simp at hm
              have := hnew k hm
              omega
            have hplw2 := hid (hgk.out.at hpl2.out (hnp pl lpl.out))
            have hprw2 := hid (hgk.out.at hpr2.out (hnp pr lpr.out))
            have gplw2 := cell_of_one hplw2.out
            have gplf2 := free_of_one hplw2.out
            have gprw2 := cell_of_one hprw2.out
            have gprf2 := free_of_one hprw2.out
            have hnpp : pr ≠ pl := Hne.out.2.2
            have hnx := hid (fun (y : Nat) (hy : Mid w0 W rb pr pl y) => hnp y hy.2.2)
            have hgv := hid (fun (g : Nat) (hg : (Value.slice va done.length vc).ownBlock = some g) => hnew g hg)
            have hfin := hid (fun (V2 : Value) (hV2 : V2 = .slice (behind (some x) cr (8 + s)) (N - (8 + s)) (cr - (8 + s))) => show UcAt w0 W rb pr pl a xs0 (xs.drop (8 + s)) ((w2.setCell ⟨pl, 0, none⟩ (.slice a2 (done.length + 1) c2)).setCell ⟨pr, 0, none⟩ V2) from by
              subst hV2
              have hkS : Kept [rb, pr, pl] w2 ((w2.setCell ⟨pl, 0, none⟩ (.slice a2 (done.length + 1) c2)).setCell ⟨pr, 0, none⟩ (.slice (behind (some x) cr (8 + s)) (N - (8 + s)) (cr - (8 + s)))) := ((Kept.refl _ _).setCell (p := ⟨pl, 0, none⟩) (fun _ => by simp) _).setCell (p := ⟨pr, 0, none⟩) (fun _ => by simp) _
              have hkS2 : Kept [pr, pl] w2 ((w2.setCell ⟨pl, 0, none⟩ (.slice a2 (done.length + 1) c2)).setCell ⟨pr, 0, none⟩ (.slice (behind (some x) cr (8 + s)) (N - (8 + s)) (cr - (8 + s)))) := ((Kept.refl _ _).setCell (p := ⟨pl, 0, none⟩) (fun _ => by simp) _).setCell (p := ⟨pr, 0, none⟩) (fun _ => by simp) _
              have hdd : List.drop 4 (List.drop (4 + s) xs) = xs.drop (8 + s) := by rw [List.drop_drop]; congr 1; omega
              have hrd4 := Hrd3.out
              rw [hdd] at hrd4
              have hne := Hne.out
              have hmid : ∀ y, behind (behind a1 c1 (4 + s)) (c1 - (4 + s)) 4 = some y → Mid w0 W rb pr pl y.block := fun y hy => by
                obtain ⟨z, hz, h1⟩ := hab3.out y hy
                rw [h1]; exact Hax.out z hz
              have hf0 : SrcB W2 (.slice (behind a1 (4 + s) 4) s s) ((xs.drop 4).take s) := hfield.out
              have hfl : ((xs.drop 4).take s).length = s := by have := HN.out; simp; omega
              have hmid1 : ∀ y, behind a1 (4 + s) 4 = some y → Mid w0 W rb pr pl y.block := fun y hy => by
                obtain ⟨z, hz, h1⟩ := behind_block y hy
                obtain ⟨z2, hz2, h2⟩ := Hab.out z hz
                rw [h1, h2]; exact Hax.out z2 hz2
              have hby0 : Bys W2 (behind a1 (4 + s) 4) s ((xs.drop 4).take s) := ⟨by rw [hfl]; exact hf0, behind_plain Hrd.out.plain⟩
              have hrw : RowsAt (Mid w0 W rb pr pl) W2 vals done := Hrows.out.kept hk32.out (fun y hy hp => by simp at hy; subst hy; exact hp.2.1 (by simp))
              have hsn := ((hrw.kept hgk.out (fun y hy hp => hnx.out y hp hy)).snoc (hby0.kept hgk.out (fun y hy => hnx.out _ (hmid1 y hy))) hmid1).kept hkS (fun y hy hp => hp.2.1 hy)
              rw [hfl] at hsn
              refine ⟨_, _, ((Hkw.out.trans' hk32.out (fun y _ hm => by simp at hm; simp [hm])).trans' hgk.out (fun y hy hm => by simp at hm; have := hgv.out y hm; omega)).trans hkS, (hrd4.kept hgk.out (fun hm => by simp at hm; have := hgv.out rb hm; have := lrb.out; omega) (fun y hy => hnx.out _ (hmid y hy))).kept hkS2 (by simp; omega) (fun y hy hm => (hmid y hy).2.1 (List.mem_cons_of_mem _ hm)), hab3.out, ?_⟩
              have hs' := Hs.out
              have hmore := UcSt.more (w' := ((w2.setCell ⟨pl, 0, none⟩ (.slice a2 (done.length + 1) c2)).setCell ⟨pr, 0, none⟩ (.slice (behind (some x) cr (8 + s)) (N - (8 + s)) (cr - (8 + s))))) hr1.out Hdl.out Hhun.out (by rw [← hs', ← HN.out]; exact one_setCell (heap_setCell_other hprw2.out (by simpa using hnpp))) Hbsl.out (heap_setCell_other (one_setCell hplw2.out) (by simpa using fun h => hnpp h.symm)) (ownsRow_setCell_other (a := ⟨pr, 0, none⟩) (ownsRow_setCell_other (a := ⟨pl, 0, none⟩) hown2 ?_ _) ?_ _) hsn
              · rw [← hs'] at hmore; exact hmore
              · intro h; have := (own_block_ge hown2 pl h).1; have := lpl.out; omega
              · intro h; have := (own_block_ge hown2 pr h).1; have := lpr.out; omega)
            have Hown2 := hid hown2
            clear hown2 hgrow2 hf2 hnew hnp gpl2 gpf2 gpr2 gprdd gprd hownA
            have hst8 : (4 + (s : Int) + 4).toNat = 8 + s := by omega
            have hs8 : 4 + (s : Int) + 4 ≤ (N : Int) := by omega
            by_cases hcm : cr = 8 + s
            · subst hcm
              go_wp2_with fail
              go_roundg (xs.drop (8 + s)).length
              case measure => have := Hg.out; have := HN.out; simp; omega
              case rel => exact ⟨_, rfl, hfin.out (.slice (some x) 0 0) (by rw [show N - (8 + s) = 0 by omega]; simp [behind])⟩
            · go_wp2_with fail
              go_roundg (xs.drop (8 + s)).length
              case measure => have := Hg.out; have := HN.out; simp; omega
              case rel => exact ⟨_, rfl, hfin.out _ (by simp [behind, hcm])⟩
          · have hzf : (IntKind.u32.wrap (z : Int) == (cs : Int)) = false := by rw [IntKind.wrap_u32]; simp; omega
            have hR := hid (show ReadOn rb a [pr, pl] W (fun _ _ W' => UcQ w0 pr pl xs0 W') 36 W2 from ⟨_, _, _, Hrd3.out, Hkw.out.trans' hk32.out (fun x _ hm => by simp at hm; simp [hm]), hab3.out, Hstop.out _ hk32.out (hrow.out.1 hzc)⟩)
            have hzc := hid hzc
            refine wp_region_any (by kernel_rfl) ?_
            change wpAny _ _ _ _ _ _ _ (World.drew _)
            refine wpAny_take (i := 0) (v := ?_) rfl (by kernel_rfl) (by kernel_rfl) (by kernel_rfl) (fun _ _ _ h => h) (Or.inl ⟨by rfl, ?_⟩) ?_
            rotate_left
            · intro w
              go_simp
              all_goals (with_reducible rfl)
            refine wpAny_take (i := 4) (v := ?_) rfl (by kernel_rfl) (by kernel_rfl) (by kernel_rfl) (fun _ _ _ h => h) (Or.inl ⟨by rfl, ?_⟩) ?_
            rotate_left
            · intro w
              go_simp
              all_goals (with_reducible rfl)
            refine wpAny_ready (rs := [1, 3]) (by kernel_rfl) (by simp) ?_
            refine AllReady.cons rfl (fun K hK => ?_) (AllReady.cons rfl (fun K hK => ?_) AllReady.nil)
            · go_simp
              refine hn.out.mono ?_
              rintro e w1 ⟨rfl, rfl⟩
              refine hK _ _ ?_
              clear hK K
              refine wpAny_take (i := 2) (v := ?_) rfl (by kernel_rfl) (by kernel_rfl) (by kernel_rfl) (fun _ _ _ h => h) (Or.inl ⟨by rfl, ?_⟩) ?_
              rotate_left
              · intro w
                go_simp
                all_goals (with_reducible rfl)
              refine wpAny_ready (rs := [3]) (by kernel_rfl) (by simp) ?_
              refine AllReady.cons rfl (fun K hK => ?_) AllReady.nil
              go_simp
              refine hK _ _ ?_
              clear hK K
              refine wpAny_take (i := 5) (v := ?_) rfl (by kernel_rfl) (by kernel_rfl) (by kernel_rfl) (fun _ _ _ h => h) (Or.inl ⟨by rfl, ?_⟩) ?_
              rotate_left
              · intro w
                go_simp
                all_goals (with_reducible rfl)
              refine wpAny_ready (rs := [6]) (by kernel_rfl) (by simp) ?_
              refine AllReady.cons rfl (fun K hK => ?_) AllReady.nil
              go_simp
              refine hsum.out.mono ?_
              rintro e w1 ⟨rfl, rfl⟩
              refine hK _ _ ?_
              clear hK K
              refine wpAny_take (i := 7) (v := ?_) rfl (by kernel_rfl) (by kernel_rfl) (by kernel_rfl) (fun _ _ _ h => h) (Or.inl ⟨by rfl, ?_⟩) ?_
              rotate_left
              · intro w
                go_simp
                all_goals (with_reducible rfl)
              refine wpAny_ready (rs := [8]) (by kernel_rfl) (by simp) ?_
              refine AllReady.cons rfl (fun K hK => ?_) AllReady.nil
              go_simp
              refine (want_err 36 (by decide) _).mono ?_
              rintro e w1 ⟨⟨older, rfl, hcalm⟩, rfl⟩
              exact ⟨rfl, Or.inr ⟨36, ⟨older, rfl, hcalm⟩, hR.out⟩⟩
            · go_simp
              refine hK _ _ ?_
              clear hK K
              refine wpAny_take (i := 5) (v := ?_) rfl (by kernel_rfl) (by kernel_rfl) (by kernel_rfl) (fun _ _ _ h => h) (Or.inl ⟨by rfl, ?_⟩) ?_
              rotate_left
              · intro w
                go_simp
                all_goals (with_reducible rfl)
              refine wpAny_ready (rs := [1]) (by kernel_rfl) (by simp) ?_
              refine AllReady.cons rfl (fun K hK => ?_) AllReady.nil
              go_simp
              refine hn.out.mono ?_
              rintro e w1 ⟨rfl, rfl⟩
              refine hK _ _ ?_
              clear hK K
              refine wpAny_take (i := 2) (v := ?_) rfl (by kernel_rfl) (by kernel_rfl) (by kernel_rfl) (fun _ _ _ h => h) (Or.inl ⟨by rfl, ?_⟩) ?_
              rotate_left
              · intro w
                go_simp
                all_goals (with_reducible rfl)
              refine wpAny_ready (rs := [6]) (by kernel_rfl) (by simp) ?_
              refine AllReady.cons rfl (fun K hK => ?_) AllReady.nil
              go_simp
              refine hsum.out.mono ?_
              rintro e w1 ⟨rfl, rfl⟩
              refine hK _ _ ?_
              clear hK K
              refine wpAny_take (i := 7) (v := ?_) rfl (by kernel_rfl) (by kernel_rfl) (by kernel_rfl) (fun _ _ _ h => h) (Or.inl ⟨by rfl, ?_⟩) ?_
              rotate_left
              · intro w
                go_simp
                all_goals (with_reducible rfl)
              refine wpAny_ready (rs := [8]) (by kernel_rfl) (by simp) ?_
              refine AllReady.cons rfl (fun K hK => ?_) AllReady.nil
              go_simp
              refine (want_err 36 (by decide) _).mono ?_
              rintro e w1 ⟨⟨older, rfl, hcalm⟩, rfl⟩
              exact ⟨rfl, Or.inr ⟨36, ⟨older, rfl, hcalm⟩, hR.out⟩⟩
        · have hns := hid (rnum_short rb _ _ (xs.drop (4 + s)) 4 (by rw [sz4, HLl.out]; have := HL.out; omega) Wd.drew hrd2.out)
          have hR := hid (show ReadOn rb a [pr, pl] W (fun _ _ W' => UcQ w0 pr pl xs0 W') 20 Wd.drew from ⟨_, _, _, hrd2.out, Hkw.out.trans' hkd.out (fun x _ hm => by simp at hm; simp [hm]), fun y hy => by
            obtain ⟨z, hz, h1⟩ := behind_block y hy
            obtain ⟨z2, hz2, h2⟩ := Hab.out z hz
            exact ⟨z2, hz2, h1.trans h2⟩, Hstop.out _ hkd.out (row1_err xs (by rw [← Hs.out, ← HN.out]; exact h8))⟩)
          go_region_dies
          all_goals refine hns.out.mono ?_
          all_goals rintro e w1 ⟨⟨older, rfl, hcalm⟩, rfl⟩
          all_goals exact ⟨rfl, Or.inr ⟨20, ⟨older, rfl, hcalm⟩, hR.out⟩⟩
      · have hb := hid (rbytes_any rb a1 c1 xs (xs.length : Int) wr Hrd.out)
        have hne4 := hid h4
        clear h4
        go_wp2_with fail
        refine hleft.out.mono ?_
        rintro e w1 ⟨rfl, rfl⟩
        go_wp2_with fail
        refine hleft.out.mono ?_
        rintro e w1 ⟨rfl, rfl⟩
        go_wp2_with fail
        refine hb.out.mono ?_
        rintro e w1 (⟨_, h1, _⟩ | ⟨_, ⟨older, rfl, hcalm⟩, rfl⟩)
        · exact absurd h1 hne4.out
        · exact ⟨rfl, Or.inr ⟨_, ⟨older, rfl, hcalm⟩, a1, c1, xs, Hrd.out, Hkw.out, Hab.out, Hstop.out wr (Kept.refl _ _) (row1_err xs (by have := hne4.out; omega))⟩⟩
end Go.Proofs.YtijkpnggehnmcabDoor
