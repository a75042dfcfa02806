/- coldstorelaw02.CodeLefts's closure, walked. -/
import Derived.Test.YtohmmkceffmipabCA
namespace Go.Proofs.Ytohmmkceffmipab
open Go.RowKit Go.Lib

theorem lefts_end (rb g0 pg pd pl : Nat) (a : Option Addr) (bs : List UInt8) (w wr : World) (b : Option Addr) (cb : Nat) (a1 : Option Addr) (c1 : Nat) (got rest : List UInt8) (hgr : got ++ rest = bs) (hkw : Kept [rb, g0, pg, pd] w wr)
    (hg : wr.heap[pg]? = some (.cells #[.slice b got.length cb] 25 (0, 0))) (how : wr.ownsRow g0 5 1 (.slice b got.length cb) got.length (got.map B)) (hbo : ∀ x, b = some x → x.block = g0 ∨ w.heap.size ≤ x.block)
    (hrd : Rd wr rb a1 c1 rest) (hab : ∀ x, a1 = some x → ∃ y, a = some y ∧ x.block = y.block) (hd : wr.heap[pd]? = some (.cells #[.bool true] 4 (0, 0))) (hl : w.heap[pl]? = some (.cells #[.int .i64 0] 3 (0, 0)))
    (ho : pg = g0 + 1 ∧ pd = g0 + 2 ∧ pl = g0 + 3 ∧ pl < rb) (hax : ∀ x, a = some x → pl < x.block ∧ x.block < w.heap.size) :
    ReadOn rb a [g0, pg, pd, pl] w (LeftsQ g0 pg pd pl bs) 0 (wr.setCell ⟨pl, 0, none⟩ (.int .i64 (rest.length : Nat))) := by
  have hkS : Kept [pl] wr (wr.setCell ⟨pl, 0, none⟩ (.int .i64 (rest.length : Nat))) := (Kept.refl _ _).setCell (p := ⟨pl, 0, none⟩) (fun _ => by simp) _
  have hl1 := hkw.at hl (by simp; omega)
  have hll := lt_of_block hl
  refine ⟨a1, c1, rest, hrd.kept hkS (by simp; omega) (fun x hx => ?_), (hkw.wider (T := [rb, g0, pg, pd, pl]) (fun x _ hx => by simp at hx; rcases hx with hx | hx | hx | hx <;> simp [hx])).trans' hkS (fun x _ hx => by simp at hx; simp [hx]), hab,
    rfl, b, cb, got, hgr, hkS.at hg (by simp; omega), hkS.owns how (fun g hgb hm => ?_), hkS.at hd (by simp; omega), one_setCell hl1⟩
  · obtain ⟨y, hy, hxy⟩ := hab x hx
    have := hax y hy
    simp; omega
  · simp at hm
    cases b with
    | none => simp [Value.ownBlock] at hgb
    | some z =>
      simp [Value.ownBlock] at hgb
      rcases hbo z rfl with h | h <;> omega

theorem lefts_step (rb g0 pg pd pl : Nat) (a : Option Addr) (bs : List UInt8) (w wr w1 w2 : World) (b : Option Addr) (cb : Nat) (a1 : Option Addr) (c1 : Nat) (got rest : List UInt8) (N : Nat) (b2 : Option Addr) (c2 : Nat) (hgr : got ++ rest = bs) (hkw : Kept [rb, g0, pg, pd] w wr)
    (hbo : ∀ x, b = some x → x.block = g0 ∨ w.heap.size ≤ x.block) (hab : ∀ x, a1 = some x → ∃ y, a = some y ∧ x.block = y.block) (hd : wr.heap[pd]? = some (.cells #[.bool true] 4 (0, 0)))
    (ho : pg = g0 + 1 ∧ pd = g0 + 2 ∧ pl = g0 + 3 ∧ pl < rb) (hrb : rb < w.heap.size) (hax : ∀ x, a = some x → pl < x.block ∧ x.block < w.heap.size) (hle : N ≤ rest.length)
    (hk1 : Kept [rb] wr.drew w1) (hr1 : Rd w1 rb (behind a1 c1 N) (c1 - N) (rest.drop N)) (hown2 : w2.ownsRow g0 5 1 (.slice b2 (got.length + N) c2) (got.length + N) (got.map B ++ (rest.take N).map B))
    (hgrow : w1.grownBy w2 (Value.slice b got.length cb).ownBlock) (hf2 : ∀ g, (Value.slice b2 (got.length + N) c2).ownBlock = some g → (Value.slice b got.length cb).ownBlock = some g ∨ w1.heap.size ≤ g)
    (hg2 : w2.heap[pg]? = some (.cells #[.slice b got.length cb] 25 (0, 0))) :
    Rd (w2.setCell ⟨pg, 0, none⟩ (.slice b2 (got.length + N) c2)) rb (behind a1 c1 N) (c1 - N) (rest.drop N) ∧ (w2.setCell ⟨pg, 0, none⟩ (.slice b2 (got.length + N) c2)).heap[pd]? = some (.cells #[.bool true] 4 (0, 0)) ∧
    LeftsAt rb g0 pg pd a bs w ((w2.setCell ⟨pg, 0, none⟩ (.slice b2 (got.length + N) c2)).setCell ⟨pd, 0, none⟩ (.bool true)) := by
  have s0 := hkw.size
  have s1 : wr.heap.size ≤ w1.heap.size := hk1.size
  have s2 := hgrow.size
  have hown : ∀ g, (Value.slice b got.length cb).ownBlock = some g → g = g0 ∨ w.heap.size ≤ g := fun g hg => by
    cases b with
    | none => simp [Value.ownBlock] at hg
    | some z => simp [Value.ownBlock] at hg; subst hg; exact hbo z rfl
  have hown' : ∀ g, (Value.slice b2 (got.length + N) c2).ownBlock = some g → g = g0 ∨ w.heap.size ≤ g := fun g hg => by
    rcases hf2 g hg with h | h
    · exact hown g h
    · exact Or.inr (by omega)
  have habb : ∀ x, behind a1 c1 N = some x → pl < x.block ∧ x.block < w.heap.size := fun x hx => by
    obtain ⟨y, hy, h1⟩ := behind_block x hx
    obtain ⟨z, hz, h2⟩ := hab y hy
    have := hax z hz
    omega
  have hkr : Kept (Value.slice b got.length cb).ownBlock.toList w1 w2 := Kept.of_row hgrow
  have hr2 := hr1.kept hkr (fun hm => by simp at hm; have := hown rb hm; omega) (fun x hx hm => by simp at hm; have := hown _ hm; have := habb x hx; omega)
  have hkg : Kept [pg] w2 (w2.setCell ⟨pg, 0, none⟩ (.slice b2 (got.length + N) c2)) := (Kept.refl _ _).setCell (p := ⟨pg, 0, none⟩) (fun _ => by simp) _
  have hr3 := hr2.kept hkg (by simp; omega) (fun x hx => by have := habb x hx; simp; omega)
  have hd1 : w1.heap[pd]? = some (.cells #[.bool true] 4 (0, 0)) := hk1.at (k := pd) hd (by simp; omega)
  have hd2 := hkr.at hd1 (fun hm => by simp at hm; have := hown pd hm; omega)
  have hd3 := hkg.at hd2 (by simp; omega)
  have hg3 := one_setCell (u := .slice b2 (got.length + N) c2) hg2
  have ho3 := ownsRow_setCell_other hown2 (a := ⟨pg, 0, none⟩) (fun e => by have := hown' pg e; omega) (.slice b2 (got.length + N) c2)
  have hk3 : Kept [rb, g0, pg, pd] w (w2.setCell ⟨pg, 0, none⟩ (.slice b2 (got.length + N) c2)) := ((hkw.drew.trans' hk1 (fun x _ hx => by simp at hx; simp [hx])).trans' hkr (fun x hlt hm => by
    simp at hm
    rcases hown x hm with h | h
    · simp [h]
    · omega)).trans' hkg (fun x _ hx => by simp at hx; simp [hx])
  have hkd : Kept [pd] (w2.setCell ⟨pg, 0, none⟩ (.slice b2 (got.length + N) c2)) ((w2.setCell ⟨pg, 0, none⟩ (.slice b2 (got.length + N) c2)).setCell ⟨pd, 0, none⟩ (.bool true)) := (Kept.refl _ _).setCell (p := ⟨pd, 0, none⟩) (fun _ => by simp) _
  have hl : (got ++ rest.take N).length = got.length + N := by simp; omega
  refine ⟨hr3, hd3, b2, c2, behind a1 c1 N, c1 - N, got ++ rest.take N, rest.drop N, by rw [List.append_assoc, List.take_append_drop, hgr], hk3.trans' hkd (fun x _ hx => by simp at hx; simp [hx]), ?_, ?_, fun x hx => ?_, hr3.kept hkd (by simp; omega) (fun x hx => by have := habb x hx; simp; omega), fun x hx => ?_, one_setCell hd3⟩
  · rw [hl]; exact hkd.at hg3 (by simp; omega)
  · rw [hl, List.map_append]; exact hkd.owns ho3 (fun g hg hm => by simp at hm; have := hown' g hg; omega)
  · exact hown' _ (by rw [hx]; rfl)
  · obtain ⟨y, hy, h1⟩ := behind_block x hx
    obtain ⟨z, hz, h2⟩ := hab y hy
    exact ⟨z, hz, h1.trans h2⟩

set_option maxHeartbeats 1000000 in
theorem lefts1 (rb pz g0 pg pd pl : Nat) (a az : Option Addr) (c lz cz : Nat) (bs : List UInt8) (zs : List Int) (w : World) (h : Rd w rb a c bs) (hlb : bs.length ≤ 200) (hlz : lz ≤ 40)
    (hpz : w.heap[pz]? = some (.cells #[.slice az lz cz] 47 (0, 0))) (hpg : w.heap[pg]? = some (.cells #[.slice (some ⟨g0, 0, none⟩) 0 0] 25 (0, 0))) (hpd : w.heap[pd]? = some (.cells #[.bool true] 4 (0, 0))) (hpl : w.heap[pl]? = some (.cells #[.int .i64 0] 3 (0, 0)))
    (hown : w.ownsRow g0 5 1 (.slice (some ⟨g0, 0, none⟩) 0 0) 0 []) (ho : pz < g0 ∧ pg = g0 + 1 ∧ pd = g0 + 2 ∧ pl = g0 + 3 ∧ pl < rb) (hax : ∀ x, a = some x → pl < x.block ∧ x.block < w.heap.size)
    (hnil : az = none → lz = 0) (hcell : ∀ x, az = some x → ∀ i, i < lz → x.block < g0 ∧ w.cell? (x.add i) = some (.int .i64 (zs[i]?.getD 0))) :
    Calls Try.prog 23 #[.pointer (some ⟨rb, 0, none⟩), .pointer (some ⟨pz, 0, none⟩), .pointer (some ⟨pg, 0, none⟩), .pointer (some ⟨pd, 0, none⟩), .pointer (some ⟨pl, 0, none⟩)] w
      (Threw (ReadOn rb a [g0, pg, pd, pl] w (LeftsQ g0 pg pd pl bs))) := by
  have gz := cell_of_one hpz
  have lrb := lt_of_block h.here
  have hat0 := hid (show LeftsAt rb g0 pg pd a bs w w from ⟨_, 0, a, c, [], bs, rfl, Kept.refl _ _, hpg, by simpa using hown, fun x hx => by simp at hx; subst hx; exact Or.inl rfl, h, fun x hx => ⟨x, hx, rfl⟩, hpd⟩)
  have HO := hid ho; have HAX := hid hax; have HN := hid hnil; have HC := hid hcell; have Hpl := hid hpl; have Hlb := hid hlb; have Hrb := hid lrb
  clear h hpz hpg hpd hpl hown ho hax hnil hcell hlb lrb
  go_enter Try.func23, Try.ntmps23
  go_wp2_with fail
  go_loopw [11] (fun s wr => ∃ i : Nat, i ≤ lz ∧ s = .int .i64 i ∧ LeftsAt rb g0 pg pd a bs w wr) (fun s _ => lz - (intOf s).toNat)
  case atStart => exact ⟨0, Nat.zero_le _, rfl, hat0.out⟩
  case round =>
    obtain ⟨i, hi, rfl, hat⟩ := hrel
    have HAt := hid hat
    clear hat
    by_cases hlt : i < lz
    · cases az with
      | none => exact absurd (HN.out rfl) (by omega)
      | some x =>
        obtain ⟨b, cb, a1, c1, got, rest, hgr, hkw, hg, how, hbo, hrd, hab, hd⟩ := HAt.out
        obtain ⟨hx, hxc⟩ := HC.out x rfl i hlt
        have gx : wr.cell? (x.add i) = some (.int .i64 (zs[i]?.getD 0)) := (hkw.cell (p := x.add i) (by have := HO.out; have := Hrb.out; rw [add_block]; omega) (by have := HO.out; rw [add_block]; simp; omega)).trans hxc
        have hl1 := hid (left_any' rb a1 c1 rest wr hrd)
        obtain ⟨N, hN, hN31⟩ : ∃ N : Nat, (zs[i]?.getD 0) % 32 = (N : Int) ∧ N ≤ 31 := ⟨((zs[i]?.getD 0) % 32).toNat, by omega, by omega⟩
        have hand := (i64_and31 (zs[i]?.getD 0)).trans hN
        have Hgr := hid hgr; have Hkw := hid hkw; have Hg := hid hg; have How := hid how; have Hbo := hid hbo; have Hrd := hid hrd; have Hab := hid hab; have Hd := hid hd
        clear hgr hkw hg how hbo hrd hab hd hx hxc hN HAt
        go_wp2_with fail
        refine hl1.out.mono ?_
        rintro e w1 ⟨rfl, rfl⟩
        by_cases hbr : rest.length < N
        · have hbr' : (rest.length : Int) < (N : Int) := by omega
          clear hbr
          have hend := hid (lefts_end rb g0 pg pd pl a bs w wr b cb a1 c1 got rest Hgr.out Hkw.out Hg.out How.out Hbo.out Hrd.out Hab.out Hd.out Hpl.out ⟨HO.out.2.1, HO.out.2.2.1, HO.out.2.2.2.1, HO.out.2.2.2.2⟩ HAX.out)
          have hplw := Hkw.out.at Hpl.out (by have := HO.out; simp; omega)
          have gpl := cell_of_one hplw
          have gpf := free_of_one hplw
          clear hplw
          go_wp2_with fail
          refine hl1.out.mono ?_
          rintro e w1 ⟨rfl, rfl⟩
          go_wp2
          go_end0
          exact Or.inl ⟨rfl, hend.out⟩
        · have hbr' : ¬ (rest.length : Int) < (N : Int) := by omega
          have hle : N ≤ rest.length := by omega
          have gpg := cell_of_one Hg.out
          have gpgf := free_of_one Hg.out
          have lpg := lt_of_block Hg.out
          have hraw := hid (raw_ok rb a1 c1 rest N N (by omega) hle wr.drew (Hrd.out.kept (Kept.of_drew [] wr) (by simp) (by simp)))
          have hvne : (Value.slice b got.length cb).ownBlock ≠ some pg := fun e => by
            cases b with
            | none => simp [Value.ownBlock] at e
            | some z =>
              have := HO.out; have := Hrb.out
              simp [Value.ownBlock] at e
              rcases Hbo.out z rfl with h | h <;> omega
          have hvnr : ∀ g, (Value.slice b got.length cb).ownBlock = some g → g ∉ [rb] := fun g e => by
            cases b with
            | none => simp [Value.ownBlock] at e
            | some z =>
              have := HO.out; have := Hrb.out
              simp [Value.ownBlock] at e
              simp
              rcases Hbo.out z rfl with h | h <;> omega
          have HV := hid hvne; have HVR := hid hvnr
          have hgl := hid (show got.length ≤ 200 from by have h8 := congrArg List.length Hgr.out; have h9 := Hlb.out; simp at h8; omega)
          have hrl : (rest.length : Int) ≤ 200 := by have h8 := congrArg List.length Hgr.out; have h9 := Hlb.out; simp at h8; omega
          have hpgrb := hid (show pg ≠ rb from by have := HO.out; omega)
          clear hbr hvne hvnr
          have Hsrc := hid (show Src (nextW wr.drew rb a1 c1 rest N) (.slice a1 N N) N ((rest.take N).map B) from by
            have h9 := (Hrd.out.kept (Kept.of_drew [] wr) (by simp) (by simp)).read (m := N) hle (next_kept wr.drew rb a1 c1 rest N) (fun x hx => by simpa using (Hrd.out.src x hx).1)
            unfold SrcB at h9
            rw [List.length_take, Nat.min_eq_left hle] at h9
            exact h9)
          have hg0 := hid (show g0 < wr.heap.size from by have := HO.out; omega)
          obtain ⟨i0, hi0, hz0, hz1, hz2⟩ := info_parts info_u8
          go_wp2_with fail
          go_region_law
            ((first
              | (refine step_call rfl 16 #[.pointer (some ⟨rb, 0, none⟩), .int .i64 N] (by go_simp) (fun v w' => v = .slice a1 N N ∧ nextW wr.drew rb a1 c1 rest N = w') (hraw.out.mono fun e w' h => ⟨_, h.1, rfl, h.2⟩) ?_
                 rintro _ w1 ⟨rfl, hw1⟩
                 have hk1 := hid (show Kept [rb] wr.drew w1 from hw1 ▸ next_kept wr.drew rb a1 c1 rest N)
                 have hr1 := hid (show Rd w1 rb (behind a1 c1 N) (c1 - N) (rest.drop N) from hw1 ▸ (Hrd.out.kept (Kept.of_drew [] wr) (by simp) (by simp)).next hle)
                 have hsr1 := hid (show Src w1 (.slice a1 N N) N ((rest.take N).map B) from hw1 ▸ Hsrc.out)
                 have gw1 : w1.cell? ⟨pg, 0, none⟩ = some (.slice b got.length cb) := (Kept.cell hk1.out (p := ⟨pg, 0, none⟩) lpg (by simpa using hpgrb.out)).trans gpg
                 have hg1 := hid (hk1.out.at (k := pg) Hg.out (by simpa using hpgrb.out))
                 clear hw1)
              | (refine step_append_src (by rfl) _ _ _ (by rfl) g0 5 i0 _ 1 Try.underlying25 hi0 hz0 hz1 hz2 rfl (.slice b got.length cb) got.length (got.map B) (by rfl) (hk1.out.owns ((Kept.of_drew [] wr).owns How.out (by simp)) HVR.out)
                  (.slice a1 N N) N ((rest.take N).map B) (by rfl) hsr1.out (by simp; omega) (B_oneCell _) (by have := hgl.out; unfold maxLen; omega) (by have := hgl.out; omega) (by have h9 : wr.heap.size ≤ w1.heap.size := hk1.out.size; have := hg0.out; omega) ?_
                 intro b2 c2 w2 hown2 hgrow hf2
                 have hg2 := heap_grown hgrow hg1.out HV.out
                 have hcz := cell_of_one hg2
                 have hfz := free_of_one hg2)))
          all_goals
            obtain ⟨hr3, hd3, hat3⟩ := lefts_step rb g0 pg pd pl a bs w wr w1 w2 b cb a1 c1 got rest N b2 c2 Hgr.out Hkw.out Hbo.out Hab.out Hd.out ⟨HO.out.2.1, HO.out.2.2.1, HO.out.2.2.2.1, HO.out.2.2.2.2⟩ Hrb.out HAX.out hle hk1.out hr1.out hown2 hgrow hf2 hg2
            have hl3 := hid (left_any' rb _ _ _ _ hr3)
            have gd3 := cell_of_one hd3
            have gdf := free_of_one hd3
            have Hat3 := hid hat3
            have hsub : ((rest.drop N).length : Int) = (rest.length : Int) - (N : Int) := by simp; omega
            rw [hsub] at hl3
            clear hr3 hd3 hat3 hcz hfz hg2 hown2 hgrow hf2 gw1 hsub
            generalize w2.setCell ⟨pg, 0, none⟩ (.slice b2 (got.length + N) c2) = W3 at *
            go_wp2_with fail
            refine hl3.out.mono ?_
            rintro e w4 ⟨rfl, rfl⟩
            go_wp2
            go_roundw
            case rel => exact ⟨i + 1, by omega, by go_num, Hat3.out⟩
            case measure => simp [intOf]; omega
    · have hin : i = lz := by omega
      subst hin
      obtain ⟨b, cb, a1, c1, got, rest, hgr, hkw, hg, how, hbo, hrd, hab, hd⟩ := HAt.out
      have hl1 := hid (left_any' rb a1 c1 rest wr hrd)
      have hend := hid (lefts_end rb g0 pg pd pl a bs w wr b cb a1 c1 got rest hgr hkw hg how hbo hrd hab hd Hpl.out ⟨HO.out.2.1, HO.out.2.2.1, HO.out.2.2.2.1, HO.out.2.2.2.2⟩ HAX.out)
      have hplw := hkw.at Hpl.out (by have := HO.out; simp; omega)
      have gpl := cell_of_one hplw
      have gpf := free_of_one hplw
      clear hplw hgr hkw hg how hbo hrd hab hd
      go_wp2_with fail
      refine hl1.out.mono ?_
      rintro e w1 ⟨rfl, rfl⟩
      go_wp2
      go_end0
      exact Or.inl ⟨rfl, hend.out⟩
end Go.Proofs.Ytohmmkceffmipab
