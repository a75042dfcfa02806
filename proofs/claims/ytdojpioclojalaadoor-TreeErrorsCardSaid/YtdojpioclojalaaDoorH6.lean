import Derived.Test.YtdojpioclojalaaDoorH5

/- sha.Hash.Write: in whichever parts bytes come. -/
namespace Go.Proofs.YtdojpioclojalaaDoor
open Go.RowKit

/-- Where the writing stands: i of ys are written; the rest lies at a. -/
def WrAt (p : Nat) (w : World) (xs ys : List UInt8) (i : Nat) (a : Option Addr) (wr : World) : Prop :=
  Kept [p] w wr ∧ Hs1 wr p (xs ++ ys.take i) ∧ Reads wr a (ys.drop i) ∧ (ys.drop i ≠ [] → ∀ x, a = some x → x.block ≠ p)

theorem hash_slice (p r : Nat) (hr : r < 64) (W : World) : (Instr.sliceAt 126 (.pointer (some ⟨p, 8, none⟩)) (some (.int .i64 (r : Int))) none none).run Tryd.prog W = .ok (.slice (some ⟨p, 8 + r, none⟩) (64 - r) (64 - r)) W := by
  have hal : Tryd.prog.arrayLen 126 = 64 := by simp [Program.arrayLen, Tryd.underlying126]
  rw [run_sliceAt_array_l W 126 ⟨p, 8, none⟩ (by simp [Program.arrayLen, Program.elem, Tryd.underlying126]) .i64 (r : Int) (by omega) (by rw [hal]; omega)]
  rw [hal]
  have e4 : ¬ 64 = r := by omega
  go_simp

theorem plain_add (g o j : Nat) : (⟨g, o, none⟩ : Addr).add j = ⟨g, o + j, none⟩ := by unfold Addr.add; split <;> simp_all
theorem start_cells {w : World} (ht : Tabs w) : ∀ (j : Nat) v, (stL Sha.first)[j]? = some v → w.cell? ((⟨1, 0, none⟩ : Addr).add j) = some v := by
  intro j v hj
  have h8 : j < 8 := (List.getElem?_eq_some_iff.1 hj).1
  rw [plain_add, Nat.zero_add, ht.1 j h8]
  rw [← hj]
  rcases j with _ | _ | _ | _ | _ | _ | _ | _ | j <;> first | rfl | omega
theorem stOf_nil : Sha.stOf [] = Sha.first := rfl
theorem state_cells {w : World} {p : Nat} {s : Sha.St} {bl : List UInt8} {n : Nat} (h : w.heap[p]? = some (.cells (hL s bl n).toArray 128 (0, 0))) : ∀ (j : Nat) v, (stL s)[j]? = some v → w.cell? ((⟨p, 0, none⟩ : Addr).add j) = some v := by
  intro j v hj
  rw [plain_add, Nat.zero_add, cell_of_row w _ _ _ _ _ h]
  simpa using hL_st s bl n j v hj
theorem block_cells {w : World} {p : Nat} {s : Sha.St} {bl : List UInt8} {n : Nat} (h : w.heap[p]? = some (.cells (hL s bl n).toArray 128 (0, 0))) : ∀ (j : Nat) v, (bl.map B)[j]? = some v → w.cell? ((⟨p, 8, none⟩ : Addr).add j) = some v := by
  intro j v hj
  rw [plain_add, cell_of_row w _ _ _ _ _ h]
  simpa using hL_bl s bl n j v hj
theorem info8 : (Tryd.prog.info? 125).map (·.size) = some 8 := by kernel_rfl
theorem info64 : (Tryd.prog.info? 126).map (·.size) = some 64 := by kernel_rfl

def sliceLen : Value → Nat
  | .slice _ n _ => n
  | _ => 0

theorem WrAt.next {p : Nat} {w wr wf : World} {xs ys : List UInt8} {i k : Nat} {ad ad' : Addr} (h : WrAt p w xs ys i (some ad) wr) (hk : Kept [p] wr wf) (hle : i + k ≤ ys.length)
    (h1 : Hs1 wf p (xs ++ ys.take i ++ (ys.drop i).take k)) (had : k < ys.length - i → ad' = ad.add k) (hbk : ad'.block = ad.block) : WrAt p w xs ys (i + k) (some ad') wf := by
  obtain ⟨h2, _, h4, h5⟩ := h
  have hdd : ∀ {j}, j < (ys.drop (i + k)).length → ys.drop i ≠ [] := fun hj e => by have := congrArg List.length e; simp at this hj; omega
  refine ⟨h2.trans hk, ?_, ⟨fun h => by simp at h, fun x hx j u hj => ?_⟩, fun hnn x hx => by
    simp at hx; subst hx; rw [hbk]
    exact h5 (hdd (j := 0) (List.length_pos_iff.2 hnn)) ad rfl⟩
  · rw [List.take_add, ← List.append_assoc]; exact h1
  · simp at hx
    subst hx
    have hjl := (List.getElem?_eq_some_iff.1 hj).1
    have hne := h5 (hdd (by simpa using hjl)) ad rfl
    simp at hjl
    rw [had (by omega), sha_add_add]
    have hj2 : ((ys.drop i).map B)[k + j]? = some u := by
      rw [List.getElem?_map, List.getElem?_drop] at hj ⊢
      rw [← hj, Nat.add_assoc]
    have hc := h4.2 ad rfl (k + j) u hj2
    have hl := World.block_lt_of_cell? wr _ hc
    exact (hk.cell hl (by rw [add_block]; simpa using hne)).trans hc

theorem hs1_part {W : World} {p : Nat} {X cy bl : List UInt8} {L r k : Nat} (heL : L = X.length) (her : r = L % 64) (hcy : cy.length = k) (hrk : r + k < 64) (hbl : bl.length = 64) (htk : bl.take r = X.drop (64 * (L / 64)))
    (hB : W.heap[p]? = some (.cells (hL (Sha.stOf X) (splice bl r cy) (L + k)).toArray 128 (0, 0))) : Hs1 W p (X ++ cy) := by
  subst heL her hcy
  obtain ⟨h1, h2⟩ := more_part X cy bl hbl htk hrk
  exact ⟨_, by rw [h1, List.length_append]; exact hB, by rw [length_splice _ _ _ (by omega)]; exact hbl, h2⟩
theorem hs1_whole {W : World} {p : Nat} {X cy bl : List UInt8} {L r k : Nat} (heL : L = X.length) (her : r = L % 64) (hcy : cy.length = k) (hrk : r + k = 64) (hbl : bl.length = 64) (htk : bl.take r = X.drop (64 * (L / 64)))
    (hB : W.heap[p]? = some (.cells (hL (Sha.mix (Sha.stOf X) (splice bl r cy)) (splice bl r cy) (L + k)).toArray 128 (0, 0))) : Hs1 W p (X ++ cy) := by
  subst heL her hcy
  obtain ⟨h1, h2, h3⟩ := more_whole X cy bl hbl htk hrk
  exact ⟨_, by rw [← h1, List.length_append]; exact hB, h2, h3⟩

theorem mix_st (s : Sha.St) (b : List UInt8) (hb : b.length = 64) (w : World) (ht : Tabs w) :
    Calls Tryd.prog 98 #[.agg (stL s).toArray, .agg (b.map B).toArray] w fun e w' => e = .returned (.agg (stL (Sha.mix s b)).toArray) ∧ Kept [] w w' := mix_any s b hb w ht

set_option maxRecDepth 100000 in
set_option maxHeartbeats 4000000 in
theorem write_any (p : Nat) (a : Option Addr) (c : Nat) (xs ys : List UInt8) (w : World) (h : Hs w p xs) (ht : Tabs w) (hp : 3 < p) (hy : Reads w a ys) (ha : ys ≠ [] → ∀ x, a = some x → x.block ≠ p) (hc : ys.length ≤ c) (hc2 : c ≤ 9223372036854775807) (hlen : xs.length + ys.length ≤ 1000000000) :
    Calls Tryd.prog 85 #[.pointer (some ⟨p, 0, none⟩), .slice a ys.length c] w fun e w' => e = .returned (.tuple #[]) ∧ Kept [p] w w' ∧ Hs1 w' p (xs ++ ys) := by
  obtain ⟨s, bl, hb, hbl, hst, htk⟩ := h
  have gn : w.cell? ⟨p, 72, none⟩ = some (.int .i64 (xs.length : Int)) := (cell_of_row w _ _ _ _ _ hb).trans (by simpa using hL_n s bl xs.length hbl)
  have Hb := hid hb
  have Ht := hid ht; have Hy := hid hy; have Ha := hid ha; have Hst := hid hst; have Htk := hid htk
  clear hb ht hy ha hst htk
  go_enter Tryd.func85, Tryd.ntmps85
  by_cases hx : xs = []
  case' pos =>
    have hsc := hid (start_cells Ht.out)
    have hx0 : (xs.length : Int) = 0 := by rw [hx]; rfl
    have hx2 := hid hx
    clear hx
    go_wp2_with (first
      | (refine wpList_load_cells rfl 125 (.global 1) rfl ⟨1, 0, none⟩ rfl (stL Sha.first) _ Tryd.underlying125 rfl info8 hsc.out ?_)
      | (refine wpList_store_at rfl 125 (.tmp 13) (.tmp 11) rfl p 0 (stL Sha.first) rfl rfl 128 (hL s bl xs.length) Hb.out info8 ?c1 (stL_one _) ?_))
    case c1 => rw [hL_len _ _ _ hbl]; decide
    rw [hL_state]
    obtain ⟨W0, hW0⟩ : ∃ W0 : World, W0 = w.setRow p (hL Sha.first bl xs.length).toArray := ⟨_, rfl⟩
    have H0 : Hid (WrAt p w xs ys 0 a W0) := hid (by
      have hk : Kept [p] w W0 := by rw [hW0]; exact (Kept.refl _ _).setRow (fun _ => by simp) _
      refine ⟨hk, ⟨bl, ?_, hbl, by simpa using Htk.out⟩, Hy.out.kept hk (by simpa using Ha.out), Ha.out⟩
      rw [hW0, List.take_zero, List.append_nil, hx2.out, stOf_nil]
      have := setRow_heap w p _ (hL Sha.first bl xs.length).toArray _ _ Hb.out
      rw [hx2.out] at this
      exact this)
    rw [← hW0]
    simp only [Act.put]
    clear hW0 hsc gn hx0
  case' neg =>
    have hx0 : (xs.length : Int) ≠ 0 := by simpa using hx
    have H0 : Hid (WrAt p w xs ys 0 a w) := hid (by
      exact ⟨Kept.refl _ _, ⟨bl, by rw [List.take_zero, List.append_nil, ← Hst.out hx]; exact Hb.out, hbl, by simpa using Htk.out⟩, Hy.out, Ha.out⟩)
    have hx1 : ((xs.length : Int) == 0) = false := by simpa using hx
    go_wp2_with fail
    clear gn hx1 hx0 hx
  all_goals
    go_loopw [1] (fun sl wr => ∃ (i : Nat) (a' : Option Addr) (c' : Nat), i ≤ ys.length ∧ sl = .slice a' (ys.length - i) c' ∧ ys.length - i ≤ c' ∧ c' ≤ 9223372036854775807 ∧ Hid (WrAt p w xs ys i a' wr)) (fun sl _ => sliceLen sl)
    case atStart => exact ⟨0, a, c, by omega, rfl, hc, hc2, H0⟩
    case round =>
      obtain ⟨i, a', c', hi, rfl, hc', hcm, hw⟩ := hrel
      by_cases hlt : i < ys.length
      · obtain ⟨hk0, ⟨bl1, hb1, hbl1, htk1⟩, hr1, hne1⟩ := hw.out
        obtain ⟨ad, rfl⟩ : ∃ ad, a' = some ad := by
          cases a' with
          | none => have := congrArg List.length (hr1.1 rfl); simp at this; omega
          | some ad => exact ⟨ad, rfl⟩
        obtain ⟨X, hX⟩ : ∃ X, X = xs ++ ys.take i := ⟨_, rfl⟩
        have hXl : X.length = xs.length + i := by rw [hX]; simp; omega
        rw [← hX] at hb1 htk1
        obtain ⟨L, heL⟩ : ∃ L, L = X.length := ⟨_, rfl⟩
        obtain ⟨r, hr⟩ : ∃ r, r = L % 64 := ⟨_, rfl⟩
        obtain ⟨m, hm⟩ : ∃ m, m = ys.length - i := ⟨_, rfl⟩
        obtain ⟨k, hkk⟩ : ∃ k, k = min (64 - r) m := ⟨_, rfl⟩
        have hrl : r < 64 := by omega
        have hkm : k ≤ m := by omega
        have hk1 : 1 ≤ k := by omega
        have hrk : r + k ≤ 64 := by omega
        obtain ⟨cy, hcy⟩ : ∃ cy, cy = (ys.drop i).take k := ⟨_, rfl⟩
        have hcyl : cy.length = k := by rw [hcy]; simp; omega
        obtain ⟨cv, hcv⟩ : ∃ cv, cv = cy.map B := ⟨_, rfl⟩
        have hcvl : cv.length = k := by rw [hcv]; simpa using hcyl
        have hsrc : ∀ (j : Nat) v, cv[j]? = some v → wr.drew.cell? (ad.add j) = some v := fun j v hj => hr1.2 ad rfl j v (by
          rw [hcv, hcy, List.getElem?_map, List.getElem?_take] at hj
          split at hj
          · rw [List.getElem?_map]; exact hj
          · simp at hj)
        have hcone : ∀ v ∈ cv, v.oneCell' = true := by rw [hcv]; exact B_one cy
        rw [← heL] at hb1 htk1
        rw [← hr] at htk1
        have gn : wr.cell? ⟨p, 72, none⟩ = some (.int .i64 (L : Int)) := (cell_of_row wr _ _ _ _ _ hb1).trans (by simpa using hL_n (Sha.stOf X) bl1 L hbl1)
        have hmod : (L : Int).tmod 64 = (r : Int) := by rw [hr, Int.tmod_eq_emod_of_nonneg (by omega)]; omega
        have hsl := fun W => hash_slice p r hrl W
        have hn : cv.length = Nat.min m (64 - r) := by rw [hcvl, hkk]; exact Nat.min_comm _ _
        have hfit : 8 + r + cv.length ≤ (hL (Sha.stOf X) bl1 L).toArray.size := by rw [hcvl]; simp [hL_len _ _ _ hbl1]; omega
        have i0 : (0 : Int) ≤ (r : Int) := by omega
        have i1 : (r : Int) ≤ 64 := by omega
        rw [← hm] at hc' ⊢
        have Hsrc := hid hsrc; have Hone := hid hcone; have Hn := hid hn; have Hfit := hid hfit; have Hb1 := hid hb1; have Htk1 := hid htk1
        have Hcvl := hid hcvl; have Hcyl := hid hcyl; have Hcy := hid hcy; have Hcv := hid hcv; have HX := hid hX; have HXl := hid hXl; have HL := hid heL; have Hr := hid hr; have Hm := hid hm; have Hkk := hid hkk; have Hk0 := hid hk0
        have hml : 0 < m := by omega
        have hLb : L + k ≤ 1000000000 := by omega
        clear hsrc hcone hn hfit hb1 htk1 hcvl hcyl hcy hcv hX hXl heL hr hm hkk hk0 hr1 hne1
        go_wp2_with fail
        refine wp_region_still_tail 10 (by kernel_rfl) (by kernel_rfl) ?_
        simp only [List.take_succ_cons, List.take_zero, List.drop_succ_cons, List.drop_zero]
        change wpStill _ _ wr.drew _ _ _
        repeat still_step
        refine wpStill_nil ?_
        change wpList _ _ _ _ _ wr.drew
        clear hmod hsl
        refine wpList_copy_own rfl (.tmp 25) (.tmp 26) 23 23 rfl 5 Tryd.underlying23 (by kernel_rfl) p (8 + r) (64 - r) (64 - r) ad m c' rfl rfl (hL (Sha.stOf X) bl1 L).toArray 128 Hb1.out cv Hn.out Hsrc.out Hfit.out Hone.out ?_
        obtain ⟨bl2, hbl2⟩ : ∃ bl2, bl2 = splice bl1 r cy := ⟨_, rfl⟩
        have hl2 : bl2.length = 64 := by rw [hbl2, length_splice _ _ _ (by rw [Hcyl.out]; omega)]; exact hbl1
        obtain ⟨W1, hW1⟩ : ∃ W1 : World, W1 = wr.drew.setRow p ((hL (Sha.stOf X) bl1 L).toArray.toList.take (8 + r) ++ (cv ++ (hL (Sha.stOf X) bl1 L).toArray.toList.drop (8 + r + cv.length))).toArray := ⟨_, rfl⟩
        have hB1 : W1.heap[p]? = some (.cells (hL (Sha.stOf X) bl2 L).toArray 128 (0, 0)) := by
          rw [hW1, setRow_heap wr.drew p _ _ _ _ Hb1.out, hbl2, ← hL_copy _ _ _ _ _ (by rw [Hcyl.out]; omega), ← Hcv.out]
          rfl
        have hK1 : Kept [p] wr W1 := by rw [hW1]; exact (Kept.refl _ _).drew.setRow (fun _ => by simp) _
        rw [← hW1]
        rw [Hcvl.out]
        have gn1 : W1.cell? ⟨p, 72, none⟩ = some (.int .i64 (L : Int)) := (cell_of_row W1 _ _ _ _ _ hB1).trans (by simpa using hL_n (Sha.stOf X) bl2 L hl2)
        have gf1 : W1.frozen? ⟨p, 72, none⟩ = false := frozen_of_row W1 p 72 _ _ hB1
        obtain ⟨ad', hs1, hs2, hs3⟩ := slice_rest ad m c' k hkm hc'
        have hB2 : (W1.setCell ⟨p, 72, none⟩ (.int .i64 ((L + k : Nat) : Int))).heap[p]? = some (.cells (hL (Sha.stOf X) bl2 (L + k)).toArray 128 (0, 0)) := by
          rw [Go.heap_setCell_same W1 p 72 _ _ _ hB1]
          congr 2
          simp [← hL_set _ _ L (L + k) hl2]
        have hK2 : Kept [p] wr (W1.setCell ⟨p, 72, none⟩ (.int .i64 ((L + k : Nat) : Int))) := hK1.setCell (fun _ => by simp) _
        have g2 : (W1.setCell ⟨p, 72, none⟩ (.int .i64 ((L + k : Nat) : Int))).cell? ⟨p, 72, none⟩ = some (.int .i64 ((L + k : Nat) : Int)) := (cell_of_row _ _ _ _ _ _ hB2).trans (by simpa using hL_n (Sha.stOf X) bl2 (L + k) hl2)
        have HB2 := hid hB2; have HK2 := hid hK2; have Hs2 := hid hs2; have Hs3 := hid hs3; have Hbl2 := hid hbl2; have G2 := hid g2
        have ecast : ((L + k : Nat) : Int) = (L : Int) + (k : Int) := by omega
        clear hB1 hK1 hW1 hB2 hK2 hs2 hs3 hbl2 g2 gn Hsrc Hone Hn Hfit Hb1
        rw [ecast] at HB2 HK2 G2
        have hres : m - k = ys.length - (i + k) := by have := Hm.out; omega
        have Hres := hid hres
        clear hres ecast
        by_cases hwh : r + k = 64
        · have e64 : ((L : Int) + (k : Int)) % 64 = 0 := by have := Hr.out; omega
          go_wp2_with fail
          obtain ⟨W2, hW2⟩ : ∃ W2 : World, W2 = W1.setCell ⟨p, 72, none⟩ (.int .i64 ((L : Int) + (k : Int))) := ⟨_, rfl⟩
          have hB2 := HB2.out
          have hK2 := HK2.out
          rw [← hW2] at hB2 hK2 ⊢
          clear hW2 HB2 HK2 G2 gn1 gf1 hs1
          have Hsc := hid (state_cells (w := W2.drew) hB2)
          have Hbc := hid (block_cells (w := W2.drew) hB2)
          have hi64 : (Tryd.prog.info? 126).map (·.size) = some (bl2.map B).length := by rw [List.length_map, hl2]; exact info64
          have Hi64 := hid hi64
          have HB3 := hid hB2
          have HK3 := hid hK2
          clear hB2 hK2 hi64
          have Hmx := hid (fun w ht => mix_st (Sha.stOf X) bl2 hl2 w ht)
          refine wp_region_any (by kernel_rfl) ?_
          change wpAny _ _ _ _ _ _ _ (World.drew _)
          refine wpAny_take_l 0 (.pointer (some ⟨p, 0, none⟩)) rfl (by kernel_rfl) (by kernel_rfl) (by kernel_rfl) (fun _ _ _ h => h) (Or.inl ⟨by rfl, fun w => by go_simp⟩) ?_
          refine wpAny_take_l 1 (.pointer (some ⟨p, 0, none⟩)) rfl (by kernel_rfl) (by kernel_rfl) (by kernel_rfl) (fun _ _ _ h => h) (Or.inl ⟨by rfl, fun w => by go_simp⟩) ?_
          refine wpAny_take_l 2 (.pointer (some ⟨p, 0, none⟩)) rfl (by kernel_rfl) (by kernel_rfl) (by kernel_rfl) (fun _ _ _ h => h) (Or.inl ⟨by rfl, fun w => by go_simp⟩) ?_
          refine wpAny_take_l 3 (.pointer (some ⟨p, 0, none⟩)) rfl (by kernel_rfl) (by kernel_rfl) (by kernel_rfl) (fun _ _ _ h => h) (Or.inl ⟨by rfl, fun w => by go_simp⟩) ?_
          refine wpAny_take_l 5 (.pointer (some ⟨p, 0, none⟩)) rfl (by kernel_rfl) (by kernel_rfl) (by kernel_rfl) (fun _ _ _ h => h) (Or.inl ⟨by rfl, fun w => by go_simp⟩) ?_
          refine wpAny_take_l 6 (.pointer (some ⟨p, 0, none⟩)) rfl (by kernel_rfl) (by kernel_rfl) (by kernel_rfl) (fun _ _ _ h => h) (Or.inl ⟨by rfl, fun w => by go_simp⟩) ?_
          refine wpAny_take_l 7 (.pointer (some ⟨p, 8, none⟩)) rfl (by kernel_rfl) (by kernel_rfl) (by kernel_rfl) (fun _ _ _ h => h) (Or.inl ⟨by rfl, fun w => by go_simp⟩) ?_
          simp only [Act.put, List.setIfInBounds_toArray, List.set_cons_succ, List.set_cons_zero]
          refine wpAny_ready (rs := [4, 8]) (by kernel_rfl) (by simp) ?_
          refine ready_cons_l rfl (fun K hK => ?_) (ready_cons_l rfl (fun K hK => ?_) AllReady.nil)
          · refine step_load_cells rfl 125 (.tmp 48) rfl ⟨p, 0, none⟩ rfl (stL (Sha.stOf X)) _ Tryd.underlying125 rfl info8 Hsc.out ?_
            refine hK _ _ ?_
            clear hK K
            simp only [Act.put, List.setIfInBounds_toArray, List.set_cons_succ, List.set_cons_zero]
            refine wpAny_ready (rs := [8]) (by kernel_rfl) (by simp) ?_
            refine ready_cons_l rfl (fun K hK => ?_) AllReady.nil
            refine step_load_cells rfl 126 (.tmp 52) rfl ⟨p, 8, none⟩ rfl (bl2.map B) _ Tryd.underlying126 rfl Hi64.out Hbc.out ?_
            refine hK _ _ ?_
            clear hK K
            simp only [Act.put, List.setIfInBounds_toArray, List.set_cons_succ, List.set_cons_zero]
            refine wpAny_ready (rs := [9]) (by kernel_rfl) (by simp) ?_
            refine ready_cons_l rfl (fun K hK => ?_) AllReady.nil
            refine step_call rfl 98 #[.agg (stL (Sha.stOf X)).toArray, .agg (bl2.map B).toArray] (by go_simp) (fun v w' => v = .agg (stL (Sha.mix (Sha.stOf X) bl2)).toArray ∧ Kept [] W2.drew w') ((Hmx.out _ (Ht.out.kept (Hk0.out.trans HK3.out).drew (by simp; omega) (by simp; omega))).mono fun e w' h => ⟨_, h.1, rfl, h.2⟩) ?_
            rintro _ w3 ⟨rfl, hk3⟩
            have HB4 := hid (hk3.at (k := p) (o := .cells (hL (Sha.stOf X) bl2 (L + k)).toArray 128 (0, 0)) HB3.out (by simp))
            have HK4 := hid (HK3.out.drew.trans' hk3 (by simp))
            clear hk3
            refine hK _ _ ?_
            clear hK K
            simp only [Act.put, List.setIfInBounds_toArray, List.set_cons_succ, List.set_cons_zero]
            refine wpAny_take_l 10 (.pointer (some ⟨p, 0, none⟩)) rfl (by kernel_rfl) (by kernel_rfl) (by kernel_rfl) (fun _ _ _ h => h) (Or.inl ⟨by rfl, fun w => by go_simp⟩) ?_
            refine wpAny_take_l 11 (.pointer (some ⟨p, 0, none⟩)) rfl (by kernel_rfl) (by kernel_rfl) (by kernel_rfl) (fun _ _ _ h => h) (Or.inl ⟨by rfl, fun w => by go_simp⟩) ?_
            refine wpAny_ready (rs := [12]) (by kernel_rfl) (by simp) ?_
            refine ready_cons_l rfl (fun K hK => ?_) AllReady.nil
            refine step_store_at rfl 125 (.tmp 56) (.tmp 54) rfl p 0 (stL (Sha.mix (Sha.stOf X) bl2)) rfl rfl 128 (hL (Sha.stOf X) bl2 (L + k)) HB4.out info8 (by rw [hL_len _ _ _ hl2]; show 0 + 8 ≤ 73; omega) (stL_one _) ?_
            rw [hL_state]
            refine hK _ _ ?_
            clear hK K
            simp only [Act.put, List.setIfInBounds_toArray, List.set_cons_succ, List.set_cons_zero]
            refine wpAny_done (by kernel_rfl) ?_ _
            have HB5 := hid (setRow_heap w3 p _ (hL (Sha.mix (Sha.stOf X) bl2) bl2 (L + k)).toArray _ _ HB4.out)
            have HK5 := hid (HK4.out.setRow (g := p) (fun _ => by simp) (hL (Sha.mix (Sha.stOf X) bl2) bl2 (L + k)).toArray)
            clear HB4 HK4 HB3 HK3 Hsc Hbc
            go_wp2_with fail
            go_roundw
            case rel => exact ⟨i + k, some ad', c' - k, by have := Hm.out; omega, by rw [Hres.out], by rw [← Hres.out]; omega, by omega, hid (hw.out.next HK5.out (by have := Hm.out; omega) (by rw [← HX.out, ← Hcy.out]; exact hs1_whole HL.out Hr.out Hcyl.out (by omega) hbl1 Htk1.out (by rw [← Hbl2.out]; exact HB5.out)) (by rw [← Hm.out]; exact Hs2.out) Hs3.out)⟩
            case measure => simp [sliceLen]; omega
          · refine step_load_cells rfl 126 (.tmp 52) rfl ⟨p, 8, none⟩ rfl (bl2.map B) _ Tryd.underlying126 rfl Hi64.out Hbc.out ?_
            refine hK _ _ ?_
            clear hK K
            simp only [Act.put, List.setIfInBounds_toArray, List.set_cons_succ, List.set_cons_zero]
            refine wpAny_ready (rs := [4]) (by kernel_rfl) (by simp) ?_
            refine ready_cons_l rfl (fun K hK => ?_) AllReady.nil
            refine step_load_cells rfl 125 (.tmp 48) rfl ⟨p, 0, none⟩ rfl (stL (Sha.stOf X)) _ Tryd.underlying125 rfl info8 Hsc.out ?_
            refine hK _ _ ?_
            clear hK K
            simp only [Act.put, List.setIfInBounds_toArray, List.set_cons_succ, List.set_cons_zero]
            refine wpAny_ready (rs := [9]) (by kernel_rfl) (by simp) ?_
            refine ready_cons_l rfl (fun K hK => ?_) AllReady.nil
            refine step_call rfl 98 #[.agg (stL (Sha.stOf X)).toArray, .agg (bl2.map B).toArray] (by go_simp) (fun v w' => v = .agg (stL (Sha.mix (Sha.stOf X) bl2)).toArray ∧ Kept [] W2.drew w') ((Hmx.out _ (Ht.out.kept (Hk0.out.trans HK3.out).drew (by simp; omega) (by simp; omega))).mono fun e w' h => ⟨_, h.1, rfl, h.2⟩) ?_
            rintro _ w3 ⟨rfl, hk3⟩
            have HB4 := hid (hk3.at (k := p) (o := .cells (hL (Sha.stOf X) bl2 (L + k)).toArray 128 (0, 0)) HB3.out (by simp))
            have HK4 := hid (HK3.out.drew.trans' hk3 (by simp))
            clear hk3
            refine hK _ _ ?_
            clear hK K
            simp only [Act.put, List.setIfInBounds_toArray, List.set_cons_succ, List.set_cons_zero]
            refine wpAny_take_l 10 (.pointer (some ⟨p, 0, none⟩)) rfl (by kernel_rfl) (by kernel_rfl) (by kernel_rfl) (fun _ _ _ h => h) (Or.inl ⟨by rfl, fun w => by go_simp⟩) ?_
            refine wpAny_take_l 11 (.pointer (some ⟨p, 0, none⟩)) rfl (by kernel_rfl) (by kernel_rfl) (by kernel_rfl) (fun _ _ _ h => h) (Or.inl ⟨by rfl, fun w => by go_simp⟩) ?_
            refine wpAny_ready (rs := [12]) (by kernel_rfl) (by simp) ?_
            refine ready_cons_l rfl (fun K hK => ?_) AllReady.nil
            refine step_store_at rfl 125 (.tmp 56) (.tmp 54) rfl p 0 (stL (Sha.mix (Sha.stOf X) bl2)) rfl rfl 128 (hL (Sha.stOf X) bl2 (L + k)) HB4.out info8 (by rw [hL_len _ _ _ hl2]; show 0 + 8 ≤ 73; omega) (stL_one _) ?_
            rw [hL_state]
            refine hK _ _ ?_
            clear hK K
            simp only [Act.put, List.setIfInBounds_toArray, List.set_cons_succ, List.set_cons_zero]
            refine wpAny_done (by kernel_rfl) ?_ _
            have HB5 := hid (setRow_heap w3 p _ (hL (Sha.mix (Sha.stOf X) bl2) bl2 (L + k)).toArray _ _ HB4.out)
            have HK5 := hid (HK4.out.setRow (g := p) (fun _ => by simp) (hL (Sha.mix (Sha.stOf X) bl2) bl2 (L + k)).toArray)
            clear HB4 HK4 HB3 HK3 Hsc Hbc
            go_wp2_with fail
            go_roundw
            case rel => exact ⟨i + k, some ad', c' - k, by have := Hm.out; omega, by rw [Hres.out], by rw [← Hres.out]; omega, by omega, hid (hw.out.next HK5.out (by have := Hm.out; omega) (by rw [← HX.out, ← Hcy.out]; exact hs1_whole HL.out Hr.out Hcyl.out (by omega) hbl1 Htk1.out (by rw [← Hbl2.out]; exact HB5.out)) (by rw [← Hm.out]; exact Hs2.out) Hs3.out)⟩
            case measure => simp [sliceLen]; omega
        · have e64 : ¬ ((L : Int) + (k : Int)) % 64 = 0 := by have := Hr.out; omega
          go_wp2_with fail
          go_roundw
          case rel => exact ⟨i + k, some ad', c' - k, by have := Hm.out; omega, by rw [Hres.out], by rw [← Hres.out]; omega, by omega, hid (hw.out.next HK2.out (by have := Hm.out; omega) (by rw [← HX.out, ← Hcy.out]; exact hs1_part HL.out Hr.out Hcyl.out (by omega) hbl1 Htk1.out (by rw [← Hbl2.out]; exact HB2.out)) (by rw [← Hm.out]; exact Hs2.out) Hs3.out)⟩
          case measure => simp [sliceLen]; omega
      · obtain rfl : i = ys.length := by omega
        go_wp2_with fail
        go_end0
        obtain ⟨h1, h2, -⟩ := hw.out
        rw [List.take_length] at h2
        exact ⟨rfl, h1, h2⟩
end Go.Proofs.YtdojpioclojalaaDoor
