import Derived.Test.YtlapomkckcoppaaDoorME
import Derived.Test.YtlapomkckcoppaaDoorMK

/- coldstorelaw12.PackNames. -/
namespace Go.Proofs.YtlapomkckcoppaaDoor
open Go.RowKit Go.Lib Go.Maps

theorem RowsC.kept {w w' : World} {a : Option Addr} {rows : List (List UInt8)} (h : RowsC w a rows) (hk : Kept [] w w') : RowsC w' a rows :=
  ⟨h.1, fun x hx i r hr => by
    obtain ⟨ar, cr, h1, h2, h3⟩ := h.2 x hx i r hr
    exact ⟨ar, cr, (hk.cell (World.block_lt_of_cell? w _ h1) (by simp)).trans h1, srcB_old h2 hk, h3⟩⟩
theorem few12_spec {rows : List (List UInt8)} (h : few12B rows = true) : (∀ r ∈ rows, okB r) ∧ rows.length ≤ 20 := by
  unfold few12B at h; exact of_decide_eq_true h
theorem okB.le {r : List UInt8} (h : okB r) : r.length ≤ 65600 := by unfold okB at h; omega
theorem acc_small {rows : List (List UInt8)} (h : ∀ r ∈ rows, okB r) : ∀ b ∈ accAll rows, b.length ≤ 200 := by
  have hh : ∀ (ys : List (List UInt8)) bl, (∀ r ∈ ys, okB r) → (∀ b ∈ bl, b.length ≤ 200) → ∀ b ∈ ys.foldl more1 bl, b.length ≤ 200 := by
    intro ys
    induction ys with
    | nil => intro bl _ h; exact h
    | cons y r ih =>
      intro bl hy hb
      refine ih _ (fun z hz => hy z (by simp [hz])) ?_
      unfold more1
      split
      · intro b hm
        rcases List.mem_append.1 hm with hm | hm
        · exact hb b hm
        · simp at hm; subst hm
          have h1 := hy b (by simp)
          unfold took at *
          rename_i ht
          have h2 := (addErr_zero (of_decide_eq_true ht)).1
          unfold okB at h1; omega
      · exact hb
  exact hh rows [] h (by simp)
theorem flat_small {bl : List (List UInt8)} (h : ∀ b ∈ bl, b.length ≤ 200) : bl.flatten.length ≤ 200 * bl.length := by
  induction bl with
  | nil => simp
  | cons b r ih => have h1 := h b (by simp); have h2 := ih (fun x hx => h x (by simp [hx])); rw [List.flatten_cons, List.length_append, List.length_cons]; omega
theorem packL_small {rows : List (List UInt8)} (h : few12B rows = true) : (packL (accAll rows)).length ≤ 5000 ∧ (accAll rows).length ≤ 20 := by
  obtain ⟨h1, h2⟩ := few12_spec h
  have h3 := flat_small (acc_small h1)
  have h4 := accAll_len rows
  rw [packL_len]
  unfold sizeP
  rw [ens_ends, ens_len]
  omega
/-- Two builders that have the same blobs. -/
def NmI (w : World) (p1 p2 : Nat) (bl : List (List UInt8)) (wr : World) : Prop :=
  ∃ Sa Sb, Kept [] w wr ∧ Bw w wr Sa p1 bl ∧ Bw w wr Sb p2 bl ∧ ∀ x ∈ Sa, x ∉ Sb
def BwAny (w wr : World) (S : List Nat) (p : Nat) (bl : List (List UInt8)) (e : Ending) (w' : World) : Prop :=
  ∃ S' v1 v2, e = .returned (.tuple #[v1, v2]) ∧ Kept [] w w' ∧ Kept S wr w' ∧ Bw w w' S' p bl ∧ ∀ x ∈ S', x ∈ S ∨ wr.heap.size ≤ x
theorem BwAdded.any {w wr : World} {S : List Nat} {p : Nat} {bl : List (List UInt8)} {ys : List UInt8} {e : Ending} {w' : World} (h : BwAdded w wr S p bl ys e w') : BwAny w wr S p (more1 bl ys) e w' := by
  obtain ⟨S', h1, h2, h3, h4, (⟨_, h5⟩ | ⟨_, h5⟩)⟩ := h
  · exact ⟨S', _, _, h5, h1, h2, h3, h4⟩
  · exact ⟨S', _, _, h5, h1, h2, h3, h4⟩

set_option maxRecDepth 100000 in
set_option maxHeartbeats 8000000 in
theorem pack_names (a : Option Addr) (c : Nat) (rows : List (List UInt8)) (w : World) (ht : Tab w) (hts : Tabs w) (h : RowsC w a rows) (hm : rows.length ≤ 9223372036854775807) (hl : ∀ r ∈ rows, r.length ≤ 9223372036854775807) :
    Calls Tryd.prog 7 #[.slice a rows.length c] w fun e w' => e = .returned (.bool true) ∧ Kept [] w w' := by
  have Ht := hid ht; have Hts := hid hts; have H := hid h; have Hl := hid hl; have Hm := hid hm
  have hal := hid (alive12 w ht hts)
  have hzb := zero_bd
  obtain ⟨n, hn⟩ : ∃ n, n = rows.length := ⟨_, rfl⟩
  have HN := hid hn
  rw [← hn]
  clear ht hts h hl hm hn
  go_enter Tryd.func7, Tryd.ntmps7
  go_wp2_with fail
  refine hal.out.mono ?_
  rintro e w1 ⟨rfl, k1⟩
  have K1 := hid k1
  have hfw := hid (few12 a c rows w1 (H.out.kept k1).is Hm.out Hl.out)
  rw [← HN.out] at hfw
  clear k1 hal
  go_wp2_with fail
  refine hfw.out.mono ?_
  rintro e w2 ⟨rfl, rfl⟩
  cases hfe : few12B rows
  · clear hfw
    go_wp2
    go_ret
    exact ⟨rfl, K1.out⟩
  have Hfe := hid hfe
  clear hfe hfw
  go_wp2_with fail
  obtain ⟨W3, hW3⟩ : ∃ W3, W3 = (w1.alloc (.cells zBd.toArray 31)).alloc (.cells zBd.toArray 31) := ⟨_, rfl⟩
  have K3 := hid (show Kept [] w W3 from hW3 ▸ ((K1.out).alloc _).alloc _)
  have hI0 := hid (show NmI w w1.heap.size (w1.heap.size + 1) (accAll (rows.take 0)) W3 from
    ⟨[w1.heap.size], [w1.heap.size + 1], K3.out, Bw.zero (hW3 ▸ heap_alloc_old (heap_alloc_at rfl)) K1.out.size, Bw.zero (hW3 ▸ heap_alloc_at (by simp)) (by have := K1.out.size; omega), fun x hx => by simp at hx ⊢; omega⟩)
  rw [← hW3]
  obtain ⟨p1, hp1⟩ : ∃ p1, p1 = w1.heap.size := ⟨_, rfl⟩
  obtain ⟨p2, hp2⟩ : ∃ p2, p2 = w1.heap.size + 1 := ⟨_, rfl⟩
  rw [← hp2, ← hp1] at hI0
  rw [← hp2, ← hp1]
  have hn20 : n ≤ 20 := by have h1 := (few12_spec Hfe.out).2; have h2 := HN.out; omega
  clear hW3 hp1 hp2 K1
  go_loopw [17] (fun s wr => ∃ i : Nat, i ≤ n ∧ s = .int .i64 i ∧ Hid (NmI w p1 p2 (accAll (rows.take i)) wr)) (fun s _ => n - (intOf s).toNat)
  case atStart => exact ⟨0, Nat.zero_le _, rfl, hI0⟩
  case round =>
    clear hI0 K3
    obtain ⟨i, hi, rfl, hst⟩ := hrel
    by_cases hlt : i < n
    · obtain ⟨Sa, Sb, hk, hba, hbb, hdj⟩ := hst.out
      have hlt' : i < rows.length := by have := HN.out; omega
      cases a with
      | none => exact absurd (H.out.1 rfl) (fun e => by rw [e] at hlt'; simp at hlt')
      | some x =>
        obtain ⟨ar, cr, g0, s0, c1, c2⟩ := (H.out.kept hk).2 x rfl i rows[i] (by simp [hlt'])
        obtain ⟨ar', cr', g0', s0', -⟩ := H.out.2 x rfl i rows[i] (by simp [hlt'])
        have g0w := (hk.cell (World.block_lt_of_cell? w _ g0') (by simp)).trans g0'
        rw [g0] at g0w
        obtain ⟨rfl, rfl⟩ : ar = ar' ∧ cr = cr' := by simpa using g0w
        have hok := (few12_spec Hfe.out).1 rows[i] (List.getElem_mem hlt')
        have htk := hid (accAll_take rows i hlt')
        generalize rows[i] = r at *
        have hadd := hid (l_add w wr Sa p1 _ ar cr r hk hba Hts.out s0' (by have := hok.le; omega) c1 c2)
        have Hs0 := hid s0'; have HK := hid hk; have Hbb := hid hbb; have Hdj := hid hdj; have Hok := hid hok; have Hc1 := hid c1; have Hc2 := hid c2; have Hba := hid hba
        have Hlt := hid hlt
        clear hst hk hba hbb hdj s0 s0' g0w g0' hlt' hok c1 c2
        go_wp2_with fail
        refine hadd.out.mono ?_
        rintro e w4 hw4
        obtain ⟨S4, v1, v2, rfl, k4, ks4, b4, n4⟩ := hw4.any
        have K4 := hid k4; have B4 := hid b4; have N4 := hid n4
        have Hbb4 := hid (Hbb.out.kept ks4 (fun y hy hm => Hdj.out y hm hy))
        have Hz4 := hid ks4.size
        have hdn := hid (l_done w w4 Sb p2 _ k4 Hbb4.out Ht.out)
        clear hw4 k4 ks4 b4 n4 hadd
        go_wp2_with fail
        refine hdn.out.mono ?_
        rintro e w5 ⟨a5, c5, rfl, k5, -⟩
        have K5 := hid (K4.out.trans k5)
        have B5 := hid (B4.out.kept k5 (by simp))
        have Hbb5 := hid (Hbb4.out.kept k5 (by simp))
        have hadd2 := hid (l_add w w5 Sb p2 _ ar cr r K5.out Hbb5.out Hts.out Hs0.out (by have := Hok.out.le; omega) Hc1.out Hc2.out)
        generalize (packL (accAll (rows.take i))).length = pl at *
        have Hz5 := hid k5.size
        clear k5 hdn
        go_wp2_with fail
        refine hadd2.out.mono ?_
        rintro e w6 hw6
        obtain ⟨S6, v3, v4, rfl, k6, ks6, b6, n6⟩ := hw6.any
        have hdj46 := hid (show ∀ y ∈ S4, y ∉ Sb from fun y hy hm => by
          rcases N4.out y hy with h1 | h1
          · exact Hdj.out y h1 hm
          · have := (Hbb.out.low y hm).2; omega)
        have hrel := hid (show NmI w p1 p2 (accAll (rows.take (i + 1))) w6 from by
          rw [htk.out]
          refine ⟨S4, S6, k6, B5.out.kept ks6 (fun y hy => hdj46.out y hy), b6, fun y hy hm => ?_⟩
          rcases n6 y hm with h1 | h1
          · exact hdj46.out y hy h1
          · have := (B5.out.low y hy).2; omega)
        have hin := Hlt.out
        clear hw6 k6 ks6 b6 n6 hadd2
        go_wp2
        go_roundw
        case rel => exact ⟨i + 1, hin, by go_num, hrel⟩
        case measure => simp [intOf]; omega
    · obtain rfl : i = n := by omega
      have hst2 := hst.out
      rw [HN.out, List.take_length] at hst2
      obtain ⟨Sa, Sb, hk, hba, hbb, hdj⟩ := hst2
      have HK := hid hk; have Hba := hid hba; have Hbb := hid hbb
      obtain ⟨hpl, -⟩ := packL_small Hfe.out
      have hd1 := hid (l_done w wr Sa p1 _ hk hba Ht.out)
      obtain ⟨P, hP⟩ : ∃ P, P = packL (accAll rows) := ⟨_, rfl⟩
      rw [← hP] at hd1 hpl
      have HP := hid hP
      clear hst hk hba hbb hdj hlt hi hP
      have hadd : ∀ W : World, (Op.stringOp .add ⟨#[112, 97, 99, 107, 47]⟩ ⟨(hexOf (Sha.sum P)).toArray⟩).run Tryd.prog W = .ok (.string (S (packN P))) W := fun W => by
        have h := run_string_add_lists (P := Tryd.prog) W [112, 97, 99, 107, 47] (hexOf (Sha.sum P)) (by decide) (by rw [hexOf_len, Sha.sum_len]; decide)
        exact h
      have hnmx := hid (show ∀ v a c, Kept [] w v → SrcB v (.slice a P.length c) P → P.length ≤ c → c ≤ 9223372036854775807 → Calls Tryd.prog 18 #[.slice a P.length c] v fun e w' => e = .returned (.string (S (packN P))) ∧ Kept [] v w' from fun v a c hv hs h1 h2 => p_name a c P v (Hts.out.kept hv (by simp) (by simp)) hs h1 h2 (by omega))
      have hof := hid (show ∀ v a c, SrcB v (.slice a P.length c) P → (a = none → c = 0) → Calls Tryd.prog 24 #[.slice a P.length c] v fun e w' => e = .returned (.agg ((Sha.sum P).map B).toArray) ∧ Kept [] v w' from fun v a c hs h1 => refof_any a c P v (reads_src hs) h1 (by omega) (fun s b gh ch gk ck gb ob cb w h1 h2 h3 h4 => refmix_any s b gh ch gk ck gb ob cb w h1 h2 h3 h4))
      have htx := hid (fun v => reftext_any (Sha.sum P) (Sha.sum_len _) v)
      have hsm := hid (fun v a c b d (h1 : SrcB v (.slice a P.length c) P) (h2 : SrcB v (.slice b P.length d) P) => same_src a b c d P v h1 h2)
      generalize hσ : ((Sha.sum P).map B).toArray = σ at *
      generalize packN P = nm at *
      generalize hexOf (Sha.sum P) = hx at *
      go_wp2_with fail
      refine hd1.out.mono ?_
      rintro e w4 ⟨a4, c4, rfl, k4, o4⟩
      have K4 := hid (HK.out.trans k4)
      have Ha4 := hid (Hba.out.kept k4 (by simp)); have Hb4 := hid (Hbb.out.kept k4 (by simp))
      have hd2 := hid (l_done w w4 Sb p2 _ K4.out Hb4.out Ht.out)
      rw [← HP.out] at hd2
      have O4 := hid (fun v (hv : Kept [] w4 v) => ownsRow_src (hv.owns o4 (by simp)))
      have hc4 := owns_caps o4
      clear k4 o4 hd1
      go_wp2_with fail
      refine hd2.out.mono ?_
      rintro e w5 ⟨a5, c5, rfl, k5, o5⟩
      have Kk5 := hid k5
      have K5 := hid (K4.out.trans k5)
      have Ha5 := hid (Ha4.out.kept k5 (by simp))
      have O5 := hid (fun v (hv : Kept [] w5 v) => ownsRow_src (hv.owns o5 (by simp)))
      have O45 := hid (fun v (hv : Kept [] w5 v) => O4.out v (Kk5.out.trans hv))
      have hc5 := owns_caps o5
      have hn5 := hid (hnmx.out w5 a4 c4 K5.out (O45.out _ (Kept.refl _ _)) hc4.1 hc4.2.1)
      clear k5 o5 hd2
      go_wp2_with fail
      refine hn5.out.mono ?_
      rintro e w6 ⟨rfl, k6⟩
      have K56 := hid k6
      have hs6 := hid (hsm.out w6 a4 c4 a5 c5 (O45.out _ k6) (O5.out _ k6))
      clear k6 hn5
      go_wp2_with fail
      refine hs6.out.mono ?_
      rintro e w7 ⟨rfl, rfl⟩
      have hn7 := hid (hnmx.out w6 a5 c5 (K5.out.trans K56.out) (O5.out _ K56.out) hc5.1 hc5.2.1)
      clear hs6
      go_wp2_with fail
      refine hn7.out.mono ?_
      rintro e w8 ⟨rfl, k8⟩
      have K58 := hid (K56.out.trans k8)
      have ho8 := hid (hof.out w8 a4 c4 (O45.out _ K58.out) hc4.2.2.1)
      clear k8 hn7
      go_wp2_with fail
      refine ho8.out.mono ?_
      rintro e w9 ⟨rfl, k9⟩
      have K59 := hid (K58.out.trans k9)
      have ht9 := hid (htx.out w9)
      clear k9 ho8
      go_wp2_with fail
      refine ht9.out.mono ?_
      rintro e w10 ⟨rfl, k10⟩
      have K510 := hid (K59.out.trans k10)
      have hd10 := hid (l_done w w10 Sa p1 _ (K5.out.trans K510.out) (Ha5.out.kept K510.out (by simp)) Ht.out)
      rw [← HP.out] at hd10
      clear k10 ht9
      go_wp2_with fail
      refine hd10.out.mono ?_
      rintro e w11 ⟨a11, c11, rfl, k11, o11⟩
      have K511 := hid (K510.out.trans k11)
      have hs11 := hid (hsm.out w11 a11 c11 a4 c4 (ownsRow_src o11) (O45.out _ K511.out))
      clear k11 o11 hd10
      go_wp2_with fail
      refine hs11.out.mono ?_
      rintro e w12 ⟨rfl, rfl⟩
      clear hs11
      go_wp2
      go_ret
      exact ⟨rfl, K5.out.trans K511.out⟩
end Go.Proofs.YtlapomkckcoppaaDoor
