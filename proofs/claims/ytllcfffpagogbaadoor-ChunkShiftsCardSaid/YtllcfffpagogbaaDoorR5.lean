/- roll.Window.Push of a full window. -/
import Derived.Test.YtllcfffpagogbaaDoorR4
import Derived.Test.YtllcfffpagogbaaDoorHW
namespace Go.Proofs.YtllcfffpagogbaaDoor
open Go.RowKit

theorem set_same {α : Type} (L : List α) (i : Nat) (v : α) (h : L[i]? = some v) : L.set i v = L := by
  apply List.ext_getElem?
  intro j
  rw [List.getElem?_set]
  by_cases hj : i = j
  · subst hj; rw [h]; have := (List.getElem?_eq_some_iff.1 h).1; simp [this]
  · simp [hj]

/-- The window's width stands. -/
def S0 (p n : Nat) (v : World) : Prop := v.cell? ⟨p, 256, none⟩ = some (.int .i64 (n : Int))
/-- The worlds within the sum's own store: the window's cells but for the sum as they were. -/
def InR (p : Nat) (L : List Value) (s : Roll.W) (w v : World) : Prop := v.heap[p]? = some (.cells (L.set 323 (U s)).toArray 110 (0, 0)) ∧ Kept [p] w v
theorem InR.drew {p : Nat} {L : List Value} {s : Roll.W} {w v : World} (h : InR p L s w v) : InR p L s w v.drew := ⟨h.1, h.2.drew⟩
theorem InR.cell {p : Nat} {L : List Value} {s : Roll.W} {w v : World} (h : InR p L s w v) (i : Nat) : v.cell? ⟨p, i, none⟩ = (L.set 323 (U s))[i]? := by
  rw [cell_of_row v _ _ _ _ _ h.1]; simp

set_option maxRecDepth 100000 in
set_option maxHeartbeats 1000000 in
theorem push_full_any (p n : Nat) (T : UInt8 → Roll.W) (ys : List UInt8) (c : UInt8) (w : World) (h : Win w p T n ys) (h1 : 1 ≤ n) (hn : n ≤ 64) (hs : n ≤ ys.length) :
    Calls Tryd.prog 58 #[.pointer (some ⟨p, 0, none⟩), B c] w fun e w' => e = .returned (U (Roll.sum T (Roll.last n (ys ++ [c])))) ∧ Kept [p] w w' ∧ Win w' p T n (ys ++ [c]) := by
  obtain ⟨nx, L, hh, hp⟩ := h
  have hnx := hp.nxlt
  have hps := Roll.push_full T c h1 hs
  obtain ⟨s0, hs0⟩ : ∃ s, s = Roll.sum T (Roll.last n ys) := ⟨_, rfl⟩
  obtain ⟨s1, hs1⟩ : ∃ s, s = Roll.sum T (Roll.last n (ys ++ [c])) := ⟨_, rfl⟩
  rw [← hs0, ← hs1] at hps
  obtain ⟨b, hb⟩ : ∃ b, b = ys.getD (ys.length - n) 0 := ⟨_, rfl⟩
  rw [← hb] at hps
  obtain ⟨s2, hs2⟩ : ∃ s, s = Roll.step T s0 c := ⟨_, rfl⟩
  rw [← hs2] at hps
  obtain ⟨q, hq⟩ : ∃ q, q = (nx + 64 - n) % 64 := ⟨_, rfl⟩
  have c6 : w.cell? ⟨p, 257 + q, none⟩ = some (B b) := by rw [hq, hb]; exact (hp.cell hh _).trans (hp.oldest h1 hn hs)
  have hxv := xor_bv s2 (Roll.turn (T b) n)
  rw [hps] at hxv
  have c1 : w.cell? ⟨p, 323, none⟩ = some (U s0) := by rw [hs0]; exact (hp.cell hh 323).trans hp.sum
  have hmin : min ys.length n = n := by omega
  have c2 : w.cell? ⟨p, 322, none⟩ = some (.int .i64 (n : Int)) := by rw [show (n : Int) = ((min ys.length n : Nat) : Int) by rw [hmin]]; exact (hp.cell hh 322).trans hp.count
  have c3 : w.cell? ⟨p, 256, none⟩ = some (.int .i64 (n : Int)) := (hp.cell hh 256).trans hp.width
  have c4 : w.cell? ⟨p, 321, none⟩ = some (.int .i64 (nx : Int)) := (hp.cell hh 321).trans hp.next
  obtain ⟨v5, c5⟩ : ∃ v, w.cell? ⟨p, 257 + nx, none⟩ = some v := ⟨L[257 + nx]'(by rw [hp.len]; omega), by rw [hp.cell hh]; simp⟩
  have f1 := frozen_of_row w _ 323 _ _ hh
  have f2 := frozen_of_row w _ 322 _ _ hh
  have f4 := frozen_of_row w _ 321 _ _ hh
  have f5 := frozen_of_row w _ (257 + nx) _ _ hh
  have H := hid (hp.tb hh)
  have HH := hid hh
  have hpc : ∀ i, w.cell? ⟨p, i, none⟩ = L[i]? := hp.cell hh
  have Hlen := hid hp.len
  have Htab := hid hp.tab
  have Hnext := hid hp.next
  have HP := hid (hp.push hn c n (by omega))
  rw [← hs1] at HP
  have Hs1 := hid hs1
  clear hh hp hs0 hs1 hmin hb
  have Hs2 := hid hs2
  have hmod : ((nx : Int) + 1).tmod 64 = (((nx + 1) % 64 : Nat) : Int) := by rw [Int.tmod_eq_emod_of_nonneg (by omega)]; omega
  obtain ⟨m, hm⟩ : ∃ m, m = (nx + 1) % 64 := ⟨_, rfl⟩
  rw [← hm] at hmod
  have Hm := hid hm
  have Hcnt := hid (show L[322]? = some (.int .i64 (n : Int)) by rw [← c2]; exact (hpc 322).symm)
  clear hm
  obtain ⟨cn, hcn⟩ : ∃ cn, cn = c.toNat := ⟨_, rfl⟩
  have hB : B c = .int .u8 (cn : Int) := by rw [hcn]; rfl
  have Hbe := hid (show Calls Tryd.prog 80 #[.pointer (some ⟨p, 0, none⟩), U s0, .int .u8 (cn : Int)] w.drew fun e w' => e = .returned (U s2) ∧ w.drew = w' by
    rw [← hB, Hs2.out]; exact behind_any p 0 T s0 c w.drew H.out)
  rw [hB]
  have HB := hid hB
  obtain ⟨W1, hW1⟩ : ∃ W1, W1 = (w.setCell ⟨p, 323, none⟩ (U s2)).drew.drew := ⟨_, rfl⟩
  have hh1 : W1.heap[p]? = some (.cells (L.set 323 (U s2)).toArray 110 (0, 0)) := by
    rw [hW1]
    show (w.setCell ⟨p, 323, none⟩ (U s2)).heap[p]? = _
    rw [Go.heap_setCell_same w p 323 _ _ _ HH.out, List.setIfInBounds_toArray]
  have hk1 : Kept [p] w W1 := by rw [hW1]; exact (((Kept.refl _ _).setCell (fun _ => by simp) _).drew).drew
  have hR1 : InR p L s2 w W1 := ⟨hh1, hk1⟩
  have HR1 := hid hR1
  have Hol := hid (fun (W : World) (hW : InR p L s2 w W) => show Calls Tryd.prog 83 #[.pointer (some ⟨p, 0, none⟩)] W fun e w' => e = .returned (.int .u8 (b.toNat : Int)) ∧ InR p L s2 w w' from
    (oldest_raw p n nx q b W (by rw [hW.cell, List.getElem?_set_ne (by omega), ← hpc]; exact c4) (by rw [hW.cell, List.getElem?_set_ne (by omega), ← hpc]; exact c3) (by rw [hW.cell, List.getElem?_set_ne (by omega), ← hpc]; exact c6) hq hnx h1 hn).mono fun e w' h => ⟨h.1, h.2 ▸ hW.drew⟩)
  have Hat := hid (fun (W : World) (hW : InR p L s2 w W) => show Calls Tryd.prog 82 #[.pointer (some ⟨p, 0, none⟩), .int .u8 (b.toNat : Int)] W fun e w' => e = .returned (U (T b)) ∧ InR p L s2 w w' from
    (at_any p 0 T b W (fun c => by
      have := c.toNat_lt
      rw [Nat.zero_add, hW.cell, List.getElem?_set_ne (by omega)]
      exact Htab.out c)).mono fun e w' h => ⟨h.1, h.2 ▸ hW⟩)
  have Hro := hid (fun (W : World) (hW : InR p L s2 w W) => (rotl_any (T b) n hn W).mono fun e w' h => show e = .returned (U (Roll.turn (T b) n)) ∧ InR p L s2 w w' from ⟨h.1, h.2 ▸ hW⟩)
  have Hw := hid (show ∀ W, InR p L s2 w W → W.cell? ⟨p, 256, none⟩ = some (.int .i64 (n : Int)) from fun W hW => by rw [hW.cell, List.getElem?_set_ne (by omega), ← hpc]; exact c3)
  have Hsm := hid (show ∀ W, InR p L s2 w W → W.cell? ⟨p, 323, none⟩ = some (U s2) from fun W hW => by rw [hW.cell, List.getElem?_set_self (by rw [Hlen.out]; omega)])
  clear hh1 hk1 hR1
  generalize Roll.turn (T b) n = r at *
  generalize T b = tb at *
  clear hcn hB hpc hq hs2 hps c6
  go_enter Tryd.func58, Tryd.ntmps58
  go_wp2_with fail
  go_region_with (go_at_call 80; refine Hbe.out.mono ?_; rintro e w' ⟨rfl, rfl⟩)
  go_wp2_with fail
  go_region
  go_wp2_with fail
  rw [← hW1]
  clear hW1
  have hS1 : S0 p n W1.drew := Hw.out _ HR1.out.drew
  refine wp_region_held_drew (S := S0 p n) (by kernel_rfl) hS1 (fun hH => ?_)
  have hRd := hid HR1.out.drew
  clear hS1
  refine takeH 0 (Value.pointer (some ⟨p, 0, none⟩)) rfl (by kernel_rfl) (by kernel_rfl) (by kernel_rfl) (fun _ _ _ h => h) (by rfl) (fun w hSw => by go_simp) hH ?_
  simp only [Act.put, List.setIfInBounds_toArray, List.set_cons_succ, List.set_cons_zero]
  refine takeH 1 (Value.pointer (some ⟨p, 0, none⟩)) rfl (by kernel_rfl) (by kernel_rfl) (by kernel_rfl) (fun _ _ _ h => h) (by rfl) (fun w hSw => by go_simp) hH ?_
  simp only [Act.put, List.setIfInBounds_toArray, List.set_cons_succ, List.set_cons_zero]
  refine takeH 2 (Value.pointer (some ⟨p, 323, none⟩)) rfl (by kernel_rfl) (by kernel_rfl) (by kernel_rfl) (fun _ _ _ h => h) (by rfl) (fun w hSw => by go_simp) hH ?_
  simp only [Act.put, List.setIfInBounds_toArray, List.set_cons_succ, List.set_cons_zero]
  refine takeH 4 (Value.pointer (some ⟨p, 0, none⟩)) rfl (by kernel_rfl) (by kernel_rfl) (by kernel_rfl) (fun _ _ _ h => h) (by rfl) (fun w hSw => by go_simp) hH ?_
  simp only [Act.put, List.setIfInBounds_toArray, List.set_cons_succ, List.set_cons_zero]
  refine takeH 5 (Value.pointer (some ⟨p, 0, none⟩)) rfl (by kernel_rfl) (by kernel_rfl) (by kernel_rfl) (fun _ _ _ h => h) (by rfl) (fun w hSw => by go_simp) hH ?_
  simp only [Act.put, List.setIfInBounds_toArray, List.set_cons_succ, List.set_cons_zero]
  refine takeH 6 (Value.pointer (some ⟨p, 0, none⟩)) rfl (by kernel_rfl) (by kernel_rfl) (by kernel_rfl) (fun _ _ _ h => h) (by rfl) (fun w hSw => by go_simp) hH ?_
  simp only [Act.put, List.setIfInBounds_toArray, List.set_cons_succ, List.set_cons_zero]
  refine takeH 7 (Value.pointer (some ⟨p, 0, none⟩)) rfl (by kernel_rfl) (by kernel_rfl) (by kernel_rfl) (fun _ _ _ h => h) (by rfl) (fun w hSw => by go_simp) hH ?_
  simp only [Act.put, List.setIfInBounds_toArray, List.set_cons_succ, List.set_cons_zero]
  refine takeH 10 (Value.pointer (some ⟨p, 0, none⟩)) rfl (by kernel_rfl) (by kernel_rfl) (by kernel_rfl) (fun _ _ _ h => h) (by rfl) (fun w hSw => by go_simp) hH ?_
  simp only [Act.put, List.setIfInBounds_toArray, List.set_cons_succ, List.set_cons_zero]
  refine takeH 11 (Value.pointer (some ⟨p, 0, none⟩)) rfl (by kernel_rfl) (by kernel_rfl) (by kernel_rfl) (fun _ _ _ h => h) (by rfl) (fun w hSw => by go_simp) hH ?_
  simp only [Act.put, List.setIfInBounds_toArray, List.set_cons_succ, List.set_cons_zero]
  refine takeH 12 (Value.pointer (some ⟨p, 256, none⟩)) rfl (by kernel_rfl) (by kernel_rfl) (by kernel_rfl) (fun _ _ _ h => h) (by rfl) (fun w hSw => by go_simp) hH ?_
  simp only [Act.put, List.setIfInBounds_toArray, List.set_cons_succ, List.set_cons_zero]
  refine takeH 13 (Value.int .i64 (n : Int)) rfl (by kernel_rfl) (by kernel_rfl) (by kernel_rfl) (fun _ _ _ h => h) (by rfl) (fun w hSw => by unfold S0 at hSw; go_simp) hH ?_
  simp only [Act.put, List.setIfInBounds_toArray, List.set_cons_succ, List.set_cons_zero]
  refine callOrL 8 3 rfl rfl (by kernel_rfl) (by rfl) (by rfl) 83 #[.pointer (some ⟨p, 0, none⟩)] (by go_simp) (.int .u8 (b.toNat : Int)) (InR p L s2 w) Hw.out (Hol.out _ hRd.out) (U s2) W1.drew (by have gs := Hsm.out _ hRd.out; go_simp) (Hw.out _ hRd.out) ?_ ?_
  · intro w1 hR1
    have hR1 := hid hR1
    simp only [Act.put, List.setIfInBounds_toArray, List.set_cons_succ, List.set_cons_zero]
    refine callOrL 9 3 rfl rfl (by kernel_rfl) (by rfl) (by rfl) 82 #[.pointer (some ⟨p, 0, none⟩), .int .u8 (b.toNat : Int)] (by go_simp) (U tb) (InR p L s2 w) Hw.out (Hat.out _ hR1.out) (U s2) w1 (by have gs := Hsm.out _ hR1.out; go_simp) (Hw.out _ hR1.out) ?_ ?_
    · intro w2 hR2
      have hR2 := hid hR2
      simp only [Act.put, List.setIfInBounds_toArray, List.set_cons_succ, List.set_cons_zero]
      refine callOrL 14 3 rfl rfl (by kernel_rfl) (by rfl) (by rfl) 81 #[U tb, .int .i64 (n : Int)] (by go_simp) (U r) (InR p L s2 w) Hw.out (Hro.out _ hR2.out) (U s2) w2 (by have gs := Hsm.out _ hR2.out; go_simp) (Hw.out _ hR2.out) ?_ ?_
      · intro w3 hR3
        have hR3 := hid hR3
        simp only [Act.put, List.setIfInBounds_toArray, List.set_cons_succ, List.set_cons_zero]
        refine runH 3 rfl (by kernel_rfl) (by rfl) (U s2) w3 (by have gs := Hsm.out _ hR3.out; go_simp) (Hw.out _ hR3.out) ?_
        simp only [Act.put, List.setIfInBounds_toArray, List.set_cons_succ, List.set_cons_zero]
        refine takeH 15 (U s1) rfl (by kernel_rfl) (by kernel_rfl) (by kernel_rfl) (fun _ _ _ h => h) (by rfl) (fun w hSw => by go_simp) (Hw.out _ hR3.out) ?_
        simp only [Act.put, List.setIfInBounds_toArray, List.set_cons_succ, List.set_cons_zero]
        refine takeH 16 (Value.pointer (some ⟨p, 0, none⟩)) rfl (by kernel_rfl) (by kernel_rfl) (by kernel_rfl) (fun _ _ _ h => h) (by rfl) (fun w hSw => by go_simp) (Hw.out _ hR3.out) ?_
        simp only [Act.put, List.setIfInBounds_toArray, List.set_cons_succ, List.set_cons_zero]
        refine takeH 17 (Value.pointer (some ⟨p, 323, none⟩)) rfl (by kernel_rfl) (by kernel_rfl) (by kernel_rfl) (fun _ _ _ h => h) (by rfl) (fun w hSw => by go_simp) (Hw.out _ hR3.out) ?_
        simp only [Act.put, List.setIfInBounds_toArray, List.set_cons_succ, List.set_cons_zero]
        have gs := Hsm.out _ hR3.out
        have gf := frozen_of_row w3 p 323 _ _ hR3.out.1
        refine writeH 18 rfl (by kernel_rfl) (by rfl) (w3.setCell ⟨p, 323, none⟩ (U s1)) (by go_simp) ((cell_set_ne hR3.out.1 256 323 _ (by omega)).trans (Hw.out _ hR3.out)) ?_
        simp only [Act.put, List.setIfInBounds_toArray, List.set_cons_succ, List.set_cons_zero]
        clear gs gf
        refine wpAnyH_done (by kernel_rfl) ?_ _
        obtain ⟨W2, hW2⟩ : ∃ W2, W2 = w3.setCell ⟨p, 323, none⟩ (U s1) := ⟨_, rfl⟩
        rw [← hW2]
        have hB2 : W2.heap[p]? = some (.cells (L.set 323 (U s1)).toArray 110 (0, 0)) := by
          rw [hW2, Go.heap_setCell_same _ p 323 _ _ _ hR3.out.1, List.setIfInBounds_toArray, List.set_set]
        have hK2 : Kept [p] w W2 := by rw [hW2]; exact hR3.out.2.setCell (fun _ => by simp) _
        have HB2 := hid hB2; have HK2 := hid hK2
        obtain ⟨M, hM⟩ : ∃ M, M = L.set 323 (U s1) := ⟨_, rfl⟩
        rw [← hM] at hB2
        have hMl : M.length = 324 := by rw [hM]; simpa using Hlen.out
        have hc : ∀ i, W2.cell? ⟨p, i, none⟩ = M[i]? := fun i => by rw [cell_of_row W2 _ _ _ _ _ hB2]; simp
        have e1 : W2.cell? ⟨p, 323, none⟩ = some (U s1) := by rw [hc, hM]; simp [List.getElem?_set, Hlen.out]
        have e4 : W2.cell? ⟨p, 321, none⟩ = some (.int .i64 (nx : Int)) := by rw [hc, hM, List.getElem?_set_ne (by omega)]; exact Hnext.out
        obtain ⟨v6, e5⟩ : ∃ v, W2.cell? ⟨p, 257 + nx, none⟩ = some v := ⟨M[257 + nx]'(by rw [hMl]; omega), by rw [hc]; simp⟩
        have g1 := frozen_of_row W2 _ 323 _ _ hB2
        have g4 := frozen_of_row W2 _ 321 _ _ hB2
        have g5 := frozen_of_row W2 _ (257 + nx) _ _ hB2
        have Hc := hid hc; have HM := hid hM
        clear hW2 hB2 hK2 hc hM
        go_wp2_with fail
        go_region
        obtain ⟨W3, hW3⟩ : ∃ W3, W3 = (W2.setCell ⟨p, 257 + nx, none⟩ (.int .u8 (cn : Int))).drew := ⟨_, rfl⟩
        rw [← hW3]
        have hB3 : W3.heap[p]? = some (.cells (M.set (257 + nx) (.int .u8 (cn : Int))).toArray 110 (0, 0)) := by
          rw [hW3]
          show (W2.setCell ⟨p, 257 + nx, none⟩ (.int .u8 (cn : Int))).heap[p]? = _
          rw [Go.heap_setCell_same W2 p (257 + nx) _ _ _ (HM.out ▸ HB2.out), List.setIfInBounds_toArray]
        have hc3 : ∀ i, W3.cell? ⟨p, i, none⟩ = (M.set (257 + nx) (.int .u8 (cn : Int)))[i]? := fun i => by rw [cell_of_row W3 _ _ _ _ _ hB3]; simp
        have x1 : W3.cell? ⟨p, 323, none⟩ = some (U s1) := by rw [hc3, List.getElem?_set_ne (by omega), ← Hc.out]; exact e1
        have x4 : W3.cell? ⟨p, 321, none⟩ = some (.int .i64 (nx : Int)) := by rw [hc3, List.getElem?_set_ne (by omega), ← Hc.out]; exact e4
        have x4f : W3.frozen? ⟨p, 321, none⟩ = false := frozen_of_row W3 _ 321 _ _ hB3
        have hfin : Hid (Kept [p] w (W3.setCell ⟨p, 321, none⟩ (.int .i64 (m : Int))) ∧ Win (W3.setCell ⟨p, 321, none⟩ (.int .i64 (m : Int))) p T n (ys ++ [c])) := by
          refine hid ⟨?_, (nx + 1) % 64, _, ?_, HP.out⟩
          · rw [hW3]; exact ((HK2.out.setCell (fun _ => by simp) _).drew).setCell (fun _ => by simp) _
          · rw [Go.heap_setCell_same _ p 321 _ _ _ hB3, List.setIfInBounds_toArray, Hm.out, HM.out]
            rw [← HB.out, ← set_same (L.set 323 (U s1)) 322 (.int .i64 (n : Int)) (by rw [List.getElem?_set_ne (by omega)]; exact Hcnt.out)]; rfl
        clear hW3 e1 e4 e5 g1 g4 g5 hMl hB3 hc3
        go_wp2
        go_ret
        rw [← Hs1.out]
        exact ⟨rfl, hfin.out⟩
      · simp only [Act.put, List.setIfInBounds_toArray, List.set_cons_succ, List.set_cons_zero]
        refine callR 14 rfl (by kernel_rfl) (by rfl) 81 #[U tb, .int .i64 (n : Int)] (by go_simp) (U r) (InR p L s2 w) Hw.out (Hro.out _ hR2.out) ?_
        intro w4 hR4
        have hR4 := hid hR4
        simp only [Act.put, List.setIfInBounds_toArray, List.set_cons_succ, List.set_cons_zero]
        refine takeH 15 (U s1) rfl (by kernel_rfl) (by kernel_rfl) (by kernel_rfl) (fun _ _ _ h => h) (by rfl) (fun w hSw => by go_simp) (Hw.out _ hR4.out) ?_
        simp only [Act.put, List.setIfInBounds_toArray, List.set_cons_succ, List.set_cons_zero]
        refine takeH 16 (Value.pointer (some ⟨p, 0, none⟩)) rfl (by kernel_rfl) (by kernel_rfl) (by kernel_rfl) (fun _ _ _ h => h) (by rfl) (fun w hSw => by go_simp) (Hw.out _ hR4.out) ?_
        simp only [Act.put, List.setIfInBounds_toArray, List.set_cons_succ, List.set_cons_zero]
        refine takeH 17 (Value.pointer (some ⟨p, 323, none⟩)) rfl (by kernel_rfl) (by kernel_rfl) (by kernel_rfl) (fun _ _ _ h => h) (by rfl) (fun w hSw => by go_simp) (Hw.out _ hR4.out) ?_
        simp only [Act.put, List.setIfInBounds_toArray, List.set_cons_succ, List.set_cons_zero]
        have gs := Hsm.out _ hR4.out
        have gf := frozen_of_row w4 p 323 _ _ hR4.out.1
        refine writeH 18 rfl (by kernel_rfl) (by rfl) (w4.setCell ⟨p, 323, none⟩ (U s1)) (by go_simp) ((cell_set_ne hR4.out.1 256 323 _ (by omega)).trans (Hw.out _ hR4.out)) ?_
        simp only [Act.put, List.setIfInBounds_toArray, List.set_cons_succ, List.set_cons_zero]
        clear gs gf
        refine wpAnyH_done (by kernel_rfl) ?_ _
        obtain ⟨W2, hW2⟩ : ∃ W2, W2 = w4.setCell ⟨p, 323, none⟩ (U s1) := ⟨_, rfl⟩
        rw [← hW2]
        have hB2 : W2.heap[p]? = some (.cells (L.set 323 (U s1)).toArray 110 (0, 0)) := by
          rw [hW2, Go.heap_setCell_same _ p 323 _ _ _ hR4.out.1, List.setIfInBounds_toArray, List.set_set]
        have hK2 : Kept [p] w W2 := by rw [hW2]; exact hR4.out.2.setCell (fun _ => by simp) _
        have HB2 := hid hB2; have HK2 := hid hK2
        obtain ⟨M, hM⟩ : ∃ M, M = L.set 323 (U s1) := ⟨_, rfl⟩
        rw [← hM] at hB2
        have hMl : M.length = 324 := by rw [hM]; simpa using Hlen.out
        have hc : ∀ i, W2.cell? ⟨p, i, none⟩ = M[i]? := fun i => by rw [cell_of_row W2 _ _ _ _ _ hB2]; simp
        have e1 : W2.cell? ⟨p, 323, none⟩ = some (U s1) := by rw [hc, hM]; simp [List.getElem?_set, Hlen.out]
        have e4 : W2.cell? ⟨p, 321, none⟩ = some (.int .i64 (nx : Int)) := by rw [hc, hM, List.getElem?_set_ne (by omega)]; exact Hnext.out
        obtain ⟨v6, e5⟩ : ∃ v, W2.cell? ⟨p, 257 + nx, none⟩ = some v := ⟨M[257 + nx]'(by rw [hMl]; omega), by rw [hc]; simp⟩
        have g1 := frozen_of_row W2 _ 323 _ _ hB2
        have g4 := frozen_of_row W2 _ 321 _ _ hB2
        have g5 := frozen_of_row W2 _ (257 + nx) _ _ hB2
        have Hc := hid hc; have HM := hid hM
        clear hW2 hB2 hK2 hc hM
        go_wp2_with fail
        go_region
        obtain ⟨W3, hW3⟩ : ∃ W3, W3 = (W2.setCell ⟨p, 257 + nx, none⟩ (.int .u8 (cn : Int))).drew := ⟨_, rfl⟩
        rw [← hW3]
        have hB3 : W3.heap[p]? = some (.cells (M.set (257 + nx) (.int .u8 (cn : Int))).toArray 110 (0, 0)) := by
          rw [hW3]
          show (W2.setCell ⟨p, 257 + nx, none⟩ (.int .u8 (cn : Int))).heap[p]? = _
          rw [Go.heap_setCell_same W2 p (257 + nx) _ _ _ (HM.out ▸ HB2.out), List.setIfInBounds_toArray]
        have hc3 : ∀ i, W3.cell? ⟨p, i, none⟩ = (M.set (257 + nx) (.int .u8 (cn : Int)))[i]? := fun i => by rw [cell_of_row W3 _ _ _ _ _ hB3]; simp
        have x1 : W3.cell? ⟨p, 323, none⟩ = some (U s1) := by rw [hc3, List.getElem?_set_ne (by omega), ← Hc.out]; exact e1
        have x4 : W3.cell? ⟨p, 321, none⟩ = some (.int .i64 (nx : Int)) := by rw [hc3, List.getElem?_set_ne (by omega), ← Hc.out]; exact e4
        have x4f : W3.frozen? ⟨p, 321, none⟩ = false := frozen_of_row W3 _ 321 _ _ hB3
        have hfin : Hid (Kept [p] w (W3.setCell ⟨p, 321, none⟩ (.int .i64 (m : Int))) ∧ Win (W3.setCell ⟨p, 321, none⟩ (.int .i64 (m : Int))) p T n (ys ++ [c])) := by
          refine hid ⟨?_, (nx + 1) % 64, _, ?_, HP.out⟩
          · rw [hW3]; exact ((HK2.out.setCell (fun _ => by simp) _).drew).setCell (fun _ => by simp) _
          · rw [Go.heap_setCell_same _ p 321 _ _ _ hB3, List.setIfInBounds_toArray, Hm.out, HM.out]
            rw [← HB.out, ← set_same (L.set 323 (U s1)) 322 (.int .i64 (n : Int)) (by rw [List.getElem?_set_ne (by omega)]; exact Hcnt.out)]; rfl
        clear hW3 e1 e4 e5 g1 g4 g5 hMl hB3 hc3
        go_wp2
        go_ret
        rw [← Hs1.out]
        exact ⟨rfl, hfin.out⟩
    · simp only [Act.put, List.setIfInBounds_toArray, List.set_cons_succ, List.set_cons_zero]
      refine callR 9 rfl (by kernel_rfl) (by rfl) 82 #[.pointer (some ⟨p, 0, none⟩), .int .u8 (b.toNat : Int)] (by go_simp) (U tb) (InR p L s2 w) Hw.out (Hat.out _ hR1.out) ?_
      intro w5 hR5
      have hR5 := hid hR5
      simp only [Act.put, List.setIfInBounds_toArray, List.set_cons_succ, List.set_cons_zero]
      refine callR 14 rfl (by kernel_rfl) (by rfl) 81 #[U tb, .int .i64 (n : Int)] (by go_simp) (U r) (InR p L s2 w) Hw.out (Hro.out _ hR5.out) ?_
      intro w6 hR6
      have hR6 := hid hR6
      simp only [Act.put, List.setIfInBounds_toArray, List.set_cons_succ, List.set_cons_zero]
      refine takeH 15 (U s1) rfl (by kernel_rfl) (by kernel_rfl) (by kernel_rfl) (fun _ _ _ h => h) (by rfl) (fun w hSw => by go_simp) (Hw.out _ hR6.out) ?_
      simp only [Act.put, List.setIfInBounds_toArray, List.set_cons_succ, List.set_cons_zero]
      refine takeH 16 (Value.pointer (some ⟨p, 0, none⟩)) rfl (by kernel_rfl) (by kernel_rfl) (by kernel_rfl) (fun _ _ _ h => h) (by rfl) (fun w hSw => by go_simp) (Hw.out _ hR6.out) ?_
      simp only [Act.put, List.setIfInBounds_toArray, List.set_cons_succ, List.set_cons_zero]
      refine takeH 17 (Value.pointer (some ⟨p, 323, none⟩)) rfl (by kernel_rfl) (by kernel_rfl) (by kernel_rfl) (fun _ _ _ h => h) (by rfl) (fun w hSw => by go_simp) (Hw.out _ hR6.out) ?_
      simp only [Act.put, List.setIfInBounds_toArray, List.set_cons_succ, List.set_cons_zero]
      have gs := Hsm.out _ hR6.out
      have gf := frozen_of_row w6 p 323 _ _ hR6.out.1
      refine writeH 18 rfl (by kernel_rfl) (by rfl) (w6.setCell ⟨p, 323, none⟩ (U s1)) (by go_simp) ((cell_set_ne hR6.out.1 256 323 _ (by omega)).trans (Hw.out _ hR6.out)) ?_
      simp only [Act.put, List.setIfInBounds_toArray, List.set_cons_succ, List.set_cons_zero]
      clear gs gf
      refine wpAnyH_done (by kernel_rfl) ?_ _
      obtain ⟨W2, hW2⟩ : ∃ W2, W2 = w6.setCell ⟨p, 323, none⟩ (U s1) := ⟨_, rfl⟩
      rw [← hW2]
      have hB2 : W2.heap[p]? = some (.cells (L.set 323 (U s1)).toArray 110 (0, 0)) := by
        rw [hW2, Go.heap_setCell_same _ p 323 _ _ _ hR6.out.1, List.setIfInBounds_toArray, List.set_set]
      have hK2 : Kept [p] w W2 := by rw [hW2]; exact hR6.out.2.setCell (fun _ => by simp) _
      have HB2 := hid hB2; have HK2 := hid hK2
      obtain ⟨M, hM⟩ : ∃ M, M = L.set 323 (U s1) := ⟨_, rfl⟩
      rw [← hM] at hB2
      have hMl : M.length = 324 := by rw [hM]; simpa using Hlen.out
      have hc : ∀ i, W2.cell? ⟨p, i, none⟩ = M[i]? := fun i => by rw [cell_of_row W2 _ _ _ _ _ hB2]; simp
      have e1 : W2.cell? ⟨p, 323, none⟩ = some (U s1) := by rw [hc, hM]; simp [List.getElem?_set, Hlen.out]
      have e4 : W2.cell? ⟨p, 321, none⟩ = some (.int .i64 (nx : Int)) := by rw [hc, hM, List.getElem?_set_ne (by omega)]; exact Hnext.out
      obtain ⟨v6, e5⟩ : ∃ v, W2.cell? ⟨p, 257 + nx, none⟩ = some v := ⟨M[257 + nx]'(by rw [hMl]; omega), by rw [hc]; simp⟩
      have g1 := frozen_of_row W2 _ 323 _ _ hB2
      have g4 := frozen_of_row W2 _ 321 _ _ hB2
      have g5 := frozen_of_row W2 _ (257 + nx) _ _ hB2
      have Hc := hid hc; have HM := hid hM
      clear hW2 hB2 hK2 hc hM
      go_wp2_with fail
      go_region
      obtain ⟨W3, hW3⟩ : ∃ W3, W3 = (W2.setCell ⟨p, 257 + nx, none⟩ (.int .u8 (cn : Int))).drew := ⟨_, rfl⟩
      rw [← hW3]
      have hB3 : W3.heap[p]? = some (.cells (M.set (257 + nx) (.int .u8 (cn : Int))).toArray 110 (0, 0)) := by
        rw [hW3]
        show (W2.setCell ⟨p, 257 + nx, none⟩ (.int .u8 (cn : Int))).heap[p]? = _
        rw [Go.heap_setCell_same W2 p (257 + nx) _ _ _ (HM.out ▸ HB2.out), List.setIfInBounds_toArray]
      have hc3 : ∀ i, W3.cell? ⟨p, i, none⟩ = (M.set (257 + nx) (.int .u8 (cn : Int)))[i]? := fun i => by rw [cell_of_row W3 _ _ _ _ _ hB3]; simp
      have x1 : W3.cell? ⟨p, 323, none⟩ = some (U s1) := by rw [hc3, List.getElem?_set_ne (by omega), ← Hc.out]; exact e1
      have x4 : W3.cell? ⟨p, 321, none⟩ = some (.int .i64 (nx : Int)) := by rw [hc3, List.getElem?_set_ne (by omega), ← Hc.out]; exact e4
      have x4f : W3.frozen? ⟨p, 321, none⟩ = false := frozen_of_row W3 _ 321 _ _ hB3
      have hfin : Hid (Kept [p] w (W3.setCell ⟨p, 321, none⟩ (.int .i64 (m : Int))) ∧ Win (W3.setCell ⟨p, 321, none⟩ (.int .i64 (m : Int))) p T n (ys ++ [c])) := by
        refine hid ⟨?_, (nx + 1) % 64, _, ?_, HP.out⟩
        · rw [hW3]; exact ((HK2.out.setCell (fun _ => by simp) _).drew).setCell (fun _ => by simp) _
        · rw [Go.heap_setCell_same _ p 321 _ _ _ hB3, List.setIfInBounds_toArray, Hm.out, HM.out]
          rw [← HB.out, ← set_same (L.set 323 (U s1)) 322 (.int .i64 (n : Int)) (by rw [List.getElem?_set_ne (by omega)]; exact Hcnt.out)]; rfl
      clear hW3 e1 e4 e5 g1 g4 g5 hMl hB3 hc3
      go_wp2
      go_ret
      rw [← Hs1.out]
      exact ⟨rfl, hfin.out⟩
  · simp only [Act.put, List.setIfInBounds_toArray, List.set_cons_succ, List.set_cons_zero]
    refine callR 8 rfl (by kernel_rfl) (by rfl) 83 #[.pointer (some ⟨p, 0, none⟩)] (by go_simp) (.int .u8 (b.toNat : Int)) (InR p L s2 w) Hw.out (Hol.out _ hRd.out) ?_
    intro w7 hR7
    have hR7 := hid hR7
    simp only [Act.put, List.setIfInBounds_toArray, List.set_cons_succ, List.set_cons_zero]
    refine callR 9 rfl (by kernel_rfl) (by rfl) 82 #[.pointer (some ⟨p, 0, none⟩), .int .u8 (b.toNat : Int)] (by go_simp) (U tb) (InR p L s2 w) Hw.out (Hat.out _ hR7.out) ?_
    intro w8 hR8
    have hR8 := hid hR8
    simp only [Act.put, List.setIfInBounds_toArray, List.set_cons_succ, List.set_cons_zero]
    refine callR 14 rfl (by kernel_rfl) (by rfl) 81 #[U tb, .int .i64 (n : Int)] (by go_simp) (U r) (InR p L s2 w) Hw.out (Hro.out _ hR8.out) ?_
    intro w9 hR9
    have hR9 := hid hR9
    simp only [Act.put, List.setIfInBounds_toArray, List.set_cons_succ, List.set_cons_zero]
    refine takeH 15 (U s1) rfl (by kernel_rfl) (by kernel_rfl) (by kernel_rfl) (fun _ _ _ h => h) (by rfl) (fun w hSw => by go_simp) (Hw.out _ hR9.out) ?_
    simp only [Act.put, List.setIfInBounds_toArray, List.set_cons_succ, List.set_cons_zero]
    refine takeH 16 (Value.pointer (some ⟨p, 0, none⟩)) rfl (by kernel_rfl) (by kernel_rfl) (by kernel_rfl) (fun _ _ _ h => h) (by rfl) (fun w hSw => by go_simp) (Hw.out _ hR9.out) ?_
    simp only [Act.put, List.setIfInBounds_toArray, List.set_cons_succ, List.set_cons_zero]
    refine takeH 17 (Value.pointer (some ⟨p, 323, none⟩)) rfl (by kernel_rfl) (by kernel_rfl) (by kernel_rfl) (fun _ _ _ h => h) (by rfl) (fun w hSw => by go_simp) (Hw.out _ hR9.out) ?_
    simp only [Act.put, List.setIfInBounds_toArray, List.set_cons_succ, List.set_cons_zero]
    have gs := Hsm.out _ hR9.out
    have gf := frozen_of_row w9 p 323 _ _ hR9.out.1
    refine writeH 18 rfl (by kernel_rfl) (by rfl) (w9.setCell ⟨p, 323, none⟩ (U s1)) (by go_simp) ((cell_set_ne hR9.out.1 256 323 _ (by omega)).trans (Hw.out _ hR9.out)) ?_
    simp only [Act.put, List.setIfInBounds_toArray, List.set_cons_succ, List.set_cons_zero]
    clear gs gf
    refine wpAnyH_done (by kernel_rfl) ?_ _
    obtain ⟨W2, hW2⟩ : ∃ W2, W2 = w9.setCell ⟨p, 323, none⟩ (U s1) := ⟨_, rfl⟩
    rw [← hW2]
    have hB2 : W2.heap[p]? = some (.cells (L.set 323 (U s1)).toArray 110 (0, 0)) := by
      rw [hW2, Go.heap_setCell_same _ p 323 _ _ _ hR9.out.1, List.setIfInBounds_toArray, List.set_set]
    have hK2 : Kept [p] w W2 := by rw [hW2]; exact hR9.out.2.setCell (fun _ => by simp) _
    have HB2 := hid hB2; have HK2 := hid hK2
    obtain ⟨M, hM⟩ : ∃ M, M = L.set 323 (U s1) := ⟨_, rfl⟩
    rw [← hM] at hB2
    have hMl : M.length = 324 := by rw [hM]; simpa using Hlen.out
    have hc : ∀ i, W2.cell? ⟨p, i, none⟩ = M[i]? := fun i => by rw [cell_of_row W2 _ _ _ _ _ hB2]; simp
    have e1 : W2.cell? ⟨p, 323, none⟩ = some (U s1) := by rw [hc, hM]; simp [List.getElem?_set, Hlen.out]
    have e4 : W2.cell? ⟨p, 321, none⟩ = some (.int .i64 (nx : Int)) := by rw [hc, hM, List.getElem?_set_ne (by omega)]; exact Hnext.out
    obtain ⟨v6, e5⟩ : ∃ v, W2.cell? ⟨p, 257 + nx, none⟩ = some v := ⟨M[257 + nx]'(by rw [hMl]; omega), by rw [hc]; simp⟩
    have g1 := frozen_of_row W2 _ 323 _ _ hB2
    have g4 := frozen_of_row W2 _ 321 _ _ hB2
    have g5 := frozen_of_row W2 _ (257 + nx) _ _ hB2
    have Hc := hid hc; have HM := hid hM
    clear hW2 hB2 hK2 hc hM
    go_wp2_with fail
    go_region
    obtain ⟨W3, hW3⟩ : ∃ W3, W3 = (W2.setCell ⟨p, 257 + nx, none⟩ (.int .u8 (cn : Int))).drew := ⟨_, rfl⟩
    rw [← hW3]
    have hB3 : W3.heap[p]? = some (.cells (M.set (257 + nx) (.int .u8 (cn : Int))).toArray 110 (0, 0)) := by
      rw [hW3]
      show (W2.setCell ⟨p, 257 + nx, none⟩ (.int .u8 (cn : Int))).heap[p]? = _
      rw [Go.heap_setCell_same W2 p (257 + nx) _ _ _ (HM.out ▸ HB2.out), List.setIfInBounds_toArray]
    have hc3 : ∀ i, W3.cell? ⟨p, i, none⟩ = (M.set (257 + nx) (.int .u8 (cn : Int)))[i]? := fun i => by rw [cell_of_row W3 _ _ _ _ _ hB3]; simp
    have x1 : W3.cell? ⟨p, 323, none⟩ = some (U s1) := by rw [hc3, List.getElem?_set_ne (by omega), ← Hc.out]; exact e1
    have x4 : W3.cell? ⟨p, 321, none⟩ = some (.int .i64 (nx : Int)) := by rw [hc3, List.getElem?_set_ne (by omega), ← Hc.out]; exact e4
    have x4f : W3.frozen? ⟨p, 321, none⟩ = false := frozen_of_row W3 _ 321 _ _ hB3
    have hfin : Hid (Kept [p] w (W3.setCell ⟨p, 321, none⟩ (.int .i64 (m : Int))) ∧ Win (W3.setCell ⟨p, 321, none⟩ (.int .i64 (m : Int))) p T n (ys ++ [c])) := by
      refine hid ⟨?_, (nx + 1) % 64, _, ?_, HP.out⟩
      · rw [hW3]; exact ((HK2.out.setCell (fun _ => by simp) _).drew).setCell (fun _ => by simp) _
      · rw [Go.heap_setCell_same _ p 321 _ _ _ hB3, List.setIfInBounds_toArray, Hm.out, HM.out]
        rw [← HB.out, ← set_same (L.set 323 (U s1)) 322 (.int .i64 (n : Int)) (by rw [List.getElem?_set_ne (by omega)]; exact Hcnt.out)]; rfl
    clear hW3 e1 e4 e5 g1 g4 g5 hMl hB3 hc3
    go_wp2
    go_ret
    rw [← Hs1.out]
    exact ⟨rfl, hfin.out⟩
end Go.Proofs.YtllcfffpagogbaaDoor
