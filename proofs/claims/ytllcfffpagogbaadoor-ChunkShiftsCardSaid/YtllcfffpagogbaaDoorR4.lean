/- roll.Window.Push. -/
import Derived.Test.YtllcfffpagogbaaDoorR3
namespace Go.Proofs.YtllcfffpagogbaaDoor
open Go.RowKit

set_option maxHeartbeats 1000000 in
theorem push_short_any (p n : Nat) (T : UInt8 → Roll.W) (ys : List UInt8) (c : UInt8) (w : World) (h : Win w p T n ys) (h1 : 1 ≤ n) (hn : n ≤ 64) (hs : ys.length < n) :
    Calls Tryd.prog 58 #[.pointer (some ⟨p, 0, none⟩), B c] w fun e w' => e = .returned (U (Roll.sum T (Roll.last n (ys ++ [c])))) ∧ Kept [p] w w' ∧ Win w' p T n (ys ++ [c]) := by
  obtain ⟨nx, L, hh, hp⟩ := h
  have hnx := hp.nxlt
  have hps := Roll.push_short T c hs
  obtain ⟨s0, hs0⟩ : ∃ s, s = Roll.sum T (Roll.last n ys) := ⟨_, rfl⟩
  obtain ⟨s1, hs1⟩ : ∃ s, s = Roll.sum T (Roll.last n (ys ++ [c])) := ⟨_, rfl⟩
  rw [← hs0, ← hs1] at hps
  have c1 : w.cell? ⟨p, 323, none⟩ = some (U s0) := by rw [hs0]; exact (hp.cell hh 323).trans hp.sum
  have hmin : min ys.length n = ys.length := by omega
  have c2 : w.cell? ⟨p, 322, none⟩ = some (.int .i64 (ys.length : Int)) := by rw [← hmin]; exact (hp.cell hh 322).trans hp.count
  have c3 : w.cell? ⟨p, 256, none⟩ = some (.int .i64 (n : Int)) := (hp.cell hh 256).trans hp.width
  have c4 : w.cell? ⟨p, 321, none⟩ = some (.int .i64 (nx : Int)) := (hp.cell hh 321).trans hp.next
  obtain ⟨v5, c5⟩ : ∃ v, w.cell? ⟨p, 257 + nx, none⟩ = some v := ⟨L[257 + nx]'(by rw [hp.len]; omega), by rw [hp.cell hh]; simp⟩
  have f1 := frozen_of_row w _ 323 _ _ hh
  have f2 := frozen_of_row w _ 322 _ _ hh
  have f4 := frozen_of_row w _ 321 _ _ hh
  have f5 := frozen_of_row w _ (257 + nx) _ _ hh
  have H := hid (hp.tb hh)
  have HH := hid hh
  have Hlen := hid hp.len
  have Hnext := hid hp.next
  have HP := hid (hp.push hn c (ys.length + 1) (by omega))
  rw [← hs1] at HP
  have Hs1 := hid hs1
  clear hh hp hs0 hs1 hmin
  have Hps := hid hps
  clear hps
  have hmod : ((nx : Int) + 1).tmod 64 = (((nx + 1) % 64 : Nat) : Int) := by rw [Int.tmod_eq_emod_of_nonneg (by omega)]; omega
  obtain ⟨m, hm⟩ : ∃ m, m = (nx + 1) % 64 := ⟨_, rfl⟩
  rw [← hm] at hmod
  have Hm := hid hm
  obtain ⟨k, hk⟩ : ∃ k, k = ys.length := ⟨_, rfl⟩
  rw [← hk] at c2 hs
  have Hk := hid hk
  clear hm hk
  obtain ⟨cn, hcn⟩ : ∃ cn, cn = c.toNat := ⟨_, rfl⟩
  have hB : B c = .int .u8 (cn : Int) := by rw [hcn]; rfl
  have Hbe := hid (show Calls Tryd.prog 80 #[.pointer (some ⟨p, 0, none⟩), U s0, .int .u8 (cn : Int)] w.drew fun e w' => e = .returned (U s1) ∧ w.drew = w' by
    rw [← hB, ← Hps.out]; exact behind_any p 0 T s0 c w.drew H.out)
  rw [hB]
  have HB := hid hB
  clear hcn hB
  go_enter Tryd.func58, Tryd.ntmps58
  go_wp2_with fail
  go_region_with (go_at_call 80; refine Hbe.out.mono ?_; rintro e w' ⟨rfl, rfl⟩)
  go_wp2_with fail
  go_region
  go_wp2_with fail
  obtain ⟨W2, hW2⟩ : ∃ W2, W2 = ((w.setCell ⟨p, 323, none⟩ (U s1)).setCell ⟨p, 322, none⟩ (.int .i64 ((k : Int) + 1))).drew.drew := ⟨_, rfl⟩
  rw [← hW2]
  have hB2 : W2.heap[p]? = some (.cells ((L.set 323 (U s1)).set 322 (.int .i64 ((k : Int) + 1))).toArray 110 (0, 0)) := by
    rw [hW2]
    show ((w.setCell ⟨p, 323, none⟩ (U s1)).setCell ⟨p, 322, none⟩ (.int .i64 ((k : Int) + 1))).heap[p]? = _
    rw [Go.heap_setCell_same _ p 322 _ _ _ (Go.heap_setCell_same w p 323 _ _ _ HH.out), List.setIfInBounds_toArray, List.setIfInBounds_toArray]
  have hK2 : Kept [p] w W2 := by rw [hW2]; exact ((((Kept.refl _ _).setCell (fun _ => by simp) _).setCell (fun _ => by simp) _).drew).drew
  have HB2 := hid hB2; have HK2 := hid hK2
  obtain ⟨M, hM⟩ : ∃ M, M = (L.set 323 (U s1)).set 322 (.int .i64 ((k : Int) + 1)) := ⟨_, rfl⟩
  rw [← hM] at hB2
  have hMl : M.length = 324 := by rw [hM]; simpa using Hlen.out
  have hc : ∀ i, W2.cell? ⟨p, i, none⟩ = M[i]? := fun i => by rw [cell_of_row W2 _ _ _ _ _ hB2]; simp
  have e1 : W2.cell? ⟨p, 323, none⟩ = some (U s1) := by rw [hc, hM]; simp [List.getElem?_set, Hlen.out]
  have e4 : W2.cell? ⟨p, 321, none⟩ = some (.int .i64 (nx : Int)) := by rw [hc, hM, List.getElem?_set_ne (by omega), List.getElem?_set_ne (by omega)]; exact Hnext.out
  obtain ⟨v6, e5⟩ : ∃ v, W2.cell? ⟨p, 257 + nx, none⟩ = some v := ⟨M[257 + nx]'(by rw [hMl]; omega), by rw [hc]; simp⟩
  have g1 := frozen_of_row W2 _ 323 _ _ hB2
  have g4 := frozen_of_row W2 _ 321 _ _ hB2
  have g5 := frozen_of_row W2 _ (257 + nx) _ _ hB2
  have Hc := hid hc; have HM := hid hM
  clear hW2 hB2 hK2 hc hM
  go_region
  obtain ⟨W3, hW3⟩ : ∃ W3, W3 = (W2.setCell ⟨p, 257 + nx, none⟩ (.int .u8 (cn : Int))).drew := ⟨_, rfl⟩
  rw [← hW3]
  have hB3 : W3.heap[p]? = some (.cells (M.set (257 + nx) (.int .u8 (cn : Int))).toArray 110 (0, 0)) := by
    rw [hW3]
    show (W2.setCell ⟨p, 257 + nx, none⟩ (.int .u8 (cn : Int))).heap[p]? = _
    rw [Go.heap_setCell_same W2 p (257 + nx) _ _ _ (HM.out ▸ HB2.out), List.setIfInBounds_toArray]
  have hc3 : ∀ i, W3.cell? ⟨p, i, none⟩ = (M.set (257 + nx) (.int .u8 (cn : Int)))[i]? := fun i => by rw [cell_of_row W3 _ _ _ _ _ hB3]; simp
  have x1 : W3.cell? ⟨p, 323, none⟩ = some (U s1) := by rw [hc3, List.getElem?_set_ne (by omega), ← Hc.out]; exact e1
  have x4 : W3.cell? ⟨p, 321, none⟩ = some (.int .i64 (nx : Int)) := by rw [hc3, List.getElem?_set_ne (by omega), ← Hc.out]; exact e4
  have x4f : W3.frozen? ⟨p, 321, none⟩ = false := frozen_of_row W3 _ 321 _ _ hB3
  have hfin : Hid (Kept [p] w (W3.setCell ⟨p, 321, none⟩ (.int .i64 (m : Int))) ∧ Win (W3.setCell ⟨p, 321, none⟩ (.int .i64 (m : Int))) p T n (ys ++ [c])) := by
    refine hid ⟨?_, (nx + 1) % 64, _, ?_, HP.out⟩
    · rw [hW3]; exact ((HK2.out.setCell (fun _ => by simp) _).drew).setCell (fun _ => by simp) _
    · rw [Go.heap_setCell_same _ p 321 _ _ _ hB3, List.setIfInBounds_toArray, Hm.out, HM.out]
      rw [← HB.out, Hk.out]; rfl
  clear hW3 e1 e4 e5 g1 g4 g5 hMl hB3 hc3
  go_wp2
  go_ret
  rw [← Hs1.out]
  exact ⟨rfl, hfin.out⟩
end Go.Proofs.YtllcfffpagogbaaDoor
