/- coldstorelaw08.alive. -/
import Derived.Test.YtieaolnnlfaagaaR5
import Derived.OpenShut
namespace Go.Proofs.Ytieaolnnlfaagaa
open Go.RowKit

theorem push_any (p n : Nat) (T : UInt8 → Roll.W) (ys : List UInt8) (c : UInt8) (w : World) (h : Win w p T n ys) (h1 : 1 ≤ n) (hn : n ≤ 64) :
    Calls Try.prog 37 #[.pointer (some ⟨p, 0, none⟩), B c] w fun e w' => e = .returned (U (Roll.sum T (Roll.last n (ys ++ [c])))) ∧ Kept [p] w w' ∧ Win w' p T n (ys ++ [c]) := by
  by_cases hs : ys.length < n
  · exact push_short_any p n T ys c w h h1 hn hs
  · exact push_full_any p n T ys c w h h1 hn (by omega)

theorem tb_of {w : World} {g : Nat} {T : UInt8 → Roll.W} (h : w.heap[g]? = some (.cells (tabL T).toArray 71 (0, 0))) : Tb w g 0 T := fun c => by
  rw [cell_of_row w _ _ _ _ _ h, Nat.zero_add]
  simpa using tabL_get T c
theorem make_tb (s : Int) (w : World) (h0 : 0 ≤ s) (h1 : s < 18446744073709551616) :
    Calls Try.prog 29 #[.int .u64 s] w fun e w' => e = .returned (.pointer (some ⟨w.heap.size, 0, none⟩)) ∧ Kept [] w w' ∧ Tb w' w.heap.size 0 (num s) :=
  (make_any s w h0 h1).mono fun _ _ h => ⟨h.1, h.2.1, tb_of h.2.2⟩
theorem reads_one (w : World) (b : UInt8) : Reads (w.alloc (.cells #[.int .u8 (b.toNat : Int)] 5)) (some ⟨w.heap.size, 0, none⟩) [b] :=
  ⟨fun h => by simp at h, fun ad had j u hj => by
    simp at had; subst had
    rw [plain_add, Nat.zero_add, cell_of_row _ _ _ _ _ _ (heap_alloc_at rfl)]
    rcases j with _ | j
    · exact hj
    · simp at hj⟩

/-- A handed row of bytes, as its bytes. -/
theorem bytes_of_row {w : World} {a : Option Addr} {len cap : Nat} {zs : List Int} (h : (a = none ∧ len = 0 ∧ cap = 0 ∧ zs = []) ∨
    ∃ x, a = some x ∧ len ≤ cap ∧ cap ≤ maxLen ∧ zs.length = cap ∧ (∀ i, i < zs.length → w.cell? (x.add i) = some (.int .u8 (zs.getD i 0))) ∧ ∀ n ∈ zs, (Lit.int .u8 n).wf = true) :
    ∃ ys : List UInt8, len = ys.length ∧ Reads w a ys ∧ ys.length ≤ cap ∧ cap ≤ 9223372036854775807 ∧ (a = none → cap = 0) := by
  rcases h with ⟨rfl, rfl, rfl, rfl⟩ | ⟨x, rfl, hl, hm, hz, hc, hw⟩
  · exact ⟨[], rfl, ⟨fun _ => rfl, fun _ h => by simp at h⟩, by simp, by omega, fun _ => rfl⟩
  · refine ⟨(zs.take len).map fun z => UInt8.ofNat z.toNat, by simp; omega, ⟨fun h => by simp at h, fun ad had j u hj => ?_⟩, by simp; omega, by unfold maxLen at hm; omega, fun h => by simp at h⟩
    simp at had
    subst had
    rw [List.map_map, List.getElem?_map, List.getElem?_take] at hj
    split at hj
    · rename_i hjl
      have hjz : j < zs.length := by omega
      rw [List.getElem?_eq_getElem hjz] at hj
      simp at hj
      have hb := bounds_u8 (hw _ (List.getElem_mem hjz))
      rw [hc j hjz, ← hj]
      have e : zs.getD j 0 = zs[j] := by simp [hjz]
      rw [e]
      unfold B
      congr 2
      simp
      omega
    · simp at hj


set_option maxHeartbeats 1000000 in
theorem alive08 (w : World) : Calls Try.prog 28 #[] w fun e w' => e = .returned (.bool true) ∧ Kept [] w w' := by
  have hmk := make_tb 7 w (by decide) (by decide)
  obtain ⟨T, hT⟩ : ∃ T, T = num 7 := ⟨_, rfl⟩
  have h12 : (((T 1).toNat : Int) == ((T 2).toNat : Int)) = false := by rw [hT]; decide +kernel
  rw [← hT] at hmk
  have H12 := hid h12
  have Hmk := hid hmk
  clear hT hmk h12
  have hat : ∀ (c : UInt8) (k : Int) (g : Nat) (W : World), k = (c.toNat : Int) → Tb W g 0 T → Calls Try.prog 31 #[.pointer (some ⟨g, 0, none⟩), .int .u8 k] W fun e w' => e = .returned (U (T c)) ∧ W = w' := fun c k g W hk h => by rw [hk]; exact at_any g 0 T c W h
  have Hat := hid hat
  have hpu : ∀ (c : UInt8) (k : Int) (p n : Nat) (ys : List UInt8) (W : World), k = (c.toNat : Int) → Win W p T n ys → 1 ≤ n → n ≤ 64 →
    Calls Try.prog 37 #[.pointer (some ⟨p, 0, none⟩), .int .u8 k] W fun e w' => e = .returned (U (Roll.sum T (Roll.last n (ys ++ [c])))) ∧ Kept [p] W w' ∧ Win w' p T n (ys ++ [c]) := fun c k p n ys W hk h h1 hn => by rw [hk]; exact push_any p n T ys c W h h1 hn
  have Hpu := hid hpu
  clear hat hpu
  go_enter Try.func28, Try.ntmps28
  go_wp2_with fail
  refine Hmk.out.mono ?_
  rintro e w1 ⟨rfl, hk1, ht1⟩
  obtain ⟨g, hg⟩ : ∃ g, g = w.heap.size := ⟨_, rfl⟩
  rw [← hg] at ht1 ⊢
  have Hk1 := hid hk1; have Ht1 := hid ht1
  have Hg := hid hg
  clear hk1 ht1 Hmk hg
  go_wp2_with fail
  refine (Hat.out 1 1 g w1 (by rfl) Ht1.out).mono ?_
  rintro e w' ⟨rfl, rfl⟩
  go_wp2_with fail
  refine (Hat.out 2 2 g w1 (by rfl) Ht1.out).mono ?_
  rintro e w' ⟨rfl, rfl⟩
  have h12 := H12.out
  generalize T 1 = a1 at *
  generalize T 2 = a2 at *
  go_wp2_with fail
  have hsum := tsum_any g 0 T (some ⟨w1.heap.size, 0, none⟩) 1 [5] (w1.alloc (.cells #[.int .u8 ((5 : UInt8).toNat : Int)] 5)) (Ht1.out.kept ((Kept.refl [] w1).alloc _) (by simp)) (reads_one w1 5) (by simp)
  rw [Roll.sum_one] at hsum
  refine Calls.mono (show Calls Try.prog 33 #[.pointer (some ⟨g, 0, none⟩), .slice (some ⟨w1.heap.size, 0, none⟩) 1 1] (w1.alloc (.cells #[.int .u8 5] 5)) fun e w' => e = .returned (U (T 5)) ∧ w1.alloc (.cells #[.int .u8 5] 5) = w' from hsum) ?_
  rintro e w' ⟨rfl, rfl⟩
  clear hsum
  obtain ⟨w2, hw2⟩ : ∃ w2, w2 = w1.alloc (.cells #[.int .u8 5] 5) := ⟨_, rfl⟩
  rw [← hw2]
  have Hk2 := hid (show Kept [] w w2 by rw [hw2]; exact Hk1.out.alloc _)
  have Ht2 := hid (show Tb w2 g 0 T by rw [hw2]; exact Ht1.out.kept ((Kept.refl [] w1).alloc _) (by simp))
  have h5 : Hid (Roll.sum T (Roll.last 1 ([3] ++ [5])) = T 5) := hid (Roll.sum_one T 5)
  clear hw2 Hk1 Ht1
  go_wp2_with fail
  refine (Hat.out 5 5 g w2 (by rfl) Ht2.out).mono ?_
  rintro e w' ⟨rfl, rfl⟩
  obtain ⟨a5, ha5⟩ : ∃ a, a = T 5 := ⟨_, rfl⟩
  rw [← ha5] at h5 ⊢
  have Ha5 := hid ha5
  clear ha5
  go_wp2_with fail
  refine (window_ok g 1 T w2 (by omega) (by omega) Ht2.out).mono ?_
  rintro e w3 ⟨rfl, hk3, hw3⟩
  obtain ⟨p, hp⟩ : ∃ p, p = w2.heap.size := ⟨_, rfl⟩
  rw [← hp] at hw3 ⊢
  have Hp := hid hp
  have Hk3 := hid (Hk2.out.trans hk3)
  have Ht3 := hid (Ht2.out.kept hk3 (by simp))
  have Hw3 := hid hw3
  have Hgp := hid (show g < p by rw [hp]; exact Ht2.out.lt)
  have Hwp := hid (show w.heap.size ≤ p by rw [hp]; exact Hk2.out.size)
  clear hk3 hw3 hp Ht2
  go_wp2_with fail
  refine (window_bad 0 (by omega) _ w3).mono ?_
  rintro e w' ⟨rfl, rfl⟩
  go_wp2_with fail
  refine (Hpu.out 3 3 p 1 [] w3 (by rfl) Hw3.out (by omega) (by omega)).mono ?_
  rintro e w4 ⟨rfl, hk4, hw4⟩
  have Hk4 := hid (Hk3.out.trans' hk4 (fun x hx hm => by have := Hwp.out; simp at hm; omega))
  have Ht4 := hid (Ht3.out.kept hk4 (by have := Hgp.out; simp; omega))
  have Hw4 := hid hw4
  clear hk4 hw4 Hk3 Ht3 Hw3
  go_wp2_with fail
  refine (Hpu.out 5 5 p 1 [3] w4 (by rfl) Hw4.out (by omega) (by omega)).mono ?_
  rintro e w5 ⟨rfl, hk5, hw5⟩
  have Hk5 := hid (Hk4.out.trans' hk5 (fun x hx hm => by have := Hwp.out; simp at hm; omega))
  have Ht5 := hid (Ht4.out.kept hk5 (by have := Hgp.out; simp; omega))
  have Hw5 := hid hw5
  rw [h5.out]
  clear hk5 hw5 Hk4 Ht4 Hw4 h5
  go_wp2_with fail
  refine (reset_any p 1 T _ w5 Hw5.out).mono ?_
  rintro e w6 ⟨rfl, hk6, hw6⟩
  have Hk6 := hid (Hk5.out.trans' hk6 (fun x hx hm => by have := Hwp.out; simp at hm; omega))
  have Ht6 := hid (Ht5.out.kept hk6 (by have := Hgp.out; simp; omega))
  have Hw6 := hid hw6
  clear hk6 hw6 Hk5 Ht5 Hw5
  go_wp2_with fail
  refine (Hat.out 5 5 g w6 (by rfl) Ht6.out).mono ?_
  rintro e w' ⟨rfl, rfl⟩
  rw [← Ha5.out]
  go_wp2_with fail
  refine (wsum_any p 1 T [] w6 Hw6.out).mono ?_
  rintro e w' ⟨rfl, rfl⟩
  rw [sum_last_nil]
  go_wp2_with fail
  go_ret
  exact ⟨rfl, Hk6.out⟩
end Go.Proofs.Ytieaolnnlfaagaa
