/- coldstorelaw02.read: a field that is read, and held against the document's. -/
import Derived.Test.YtignphegdigalaaW5
namespace Go.Proofs.Ytignphegdigalaa
open Go.RowKit Go.Lib


set_option maxRecDepth 100000 in
set_option maxHeartbeats 2000000 in
theorem read_thrown_0 (rb pg : Nat) (a : Option Addr) (len c : Nat) (size : Int) (num : Nat) (ba : Option Addr) (bl bc : Nat) (w : World) (m : Nat) (hm : m ≤ 127) (hnm : bits .and .u64 (num : Int) 127 = (m : Int)) (hmw : IntKind.i64.wrap (m : Int) = (m : Int)) (lrb : rb < w.heap.size) (lpg : pg < w.heap.size) (hne : pg ≠ rb) (hpg : w.heap[pg]? = some (.cells #[.bool true] 4 (0, 0)))
    (n : Int) (hA : ∀ W, Kept [] w W → Calls Try.prog 35 #[.pointer (some ⟨rb, 0, none⟩), .int .i64 size] W fun e w' => Thrown 29 (.int .i64 n) e ∧ W = w') :
    Calls Try.prog 11 #[.pointer (some ⟨rb, 0, none⟩), rdV a len c 0, opV 0 size num ba bl bc, .pointer (some ⟨pg, 0, none⟩)] w fun e w' => Thrown 29 (.int .i64 n) e ∧ Kept [] w w' := by
  obtain ⟨w2, hw2⟩ : ∃ w2, w2 = ((w.alloc (.cells #[.slice a len c, .int .i64 0] 28)).alloc (.cells #[.int .i64 0, .int .i64 size, .int .u64 (num : Int), .slice ba bl bc] 34)).alloc (.cells #[.slice none 0 0, .int .i64 0] 28) := ⟨_, rfl⟩
  have k2 := hid (show Kept [] w w2 from hw2 ▸ (((Kept.refl [] w).alloc _).alloc _).alloc _)
  have hb := hid (show w2.heap[w.heap.size]? = some (.cells #[.slice a len c, .int .i64 0] 28 (0, 0)) from hw2 ▸ heap_alloc_old (heap_alloc_old (heap_alloc_at rfl)))
  have ho := hid (show w2.heap[w.heap.size + 1]? = some (.cells #[.int .i64 0, .int .i64 size, .int .u64 (num : Int), .slice ba bl bc] 34 (0, 0)) from hw2 ▸ heap_alloc_old (heap_alloc_at (by simp)))
  have hr := hid (show w2.heap[w.heap.size + 2]? = some (.cells #[.slice none 0 0, .int .i64 0] 28 (0, 0)) from hw2 ▸ heap_alloc_at (by simp))
  have hg := hid (k2.out.at hpg (by simp))
  have hw0 : w.heap.size + 2 < w2.heap.size := lt_of_block hr.out
  have e0 := cell_of_row _ _ 0 _ _ _ hb.out
  have e1 := cell_of_row _ _ 1 _ _ _ hb.out
  have o0 := cell_of_row _ _ 0 _ _ _ ho.out
  have o1 := cell_of_row _ _ 1 _ _ _ ho.out
  have o2 := cell_of_row _ _ 2 _ _ _ ho.out
  clear hpg
  have hA2 := hid (hA w2 k2.out)
  clear hA
  unfold opV
  go_enter Try.func11, Try.ntmps11
  go_wp2_with fail
  rw [← hw2]
  clear hw2
  go_wp2_with fail
  refine hA2.out.mono ?_
  rintro e w3 ⟨⟨older, rfl, hcalm⟩, rfl⟩
  exact ⟨rfl, ⟨older, rfl, hcalm⟩, k2.out⟩

set_option maxRecDepth 100000 in
set_option maxHeartbeats 2000000 in
theorem read_thrown_1 (rb pg : Nat) (a : Option Addr) (len c : Nat) (size : Int) (num : Nat) (ba : Option Addr) (bl bc : Nat) (w : World) (m : Nat) (hm : m ≤ 127) (hnm : bits .and .u64 (num : Int) 127 = (m : Int)) (hmw : IntKind.i64.wrap (m : Int) = (m : Int)) (lrb : rb < w.heap.size) (lpg : pg < w.heap.size) (hne : pg ≠ rb) (hpg : w.heap[pg]? = some (.cells #[.bool true] 4 (0, 0)))
    (n : Int) (hA : ∀ W, Kept [] w W → Calls Try.prog 35 #[.pointer (some ⟨rb, 0, none⟩), .int .i64 size] W fun e w' => Thrown 29 (.int .i64 n) e ∧ W = w') :
    Calls Try.prog 11 #[.pointer (some ⟨rb, 0, none⟩), rdV a len c 0, opV 1 size num ba bl bc, .pointer (some ⟨pg, 0, none⟩)] w fun e w' => Thrown 29 (.int .i64 n) e ∧ Kept [] w w' := by
  obtain ⟨w2, hw2⟩ : ∃ w2, w2 = ((w.alloc (.cells #[.slice a len c, .int .i64 0] 28)).alloc (.cells #[.int .i64 1, .int .i64 size, .int .u64 (num : Int), .slice ba bl bc] 34)).alloc (.cells #[.slice none 0 0, .int .i64 0] 28) := ⟨_, rfl⟩
  have k2 := hid (show Kept [] w w2 from hw2 ▸ (((Kept.refl [] w).alloc _).alloc _).alloc _)
  have hb := hid (show w2.heap[w.heap.size]? = some (.cells #[.slice a len c, .int .i64 0] 28 (0, 0)) from hw2 ▸ heap_alloc_old (heap_alloc_old (heap_alloc_at rfl)))
  have ho := hid (show w2.heap[w.heap.size + 1]? = some (.cells #[.int .i64 1, .int .i64 size, .int .u64 (num : Int), .slice ba bl bc] 34 (0, 0)) from hw2 ▸ heap_alloc_old (heap_alloc_at (by simp)))
  have hr := hid (show w2.heap[w.heap.size + 2]? = some (.cells #[.slice none 0 0, .int .i64 0] 28 (0, 0)) from hw2 ▸ heap_alloc_at (by simp))
  have hg := hid (k2.out.at hpg (by simp))
  have hw0 : w.heap.size + 2 < w2.heap.size := lt_of_block hr.out
  have e0 := cell_of_row _ _ 0 _ _ _ hb.out
  have e1 := cell_of_row _ _ 1 _ _ _ hb.out
  have o0 := cell_of_row _ _ 0 _ _ _ ho.out
  have o1 := cell_of_row _ _ 1 _ _ _ ho.out
  have o2 := cell_of_row _ _ 2 _ _ _ ho.out
  clear hpg
  have hA2 := hid (hA w2 k2.out)
  clear hA
  unfold opV
  go_enter Try.func11, Try.ntmps11
  go_wp2_with fail
  rw [← hw2]
  clear hw2
  go_wp2_with fail
  refine hA2.out.mono ?_
  rintro e w3 ⟨⟨older, rfl, hcalm⟩, rfl⟩
  exact ⟨rfl, ⟨older, rfl, hcalm⟩, k2.out⟩

set_option maxRecDepth 100000 in
set_option maxHeartbeats 2000000 in
theorem read_thrown_2 (rb pg : Nat) (a : Option Addr) (len c : Nat) (size : Int) (num : Nat) (ba : Option Addr) (bl bc : Nat) (w : World) (m : Nat) (hm : m ≤ 127) (hnm : bits .and .u64 (num : Int) 127 = (m : Int)) (hmw : IntKind.i64.wrap (m : Int) = (m : Int)) (lrb : rb < w.heap.size) (lpg : pg < w.heap.size) (hne : pg ≠ rb) (hpg : w.heap[pg]? = some (.cells #[.bool true] 4 (0, 0)))
    (n : Int) (hA : ∀ W, Kept [] w W → Calls Try.prog 41 #[.pointer (some ⟨rb, 0, none⟩), .int .i64 (m : Int)] W fun e w' => Thrown 29 (.int .i64 n) e ∧ W = w') :
    Calls Try.prog 11 #[.pointer (some ⟨rb, 0, none⟩), rdV a len c 0, opV 2 size num ba bl bc, .pointer (some ⟨pg, 0, none⟩)] w fun e w' => Thrown 29 (.int .i64 n) e ∧ Kept [] w w' := by
  obtain ⟨w2, hw2⟩ : ∃ w2, w2 = ((w.alloc (.cells #[.slice a len c, .int .i64 0] 28)).alloc (.cells #[.int .i64 2, .int .i64 size, .int .u64 (num : Int), .slice ba bl bc] 34)).alloc (.cells #[.slice none 0 0, .int .i64 0] 28) := ⟨_, rfl⟩
  have k2 := hid (show Kept [] w w2 from hw2 ▸ (((Kept.refl [] w).alloc _).alloc _).alloc _)
  have hb := hid (show w2.heap[w.heap.size]? = some (.cells #[.slice a len c, .int .i64 0] 28 (0, 0)) from hw2 ▸ heap_alloc_old (heap_alloc_old (heap_alloc_at rfl)))
  have ho := hid (show w2.heap[w.heap.size + 1]? = some (.cells #[.int .i64 2, .int .i64 size, .int .u64 (num : Int), .slice ba bl bc] 34 (0, 0)) from hw2 ▸ heap_alloc_old (heap_alloc_at (by simp)))
  have hr := hid (show w2.heap[w.heap.size + 2]? = some (.cells #[.slice none 0 0, .int .i64 0] 28 (0, 0)) from hw2 ▸ heap_alloc_at (by simp))
  have hg := hid (k2.out.at hpg (by simp))
  have hw0 : w.heap.size + 2 < w2.heap.size := lt_of_block hr.out
  have e0 := cell_of_row _ _ 0 _ _ _ hb.out
  have e1 := cell_of_row _ _ 1 _ _ _ hb.out
  have o0 := cell_of_row _ _ 0 _ _ _ ho.out
  have o1 := cell_of_row _ _ 1 _ _ _ ho.out
  have o2 := cell_of_row _ _ 2 _ _ _ ho.out
  clear hpg
  have hA2 := hid (hA w2 k2.out)
  clear hA
  unfold opV
  go_enter Try.func11, Try.ntmps11
  go_wp2_with fail
  rw [← hw2]
  clear hw2
  go_wp2_with fail
  refine hA2.out.mono ?_
  rintro e w3 ⟨⟨older, rfl, hcalm⟩, rfl⟩
  exact ⟨rfl, ⟨older, rfl, hcalm⟩, k2.out⟩

set_option maxRecDepth 100000 in
set_option maxHeartbeats 2000000 in
theorem read_thrown_3 (rb pg : Nat) (a : Option Addr) (len c : Nat) (size : Int) (num : Nat) (ba : Option Addr) (bl bc : Nat) (w : World) (m : Nat) (hm : m ≤ 127) (hnm : bits .and .u64 (num : Int) 127 = (m : Int)) (hmw : IntKind.i64.wrap (m : Int) = (m : Int)) (lrb : rb < w.heap.size) (lpg : pg < w.heap.size) (hne : pg ≠ rb) (hpg : w.heap[pg]? = some (.cells #[.bool true] 4 (0, 0)))
    (n : Int) (hA : ∀ W, Kept [] w W → Calls Try.prog 36 #[.pointer (some ⟨rb, 0, none⟩), .int .i64 (m : Int)] W fun e w' => Thrown 29 (.int .i64 n) e ∧ W = w') :
    Calls Try.prog 11 #[.pointer (some ⟨rb, 0, none⟩), rdV a len c 0, opV 3 size num ba bl bc, .pointer (some ⟨pg, 0, none⟩)] w fun e w' => Thrown 29 (.int .i64 n) e ∧ Kept [] w w' := by
  obtain ⟨w2, hw2⟩ : ∃ w2, w2 = ((w.alloc (.cells #[.slice a len c, .int .i64 0] 28)).alloc (.cells #[.int .i64 3, .int .i64 size, .int .u64 (num : Int), .slice ba bl bc] 34)).alloc (.cells #[.slice none 0 0, .int .i64 0] 28) := ⟨_, rfl⟩
  have k2 := hid (show Kept [] w w2 from hw2 ▸ (((Kept.refl [] w).alloc _).alloc _).alloc _)
  have hb := hid (show w2.heap[w.heap.size]? = some (.cells #[.slice a len c, .int .i64 0] 28 (0, 0)) from hw2 ▸ heap_alloc_old (heap_alloc_old (heap_alloc_at rfl)))
  have ho := hid (show w2.heap[w.heap.size + 1]? = some (.cells #[.int .i64 3, .int .i64 size, .int .u64 (num : Int), .slice ba bl bc] 34 (0, 0)) from hw2 ▸ heap_alloc_old (heap_alloc_at (by simp)))
  have hr := hid (show w2.heap[w.heap.size + 2]? = some (.cells #[.slice none 0 0, .int .i64 0] 28 (0, 0)) from hw2 ▸ heap_alloc_at (by simp))
  have hg := hid (k2.out.at hpg (by simp))
  have hw0 : w.heap.size + 2 < w2.heap.size := lt_of_block hr.out
  have e0 := cell_of_row _ _ 0 _ _ _ hb.out
  have e1 := cell_of_row _ _ 1 _ _ _ hb.out
  have o0 := cell_of_row _ _ 0 _ _ _ ho.out
  have o1 := cell_of_row _ _ 1 _ _ _ ho.out
  have o2 := cell_of_row _ _ 2 _ _ _ ho.out
  clear hpg
  have hA2 := hid (hA w2 k2.out)
  clear hA
  unfold opV
  go_enter Try.func11, Try.ntmps11
  go_wp2_with fail
  rw [← hw2]
  clear hw2
  go_wp2_with fail
  refine hA2.out.mono ?_
  rintro e w3 ⟨⟨older, rfl, hcalm⟩, rfl⟩
  exact ⟨rfl, ⟨older, rfl, hcalm⟩, k2.out⟩

set_option maxRecDepth 100000 in
set_option maxHeartbeats 2000000 in
theorem read_thrown_4 (rb pg : Nat) (a : Option Addr) (len c : Nat) (size : Int) (num : Nat) (ba : Option Addr) (bl bc : Nat) (w : World) (m : Nat) (hm : m ≤ 127) (hnm : bits .and .u64 (num : Int) 127 = (m : Int)) (hmw : IntKind.i64.wrap (m : Int) = (m : Int)) (lrb : rb < w.heap.size) (lpg : pg < w.heap.size) (hne : pg ≠ rb) (hpg : w.heap[pg]? = some (.cells #[.bool true] 4 (0, 0)))
    (n : Int) (hA : ∀ W, Kept [] w W → Calls Try.prog 39 #[.pointer (some ⟨rb, 0, none⟩), .int .i64 size] W fun e w' => Thrown 29 (.int .i64 n) e ∧ W = w') :
    Calls Try.prog 11 #[.pointer (some ⟨rb, 0, none⟩), rdV a len c 0, opV 4 size num ba bl bc, .pointer (some ⟨pg, 0, none⟩)] w fun e w' => Thrown 29 (.int .i64 n) e ∧ Kept [] w w' := by
  obtain ⟨w2, hw2⟩ : ∃ w2, w2 = ((w.alloc (.cells #[.slice a len c, .int .i64 0] 28)).alloc (.cells #[.int .i64 4, .int .i64 size, .int .u64 (num : Int), .slice ba bl bc] 34)).alloc (.cells #[.slice none 0 0, .int .i64 0] 28) := ⟨_, rfl⟩
  have k2 := hid (show Kept [] w w2 from hw2 ▸ (((Kept.refl [] w).alloc _).alloc _).alloc _)
  have hb := hid (show w2.heap[w.heap.size]? = some (.cells #[.slice a len c, .int .i64 0] 28 (0, 0)) from hw2 ▸ heap_alloc_old (heap_alloc_old (heap_alloc_at rfl)))
  have ho := hid (show w2.heap[w.heap.size + 1]? = some (.cells #[.int .i64 4, .int .i64 size, .int .u64 (num : Int), .slice ba bl bc] 34 (0, 0)) from hw2 ▸ heap_alloc_old (heap_alloc_at (by simp)))
  have hr := hid (show w2.heap[w.heap.size + 2]? = some (.cells #[.slice none 0 0, .int .i64 0] 28 (0, 0)) from hw2 ▸ heap_alloc_at (by simp))
  have hg := hid (k2.out.at hpg (by simp))
  have hw0 : w.heap.size + 2 < w2.heap.size := lt_of_block hr.out
  have e0 := cell_of_row _ _ 0 _ _ _ hb.out
  have e1 := cell_of_row _ _ 1 _ _ _ hb.out
  have o0 := cell_of_row _ _ 0 _ _ _ ho.out
  have o1 := cell_of_row _ _ 1 _ _ _ ho.out
  have o2 := cell_of_row _ _ 2 _ _ _ ho.out
  clear hpg
  have hA2 := hid (hA w2 k2.out)
  clear hA
  unfold opV
  go_enter Try.func11, Try.ntmps11
  go_wp2_with fail
  rw [← hw2]
  clear hw2
  go_wp2_with fail
  refine hA2.out.mono ?_
  rintro e w3 ⟨⟨older, rfl, hcalm⟩, rfl⟩
  exact ⟨rfl, ⟨older, rfl, hcalm⟩, k2.out⟩

set_option maxRecDepth 100000 in
set_option maxHeartbeats 2000000 in
theorem read_ok_0 (rb pg : Nat) (a : Option Addr) (len c : Nat) (size : Int) (num : Nat) (ba : Option Addr) (bl bc : Nat) (w : World) (m : Nat) (hm : m ≤ 127) (hnm : bits .and .u64 (num : Int) 127 = (m : Int)) (hmw : IntKind.i64.wrap (m : Int) = (m : Int)) (lrb : rb < w.heap.size) (lpg : pg < w.heap.size) (hne : pg ≠ rb) (hpg : w.heap[pg]? = some (.cells #[.bool true] 4 (0, 0)))
    (a1 : Option Addr) (c1 : Nat) (xs : List UInt8) (kk : Nat) (a' : Option Addr) (len' c' : Nat) (q : Nat)
    (hA : ∀ W, Kept [] w W → Calls Try.prog 35 #[.pointer (some ⟨rb, 0, none⟩), .int .i64 size] W fun e w' => e = .returned (.int .u64 (q : Int)) ∧ nextW W rb a1 c1 xs kk = w')
    (hB : ∀ W1 W, Kept [] w W1 → Kept [] (nextW W1 rb a1 c1 xs kk) W → Calls Try.prog 44 #[rdV a len c 0, .int .i64 size] W fun e w' => e = .returned (.tuple #[rdV a' len' c' 0, .int .u64 (q : Int)]) ∧ Kept [] W w')
     :
    Calls Try.prog 11 #[.pointer (some ⟨rb, 0, none⟩), rdV a len c 0, opV 0 size num ba bl bc, .pointer (some ⟨pg, 0, none⟩)] w fun e w' => e = .returned (rdV a' len' c' 0) ∧ ∃ W1 bx, Kept [] w W1 ∧ w.heap.size ≤ bx ∧ Kept [pg, bx] (nextW W1 rb a1 c1 xs kk) w' ∧ w'.heap[pg]? = some (.cells #[.bool true] 4 (0, 0)) := by
  obtain ⟨w2, hw2⟩ : ∃ w2, w2 = ((w.alloc (.cells #[.slice a len c, .int .i64 0] 28)).alloc (.cells #[.int .i64 0, .int .i64 size, .int .u64 (num : Int), .slice ba bl bc] 34)).alloc (.cells #[.slice none 0 0, .int .i64 0] 28) := ⟨_, rfl⟩
  have k2 := hid (show Kept [] w w2 from hw2 ▸ (((Kept.refl [] w).alloc _).alloc _).alloc _)
  have hb := hid (show w2.heap[w.heap.size]? = some (.cells #[.slice a len c, .int .i64 0] 28 (0, 0)) from hw2 ▸ heap_alloc_old (heap_alloc_old (heap_alloc_at rfl)))
  have ho := hid (show w2.heap[w.heap.size + 1]? = some (.cells #[.int .i64 0, .int .i64 size, .int .u64 (num : Int), .slice ba bl bc] 34 (0, 0)) from hw2 ▸ heap_alloc_old (heap_alloc_at (by simp)))
  have hr := hid (show w2.heap[w.heap.size + 2]? = some (.cells #[.slice none 0 0, .int .i64 0] 28 (0, 0)) from hw2 ▸ heap_alloc_at (by simp))
  have hg := hid (k2.out.at hpg (by simp))
  have hw0 : w.heap.size + 2 < w2.heap.size := lt_of_block hr.out
  have e0 := cell_of_row _ _ 0 _ _ _ hb.out
  have e1 := cell_of_row _ _ 1 _ _ _ hb.out
  have o0 := cell_of_row _ _ 0 _ _ _ ho.out
  have o1 := cell_of_row _ _ 1 _ _ _ ho.out
  have o2 := cell_of_row _ _ 2 _ _ _ ho.out
  clear hpg
  have hA2 := hid (hA w2 k2.out)
  clear hA
  unfold opV
  go_enter Try.func11, Try.ntmps11
  go_wp2_with fail
  rw [← hw2]
  clear hw2
  go_wp2_with fail
  refine hA2.out.mono ?_
  rintro e w3 ⟨rfl, hw3⟩
  have k3 := hid (show Kept [rb] w2 w3 from hw3 ▸ next_kept w2 rb a1 c1 xs kk)
  have hB3 := hid (hB w2 w3 k2.out (hw3 ▸ Kept.refl _ _))
  have N3 := hid hw3
  have hb3 := hid (k3.out.at hb.out (by simp; omega))
  have ho3 := hid (k3.out.at ho.out (by simp; omega))
  have hr3 := hid (k3.out.at hr.out (by simp; omega))
  have hg3 := hid (k3.out.at hg.out (by simp; omega))
  have l3 := k3.out.size
  clear e0 e1 o0 o1 o2 hb ho hr hg hA2 hw3 hB
  have e0 := cell_of_row _ _ 0 _ _ _ hb3.out
  have e1 := cell_of_row _ _ 1 _ _ _ hb3.out
  have o0 := cell_of_row _ _ 0 _ _ _ ho3.out
  have o1 := cell_of_row _ _ 1 _ _ _ ho3.out
  have o2 := cell_of_row _ _ 2 _ _ _ ho3.out
  go_wp2_with fail
  refine hB3.out.mono ?_
  rintro e w4 ⟨rfl, k4⟩
  have K4 := hid k4
  have hr4 := hid (k4.at hr3.out (by simp))
  have hg4 := hid (k4.at hg3.out (by simp))
  have l4 := k4.size
  clear e0 e1 o0 o1 o2 k4 hr3 hg3 hb3 ho3 hB3
  have hn5 := hid (show (w4.alloc (.cells #[.slice a' len' c', .int .i64 0] 28)).heap[w4.heap.size]? = some (.cells #[.slice a' len' c', .int .i64 0] 28 (0, 0)) from heap_alloc_at rfl)
  have hr5 := hid (show (w4.alloc (.cells #[.slice a' len' c', .int .i64 0] 28)).heap[w.heap.size + 2]? = some (.cells #[.slice none 0 0, .int .i64 0] 28 (0, 0)) from heap_alloc_old hr4.out)
  have hg5 := hid (show (w4.alloc (.cells #[.slice a' len' c', .int .i64 0] 28)).heap[pg]? = some (.cells #[.bool true] 4 (0, 0)) from heap_alloc_old hg4.out)
  have kS := hid (show Kept [pg] (w4.alloc (.cells #[.slice a' len' c', .int .i64 0] 28)) ((w4.alloc (.cells #[.slice a' len' c', .int .i64 0] 28)).setCell ⟨pg, 0, none⟩ (.bool true)) from (Kept.refl _ _).setCell (p := ⟨pg, 0, none⟩) (fun _ => by simp) _)
  have hn6 := hid (kS.out.at hn5.out (by simp; omega))
  have hr6 := hid (kS.out.at hr5.out (by simp; omega))
  have hg6 := hid (one_setCell (u := .bool true) hg5.out)
  have g5 := cell_of_one hg5.out
  have g5f := free_of_one hg5.out
  have n0 := cell_of_row _ _ 0 _ _ _ hn5.out
  have n1 := cell_of_row _ _ 1 _ _ _ hn5.out
  have m0 := cell_of_row _ _ 0 _ _ _ hn6.out
  have m1 := cell_of_row _ _ 1 _ _ _ hn6.out
  have r0 := cell_of_row _ _ 0 _ _ _ hr6.out
  have r1 := cell_of_row _ _ 1 _ _ _ hr6.out
  have d0 := frozen_of_row _ _ 0 _ _ hr6.out
  have d1 := frozen_of_row _ _ 1 _ _ hr6.out
  go_wp2
  obtain ⟨h7, k7⟩ := two_set hr6.out (.slice a' len' c') (.int .i64 0)
  have z0 := cell_of_row _ _ 0 _ _ _ h7
  have z1 := cell_of_row _ _ 1 _ _ _ h7
  refine bodyPost_ret (v := rdV a' len' c' 0) ?_ rfl ?_
  · simp [results, rdV, Try.f11, go_sem, z0, z1]
  · refine ⟨rfl, w2, w.heap.size + 2, k2.out, by omega, ?_, k7.at hg6.out (by simp; omega)⟩
    have hN : Kept [] (nextW w2 rb a1 c1 xs kk) (w4.alloc (.cells #[.slice a' len' c', .int .i64 0] 28)) := N3.out ▸ K4.out.alloc _
    exact (((Kept.refl [pg, w.heap.size + 2] _).trans' hN (by simp)).trans' kS.out (fun x hx hm => by simp at hm; simp [hm])).trans' k7 (fun x hx hm => by simp at hm; simp [hm])

set_option maxRecDepth 100000 in
set_option maxHeartbeats 2000000 in
theorem read_ok_1 (rb pg : Nat) (a : Option Addr) (len c : Nat) (size : Int) (num : Nat) (ba : Option Addr) (bl bc : Nat) (w : World) (m : Nat) (hm : m ≤ 127) (hnm : bits .and .u64 (num : Int) 127 = (m : Int)) (hmw : IntKind.i64.wrap (m : Int) = (m : Int)) (lrb : rb < w.heap.size) (lpg : pg < w.heap.size) (hne : pg ≠ rb) (hpg : w.heap[pg]? = some (.cells #[.bool true] 4 (0, 0)))
    (a1 : Option Addr) (c1 : Nat) (xs : List UInt8) (kk : Nat) (a' : Option Addr) (len' c' : Nat) (q : Nat)
    (hA : ∀ W, Kept [] w W → Calls Try.prog 35 #[.pointer (some ⟨rb, 0, none⟩), .int .i64 size] W fun e w' => e = .returned (.int .u64 (q : Int)) ∧ nextW W rb a1 c1 xs kk = w')
    (hB : ∀ W1 W, Kept [] w W1 → Kept [] (nextW W1 rb a1 c1 xs kk) W → Calls Try.prog 44 #[rdV a len c 0, .int .i64 size] W fun e w' => e = .returned (.tuple #[rdV a' len' c' 0, .int .u64 (q : Int)]) ∧ Kept [] W w')
     :
    Calls Try.prog 11 #[.pointer (some ⟨rb, 0, none⟩), rdV a len c 0, opV 1 size num ba bl bc, .pointer (some ⟨pg, 0, none⟩)] w fun e w' => e = .returned (rdV a' len' c' 0) ∧ ∃ W1 bx, Kept [] w W1 ∧ w.heap.size ≤ bx ∧ Kept [pg, bx] (nextW W1 rb a1 c1 xs kk) w' ∧ w'.heap[pg]? = some (.cells #[.bool true] 4 (0, 0)) := by
  obtain ⟨w2, hw2⟩ : ∃ w2, w2 = ((w.alloc (.cells #[.slice a len c, .int .i64 0] 28)).alloc (.cells #[.int .i64 1, .int .i64 size, .int .u64 (num : Int), .slice ba bl bc] 34)).alloc (.cells #[.slice none 0 0, .int .i64 0] 28) := ⟨_, rfl⟩
  have k2 := hid (show Kept [] w w2 from hw2 ▸ (((Kept.refl [] w).alloc _).alloc _).alloc _)
  have hb := hid (show w2.heap[w.heap.size]? = some (.cells #[.slice a len c, .int .i64 0] 28 (0, 0)) from hw2 ▸ heap_alloc_old (heap_alloc_old (heap_alloc_at rfl)))
  have ho := hid (show w2.heap[w.heap.size + 1]? = some (.cells #[.int .i64 1, .int .i64 size, .int .u64 (num : Int), .slice ba bl bc] 34 (0, 0)) from hw2 ▸ heap_alloc_old (heap_alloc_at (by simp)))
  have hr := hid (show w2.heap[w.heap.size + 2]? = some (.cells #[.slice none 0 0, .int .i64 0] 28 (0, 0)) from hw2 ▸ heap_alloc_at (by simp))
  have hg := hid (k2.out.at hpg (by simp))
  have hw0 : w.heap.size + 2 < w2.heap.size := lt_of_block hr.out
  have e0 := cell_of_row _ _ 0 _ _ _ hb.out
  have e1 := cell_of_row _ _ 1 _ _ _ hb.out
  have o0 := cell_of_row _ _ 0 _ _ _ ho.out
  have o1 := cell_of_row _ _ 1 _ _ _ ho.out
  have o2 := cell_of_row _ _ 2 _ _ _ ho.out
  clear hpg
  have hA2 := hid (hA w2 k2.out)
  clear hA
  unfold opV
  go_enter Try.func11, Try.ntmps11
  go_wp2_with fail
  rw [← hw2]
  clear hw2
  go_wp2_with fail
  refine hA2.out.mono ?_
  rintro e w3 ⟨rfl, hw3⟩
  have k3 := hid (show Kept [rb] w2 w3 from hw3 ▸ next_kept w2 rb a1 c1 xs kk)
  have hB3 := hid (hB w2 w3 k2.out (hw3 ▸ Kept.refl _ _))
  have N3 := hid hw3
  have hb3 := hid (k3.out.at hb.out (by simp; omega))
  have ho3 := hid (k3.out.at ho.out (by simp; omega))
  have hr3 := hid (k3.out.at hr.out (by simp; omega))
  have hg3 := hid (k3.out.at hg.out (by simp; omega))
  have l3 := k3.out.size
  clear e0 e1 o0 o1 o2 hb ho hr hg hA2 hw3 hB
  have e0 := cell_of_row _ _ 0 _ _ _ hb3.out
  have e1 := cell_of_row _ _ 1 _ _ _ hb3.out
  have o0 := cell_of_row _ _ 0 _ _ _ ho3.out
  have o1 := cell_of_row _ _ 1 _ _ _ ho3.out
  have o2 := cell_of_row _ _ 2 _ _ _ ho3.out
  go_wp2_with fail
  refine hB3.out.mono ?_
  rintro e w4 ⟨rfl, k4⟩
  have K4 := hid k4
  have hr4 := hid (k4.at hr3.out (by simp))
  have hg4 := hid (k4.at hg3.out (by simp))
  have l4 := k4.size
  clear e0 e1 o0 o1 o2 k4 hr3 hg3 hb3 ho3 hB3
  have hn5 := hid (show (w4.alloc (.cells #[.slice a' len' c', .int .i64 0] 28)).heap[w4.heap.size]? = some (.cells #[.slice a' len' c', .int .i64 0] 28 (0, 0)) from heap_alloc_at rfl)
  have hr5 := hid (show (w4.alloc (.cells #[.slice a' len' c', .int .i64 0] 28)).heap[w.heap.size + 2]? = some (.cells #[.slice none 0 0, .int .i64 0] 28 (0, 0)) from heap_alloc_old hr4.out)
  have hg5 := hid (show (w4.alloc (.cells #[.slice a' len' c', .int .i64 0] 28)).heap[pg]? = some (.cells #[.bool true] 4 (0, 0)) from heap_alloc_old hg4.out)
  have kS := hid (show Kept [pg] (w4.alloc (.cells #[.slice a' len' c', .int .i64 0] 28)) ((w4.alloc (.cells #[.slice a' len' c', .int .i64 0] 28)).setCell ⟨pg, 0, none⟩ (.bool true)) from (Kept.refl _ _).setCell (p := ⟨pg, 0, none⟩) (fun _ => by simp) _)
  have hn6 := hid (kS.out.at hn5.out (by simp; omega))
  have hr6 := hid (kS.out.at hr5.out (by simp; omega))
  have hg6 := hid (one_setCell (u := .bool true) hg5.out)
  have g5 := cell_of_one hg5.out
  have g5f := free_of_one hg5.out
  have n0 := cell_of_row _ _ 0 _ _ _ hn5.out
  have n1 := cell_of_row _ _ 1 _ _ _ hn5.out
  have m0 := cell_of_row _ _ 0 _ _ _ hn6.out
  have m1 := cell_of_row _ _ 1 _ _ _ hn6.out
  have r0 := cell_of_row _ _ 0 _ _ _ hr6.out
  have r1 := cell_of_row _ _ 1 _ _ _ hr6.out
  have d0 := frozen_of_row _ _ 0 _ _ hr6.out
  have d1 := frozen_of_row _ _ 1 _ _ hr6.out
  go_wp2
  obtain ⟨h7, k7⟩ := two_set hr6.out (.slice a' len' c') (.int .i64 0)
  have z0 := cell_of_row _ _ 0 _ _ _ h7
  have z1 := cell_of_row _ _ 1 _ _ _ h7
  refine bodyPost_ret (v := rdV a' len' c' 0) ?_ rfl ?_
  · simp [results, rdV, Try.f11, go_sem, z0, z1]
  · refine ⟨rfl, w2, w.heap.size + 2, k2.out, by omega, ?_, k7.at hg6.out (by simp; omega)⟩
    have hN : Kept [] (nextW w2 rb a1 c1 xs kk) (w4.alloc (.cells #[.slice a' len' c', .int .i64 0] 28)) := N3.out ▸ K4.out.alloc _
    exact (((Kept.refl [pg, w.heap.size + 2] _).trans' hN (by simp)).trans' kS.out (fun x hx hm => by simp at hm; simp [hm])).trans' k7 (fun x hx hm => by simp at hm; simp [hm])

set_option maxRecDepth 100000 in
set_option maxHeartbeats 2000000 in
theorem read_ok_2 (rb pg : Nat) (a : Option Addr) (len c : Nat) (size : Int) (num : Nat) (ba : Option Addr) (bl bc : Nat) (w : World) (m : Nat) (hm : m ≤ 127) (hnm : bits .and .u64 (num : Int) 127 = (m : Int)) (hmw : IntKind.i64.wrap (m : Int) = (m : Int)) (lrb : rb < w.heap.size) (lpg : pg < w.heap.size) (hne : pg ≠ rb) (hpg : w.heap[pg]? = some (.cells #[.bool true] 4 (0, 0)))
    (a1 : Option Addr) (c1 : Nat) (xs : List UInt8) (kk : Nat) (a' : Option Addr) (len' c' : Nat) (ua : Option Addr) (ul uc : Nat) (ya : Option Addr) (yl yc : Nat)
    (hA : ∀ W, Kept [] w W → Calls Try.prog 41 #[.pointer (some ⟨rb, 0, none⟩), .int .i64 (m : Int)] W fun e w' => e = .returned (.slice ua ul uc) ∧ nextW W rb a1 c1 xs kk = w')
    (hB : ∀ W1 W, Kept [] w W1 → Kept [] (nextW W1 rb a1 c1 xs kk) W → Calls Try.prog 45 #[rdV a len c 0, .int .i64 (m : Int)] W fun e w' => e = .returned (.tuple #[rdV a' len' c' 0, .slice ya yl yc]) ∧ Kept [] W w')
    (hS : ∀ W1 W, Kept [] w W1 → Kept [] (nextW W1 rb a1 c1 xs kk) W → Calls Try.prog 46 #[.slice ua ul uc, .slice ya yl yc] W fun e w' => e = .returned (.bool true) ∧ W = w') :
    Calls Try.prog 11 #[.pointer (some ⟨rb, 0, none⟩), rdV a len c 0, opV 2 size num ba bl bc, .pointer (some ⟨pg, 0, none⟩)] w fun e w' => e = .returned (rdV a' len' c' 0) ∧ ∃ W1 bx, Kept [] w W1 ∧ w.heap.size ≤ bx ∧ Kept [pg, bx] (nextW W1 rb a1 c1 xs kk) w' ∧ w'.heap[pg]? = some (.cells #[.bool true] 4 (0, 0)) := by
  obtain ⟨w2, hw2⟩ : ∃ w2, w2 = ((w.alloc (.cells #[.slice a len c, .int .i64 0] 28)).alloc (.cells #[.int .i64 2, .int .i64 size, .int .u64 (num : Int), .slice ba bl bc] 34)).alloc (.cells #[.slice none 0 0, .int .i64 0] 28) := ⟨_, rfl⟩
  have k2 := hid (show Kept [] w w2 from hw2 ▸ (((Kept.refl [] w).alloc _).alloc _).alloc _)
  have hb := hid (show w2.heap[w.heap.size]? = some (.cells #[.slice a len c, .int .i64 0] 28 (0, 0)) from hw2 ▸ heap_alloc_old (heap_alloc_old (heap_alloc_at rfl)))
  have ho := hid (show w2.heap[w.heap.size + 1]? = some (.cells #[.int .i64 2, .int .i64 size, .int .u64 (num : Int), .slice ba bl bc] 34 (0, 0)) from hw2 ▸ heap_alloc_old (heap_alloc_at (by simp)))
  have hr := hid (show w2.heap[w.heap.size + 2]? = some (.cells #[.slice none 0 0, .int .i64 0] 28 (0, 0)) from hw2 ▸ heap_alloc_at (by simp))
  have hg := hid (k2.out.at hpg (by simp))
  have hw0 : w.heap.size + 2 < w2.heap.size := lt_of_block hr.out
  have e0 := cell_of_row _ _ 0 _ _ _ hb.out
  have e1 := cell_of_row _ _ 1 _ _ _ hb.out
  have o0 := cell_of_row _ _ 0 _ _ _ ho.out
  have o1 := cell_of_row _ _ 1 _ _ _ ho.out
  have o2 := cell_of_row _ _ 2 _ _ _ ho.out
  clear hpg
  have hA2 := hid (hA w2 k2.out)
  clear hA
  unfold opV
  go_enter Try.func11, Try.ntmps11
  go_wp2_with fail
  rw [← hw2]
  clear hw2
  go_wp2_with fail
  refine hA2.out.mono ?_
  rintro e w3 ⟨rfl, hw3⟩
  have k3 := hid (show Kept [rb] w2 w3 from hw3 ▸ next_kept w2 rb a1 c1 xs kk)
  have hB3 := hid (hB w2 w3 k2.out (hw3 ▸ Kept.refl _ _))
  have N3 := hid hw3
  have hb3 := hid (k3.out.at hb.out (by simp; omega))
  have ho3 := hid (k3.out.at ho.out (by simp; omega))
  have hr3 := hid (k3.out.at hr.out (by simp; omega))
  have hg3 := hid (k3.out.at hg.out (by simp; omega))
  have l3 := k3.out.size
  clear e0 e1 o0 o1 o2 hb ho hr hg hA2 hw3 hB
  have e0 := cell_of_row _ _ 0 _ _ _ hb3.out
  have e1 := cell_of_row _ _ 1 _ _ _ hb3.out
  have o0 := cell_of_row _ _ 0 _ _ _ ho3.out
  have o1 := cell_of_row _ _ 1 _ _ _ ho3.out
  have o2 := cell_of_row _ _ 2 _ _ _ ho3.out
  go_wp2_with fail
  refine hB3.out.mono ?_
  rintro e w4 ⟨rfl, k4⟩
  have K4 := hid k4
  have hr4 := hid (k4.at hr3.out (by simp))
  have hg4 := hid (k4.at hg3.out (by simp))
  have l4 := k4.size
  clear e0 e1 o0 o1 o2 k4 hr3 hg3 hb3 ho3 hB3
  have hn5 := hid (show (w4.alloc (.cells #[.slice a' len' c', .int .i64 0] 28)).heap[w4.heap.size]? = some (.cells #[.slice a' len' c', .int .i64 0] 28 (0, 0)) from heap_alloc_at rfl)
  have hr5 := hid (show (w4.alloc (.cells #[.slice a' len' c', .int .i64 0] 28)).heap[w.heap.size + 2]? = some (.cells #[.slice none 0 0, .int .i64 0] 28 (0, 0)) from heap_alloc_old hr4.out)
  have hg5 := hid (show (w4.alloc (.cells #[.slice a' len' c', .int .i64 0] 28)).heap[pg]? = some (.cells #[.bool true] 4 (0, 0)) from heap_alloc_old hg4.out)
  have kS := hid (show Kept [pg] (w4.alloc (.cells #[.slice a' len' c', .int .i64 0] 28)) ((w4.alloc (.cells #[.slice a' len' c', .int .i64 0] 28)).setCell ⟨pg, 0, none⟩ (.bool true)) from (Kept.refl _ _).setCell (p := ⟨pg, 0, none⟩) (fun _ => by simp) _)
  have hn6 := hid (kS.out.at hn5.out (by simp; omega))
  have hr6 := hid (kS.out.at hr5.out (by simp; omega))
  have hg6 := hid (one_setCell (u := .bool true) hg5.out)
  have g5 := cell_of_one hg5.out
  have g5f := free_of_one hg5.out
  have n0 := cell_of_row _ _ 0 _ _ _ hn5.out
  have n1 := cell_of_row _ _ 1 _ _ _ hn5.out
  have m0 := cell_of_row _ _ 0 _ _ _ hn6.out
  have m1 := cell_of_row _ _ 1 _ _ _ hn6.out
  have r0 := cell_of_row _ _ 0 _ _ _ hr6.out
  have r1 := cell_of_row _ _ 1 _ _ _ hr6.out
  have d0 := frozen_of_row _ _ 0 _ _ hr6.out
  have d1 := frozen_of_row _ _ 1 _ _ hr6.out
  have hS5 := hid (hS w2 (w4.alloc (.cells #[.slice a' len' c', .int .i64 0] 28)) k2.out (N3.out ▸ K4.out.alloc _))
  clear hS
  go_wp2_with fail
  refine hS5.out.mono ?_
  rintro e w5 ⟨rfl, rfl⟩
  clear hS5
  go_wp2
  obtain ⟨h7, k7⟩ := two_set hr6.out (.slice a' len' c') (.int .i64 0)
  have z0 := cell_of_row _ _ 0 _ _ _ h7
  have z1 := cell_of_row _ _ 1 _ _ _ h7
  refine bodyPost_ret (v := rdV a' len' c' 0) ?_ rfl ?_
  · simp [results, rdV, Try.f11, go_sem, z0, z1]
  · refine ⟨rfl, w2, w.heap.size + 2, k2.out, by omega, ?_, k7.at hg6.out (by simp; omega)⟩
    have hN : Kept [] (nextW w2 rb a1 c1 xs kk) (w4.alloc (.cells #[.slice a' len' c', .int .i64 0] 28)) := N3.out ▸ K4.out.alloc _
    exact (((Kept.refl [pg, w.heap.size + 2] _).trans' hN (by simp)).trans' kS.out (fun x hx hm => by simp at hm; simp [hm])).trans' k7 (fun x hx hm => by simp at hm; simp [hm])

set_option maxRecDepth 100000 in
set_option maxHeartbeats 2000000 in
theorem read_ok_3 (rb pg : Nat) (a : Option Addr) (len c : Nat) (size : Int) (num : Nat) (ba : Option Addr) (bl bc : Nat) (w : World) (m : Nat) (hm : m ≤ 127) (hnm : bits .and .u64 (num : Int) 127 = (m : Int)) (hmw : IntKind.i64.wrap (m : Int) = (m : Int)) (lrb : rb < w.heap.size) (lpg : pg < w.heap.size) (hne : pg ≠ rb) (hpg : w.heap[pg]? = some (.cells #[.bool true] 4 (0, 0)))
    (a1 : Option Addr) (c1 : Nat) (xs : List UInt8) (kk : Nat) (a' : Option Addr) (len' c' : Nat) (st : ByteArray) (ya : Option Addr) (yl yc : Nat)
    (hA : ∀ W, Kept [] w W → Calls Try.prog 36 #[.pointer (some ⟨rb, 0, none⟩), .int .i64 (m : Int)] W fun e w' => e = .returned (.string st) ∧ nextW W rb a1 c1 xs kk = w')
    (hB : ∀ W1 W, Kept [] w W1 → Kept [] (nextW W1 rb a1 c1 xs kk) W → Calls Try.prog 45 #[rdV a len c 0, .int .i64 (m : Int)] W fun e w' => e = .returned (.tuple #[rdV a' len' c' 0, .slice ya yl yc]) ∧ Kept [] W w')
    (hS : ∀ W1 W, Kept [] w W1 → Kept [] (nextW W1 rb a1 c1 xs kk) W → (convert 22 9 (.slice ya yl yc)).run Try.prog W = .ok (.string st) W) :
    Calls Try.prog 11 #[.pointer (some ⟨rb, 0, none⟩), rdV a len c 0, opV 3 size num ba bl bc, .pointer (some ⟨pg, 0, none⟩)] w fun e w' => e = .returned (rdV a' len' c' 0) ∧ ∃ W1 bx, Kept [] w W1 ∧ w.heap.size ≤ bx ∧ Kept [pg, bx] (nextW W1 rb a1 c1 xs kk) w' ∧ w'.heap[pg]? = some (.cells #[.bool true] 4 (0, 0)) := by
  obtain ⟨w2, hw2⟩ : ∃ w2, w2 = ((w.alloc (.cells #[.slice a len c, .int .i64 0] 28)).alloc (.cells #[.int .i64 3, .int .i64 size, .int .u64 (num : Int), .slice ba bl bc] 34)).alloc (.cells #[.slice none 0 0, .int .i64 0] 28) := ⟨_, rfl⟩
  have k2 := hid (show Kept [] w w2 from hw2 ▸ (((Kept.refl [] w).alloc _).alloc _).alloc _)
  have hb := hid (show w2.heap[w.heap.size]? = some (.cells #[.slice a len c, .int .i64 0] 28 (0, 0)) from hw2 ▸ heap_alloc_old (heap_alloc_old (heap_alloc_at rfl)))
  have ho := hid (show w2.heap[w.heap.size + 1]? = some (.cells #[.int .i64 3, .int .i64 size, .int .u64 (num : Int), .slice ba bl bc] 34 (0, 0)) from hw2 ▸ heap_alloc_old (heap_alloc_at (by simp)))
  have hr := hid (show w2.heap[w.heap.size + 2]? = some (.cells #[.slice none 0 0, .int .i64 0] 28 (0, 0)) from hw2 ▸ heap_alloc_at (by simp))
  have hg := hid (k2.out.at hpg (by simp))
  have hw0 : w.heap.size + 2 < w2.heap.size := lt_of_block hr.out
  have e0 := cell_of_row _ _ 0 _ _ _ hb.out
  have e1 := cell_of_row _ _ 1 _ _ _ hb.out
  have o0 := cell_of_row _ _ 0 _ _ _ ho.out
  have o1 := cell_of_row _ _ 1 _ _ _ ho.out
  have o2 := cell_of_row _ _ 2 _ _ _ ho.out
  clear hpg
  have hA2 := hid (hA w2 k2.out)
  clear hA
  unfold opV
  go_enter Try.func11, Try.ntmps11
  go_wp2_with fail
  rw [← hw2]
  clear hw2
  go_wp2_with fail
  refine hA2.out.mono ?_
  rintro e w3 ⟨rfl, hw3⟩
  have k3 := hid (show Kept [rb] w2 w3 from hw3 ▸ next_kept w2 rb a1 c1 xs kk)
  have hB3 := hid (hB w2 w3 k2.out (hw3 ▸ Kept.refl _ _))
  have N3 := hid hw3
  have hb3 := hid (k3.out.at hb.out (by simp; omega))
  have ho3 := hid (k3.out.at ho.out (by simp; omega))
  have hr3 := hid (k3.out.at hr.out (by simp; omega))
  have hg3 := hid (k3.out.at hg.out (by simp; omega))
  have l3 := k3.out.size
  clear e0 e1 o0 o1 o2 hb ho hr hg hA2 hw3 hB
  have e0 := cell_of_row _ _ 0 _ _ _ hb3.out
  have e1 := cell_of_row _ _ 1 _ _ _ hb3.out
  have o0 := cell_of_row _ _ 0 _ _ _ ho3.out
  have o1 := cell_of_row _ _ 1 _ _ _ ho3.out
  have o2 := cell_of_row _ _ 2 _ _ _ ho3.out
  go_wp2_with fail
  refine hB3.out.mono ?_
  rintro e w4 ⟨rfl, k4⟩
  have K4 := hid k4
  have hr4 := hid (k4.at hr3.out (by simp))
  have hg4 := hid (k4.at hg3.out (by simp))
  have l4 := k4.size
  clear e0 e1 o0 o1 o2 k4 hr3 hg3 hb3 ho3 hB3
  have hn5 := hid (show (w4.alloc (.cells #[.slice a' len' c', .int .i64 0] 28)).heap[w4.heap.size]? = some (.cells #[.slice a' len' c', .int .i64 0] 28 (0, 0)) from heap_alloc_at rfl)
  have hr5 := hid (show (w4.alloc (.cells #[.slice a' len' c', .int .i64 0] 28)).heap[w.heap.size + 2]? = some (.cells #[.slice none 0 0, .int .i64 0] 28 (0, 0)) from heap_alloc_old hr4.out)
  have hg5 := hid (show (w4.alloc (.cells #[.slice a' len' c', .int .i64 0] 28)).heap[pg]? = some (.cells #[.bool true] 4 (0, 0)) from heap_alloc_old hg4.out)
  have kS := hid (show Kept [pg] (w4.alloc (.cells #[.slice a' len' c', .int .i64 0] 28)) ((w4.alloc (.cells #[.slice a' len' c', .int .i64 0] 28)).setCell ⟨pg, 0, none⟩ (.bool true)) from (Kept.refl _ _).setCell (p := ⟨pg, 0, none⟩) (fun _ => by simp) _)
  have hn6 := hid (kS.out.at hn5.out (by simp; omega))
  have hr6 := hid (kS.out.at hr5.out (by simp; omega))
  have hg6 := hid (one_setCell (u := .bool true) hg5.out)
  have g5 := cell_of_one hg5.out
  have g5f := free_of_one hg5.out
  have n0 := cell_of_row _ _ 0 _ _ _ hn5.out
  have n1 := cell_of_row _ _ 1 _ _ _ hn5.out
  have m0 := cell_of_row _ _ 0 _ _ _ hn6.out
  have m1 := cell_of_row _ _ 1 _ _ _ hn6.out
  have r0 := cell_of_row _ _ 0 _ _ _ hr6.out
  have r1 := cell_of_row _ _ 1 _ _ _ hr6.out
  have d0 := frozen_of_row _ _ 0 _ _ hr6.out
  have d1 := frozen_of_row _ _ 1 _ _ hr6.out
  have hS5 := hS w2 (w4.alloc (.cells #[.slice a' len' c', .int .i64 0] 28)) k2.out (N3.out ▸ K4.out.alloc _)
  clear hS
  go_wp2
  obtain ⟨h7, k7⟩ := two_set hr6.out (.slice a' len' c') (.int .i64 0)
  have z0 := cell_of_row _ _ 0 _ _ _ h7
  have z1 := cell_of_row _ _ 1 _ _ _ h7
  refine bodyPost_ret (v := rdV a' len' c' 0) ?_ rfl ?_
  · simp [results, rdV, Try.f11, go_sem, z0, z1]
  · refine ⟨rfl, w2, w.heap.size + 2, k2.out, by omega, ?_, k7.at hg6.out (by simp; omega)⟩
    have hN : Kept [] (nextW w2 rb a1 c1 xs kk) (w4.alloc (.cells #[.slice a' len' c', .int .i64 0] 28)) := N3.out ▸ K4.out.alloc _
    exact (((Kept.refl [pg, w.heap.size + 2] _).trans' hN (by simp)).trans' kS.out (fun x hx hm => by simp at hm; simp [hm])).trans' k7 (fun x hx hm => by simp at hm; simp [hm])

set_option maxRecDepth 100000 in
set_option maxHeartbeats 2000000 in
theorem read_ok_4 (rb pg : Nat) (a : Option Addr) (len c : Nat) (size : Int) (num : Nat) (ba : Option Addr) (bl bc : Nat) (w : World) (m : Nat) (hm : m ≤ 127) (hnm : bits .and .u64 (num : Int) 127 = (m : Int)) (hmw : IntKind.i64.wrap (m : Int) = (m : Int)) (lrb : rb < w.heap.size) (lpg : pg < w.heap.size) (hne : pg ≠ rb) (hpg : w.heap[pg]? = some (.cells #[.bool true] 4 (0, 0)))
    (a1 : Option Addr) (c1 : Nat) (xs : List UInt8) (kk : Nat) (a' : Option Addr) (len' c' : Nat) (ua : Option Addr) (ul uc : Nat) (ya : Option Addr) (yl yc : Nat)
    (hA : ∀ W, Kept [] w W → Calls Try.prog 39 #[.pointer (some ⟨rb, 0, none⟩), .int .i64 size] W fun e w' => e = .returned (.slice ua ul uc) ∧ nextW W rb a1 c1 xs kk = w')
    (hB : ∀ W1 W, Kept [] w W1 → Kept [] (nextW W1 rb a1 c1 xs kk) W → Calls Try.prog 47 #[rdV a len c 0, .int .i64 size] W fun e w' => e = .returned (.tuple #[rdV a' len' c' 0, .slice ya yl yc]) ∧ Kept [] W w')
    (hS : ∀ W1 W, Kept [] w W1 → Kept [] (nextW W1 rb a1 c1 xs kk) W → Calls Try.prog 46 #[.slice ua ul uc, .slice ya yl yc] W fun e w' => e = .returned (.bool true) ∧ W = w') :
    Calls Try.prog 11 #[.pointer (some ⟨rb, 0, none⟩), rdV a len c 0, opV 4 size num ba bl bc, .pointer (some ⟨pg, 0, none⟩)] w fun e w' => e = .returned (rdV a' len' c' 0) ∧ ∃ W1 bx, Kept [] w W1 ∧ w.heap.size ≤ bx ∧ Kept [pg, bx] (nextW W1 rb a1 c1 xs kk) w' ∧ w'.heap[pg]? = some (.cells #[.bool true] 4 (0, 0)) := by
  obtain ⟨w2, hw2⟩ : ∃ w2, w2 = ((w.alloc (.cells #[.slice a len c, .int .i64 0] 28)).alloc (.cells #[.int .i64 4, .int .i64 size, .int .u64 (num : Int), .slice ba bl bc] 34)).alloc (.cells #[.slice none 0 0, .int .i64 0] 28) := ⟨_, rfl⟩
  have k2 := hid (show Kept [] w w2 from hw2 ▸ (((Kept.refl [] w).alloc _).alloc _).alloc _)
  have hb := hid (show w2.heap[w.heap.size]? = some (.cells #[.slice a len c, .int .i64 0] 28 (0, 0)) from hw2 ▸ heap_alloc_old (heap_alloc_old (heap_alloc_at rfl)))
  have ho := hid (show w2.heap[w.heap.size + 1]? = some (.cells #[.int .i64 4, .int .i64 size, .int .u64 (num : Int), .slice ba bl bc] 34 (0, 0)) from hw2 ▸ heap_alloc_old (heap_alloc_at (by simp)))
  have hr := hid (show w2.heap[w.heap.size + 2]? = some (.cells #[.slice none 0 0, .int .i64 0] 28 (0, 0)) from hw2 ▸ heap_alloc_at (by simp))
  have hg := hid (k2.out.at hpg (by simp))
  have hw0 : w.heap.size + 2 < w2.heap.size := lt_of_block hr.out
  have e0 := cell_of_row _ _ 0 _ _ _ hb.out
  have e1 := cell_of_row _ _ 1 _ _ _ hb.out
  have o0 := cell_of_row _ _ 0 _ _ _ ho.out
  have o1 := cell_of_row _ _ 1 _ _ _ ho.out
  have o2 := cell_of_row _ _ 2 _ _ _ ho.out
  clear hpg
  have hA2 := hid (hA w2 k2.out)
  clear hA
  unfold opV
  go_enter Try.func11, Try.ntmps11
  go_wp2_with fail
  rw [← hw2]
  clear hw2
  go_wp2_with fail
  refine hA2.out.mono ?_
  rintro e w3 ⟨rfl, hw3⟩
  have k3 := hid (show Kept [rb] w2 w3 from hw3 ▸ next_kept w2 rb a1 c1 xs kk)
  have hB3 := hid (hB w2 w3 k2.out (hw3 ▸ Kept.refl _ _))
  have N3 := hid hw3
  have hb3 := hid (k3.out.at hb.out (by simp; omega))
  have ho3 := hid (k3.out.at ho.out (by simp; omega))
  have hr3 := hid (k3.out.at hr.out (by simp; omega))
  have hg3 := hid (k3.out.at hg.out (by simp; omega))
  have l3 := k3.out.size
  clear e0 e1 o0 o1 o2 hb ho hr hg hA2 hw3 hB
  have e0 := cell_of_row _ _ 0 _ _ _ hb3.out
  have e1 := cell_of_row _ _ 1 _ _ _ hb3.out
  have o0 := cell_of_row _ _ 0 _ _ _ ho3.out
  have o1 := cell_of_row _ _ 1 _ _ _ ho3.out
  have o2 := cell_of_row _ _ 2 _ _ _ ho3.out
  go_wp2_with fail
  refine hB3.out.mono ?_
  rintro e w4 ⟨rfl, k4⟩
  have K4 := hid k4
  have hr4 := hid (k4.at hr3.out (by simp))
  have hg4 := hid (k4.at hg3.out (by simp))
  have l4 := k4.size
  clear e0 e1 o0 o1 o2 k4 hr3 hg3 hb3 ho3 hB3
  have hn5 := hid (show (w4.alloc (.cells #[.slice a' len' c', .int .i64 0] 28)).heap[w4.heap.size]? = some (.cells #[.slice a' len' c', .int .i64 0] 28 (0, 0)) from heap_alloc_at rfl)
  have hr5 := hid (show (w4.alloc (.cells #[.slice a' len' c', .int .i64 0] 28)).heap[w.heap.size + 2]? = some (.cells #[.slice none 0 0, .int .i64 0] 28 (0, 0)) from heap_alloc_old hr4.out)
  have hg5 := hid (show (w4.alloc (.cells #[.slice a' len' c', .int .i64 0] 28)).heap[pg]? = some (.cells #[.bool true] 4 (0, 0)) from heap_alloc_old hg4.out)
  have kS := hid (show Kept [pg] (w4.alloc (.cells #[.slice a' len' c', .int .i64 0] 28)) ((w4.alloc (.cells #[.slice a' len' c', .int .i64 0] 28)).setCell ⟨pg, 0, none⟩ (.bool true)) from (Kept.refl _ _).setCell (p := ⟨pg, 0, none⟩) (fun _ => by simp) _)
  have hn6 := hid (kS.out.at hn5.out (by simp; omega))
  have hr6 := hid (kS.out.at hr5.out (by simp; omega))
  have hg6 := hid (one_setCell (u := .bool true) hg5.out)
  have g5 := cell_of_one hg5.out
  have g5f := free_of_one hg5.out
  have n0 := cell_of_row _ _ 0 _ _ _ hn5.out
  have n1 := cell_of_row _ _ 1 _ _ _ hn5.out
  have m0 := cell_of_row _ _ 0 _ _ _ hn6.out
  have m1 := cell_of_row _ _ 1 _ _ _ hn6.out
  have r0 := cell_of_row _ _ 0 _ _ _ hr6.out
  have r1 := cell_of_row _ _ 1 _ _ _ hr6.out
  have d0 := frozen_of_row _ _ 0 _ _ hr6.out
  have d1 := frozen_of_row _ _ 1 _ _ hr6.out
  have hS5 := hid (hS w2 (w4.alloc (.cells #[.slice a' len' c', .int .i64 0] 28)) k2.out (N3.out ▸ K4.out.alloc _))
  clear hS
  go_wp2_with fail
  refine hS5.out.mono ?_
  rintro e w5 ⟨rfl, rfl⟩
  clear hS5
  go_wp2
  obtain ⟨h7, k7⟩ := two_set hr6.out (.slice a' len' c') (.int .i64 0)
  have z0 := cell_of_row _ _ 0 _ _ _ h7
  have z1 := cell_of_row _ _ 1 _ _ _ h7
  refine bodyPost_ret (v := rdV a' len' c' 0) ?_ rfl ?_
  · simp [results, rdV, Try.f11, go_sem, z0, z1]
  · refine ⟨rfl, w2, w.heap.size + 2, k2.out, by omega, ?_, k7.at hg6.out (by simp; omega)⟩
    have hN : Kept [] (nextW w2 rb a1 c1 xs kk) (w4.alloc (.cells #[.slice a' len' c', .int .i64 0] 28)) := N3.out ▸ K4.out.alloc _
    exact (((Kept.refl [pg, w.heap.size + 2] _).trans' hN (by simp)).trans' kS.out (fun x hx hm => by simp at hm; simp [hm])).trans' k7 (fun x hx hm => by simp at hm; simp [hm])
end Go.Proofs.Ytignphegdigalaa
