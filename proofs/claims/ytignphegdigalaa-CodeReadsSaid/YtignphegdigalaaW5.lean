/- coldstorelaw02.one: behind a field, the document's reader. -/
import Derived.Test.YtignphegdigalaaW4
import Derived.Test.YtignphegdigalaaD1
namespace Go.Proofs.Ytignphegdigalaa
open Go.RowKit Go.Lib

/-- Bytes at hand that lie under a bound. -/
def Rx (W : World) (B : Nat) (a : Option Addr) (c : Nat) (xs : List UInt8) : Prop := Rb W a c xs ∧ (xs = [] ∨ ∀ x, a = some x → x.block < B)
theorem Rx.drop {W : World} {B : Nat} {a : Option Addr} {c : Nat} {xs : List UInt8} (h : Rx W B a c xs) {m : Nat} (hm : m ≤ xs.length) : Rx W B (behind a c m) (c - m) (xs.drop m) :=
  ⟨h.1.drop hm, h.2.imp (fun e => by rw [e]; simp) (fun h2 x hx => by obtain ⟨y, hy, he⟩ := behind_block x hx; rw [he]; exact h2 y hy)⟩
theorem Rx.kept {S : List Nat} {w w' : World} {B : Nat} {a : Option Addr} {c : Nat} {xs : List UInt8} (h : Rx w B a c xs) (hk : Kept S w w') (hS : ∀ s ∈ S, B ≤ s) : Rx w' B a c xs := by
  rcases h.2 with he | h2
  · subst he
    refine ⟨⟨?_, h.1.le, h.1.max⟩, .inl rfl⟩
    rcases h.1.bys with h3 | ⟨ad, c', h3, _⟩
    · exact .inl h3
    · exact .inr ⟨ad, c', h3, fun j u hj => by simp at hj⟩
  · exact ⟨h.1.kept hk (fun x hx hm => by have := h2 x hx; have := hS _ hm; omega), .inr h2⟩
theorem Rx.make {W : World} {a : Option Addr} {c : Nat} {xs : List UInt8} (h : Rb W a c xs) : Rx W W.heap.size a c xs := by
  refine ⟨h, ?_⟩
  cases xs with
  | nil => exact .inl rfl
  | cons y ys =>
    refine .inr fun x hx => ?_
    subst hx
    have h2 := h.get 0 y rfl
    have h3 := World.block_lt_of_cell? W _ h2
    rwa [add_block] at h3
/-- A field's error, and how many bytes it takes. -/
def OpR.err (o : OpR) (xs : List UInt8) : Int :=
  if o.kind = 0 ∨ o.kind = 1 then (if xs.length < sz o.size then 20 else 0) else if o.kind = 2 ∨ o.kind = 3 then fieldErr xs ((o.num % 128 : Nat) : Int) else if o.kind = 4 then (if xs.length < o.size.toNat then 20 else 0) else 0
def OpR.took (o : OpR) (xs : List UInt8) : Nat :=
  if o.kind = 0 ∨ o.kind = 1 then sz o.size else if o.kind = 2 ∨ o.kind = 3 then 4 + said xs else if o.kind = 4 then o.size.toNat else 0
/-- What is left behind a field. -/
def OpR.left (o : OpR) (xs : List UInt8) : List UInt8 := if o.err xs = 0 then xs.drop (o.took xs) else xs
/-- The reader that stands behind a field. -/
def OneAt (B : Nat) (o : OpR) (xs : List UInt8) (v : Value) (W : World) : Prop := ∃ a c, v = rdV a (o.left xs).length c (o.err xs) ∧ Rx W B a c (o.left xs)
def opV (kind size : Int) (num : Nat) (ba : Option Addr) (bl bc : Nat) : Value := .agg #[.int .i64 kind, .int .i64 size, .int .u64 (num : Int), .slice ba bl bc]
theorem and127 (n : Nat) (hn : n < 18446744073709551616) : bits .and .u64 (n : Int) 127 = ((n % 128 : Nat) : Int) := by
  have h7 : (BitVec.ofInt 64 127).toNat = 2 ^ 7 - 1 := by decide
  have key : (BitVec.ofInt 64 (n : Int) &&& BitVec.ofInt 64 127).toNat = n % 2 ^ 7 := by
    rw [BitVec.toNat_and, BitVec.toNat_ofInt, h7, Nat.and_two_pow_sub_one_eq_mod]
    have h1 : ((n : Int) % ((2 ^ 64 : Nat) : Int)).toNat = n := by omega
    rw [h1]
  show IntKind.u64.wrap ((BitVec.ofInt 64 (n : Int) &&& BitVec.ofInt 64 127).toNat : Nat) = _
  rw [key, IntKind.wrap_u64]
  omega

theorem set2_two {W : World} {b r : Nat} {x y u v : Value} {t : TypeId} (hb : W.heap[b]? = some (.cells #[x, y] t (0, 0))) (hr : W.heap[r]? = some (.cells #[u, v] t (0, 0))) (hne : b ≠ r) (d e p q : Value) :
    ((((W.setCell ⟨b, 0, none⟩ d).setCell ⟨b, 1, none⟩ e).setCell ⟨r, 0, none⟩ p).setCell ⟨r, 1, none⟩ q).heap[r]? = some (.cells #[p, q] t (0, 0)) ∧ Kept [b, r] W ((((W.setCell ⟨b, 0, none⟩ d).setCell ⟨b, 1, none⟩ e).setCell ⟨r, 0, none⟩ p).setCell ⟨r, 1, none⟩ q) := by
  have k0 : Kept [b] W (W.setCell ⟨b, 0, none⟩ d) := (Kept.refl [b] W).setCell (p := ⟨b, 0, none⟩) (fun _ => by simp) _
  have h0 : (W.setCell ⟨b, 0, none⟩ d).heap[r]? = some (.cells #[u, v] t (0, 0)) := k0.at hr (by simp; omega)
  have h0b : (W.setCell ⟨b, 0, none⟩ d).heap[b]? = some (.cells #[d, y] t (0, 0)) := by rw [Go.heap_setCell_same W _ 0 _ _ _ hb]; rfl
  refine ⟨(set1_two h0b h0 hne e p q).1, ?_⟩
  exact ((((Kept.refl [b, r] W).setCell (p := ⟨b, 0, none⟩) (fun _ => by simp) _).setCell (p := ⟨b, 1, none⟩) (fun _ => by simp) _).setCell (p := ⟨r, 0, none⟩) (fun _ => by simp) _).setCell (p := ⟨r, 1, none⟩) (fun _ => by simp) _

set_option maxRecDepth 100000 in
set_option maxHeartbeats 2000000 in
theorem one_0 (a : Option Addr) (len c : Nat) (size : Int) (num : Nat) (ba : Option Addr) (bl bc : Nat) (w : World) (a' : Option Addr) (len' c' : Nat) (er : Int) (y : Value) 
    (hC : ∀ W, Kept [] w W → Calls Try.prog 44 #[rdV a len c 0, .int .i64 size] W fun e w' => e = .returned (.tuple #[rdV a' len' c' er, y]) ∧ Kept [] W w') :
    Calls Try.prog 12 #[rdV a len c 0, opV 0 size num ba bl bc] w fun e w' => e = .returned (rdV a' len' c' er) ∧ Kept [] w w' := by
  obtain ⟨w2, hw2⟩ : ∃ w2, w2 = ((w.alloc (.cells #[.slice a len c, .int .i64 0] 28)).alloc (.cells #[.int .i64 0, .int .i64 size, .int .u64 (num : Int), .slice ba bl bc] 34)).alloc (.cells #[.slice none 0 0, .int .i64 0] 28) := ⟨_, rfl⟩
  have k2 := hid (show Kept [] w w2 from hw2 ▸ (((Kept.refl [] w).alloc _).alloc _).alloc _)
  have hb := hid (show w2.heap[w.heap.size]? = some (.cells #[.slice a len c, .int .i64 0] 28 (0, 0)) from hw2 ▸ heap_alloc_old (heap_alloc_old (heap_alloc_at rfl)))
  have ho := hid (show w2.heap[w.heap.size + 1]? = some (.cells #[.int .i64 0, .int .i64 size, .int .u64 (num : Int), .slice ba bl bc] 34 (0, 0)) from hw2 ▸ heap_alloc_old (heap_alloc_at (by simp)))
  have hr := hid (show w2.heap[w.heap.size + 2]? = some (.cells #[.slice none 0 0, .int .i64 0] 28 (0, 0)) from hw2 ▸ heap_alloc_at (by simp))
  have hw0 : w.heap.size + 2 < w2.heap.size := lt_of_block hr.out
  have e0 := cell_of_row _ _ 0 _ _ _ hb.out
  have e1 := cell_of_row _ _ 1 _ _ _ hb.out
  have o0 := cell_of_row _ _ 0 _ _ _ ho.out
  have o1 := cell_of_row _ _ 1 _ _ _ ho.out
  have o2 := cell_of_row _ _ 2 _ _ _ ho.out
  have hG := hid (hC w2 k2.out)
  clear hC
  unfold opV
  go_enter Try.func12, Try.ntmps12
  go_wp2_with fail
  rw [← hw2]
  clear hw2
  go_wp2_with fail
  refine hG.out.mono ?_
  rintro e w3 ⟨rfl, k3⟩
  have K3 := hid (k2.out.trans k3)
  have hb3 := hid (k3.at hb.out (by simp))
  have hr3 := hid (k3.at hr.out (by simp))
  clear k3 e0 e1 o0 o1 o2 hb hr ho k2 hG
  have a0 := cell_of_row _ _ 0 _ _ _ hb3.out
  have a1 := cell_of_row _ _ 1 _ _ _ hb3.out
  have b0 := frozen_of_row _ _ 0 _ _ hb3.out
  have b1 := frozen_of_row _ _ 1 _ _ hb3.out
  have c0 := cell_of_row _ _ 0 _ _ _ hr3.out
  have c1 := cell_of_row _ _ 1 _ _ _ hr3.out
  have d0 := frozen_of_row _ _ 0 _ _ hr3.out
  have d1 := frozen_of_row _ _ 1 _ _ hr3.out
  go_wp2
  obtain ⟨h6, k6⟩ := set2_two hb3.out hr3.out (by omega) (.slice a' len' c') (.int .i64 er) (.slice a' len' c') (.int .i64 er)
  have z0 := cell_of_row _ _ 0 _ _ _ h6
  have z1 := cell_of_row _ _ 1 _ _ _ h6
  refine bodyPost_ret (v := rdV a' len' c' er) ?_ rfl ?_
  · simp [results, rdV, Try.f12, go_sem, z0, z1]
  · exact ⟨rfl, K3.out.trans' k6 (fun x hx hm => by simp at hm; omega)⟩

set_option maxRecDepth 100000 in
set_option maxHeartbeats 2000000 in
theorem one_1 (a : Option Addr) (len c : Nat) (size : Int) (num : Nat) (ba : Option Addr) (bl bc : Nat) (w : World) (a' : Option Addr) (len' c' : Nat) (er : Int) (y : Value) 
    (hC : ∀ W, Kept [] w W → Calls Try.prog 44 #[rdV a len c 0, .int .i64 size] W fun e w' => e = .returned (.tuple #[rdV a' len' c' er, y]) ∧ Kept [] W w') :
    Calls Try.prog 12 #[rdV a len c 0, opV 1 size num ba bl bc] w fun e w' => e = .returned (rdV a' len' c' er) ∧ Kept [] w w' := by
  obtain ⟨w2, hw2⟩ : ∃ w2, w2 = ((w.alloc (.cells #[.slice a len c, .int .i64 0] 28)).alloc (.cells #[.int .i64 1, .int .i64 size, .int .u64 (num : Int), .slice ba bl bc] 34)).alloc (.cells #[.slice none 0 0, .int .i64 0] 28) := ⟨_, rfl⟩
  have k2 := hid (show Kept [] w w2 from hw2 ▸ (((Kept.refl [] w).alloc _).alloc _).alloc _)
  have hb := hid (show w2.heap[w.heap.size]? = some (.cells #[.slice a len c, .int .i64 0] 28 (0, 0)) from hw2 ▸ heap_alloc_old (heap_alloc_old (heap_alloc_at rfl)))
  have ho := hid (show w2.heap[w.heap.size + 1]? = some (.cells #[.int .i64 1, .int .i64 size, .int .u64 (num : Int), .slice ba bl bc] 34 (0, 0)) from hw2 ▸ heap_alloc_old (heap_alloc_at (by simp)))
  have hr := hid (show w2.heap[w.heap.size + 2]? = some (.cells #[.slice none 0 0, .int .i64 0] 28 (0, 0)) from hw2 ▸ heap_alloc_at (by simp))
  have hw0 : w.heap.size + 2 < w2.heap.size := lt_of_block hr.out
  have e0 := cell_of_row _ _ 0 _ _ _ hb.out
  have e1 := cell_of_row _ _ 1 _ _ _ hb.out
  have o0 := cell_of_row _ _ 0 _ _ _ ho.out
  have o1 := cell_of_row _ _ 1 _ _ _ ho.out
  have o2 := cell_of_row _ _ 2 _ _ _ ho.out
  have hG := hid (hC w2 k2.out)
  clear hC
  unfold opV
  go_enter Try.func12, Try.ntmps12
  go_wp2_with fail
  rw [← hw2]
  clear hw2
  go_wp2_with fail
  refine hG.out.mono ?_
  rintro e w3 ⟨rfl, k3⟩
  have K3 := hid (k2.out.trans k3)
  have hb3 := hid (k3.at hb.out (by simp))
  have hr3 := hid (k3.at hr.out (by simp))
  clear k3 e0 e1 o0 o1 o2 hb hr ho k2 hG
  have a0 := cell_of_row _ _ 0 _ _ _ hb3.out
  have a1 := cell_of_row _ _ 1 _ _ _ hb3.out
  have b0 := frozen_of_row _ _ 0 _ _ hb3.out
  have b1 := frozen_of_row _ _ 1 _ _ hb3.out
  have c0 := cell_of_row _ _ 0 _ _ _ hr3.out
  have c1 := cell_of_row _ _ 1 _ _ _ hr3.out
  have d0 := frozen_of_row _ _ 0 _ _ hr3.out
  have d1 := frozen_of_row _ _ 1 _ _ hr3.out
  go_wp2
  obtain ⟨h6, k6⟩ := set2_two hb3.out hr3.out (by omega) (.slice a' len' c') (.int .i64 er) (.slice a' len' c') (.int .i64 er)
  have z0 := cell_of_row _ _ 0 _ _ _ h6
  have z1 := cell_of_row _ _ 1 _ _ _ h6
  refine bodyPost_ret (v := rdV a' len' c' er) ?_ rfl ?_
  · simp [results, rdV, Try.f12, go_sem, z0, z1]
  · exact ⟨rfl, K3.out.trans' k6 (fun x hx hm => by simp at hm; omega)⟩

set_option maxRecDepth 100000 in
set_option maxHeartbeats 2000000 in
theorem one_2 (a : Option Addr) (len c : Nat) (size : Int) (num : Nat) (ba : Option Addr) (bl bc : Nat) (w : World) (a' : Option Addr) (len' c' : Nat) (er : Int) (y : Value) (m : Nat) (hm : m ≤ 127) (hnm : bits .and .u64 (num : Int) 127 = (m : Int)) (hmw : IntKind.i64.wrap (m : Int) = (m : Int))
    (hC : ∀ W, Kept [] w W → Calls Try.prog 45 #[rdV a len c 0, .int .i64 (m : Int)] W fun e w' => e = .returned (.tuple #[rdV a' len' c' er, y]) ∧ Kept [] W w') :
    Calls Try.prog 12 #[rdV a len c 0, opV 2 size num ba bl bc] w fun e w' => e = .returned (rdV a' len' c' er) ∧ Kept [] w w' := by
  obtain ⟨w2, hw2⟩ : ∃ w2, w2 = ((w.alloc (.cells #[.slice a len c, .int .i64 0] 28)).alloc (.cells #[.int .i64 2, .int .i64 size, .int .u64 (num : Int), .slice ba bl bc] 34)).alloc (.cells #[.slice none 0 0, .int .i64 0] 28) := ⟨_, rfl⟩
  have k2 := hid (show Kept [] w w2 from hw2 ▸ (((Kept.refl [] w).alloc _).alloc _).alloc _)
  have hb := hid (show w2.heap[w.heap.size]? = some (.cells #[.slice a len c, .int .i64 0] 28 (0, 0)) from hw2 ▸ heap_alloc_old (heap_alloc_old (heap_alloc_at rfl)))
  have ho := hid (show w2.heap[w.heap.size + 1]? = some (.cells #[.int .i64 2, .int .i64 size, .int .u64 (num : Int), .slice ba bl bc] 34 (0, 0)) from hw2 ▸ heap_alloc_old (heap_alloc_at (by simp)))
  have hr := hid (show w2.heap[w.heap.size + 2]? = some (.cells #[.slice none 0 0, .int .i64 0] 28 (0, 0)) from hw2 ▸ heap_alloc_at (by simp))
  have hw0 : w.heap.size + 2 < w2.heap.size := lt_of_block hr.out
  have e0 := cell_of_row _ _ 0 _ _ _ hb.out
  have e1 := cell_of_row _ _ 1 _ _ _ hb.out
  have o0 := cell_of_row _ _ 0 _ _ _ ho.out
  have o1 := cell_of_row _ _ 1 _ _ _ ho.out
  have o2 := cell_of_row _ _ 2 _ _ _ ho.out
  have hG := hid (hC w2 k2.out)
  clear hC
  unfold opV
  go_enter Try.func12, Try.ntmps12
  go_wp2_with fail
  rw [← hw2]
  clear hw2
  go_wp2_with fail
  refine hG.out.mono ?_
  rintro e w3 ⟨rfl, k3⟩
  have K3 := hid (k2.out.trans k3)
  have hb3 := hid (k3.at hb.out (by simp))
  have hr3 := hid (k3.at hr.out (by simp))
  clear k3 e0 e1 o0 o1 o2 hb hr ho k2 hG
  have a0 := cell_of_row _ _ 0 _ _ _ hb3.out
  have a1 := cell_of_row _ _ 1 _ _ _ hb3.out
  have b0 := frozen_of_row _ _ 0 _ _ hb3.out
  have b1 := frozen_of_row _ _ 1 _ _ hb3.out
  have c0 := cell_of_row _ _ 0 _ _ _ hr3.out
  have c1 := cell_of_row _ _ 1 _ _ _ hr3.out
  have d0 := frozen_of_row _ _ 0 _ _ hr3.out
  have d1 := frozen_of_row _ _ 1 _ _ hr3.out
  go_wp2
  obtain ⟨h6, k6⟩ := set2_two hb3.out hr3.out (by omega) (.slice a' len' c') (.int .i64 er) (.slice a' len' c') (.int .i64 er)
  have z0 := cell_of_row _ _ 0 _ _ _ h6
  have z1 := cell_of_row _ _ 1 _ _ _ h6
  refine bodyPost_ret (v := rdV a' len' c' er) ?_ rfl ?_
  · simp [results, rdV, Try.f12, go_sem, z0, z1]
  · exact ⟨rfl, K3.out.trans' k6 (fun x hx hm => by simp at hm; omega)⟩

set_option maxRecDepth 100000 in
set_option maxHeartbeats 2000000 in
theorem one_3 (a : Option Addr) (len c : Nat) (size : Int) (num : Nat) (ba : Option Addr) (bl bc : Nat) (w : World) (a' : Option Addr) (len' c' : Nat) (er : Int) (y : Value) (m : Nat) (hm : m ≤ 127) (hnm : bits .and .u64 (num : Int) 127 = (m : Int)) (hmw : IntKind.i64.wrap (m : Int) = (m : Int))
    (hC : ∀ W, Kept [] w W → Calls Try.prog 45 #[rdV a len c 0, .int .i64 (m : Int)] W fun e w' => e = .returned (.tuple #[rdV a' len' c' er, y]) ∧ Kept [] W w') :
    Calls Try.prog 12 #[rdV a len c 0, opV 3 size num ba bl bc] w fun e w' => e = .returned (rdV a' len' c' er) ∧ Kept [] w w' := by
  obtain ⟨w2, hw2⟩ : ∃ w2, w2 = ((w.alloc (.cells #[.slice a len c, .int .i64 0] 28)).alloc (.cells #[.int .i64 3, .int .i64 size, .int .u64 (num : Int), .slice ba bl bc] 34)).alloc (.cells #[.slice none 0 0, .int .i64 0] 28) := ⟨_, rfl⟩
  have k2 := hid (show Kept [] w w2 from hw2 ▸ (((Kept.refl [] w).alloc _).alloc _).alloc _)
  have hb := hid (show w2.heap[w.heap.size]? = some (.cells #[.slice a len c, .int .i64 0] 28 (0, 0)) from hw2 ▸ heap_alloc_old (heap_alloc_old (heap_alloc_at rfl)))
  have ho := hid (show w2.heap[w.heap.size + 1]? = some (.cells #[.int .i64 3, .int .i64 size, .int .u64 (num : Int), .slice ba bl bc] 34 (0, 0)) from hw2 ▸ heap_alloc_old (heap_alloc_at (by simp)))
  have hr := hid (show w2.heap[w.heap.size + 2]? = some (.cells #[.slice none 0 0, .int .i64 0] 28 (0, 0)) from hw2 ▸ heap_alloc_at (by simp))
  have hw0 : w.heap.size + 2 < w2.heap.size := lt_of_block hr.out
  have e0 := cell_of_row _ _ 0 _ _ _ hb.out
  have e1 := cell_of_row _ _ 1 _ _ _ hb.out
  have o0 := cell_of_row _ _ 0 _ _ _ ho.out
  have o1 := cell_of_row _ _ 1 _ _ _ ho.out
  have o2 := cell_of_row _ _ 2 _ _ _ ho.out
  have hG := hid (hC w2 k2.out)
  clear hC
  unfold opV
  go_enter Try.func12, Try.ntmps12
  go_wp2_with fail
  rw [← hw2]
  clear hw2
  go_wp2_with fail
  refine hG.out.mono ?_
  rintro e w3 ⟨rfl, k3⟩
  have K3 := hid (k2.out.trans k3)
  have hb3 := hid (k3.at hb.out (by simp))
  have hr3 := hid (k3.at hr.out (by simp))
  clear k3 e0 e1 o0 o1 o2 hb hr ho k2 hG
  have a0 := cell_of_row _ _ 0 _ _ _ hb3.out
  have a1 := cell_of_row _ _ 1 _ _ _ hb3.out
  have b0 := frozen_of_row _ _ 0 _ _ hb3.out
  have b1 := frozen_of_row _ _ 1 _ _ hb3.out
  have c0 := cell_of_row _ _ 0 _ _ _ hr3.out
  have c1 := cell_of_row _ _ 1 _ _ _ hr3.out
  have d0 := frozen_of_row _ _ 0 _ _ hr3.out
  have d1 := frozen_of_row _ _ 1 _ _ hr3.out
  go_wp2
  obtain ⟨h6, k6⟩ := set2_two hb3.out hr3.out (by omega) (.slice a' len' c') (.int .i64 er) (.slice a' len' c') (.int .i64 er)
  have z0 := cell_of_row _ _ 0 _ _ _ h6
  have z1 := cell_of_row _ _ 1 _ _ _ h6
  refine bodyPost_ret (v := rdV a' len' c' er) ?_ rfl ?_
  · simp [results, rdV, Try.f12, go_sem, z0, z1]
  · exact ⟨rfl, K3.out.trans' k6 (fun x hx hm => by simp at hm; omega)⟩

set_option maxRecDepth 100000 in
set_option maxHeartbeats 2000000 in
theorem one_4 (a : Option Addr) (len c : Nat) (size : Int) (num : Nat) (ba : Option Addr) (bl bc : Nat) (w : World) (a' : Option Addr) (len' c' : Nat) (er : Int) (y : Value) 
    (hC : ∀ W, Kept [] w W → Calls Try.prog 47 #[rdV a len c 0, .int .i64 size] W fun e w' => e = .returned (.tuple #[rdV a' len' c' er, y]) ∧ Kept [] W w') :
    Calls Try.prog 12 #[rdV a len c 0, opV 4 size num ba bl bc] w fun e w' => e = .returned (rdV a' len' c' er) ∧ Kept [] w w' := by
  obtain ⟨w2, hw2⟩ : ∃ w2, w2 = ((w.alloc (.cells #[.slice a len c, .int .i64 0] 28)).alloc (.cells #[.int .i64 4, .int .i64 size, .int .u64 (num : Int), .slice ba bl bc] 34)).alloc (.cells #[.slice none 0 0, .int .i64 0] 28) := ⟨_, rfl⟩
  have k2 := hid (show Kept [] w w2 from hw2 ▸ (((Kept.refl [] w).alloc _).alloc _).alloc _)
  have hb := hid (show w2.heap[w.heap.size]? = some (.cells #[.slice a len c, .int .i64 0] 28 (0, 0)) from hw2 ▸ heap_alloc_old (heap_alloc_old (heap_alloc_at rfl)))
  have ho := hid (show w2.heap[w.heap.size + 1]? = some (.cells #[.int .i64 4, .int .i64 size, .int .u64 (num : Int), .slice ba bl bc] 34 (0, 0)) from hw2 ▸ heap_alloc_old (heap_alloc_at (by simp)))
  have hr := hid (show w2.heap[w.heap.size + 2]? = some (.cells #[.slice none 0 0, .int .i64 0] 28 (0, 0)) from hw2 ▸ heap_alloc_at (by simp))
  have hw0 : w.heap.size + 2 < w2.heap.size := lt_of_block hr.out
  have e0 := cell_of_row _ _ 0 _ _ _ hb.out
  have e1 := cell_of_row _ _ 1 _ _ _ hb.out
  have o0 := cell_of_row _ _ 0 _ _ _ ho.out
  have o1 := cell_of_row _ _ 1 _ _ _ ho.out
  have o2 := cell_of_row _ _ 2 _ _ _ ho.out
  have hG := hid (hC w2 k2.out)
  clear hC
  unfold opV
  go_enter Try.func12, Try.ntmps12
  go_wp2_with fail
  rw [← hw2]
  clear hw2
  go_wp2_with fail
  refine hG.out.mono ?_
  rintro e w3 ⟨rfl, k3⟩
  have K3 := hid (k2.out.trans k3)
  have hb3 := hid (k3.at hb.out (by simp))
  have hr3 := hid (k3.at hr.out (by simp))
  clear k3 e0 e1 o0 o1 o2 hb hr ho k2 hG
  have a0 := cell_of_row _ _ 0 _ _ _ hb3.out
  have a1 := cell_of_row _ _ 1 _ _ _ hb3.out
  have b0 := frozen_of_row _ _ 0 _ _ hb3.out
  have b1 := frozen_of_row _ _ 1 _ _ hb3.out
  have c0 := cell_of_row _ _ 0 _ _ _ hr3.out
  have c1 := cell_of_row _ _ 1 _ _ _ hr3.out
  have d0 := frozen_of_row _ _ 0 _ _ hr3.out
  have d1 := frozen_of_row _ _ 1 _ _ hr3.out
  go_wp2
  obtain ⟨h6, k6⟩ := set2_two hb3.out hr3.out (by omega) (.slice a' len' c') (.int .i64 er) (.slice a' len' c') (.int .i64 er)
  have z0 := cell_of_row _ _ 0 _ _ _ h6
  have z1 := cell_of_row _ _ 1 _ _ _ h6
  refine bodyPost_ret (v := rdV a' len' c' er) ?_ rfl ?_
  · simp [results, rdV, Try.f12, go_sem, z0, z1]
  · exact ⟨rfl, K3.out.trans' k6 (fun x hx hm => by simp at hm; omega)⟩

set_option maxRecDepth 100000 in
set_option maxHeartbeats 2000000 in
theorem one_no (a : Option Addr) (len c : Nat) (kind size : Int) (num : Nat) (ba : Option Addr) (bl bc : Nat) (w : World) (h0 : ¬ kind = 0) (h1 : ¬ kind = 1) (h2 : ¬ kind = 2) (h3 : ¬ kind = 3) (h4 : ¬ kind = 4) :
    Calls Try.prog 12 #[rdV a len c 0, opV kind size num ba bl bc] w fun e w' => e = .returned (rdV a len c 0) ∧ Kept [] w w' := by
  unfold opV
  go_enter Try.func12, Try.ntmps12
  go_wp2
  refine bodyPost_ret (v := rdV a len c 0) ?_ rfl ?_
  · simp [results, rdV, Try.f12, go_sem]
  · exact ⟨rfl, (((Kept.refl [] w).alloc _).alloc _).alloc _⟩

theorem drop_len {a : Option Addr} {xs : List UInt8} {m : Nat} {c : Nat} (e : Int) : rdV a (xs.length - m) c e = rdV a (xs.drop m).length c e := by rw [List.length_drop]
theorem one_any (B : Nat) (o : OpR) (a : Option Addr) (c : Nat) (xs : List UInt8) (w : World) (hn : o.num < 18446744073709551616) (hB : B ≤ w.heap.size) (h : Rx w B a c xs) :
    Calls Try.prog 12 #[rdV a xs.length c 0, opV o.kind o.size o.num o.ba o.bs.length o.bc] w fun e w' => ∃ v, e = .returned v ∧ OneAt B o xs v w' ∧ Kept [] w w' := by
  have hkeep : ∀ {W}, Kept [] w W → Rx W B a c xs := fun hk => h.kept hk (by simp)
  have hget : o.err xs = (if xs.length < sz o.size then 20 else 0) → o.took xs = sz o.size → (∀ a' len' c' er y, (∀ W, Kept [] w W → Calls Try.prog 44 #[rdV a xs.length c 0, .int .i64 o.size] W fun e w' => e = .returned (.tuple #[rdV a' len' c' er, y]) ∧ Kept [] W w') →
      Calls Try.prog 12 #[rdV a xs.length c 0, opV o.kind o.size o.num o.ba o.bs.length o.bc] w fun e w' => e = .returned (rdV a' len' c' er) ∧ Kept [] w w') →
      Calls Try.prog 12 #[rdV a xs.length c 0, opV o.kind o.size o.num o.ba o.bs.length o.bc] w fun e w' => ∃ v, e = .returned v ∧ OneAt B o xs v w' ∧ Kept [] w w' := by
    intro he ht hone
    by_cases hs : sz o.size ≤ xs.length
    · rw [if_neg (by omega)] at he
      refine (hone (behind a c (sz o.size)) (xs.length - sz o.size) (c - sz o.size) 0 (.int .u64 (numOf (xs.take (sz o.size)) : Nat)) (fun W hk => ?_)).mono ?_
      · have := refget_any a c xs o.size W (hkeep hk).1
        unfold getV at this
        rw [if_pos hs] at this
        exact this
      · rintro e w' ⟨rfl, hk⟩
        refine ⟨_, rfl, ⟨behind a c (sz o.size), c - sz o.size, ?_, ?_⟩, hk⟩
        · rw [he]; unfold OpR.left; rw [if_pos he, ht, List.length_drop]
        · unfold OpR.left; rw [if_pos he, ht]; exact (hkeep hk).drop hs
    · rw [if_pos (by omega)] at he
      refine (hone a xs.length c 20 (.int .u64 0) (fun W hk => ?_)).mono ?_
      · have := refget_any a c xs o.size W (hkeep hk).1
        unfold getV at this
        rw [if_neg hs] at this
        exact this
      · rintro e w' ⟨rfl, hk⟩
        refine ⟨_, rfl, ⟨a, c, ?_, ?_⟩, hk⟩
        · rw [he]; unfold OpR.left; rw [if_neg (by omega)]
        · unfold OpR.left; rw [if_neg (by omega)]; exact hkeep hk
  have hsome : o.err xs = fieldErr xs ((o.num % 128 : Nat) : Int) → o.took xs = 4 + said xs → (∀ a' len' c' er y, (∀ W, Kept [] w W → Calls Try.prog 45 #[rdV a xs.length c 0, .int .i64 ((o.num % 128 : Nat) : Int)] W fun e w' => e = .returned (.tuple #[rdV a' len' c' er, y]) ∧ Kept [] W w') →
      Calls Try.prog 12 #[rdV a xs.length c 0, opV o.kind o.size o.num o.ba o.bs.length o.bc] w fun e w' => e = .returned (rdV a' len' c' er) ∧ Kept [] w w') →
      Calls Try.prog 12 #[rdV a xs.length c 0, opV o.kind o.size o.num o.ba o.bs.length o.bc] w fun e w' => ∃ v, e = .returned v ∧ OneAt B o xs v w' ∧ Kept [] w w' := by
    intro he ht hone
    by_cases hs : fieldErr xs ((o.num % 128 : Nat) : Int) = 0
    · rw [hs] at he
      have hl : 4 + said xs ≤ xs.length := by
        unfold fieldErr at hs
        split at hs
        · cases hs
        · split at hs
          · cases hs
          · split at hs
            · cases hs
            · omega
      refine (hone (behind (behind a c 4) (c - 4) (said xs)) (xs.length - 4 - said xs) (c - 4 - said xs) 0 (.slice (behind a c 4) (said xs) (c - 4)) (fun W hk => ?_)).mono ?_
      · have := refsome_any a c xs (o.num % 128) (by omega) W (hkeep hk).1
        unfold someV at this
        rw [if_pos hs] at this
        exact this
      · rintro e w' ⟨rfl, hk⟩
        refine ⟨_, rfl, ⟨behind (behind a c 4) (c - 4) (said xs), c - 4 - said xs, ?_, ?_⟩, hk⟩
        · rw [he]; unfold OpR.left; rw [if_pos he, ht, List.length_drop]; congr 1; omega
        · unfold OpR.left; rw [if_pos he, ht, ← List.drop_drop]
          exact ((hkeep hk).drop (m := 4) (by omega)).drop (by rw [List.length_drop]; omega)
    · refine (hone a xs.length c (fieldErr xs ((o.num % 128 : Nat) : Int)) (.slice none 0 0) (fun W hk => ?_)).mono ?_
      · have := refsome_any a c xs (o.num % 128) (by omega) W (hkeep hk).1
        unfold someV at this
        rw [if_neg hs] at this
        exact this
      · rintro e w' ⟨rfl, hk⟩
        have hne : ¬ o.err xs = 0 := by rw [he]; exact hs
        refine ⟨_, rfl, ⟨a, c, ?_, ?_⟩, hk⟩
        · rw [he]; unfold OpR.left; rw [if_neg hne]
        · unfold OpR.left; rw [if_neg hne]; exact hkeep hk
  have h127 := and127 o.num hn
  have hw : IntKind.i64.wrap ((o.num % 128 : Nat) : Int) = ((o.num % 128 : Nat) : Int) := by rw [IntKind.wrap_i64]; omega
  by_cases h0 : o.kind = 0
  · refine hget (by unfold OpR.err; rw [if_pos (.inl h0)]) (by unfold OpR.took; rw [if_pos (.inl h0)]) (fun a' len' c' er y hC => ?_)
    rw [h0]; exact one_0 a xs.length c o.size o.num o.ba o.bs.length o.bc w a' len' c' er y hC
  by_cases h1 : o.kind = 1
  · refine hget (by unfold OpR.err; rw [if_pos (.inr h1)]) (by unfold OpR.took; rw [if_pos (.inr h1)]) (fun a' len' c' er y hC => ?_)
    rw [h1]; exact one_1 a xs.length c o.size o.num o.ba o.bs.length o.bc w a' len' c' er y hC
  have h01 : ¬ (o.kind = 0 ∨ o.kind = 1) := by omega
  by_cases h2 : o.kind = 2
  · refine hsome (by unfold OpR.err; rw [if_neg h01, if_pos (.inl h2)]) (by unfold OpR.took; rw [if_neg h01, if_pos (.inl h2)]) (fun a' len' c' er y hC => ?_)
    rw [h2]; exact one_2 a xs.length c o.size o.num o.ba o.bs.length o.bc w a' len' c' er y (o.num % 128) (by omega) h127 hw hC
  by_cases h3 : o.kind = 3
  · refine hsome (by unfold OpR.err; rw [if_neg h01, if_pos (.inr h3)]) (by unfold OpR.took; rw [if_neg h01, if_pos (.inr h3)]) (fun a' len' c' er y hC => ?_)
    rw [h3]; exact one_3 a xs.length c o.size o.num o.ba o.bs.length o.bc w a' len' c' er y (o.num % 128) (by omega) h127 hw hC
  have h23 : ¬ (o.kind = 2 ∨ o.kind = 3) := by omega
  by_cases h4 : o.kind = 4
  · have he : o.err xs = (if xs.length < o.size.toNat then 20 else 0) := by unfold OpR.err; rw [if_neg h01, if_neg h23, if_pos h4]
    have ht : o.took xs = o.size.toNat := by unfold OpR.took; rw [if_neg h01, if_neg h23, if_pos h4]
    rw [h4]
    by_cases hs : o.size.toNat ≤ xs.length
    · rw [if_neg (by omega)] at he
      refine (one_4 a xs.length c o.size o.num o.ba o.bs.length o.bc w (behind a c o.size.toNat) (xs.length - o.size.toNat) (c - o.size.toNat) 0 (.slice a o.size.toNat c) (fun W hk => ?_)).mono ?_
      · have := refraw_all a c xs o.size W (hkeep hk).1
        unfold rawV at this
        rw [if_pos hs] at this
        exact this
      · rintro e w' ⟨rfl, hk⟩
        refine ⟨_, rfl, ⟨behind a c o.size.toNat, c - o.size.toNat, ?_, ?_⟩, hk⟩
        · rw [he]; unfold OpR.left; rw [if_pos he, ht, List.length_drop]
        · unfold OpR.left; rw [if_pos he, ht]; exact (hkeep hk).drop hs
    · rw [if_pos (by omega)] at he
      refine (one_4 a xs.length c o.size o.num o.ba o.bs.length o.bc w a xs.length c 20 (.slice none 0 0) (fun W hk => ?_)).mono ?_
      · have := refraw_all a c xs o.size W (hkeep hk).1
        unfold rawV at this
        rw [if_neg hs] at this
        exact this
      · rintro e w' ⟨rfl, hk⟩
        refine ⟨_, rfl, ⟨a, c, ?_, ?_⟩, hk⟩
        · rw [he]; unfold OpR.left; rw [if_neg (by omega)]
        · unfold OpR.left; rw [if_neg (by omega)]; exact hkeep hk
  · have he : o.err xs = 0 := by unfold OpR.err; rw [if_neg h01, if_neg h23, if_neg h4]
    have ht : o.took xs = 0 := by unfold OpR.took; rw [if_neg h01, if_neg h23, if_neg h4]
    have hl : o.left xs = xs := by unfold OpR.left; rw [if_pos he, ht]; rfl
    refine (one_no a xs.length c o.kind o.size o.num o.ba o.bs.length o.bc w h0 h1 h2 h3 h4).mono ?_
    rintro e w' ⟨rfl, hk⟩
    exact ⟨_, rfl, ⟨a, c, by rw [he, hl], by rw [hl]; exact hkeep hk⟩, hk⟩
end Go.Proofs.Ytignphegdigalaa
