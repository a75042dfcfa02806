/- coldstoreref02: Get of any number, Some, End. -/
import Derived.Test.YtignphegdigalaaW3
namespace Go.Proofs.Ytignphegdigalaa
open Go.RowKit Go.Lib

theorem Rb.nil {w : World} {a : Option Addr} {c : Nat} {xs : List UInt8} (h : Rb w a c xs) (ha : a = none) : c = 0 ∧ xs = [] := by
  subst ha
  rcases h.bys with ⟨h1, h2, h3⟩ | ⟨ad, c', h1, _⟩
  · simp at h1
    exact ⟨h1.2, List.eq_nil_of_length_eq_zero h2⟩
  · simp at h1
theorem Rb.get {w : World} {x : Addr} {c : Nat} {xs : List UInt8} (h : Rb w (some x) c xs) : ∀ (j : Nat) b, xs[j]? = some b → w.cell? (x.add j) = some (B b) := by
  rcases h.bys with ⟨h1, _⟩ | ⟨ad, c', h1, h2⟩
  · simp at h1
  · simp at h1
    intro j b hb
    rw [h1.1]; exact h2 j (B b) (by rw [List.getElem?_map, hb]; rfl)
theorem Rb.mk' {w : World} {x : Addr} {c : Nat} {xs : List UInt8} (hle : xs.length ≤ c) (hm : c ≤ 9223372036854775807) (h : ∀ (j : Nat) b, xs[j]? = some b → w.cell? (x.add j) = some (B b)) : Rb w (some x) c xs :=
  ⟨.inr ⟨x, c, rfl, fun j u hj => by
    rw [List.getElem?_map] at hj
    obtain ⟨b, hb, rfl⟩ := Option.map_eq_some_iff.1 hj
    exact h j b hb⟩, hle, hm⟩
theorem Rb.take {w : World} {a : Option Addr} {c : Nat} {xs : List UInt8} (h : Rb w a c xs) {m : Nat} (hm : m ≤ xs.length) : Rb w a c (xs.take m) := by
  cases a with
  | none => obtain ⟨h1, h2⟩ := h.nil rfl; subst h2; simpa using h
  | some x =>
    refine Rb.mk' (by have := h.le; rw [List.length_take]; omega) h.max (fun j b hb => h.get j b ?_)
    rw [List.getElem?_take] at hb
    split at hb
    · exact hb
    · cases hb
theorem Rb.drop {w : World} {a : Option Addr} {c : Nat} {xs : List UInt8} (h : Rb w a c xs) {m : Nat} (hm : m ≤ xs.length) : Rb w (behind a c m) (c - m) (xs.drop m) := by
  have hle := h.le; have hmx := h.max
  cases a with
  | none =>
    obtain ⟨h1, h2⟩ := h.nil rfl
    subst h2; subst h1
    simp at hm; subst hm
    simpa [behind] using h
  | some x =>
    unfold behind
    by_cases hc : c = m
    · rw [if_pos hc]
      have : xs.drop m = [] := List.drop_eq_nil_of_le (by omega)
      rw [this]
      exact Rb.mk' (by simp) (by omega) (fun j b hb => by simp at hb)
    · rw [if_neg hc]
      refine Rb.mk' (by rw [List.length_drop]; omega) (by omega) (fun j b hb => ?_)
      rw [add_add]
      rw [List.getElem?_drop] at hb
      exact h.get (m + j) b hb
/-- What Get hands back. -/
def getV (a : Option Addr) (c : Nat) (xs : List UInt8) (k : Nat) : Value := .tuple (if k ≤ xs.length then #[rdV (behind a c k) (xs.length - k) (c - k) 0, .int .u64 (numOf (xs.take k) : Nat)] else #[rdV a xs.length c 20, .int .u64 0])
theorem refget_any (a : Option Addr) (c : Nat) (xs : List UInt8) (size : Int) (w : World) (h : Rb w a c xs) :
    Calls Try.prog 44 #[rdV a xs.length c 0, .int .i64 size] w fun e w' => e = .returned (getV a c xs (sz size)) ∧ Kept [] w w' := by
  unfold getV
  by_cases hs : sz size ≤ xs.length
  · rw [if_pos hs]; exact refget_ok w a xs.length c xs rfl size hs h
  · rw [if_neg hs]; exact refget_short a xs.length c size (by omega) h.le h.max w
/-- What Raw hands back. -/
def rawV (a : Option Addr) (c : Nat) (xs : List UInt8) (k : Nat) : Value := .tuple (if k ≤ xs.length then #[rdV (behind a c k) (xs.length - k) (c - k) 0, .slice a k c] else #[rdV a xs.length c 20, .slice none 0 0])
theorem refraw_all (a : Option Addr) (c : Nat) (xs : List UInt8) (n : Int) (w : World) (h : Rb w a c xs) :
    Calls Try.prog 47 #[rdV a xs.length c 0, .int .i64 n] w fun e w' => e = .returned (rawV a c xs n.toNat) ∧ Kept [] w w' := refraw_any a xs.length c n h.le h.max w

theorem refend_any (a : Option Addr) (c n : Nat) (w : World) :
    Calls Try.prog 14 #[rdV a n c 0] w fun e w' => e = .returned (.int .i64 (if 0 < n then 22 else 0)) ∧ Kept [] w w' := by
  by_cases h : 0 < n
  · rw [if_pos h]
    have h' : (0 : Int) < (n : Int) := by omega
    have hd : decide (0 < n) = true := decide_eq_true h
    go_enter Try.func14, Try.ntmps14
    go_wp2
    go_ret
    exact ⟨rfl, (Kept.refl _ _).alloc _⟩
  · have h0 : n = 0 := by omega
    subst h0
    rw [if_neg h]
    clear h
    go_enter Try.func14, Try.ntmps14
    go_wp2
    go_ret
    exact ⟨rfl, (Kept.refl _ _).alloc _⟩

/-- What Some hands back. -/
def someV (a : Option Addr) (c : Nat) (xs : List UInt8) (most : Int) : Value := .tuple (if fieldErr xs most = 0 then #[rdV (behind (behind a c 4) (c - 4) (said xs)) (xs.length - 4 - said xs) (c - 4 - said xs) 0, .slice (behind a c 4) (said xs) (c - 4)] else #[rdV a xs.length c (fieldErr xs most), .slice none 0 0])

theorem set1_two {W : World} {b r : Nat} {x y u v : Value} {t : TypeId} (hb : W.heap[b]? = some (.cells #[x, y] t (0, 0))) (hr : W.heap[r]? = some (.cells #[u, v] t (0, 0))) (hne : b ≠ r) (e p q : Value) :
    (((W.setCell ⟨b, 1, none⟩ e).setCell ⟨r, 0, none⟩ p).setCell ⟨r, 1, none⟩ q).heap[r]? = some (.cells #[p, q] t (0, 0)) ∧ Kept [b, r] W (((W.setCell ⟨b, 1, none⟩ e).setCell ⟨r, 0, none⟩ p).setCell ⟨r, 1, none⟩ q) := by
  have k1 : Kept [b] W (W.setCell ⟨b, 1, none⟩ e) := (Kept.refl [b] W).setCell (p := ⟨b, 1, none⟩) (fun _ => by simp) _
  have h1 : (W.setCell ⟨b, 1, none⟩ e).heap[r]? = some (.cells #[u, v] t (0, 0)) := k1.at hr (by simp; omega)
  obtain ⟨h2, k2⟩ := two_set h1 p q
  refine ⟨h2, ?_⟩
  exact ((((Kept.refl [b, r] W).setCell (p := ⟨b, 1, none⟩) (fun _ => by simp) _).setCell (p := ⟨r, 0, none⟩) (fun _ => by simp) _).setCell (p := ⟨r, 1, none⟩) (fun _ => by simp) _)

set_option maxRecDepth 100000 in
set_option maxHeartbeats 2000000 in
theorem refsome_short (a : Option Addr) (c : Nat) (xs : List UInt8) (most : Int) (w : World) (h : Rb w a c xs) (hl : xs.length < 4) :
    Calls Try.prog 45 #[rdV a xs.length c 0, .int .i64 most] w fun e w' => e = .returned (.tuple #[rdV a xs.length c 20, .slice none 0 0]) ∧ Kept [] w w' := by
  obtain ⟨w2, hw2⟩ : ∃ w2, w2 = (w.alloc (.cells #[.slice a xs.length c, .int .i64 0] 28)).alloc (.cells #[.slice none 0 0, .int .i64 0] 28) := ⟨_, rfl⟩
  have k2 := hid (show Kept [] w w2 from hw2 ▸ ((Kept.refl [] w).alloc _).alloc _)
  have hb := hid (show w2.heap[w.heap.size]? = some (.cells #[.slice a xs.length c, .int .i64 0] 28 (0, 0)) from hw2 ▸ heap_alloc_old (heap_alloc_at rfl))
  have hr := hid (show w2.heap[w.heap.size + 1]? = some (.cells #[.slice none 0 0, .int .i64 0] 28 (0, 0)) from hw2 ▸ heap_alloc_at (by simp))
  have e0 := cell_of_row _ _ 0 _ _ _ hb.out
  have e1 := cell_of_row _ _ 1 _ _ _ hb.out
  have hG := hid (refget_any a c xs 4 w2 (h.kept k2.out (by simp)))
  rw [sz4] at hG
  unfold getV at hG
  rw [if_neg (by omega)] at hG
  clear h hl
  generalize xs.length = len at *
  go_enter Try.func45, Try.ntmps45
  go_wp2_with fail
  rw [← hw2]
  clear hw2
  refine hG.out.mono ?_
  rintro e w3 ⟨rfl, k3⟩
  have K3 := hid (k2.out.trans k3)
  have hb3 := hid (k3.at hb.out (by simp))
  have hr3 := hid (k3.at hr.out (by simp))
  have lr3 := lt_of_block hr3.out
  clear k3 e0 e1 hb hr k2 hG
  have hb5 := hid (show (w3.alloc (.cells #[.slice a len c, .int .i64 20] 28)).heap[w.heap.size]? = some (.cells #[.slice a len c, .int .i64 0] 28 (0, 0)) from heap_alloc_old hb3.out)
  have hr5 := hid (show (w3.alloc (.cells #[.slice a len c, .int .i64 20] 28)).heap[w.heap.size + 1]? = some (.cells #[.slice none 0 0, .int .i64 0] 28 (0, 0)) from heap_alloc_old hr3.out)
  have K5 := hid (K3.out.alloc (.cells #[.slice a len c, .int .i64 20] 28))
  clear hb3 hr3 K3
  have a0 := cell_of_row _ _ 0 _ _ _ hb5.out
  have a1 := cell_of_row _ _ 1 _ _ _ hb5.out
  have b0 := frozen_of_row _ _ 0 _ _ hb5.out
  have b1 := frozen_of_row _ _ 1 _ _ hb5.out
  have c0 := cell_of_row _ _ 0 _ _ _ hr5.out
  have c1 := cell_of_row _ _ 1 _ _ _ hr5.out
  have d0 := frozen_of_row _ _ 0 _ _ hr5.out
  have d1 := frozen_of_row _ _ 1 _ _ hr5.out
  go_wp2
  obtain ⟨h6, k6⟩ := set1_two hb5.out hr5.out (by omega) (.int .i64 20) (.slice a len c) (.int .i64 20)
  have z0 := cell_of_row _ _ 0 _ _ _ h6
  have z1 := cell_of_row _ _ 1 _ _ _ h6
  refine bodyPost_ret (v := .tuple #[rdV a len c 20, .slice none 0 0]) ?_ rfl ?_
  · simp [results, Try.f45, go_sem, z0, z1]
  · exact ⟨rfl, K5.out.trans' k6 (fun x hx hm => by simp at hm; omega)⟩

set_option maxRecDepth 100000 in
set_option maxHeartbeats 2000000 in
theorem refsome_long1 (a : Option Addr) (c : Nat) (xs : List UInt8) (most : Int) (w : World) (h : Rb w a c xs) (h4 : 4 ≤ xs.length) (hm : most < 0) (hlt : 0 < said xs) :
    Calls Try.prog 45 #[rdV a xs.length c 0, .int .i64 most] w fun e w' => e = .returned (.tuple #[rdV a xs.length c 2, .slice none 0 0]) ∧ Kept [] w w' := by
  obtain ⟨w2, hw2⟩ : ∃ w2, w2 = (w.alloc (.cells #[.slice a xs.length c, .int .i64 0] 28)).alloc (.cells #[.slice none 0 0, .int .i64 0] 28) := ⟨_, rfl⟩
  have k2 := hid (show Kept [] w w2 from hw2 ▸ ((Kept.refl [] w).alloc _).alloc _)
  have hb := hid (show w2.heap[w.heap.size]? = some (.cells #[.slice a xs.length c, .int .i64 0] 28 (0, 0)) from hw2 ▸ heap_alloc_old (heap_alloc_at rfl))
  have hr := hid (show w2.heap[w.heap.size + 1]? = some (.cells #[.slice none 0 0, .int .i64 0] 28 (0, 0)) from hw2 ▸ heap_alloc_at (by simp))
  have e0 := cell_of_row _ _ 0 _ _ _ hb.out
  have e1 := cell_of_row _ _ 1 _ _ _ hb.out
  have hG := hid (refget_any a c xs 4 w2 (h.kept k2.out (by simp)))
  rw [sz4] at hG
  unfold getV at hG
  rw [if_pos (by omega)] at hG
  obtain ⟨n, hn⟩ : ∃ n, n = said xs := ⟨_, rfl⟩
  have hG2 := hid (show numOf (xs.take 4) = n from hn.symm)
  rw [hG2.out] at hG
  rw [← hn] at hlt
  have hn32 : n < 4294967296 := hn ▸ said_lt xs
  clear hn hG2 h
  have hw0 : IntKind.u64.wrap 0 = 0 := by decide
  obtain ⟨b4, hb4⟩ : ∃ b, b = behind a c 4 := ⟨_, rfl⟩
  obtain ⟨l4, hl4⟩ : ∃ l, l = xs.length - 4 := ⟨_, rfl⟩
  obtain ⟨c4, hc4⟩ : ∃ l, l = c - 4 := ⟨_, rfl⟩
  rw [← hb4, ← hl4, ← hc4] at hG
  clear hb4 hl4 hc4 h4
  generalize xs.length = len at *
  have hd1 : decide ((0 : Int) < (n : Int)) = true := decide_eq_true (by omega)
  go_enter Try.func45, Try.ntmps45
  go_wp2_with fail
  rw [← hw2]
  clear hw2
  refine hG.out.mono ?_
  rintro e w3 ⟨rfl, k3⟩
  have K3 := hid (k2.out.trans k3)
  have hb3 := hid (k3.at hb.out (by simp))
  have hr3 := hid (k3.at hr.out (by simp))
  have lr3 := lt_of_block hr3.out
  clear k3 e0 e1 hb hr k2 hG
  have hb5 := hid (show (w3.alloc (.cells #[.slice b4 l4 c4, .int .i64 0] 28)).heap[w.heap.size]? = some (.cells #[.slice a len c, .int .i64 0] 28 (0, 0)) from heap_alloc_old hb3.out)
  have hr5 := hid (show (w3.alloc (.cells #[.slice b4 l4 c4, .int .i64 0] 28)).heap[w.heap.size + 1]? = some (.cells #[.slice none 0 0, .int .i64 0] 28 (0, 0)) from heap_alloc_old hr3.out)
  have K5 := hid (K3.out.alloc (.cells #[.slice b4 l4 c4, .int .i64 0] 28))
  clear hb3 hr3 K3
  have a0 := cell_of_row _ _ 0 _ _ _ hb5.out
  have a1 := cell_of_row _ _ 1 _ _ _ hb5.out
  have b0 := frozen_of_row _ _ 0 _ _ hb5.out
  have b1 := frozen_of_row _ _ 1 _ _ hb5.out
  have c0 := cell_of_row _ _ 0 _ _ _ hr5.out
  have c1 := cell_of_row _ _ 1 _ _ _ hr5.out
  have d0 := frozen_of_row _ _ 0 _ _ hr5.out
  have d1 := frozen_of_row _ _ 1 _ _ hr5.out
  go_wp2
  obtain ⟨h6, k6⟩ := set1_two hb5.out hr5.out (by omega) (.int .i64 2) (.slice a len c) (.int .i64 2)
  have z0 := cell_of_row _ _ 0 _ _ _ h6
  have z1 := cell_of_row _ _ 1 _ _ _ h6
  refine bodyPost_ret (v := .tuple #[rdV a len c 2, .slice none 0 0]) ?_ rfl ?_
  · simp [results, Try.f45, go_sem, z0, z1]
  · exact ⟨rfl, K5.out.trans' k6 (fun x hx hm => by simp at hm; omega)⟩

set_option maxRecDepth 100000 in
set_option maxHeartbeats 2000000 in
theorem refsome_long2 (a : Option Addr) (c : Nat) (xs : List UInt8) (most : Int) (w : World) (h : Rb w a c xs) (h4 : 4 ≤ xs.length) (m : Nat) (hm : most = (m : Int)) (hlt : m < said xs) :
    Calls Try.prog 45 #[rdV a xs.length c 0, .int .i64 most] w fun e w' => e = .returned (.tuple #[rdV a xs.length c 2, .slice none 0 0]) ∧ Kept [] w w' := by
  obtain ⟨w2, hw2⟩ : ∃ w2, w2 = (w.alloc (.cells #[.slice a xs.length c, .int .i64 0] 28)).alloc (.cells #[.slice none 0 0, .int .i64 0] 28) := ⟨_, rfl⟩
  have k2 := hid (show Kept [] w w2 from hw2 ▸ ((Kept.refl [] w).alloc _).alloc _)
  have hb := hid (show w2.heap[w.heap.size]? = some (.cells #[.slice a xs.length c, .int .i64 0] 28 (0, 0)) from hw2 ▸ heap_alloc_old (heap_alloc_at rfl))
  have hr := hid (show w2.heap[w.heap.size + 1]? = some (.cells #[.slice none 0 0, .int .i64 0] 28 (0, 0)) from hw2 ▸ heap_alloc_at (by simp))
  have e0 := cell_of_row _ _ 0 _ _ _ hb.out
  have e1 := cell_of_row _ _ 1 _ _ _ hb.out
  have hG := hid (refget_any a c xs 4 w2 (h.kept k2.out (by simp)))
  rw [sz4] at hG
  unfold getV at hG
  rw [if_pos (by omega)] at hG
  subst hm
  obtain ⟨n, hn⟩ : ∃ n, n = said xs := ⟨_, rfl⟩
  have hG2 := hid (show numOf (xs.take 4) = n from hn.symm)
  rw [hG2.out] at hG
  rw [← hn] at hlt
  have hn32 : n < 4294967296 := hn ▸ said_lt xs
  clear hn hG2 h
  have hw0 : IntKind.u64.wrap 0 = 0 := by decide
  obtain ⟨b4, hb4⟩ : ∃ b, b = behind a c 4 := ⟨_, rfl⟩
  obtain ⟨l4, hl4⟩ : ∃ l, l = xs.length - 4 := ⟨_, rfl⟩
  obtain ⟨c4, hc4⟩ : ∃ l, l = c - 4 := ⟨_, rfl⟩
  rw [← hb4, ← hl4, ← hc4] at hG
  clear hb4 hl4 hc4 h4
  generalize xs.length = len at *
  have hd1 : ¬ ((m : Int) < 0) := by omega
  have hd2 : (m : Int) < (n : Int) := by omega
  have hwm : IntKind.u64.wrap (m : Int) = (m : Int) := by unfold IntKind.wrap; simp only [show IntKind.u64.signed = false from rfl, show IntKind.u64.bits = 64 from rfl]; simp; omega
  go_enter Try.func45, Try.ntmps45
  go_wp2_with fail
  rw [← hw2]
  clear hw2
  refine hG.out.mono ?_
  rintro e w3 ⟨rfl, k3⟩
  have K3 := hid (k2.out.trans k3)
  have hb3 := hid (k3.at hb.out (by simp))
  have hr3 := hid (k3.at hr.out (by simp))
  have lr3 := lt_of_block hr3.out
  clear k3 e0 e1 hb hr k2 hG
  have hb5 := hid (show (w3.alloc (.cells #[.slice b4 l4 c4, .int .i64 0] 28)).heap[w.heap.size]? = some (.cells #[.slice a len c, .int .i64 0] 28 (0, 0)) from heap_alloc_old hb3.out)
  have hr5 := hid (show (w3.alloc (.cells #[.slice b4 l4 c4, .int .i64 0] 28)).heap[w.heap.size + 1]? = some (.cells #[.slice none 0 0, .int .i64 0] 28 (0, 0)) from heap_alloc_old hr3.out)
  have K5 := hid (K3.out.alloc (.cells #[.slice b4 l4 c4, .int .i64 0] 28))
  clear hb3 hr3 K3
  have a0 := cell_of_row _ _ 0 _ _ _ hb5.out
  have a1 := cell_of_row _ _ 1 _ _ _ hb5.out
  have b0 := frozen_of_row _ _ 0 _ _ hb5.out
  have b1 := frozen_of_row _ _ 1 _ _ hb5.out
  have c0 := cell_of_row _ _ 0 _ _ _ hr5.out
  have c1 := cell_of_row _ _ 1 _ _ _ hr5.out
  have d0 := frozen_of_row _ _ 0 _ _ hr5.out
  have d1 := frozen_of_row _ _ 1 _ _ hr5.out
  go_wp2
  obtain ⟨h6, k6⟩ := set1_two hb5.out hr5.out (by omega) (.int .i64 2) (.slice a len c) (.int .i64 2)
  have z0 := cell_of_row _ _ 0 _ _ _ h6
  have z1 := cell_of_row _ _ 1 _ _ _ h6
  refine bodyPost_ret (v := .tuple #[rdV a len c 2, .slice none 0 0]) ?_ rfl ?_
  · simp [results, Try.f45, go_sem, z0, z1]
  · exact ⟨rfl, K5.out.trans' k6 (fun x hx hm => by simp at hm; omega)⟩
set_option maxRecDepth 100000 in
set_option maxHeartbeats 2000000 in
theorem refsome_few (a : Option Addr) (c : Nat) (xs : List UInt8) (most : Int) (w : World) (h : Rb w a c xs) (h4 : 4 ≤ xs.length) (m : Nat) (hm : most = (m : Int)) (hmb : m ≤ 127) (hlt : said xs ≤ m) (hfew : xs.length < 4 + said xs) :
    Calls Try.prog 45 #[rdV a xs.length c 0, .int .i64 most] w fun e w' => e = .returned (.tuple #[rdV a xs.length c 20, .slice none 0 0]) ∧ Kept [] w w' := by
  obtain ⟨w2, hw2⟩ : ∃ w2, w2 = (w.alloc (.cells #[.slice a xs.length c, .int .i64 0] 28)).alloc (.cells #[.slice none 0 0, .int .i64 0] 28) := ⟨_, rfl⟩
  have k2 := hid (show Kept [] w w2 from hw2 ▸ ((Kept.refl [] w).alloc _).alloc _)
  have hb := hid (show w2.heap[w.heap.size]? = some (.cells #[.slice a xs.length c, .int .i64 0] 28 (0, 0)) from hw2 ▸ heap_alloc_old (heap_alloc_at rfl))
  have hr := hid (show w2.heap[w.heap.size + 1]? = some (.cells #[.slice none 0 0, .int .i64 0] 28 (0, 0)) from hw2 ▸ heap_alloc_at (by simp))
  have e0 := cell_of_row _ _ 0 _ _ _ hb.out
  have e1 := cell_of_row _ _ 1 _ _ _ hb.out
  have hG := hid (refget_any a c xs 4 w2 (h.kept k2.out (by simp)))
  rw [sz4] at hG
  unfold getV at hG
  rw [if_pos (by omega)] at hG
  subst hm
  obtain ⟨n, hn⟩ : ∃ n, n = said xs := ⟨_, rfl⟩
  have hG2 := hid (show numOf (xs.take 4) = n from hn.symm)
  rw [hG2.out] at hG
  rw [← hn] at hlt hfew
  have hn32 : n < 4294967296 := hn ▸ said_lt xs
  clear hn hG2 h
  have hw0 : IntKind.u64.wrap 0 = 0 := by decide
  obtain ⟨b4, hb4⟩ : ∃ b, b = behind a c 4 := ⟨_, rfl⟩
  obtain ⟨l4, hl4⟩ : ∃ l, l = xs.length - 4 := ⟨_, rfl⟩
  obtain ⟨c4, hc4⟩ : ∃ l, l = c - 4 := ⟨_, rfl⟩
  rw [← hb4, ← hl4, ← hc4] at hG
  have hl4n : l4 < n := by omega
  have hl4z : IntKind.u64.wrap (l4 : Int) = (l4 : Int) := by unfold IntKind.wrap; simp only [show IntKind.u64.signed = false from rfl, show IntKind.u64.bits = 64 from rfl]; simp; omega
  clear hb4 hl4 hc4 h4 hfew
  generalize xs.length = len at *
  have hd1 : ¬ ((m : Int) < 0) := by omega
  have hd2 : ¬ ((m : Int) < (n : Int)) := by omega
  have hd3 : (l4 : Int) < (n : Int) := by omega
  have hwm : IntKind.u64.wrap (m : Int) = (m : Int) := by unfold IntKind.wrap; simp only [show IntKind.u64.signed = false from rfl, show IntKind.u64.bits = 64 from rfl]; simp; omega
  go_enter Try.func45, Try.ntmps45
  go_wp2_with fail
  rw [← hw2]
  clear hw2
  refine hG.out.mono ?_
  rintro e w3 ⟨rfl, k3⟩
  have K3 := hid (k2.out.trans k3)
  have hb3 := hid (k3.at hb.out (by simp))
  have hr3 := hid (k3.at hr.out (by simp))
  have lr3 := lt_of_block hr3.out
  clear k3 e0 e1 hb hr k2 hG
  have hb5 := hid (show (w3.alloc (.cells #[.slice b4 l4 c4, .int .i64 0] 28)).heap[w.heap.size]? = some (.cells #[.slice a len c, .int .i64 0] 28 (0, 0)) from heap_alloc_old hb3.out)
  have hr5 := hid (show (w3.alloc (.cells #[.slice b4 l4 c4, .int .i64 0] 28)).heap[w.heap.size + 1]? = some (.cells #[.slice none 0 0, .int .i64 0] 28 (0, 0)) from heap_alloc_old hr3.out)
  have K5 := hid (K3.out.alloc (.cells #[.slice b4 l4 c4, .int .i64 0] 28))
  clear hb3 hr3 K3
  have a0 := cell_of_row _ _ 0 _ _ _ hb5.out
  have a1 := cell_of_row _ _ 1 _ _ _ hb5.out
  have b0 := frozen_of_row _ _ 0 _ _ hb5.out
  have b1 := frozen_of_row _ _ 1 _ _ hb5.out
  have c0 := cell_of_row _ _ 0 _ _ _ hr5.out
  have c1 := cell_of_row _ _ 1 _ _ _ hr5.out
  have d0 := frozen_of_row _ _ 0 _ _ hr5.out
  have d1 := frozen_of_row _ _ 1 _ _ hr5.out
  go_wp2
  obtain ⟨h6, k6⟩ := set1_two hb5.out hr5.out (by omega) (.int .i64 20) (.slice a len c) (.int .i64 20)
  have z0 := cell_of_row _ _ 0 _ _ _ h6
  have z1 := cell_of_row _ _ 1 _ _ _ h6
  refine bodyPost_ret (v := .tuple #[rdV a len c 20, .slice none 0 0]) ?_ rfl ?_
  · simp [results, Try.f45, go_sem, z0, z1]
  · exact ⟨rfl, K5.out.trans' k6 (fun x hx hm => by simp at hm; omega)⟩
set_option maxRecDepth 100000 in
set_option maxHeartbeats 2000000 in
theorem refsome_ok (a : Option Addr) (c : Nat) (xs : List UInt8) (most : Int) (w : World) (h : Rb w a c xs) (h4 : 4 ≤ xs.length) (m : Nat) (hm : most = (m : Int)) (hmb : m ≤ 127) (hlt : said xs ≤ m) (hfew : 4 + said xs ≤ xs.length) :
    Calls Try.prog 45 #[rdV a xs.length c 0, .int .i64 most] w fun e w' => e = .returned (.tuple #[rdV (behind (behind a c 4) (c - 4) (said xs)) (xs.length - 4 - said xs) (c - 4 - said xs) 0, .slice (behind a c 4) (said xs) (c - 4)]) ∧ Kept [] w w' := by
  obtain ⟨w2, hw2⟩ : ∃ w2, w2 = (w.alloc (.cells #[.slice a xs.length c, .int .i64 0] 28)).alloc (.cells #[.slice none 0 0, .int .i64 0] 28) := ⟨_, rfl⟩
  have k2 := hid (show Kept [] w w2 from hw2 ▸ ((Kept.refl [] w).alloc _).alloc _)
  have hb := hid (show w2.heap[w.heap.size]? = some (.cells #[.slice a xs.length c, .int .i64 0] 28 (0, 0)) from hw2 ▸ heap_alloc_old (heap_alloc_at rfl))
  have hr := hid (show w2.heap[w.heap.size + 1]? = some (.cells #[.slice none 0 0, .int .i64 0] 28 (0, 0)) from hw2 ▸ heap_alloc_at (by simp))
  have e0 := cell_of_row _ _ 0 _ _ _ hb.out
  have e1 := cell_of_row _ _ 1 _ _ _ hb.out
  have hG := hid (refget_any a c xs 4 w2 (h.kept k2.out (by simp)))
  rw [sz4] at hG
  unfold getV at hG
  rw [if_pos (by omega)] at hG
  subst hm
  have hle := h.le
  have hmx := h.max
  obtain ⟨n, hn⟩ : ∃ n, n = said xs := ⟨_, rfl⟩
  have hG2 := hid (show numOf (xs.take 4) = n from hn.symm)
  rw [hG2.out] at hG
  rw [← hn] at hlt hfew ⊢
  have hn32 : n < 4294967296 := hn ▸ said_lt xs
  clear hn hG2 h
  have hw0 : IntKind.u64.wrap 0 = 0 := by decide
  obtain ⟨b4, hb4⟩ : ∃ b, b = behind a c 4 := ⟨_, rfl⟩
  obtain ⟨l4, hl4⟩ : ∃ l, l = xs.length - 4 := ⟨_, rfl⟩
  obtain ⟨c4, hc4⟩ : ∃ l, l = c - 4 := ⟨_, rfl⟩
  rw [← hb4, ← hl4, ← hc4] at hG ⊢
  have hl4n : ¬ (l4 < n) := by omega
  have hl4z : IntKind.u64.wrap (l4 : Int) = (l4 : Int) := by unfold IntKind.wrap; simp only [show IntKind.u64.signed = false from rfl, show IntKind.u64.bits = 64 from rfl]; simp; omega
  have hlc4 : l4 ≤ c4 := by omega
  have hc4x : c4 ≤ 9223372036854775807 := by omega
  have hR := hid (fun W => refraw_any b4 l4 c4 (n : Int) hlc4 hc4x W)
  have hln : (n : Int) ≤ (l4 : Int) := by omega
  clear hb4 hl4 hc4 h4 hfew hle hmx
  generalize xs.length = len at *
  have hd1 : ¬ ((m : Int) < 0) := by omega
  have hd2 : ¬ ((m : Int) < (n : Int)) := by omega
  have hd3 : ¬ ((l4 : Int) < (n : Int)) := by omega
  have hd4 : ¬ ((n : Int) < 0) := by omega
  have hwn : IntKind.i64.wrap (n : Int) = (n : Int) := by unfold IntKind.wrap; simp only [show IntKind.i64.signed = true from rfl, show IntKind.i64.bits = 64 from rfl]; simp; omega
  have hwm : IntKind.u64.wrap (m : Int) = (m : Int) := by unfold IntKind.wrap; simp only [show IntKind.u64.signed = false from rfl, show IntKind.u64.bits = 64 from rfl]; simp; omega
  go_enter Try.func45, Try.ntmps45
  go_wp2_with fail
  rw [← hw2]
  clear hw2
  refine hG.out.mono ?_
  rintro e w3 ⟨rfl, k3⟩
  have K3 := hid (k2.out.trans k3)
  have hb3 := hid (k3.at hb.out (by simp))
  have hr3 := hid (k3.at hr.out (by simp))
  have lr3 := lt_of_block hr3.out
  clear k3 e0 e1 hb hr k2 hG
  have hb5 := hid (show (w3.alloc (.cells #[.slice b4 l4 c4, .int .i64 0] 28)).heap[w.heap.size]? = some (.cells #[.slice a len c, .int .i64 0] 28 (0, 0)) from heap_alloc_old hb3.out)
  have hr5 := hid (show (w3.alloc (.cells #[.slice b4 l4 c4, .int .i64 0] 28)).heap[w.heap.size + 1]? = some (.cells #[.slice none 0 0, .int .i64 0] 28 (0, 0)) from heap_alloc_old hr3.out)
  have K5 := hid (K3.out.alloc (.cells #[.slice b4 l4 c4, .int .i64 0] 28))
  clear hb3 hr3 K3
  have a0 := cell_of_row _ _ 0 _ _ _ hb5.out
  have a1 := cell_of_row _ _ 1 _ _ _ hb5.out
  have b0 := frozen_of_row _ _ 0 _ _ hb5.out
  have b1 := frozen_of_row _ _ 1 _ _ hb5.out
  have c0 := cell_of_row _ _ 0 _ _ _ hr5.out
  have c1 := cell_of_row _ _ 1 _ _ _ hr5.out
  have d0 := frozen_of_row _ _ 0 _ _ hr5.out
  have d1 := frozen_of_row _ _ 1 _ _ hr5.out
  have hR5 := hid (hR.out (w3.alloc (.cells #[.slice b4 l4 c4, .int .i64 0] 28)))
  clear hR
  rw [Int.toNat_natCast, if_pos (by omega)] at hR5
  go_wp2_with fail
  refine hR5.out.mono ?_
  rintro e w6 ⟨rfl, k6⟩
  have hr6 := hid (k6.at hr5.out (by simp))
  have K6 := hid (K5.out.trans k6)
  clear k6 hR5 hb5 hr5 K5 a0 a1 b0 b1 c0 c1 d0 d1
  have c0 := cell_of_row _ _ 0 _ _ _ hr6.out
  have c1 := cell_of_row _ _ 1 _ _ _ hr6.out
  have d0 := frozen_of_row _ _ 0 _ _ hr6.out
  have d1 := frozen_of_row _ _ 1 _ _ hr6.out
  obtain ⟨b6, hb6⟩ : ∃ b, b = behind b4 c4 n := ⟨_, rfl⟩
  rw [← hb6]
  replace hb6 := hid hb6
  go_wp2
  obtain ⟨h7, k7⟩ := two_set hr6.out (.slice b6 (l4 - n) (c4 - n)) (.int .i64 0)
  have z0 := cell_of_row _ _ 0 _ _ _ h7
  have z1 := cell_of_row _ _ 1 _ _ _ h7
  refine bodyPost_ret (v := .tuple #[rdV b6 (l4 - n) (c4 - n) 0, .slice b4 n c4]) ?_ rfl ?_
  · simp [results, Try.f45, go_sem, z0, z1]
  · exact ⟨by rw [hb6.out], K6.out.trans' k7 (fun x hx hm => by simp at hm; omega)⟩

theorem refsome_any (a : Option Addr) (c : Nat) (xs : List UInt8) (m : Nat) (hm : m ≤ 127) (w : World) (h : Rb w a c xs) :
    Calls Try.prog 45 #[rdV a xs.length c 0, .int .i64 (m : Int)] w fun e w' => e = .returned (someV a c xs m) ∧ Kept [] w w' := by
  unfold someV fieldErr
  have hmx : max (m : Int) 0 = (m : Int) := by omega
  rw [hmx]
  by_cases h1 : xs.length < 4
  · simp only [if_pos h1]; exact refsome_short a c xs m w h h1
  by_cases h2 : (m : Int) < (said xs : Int)
  · simp only [if_neg h1, if_pos h2]; exact refsome_long2 a c xs m w h (by omega) m rfl (by omega)
  by_cases h3 : xs.length < 4 + said xs
  · simp only [if_neg h1, if_neg h2, if_pos h3]; exact refsome_few a c xs m w h (by omega) m rfl hm (by omega) h3
  · simp only [if_neg h1, if_neg h2, if_neg h3]; exact refsome_ok a c xs m w h (by omega) m rfl hm (by omega) (by omega)
end Go.Proofs.Ytignphegdigalaa
