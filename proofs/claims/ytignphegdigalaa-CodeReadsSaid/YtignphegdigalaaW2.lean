/- coldstoreref02: Raw, Get, Some, End. -/
import Derived.Test.YtignphegdigalaaE1
namespace Go.Proofs.Ytignphegdigalaa
open Go.RowKit Go.Lib

/-- The document's reader, as a value. -/
abbrev rdV (a : Option Addr) (n c : Nat) (e : Int) : Value := .agg #[.slice a n c, .int .i64 e]
/-- A slice of bytes as the document's reader has it. -/
structure Rb (w : World) (a : Option Addr) (c : Nat) (xs : List UInt8) : Prop where
  bys : SrcB w (.slice a xs.length c) xs
  le : xs.length ≤ c
  max : c ≤ 9223372036854775807
theorem Rb.kept {S : List Nat} {w w' : World} {a : Option Addr} {c : Nat} {xs : List UInt8} (h : Rb w a c xs) (hk : Kept S w w') (hS : ∀ x, a = some x → x.block ∉ S) : Rb w' a c xs := ⟨h.bys.kept hk (fun y hy => by
    cases a with
    | none => simp [Value.ownBlock] at hy
    | some x => simp [Value.ownBlock] at hy; exact hy ▸ hS x rfl), h.le, h.max⟩

set_option maxRecDepth 100000 in
set_option maxHeartbeats 2000000 in
theorem refraw_short (a : Option Addr) (c : Nat) (xs : List UInt8) (n : Int) (h : (xs.length : Int) < n) (w : World) :
    Calls Try.prog 47 #[rdV a xs.length c 0, .int .i64 n] w fun e w' => e = .returned (.tuple #[rdV a xs.length c 20, .slice none 0 0]) ∧ Kept [] w w' := by
  have h0 : ¬ n < 0 := by omega
  generalize xs.length = m at *
  go_enter Try.func47, Try.ntmps47
  go_wp2
  have hb : ((w.alloc (.cells #[.slice a m c, .int .i64 20] 28)).alloc (.cells #[.slice a m c, .int .i64 20] 28)).heap[w.heap.size + 1]? = some (.cells #[.slice a m c, .int .i64 20] 28 (0, 0)) := heap_alloc_at (by simp)
  have e0 := cell_of_row _ _ 0 _ _ _ hb
  have e1 := cell_of_row _ _ 1 _ _ _ hb
  refine bodyPost_ret (v := .tuple #[rdV a m c 20, .slice none 0 0]) ?_ rfl ?_
  · simp [results, Try.f47, go_sem, e0, e1]
  · exact ⟨rfl, ((Kept.refl [] w).alloc _).alloc _⟩

theorem cut_b (a : Option Addr) (n m c : Nat) (h : m ≤ c) (W : World) : (Instr.sliceAt 22 (.slice a n c) none (some (.int .i64 (m : Int))) none).run Try.prog W = .ok (.slice a m c) W := by
  rw [run_sliceAt_slice W 22 _ _ _ _ (by simp [Program.elem, Try.underlying22])]
  have hs : (sizeOf 5).run Try.prog W = .ok 1 W := by kernel_rfl
  rw [run_slice_h W 22 _ _ _ (by simp [Program.elem, Try.underlying22]) .i64 (m : Int) (by omega) (by omega)]
  have he : Try.prog.elem 22 = 5 := by simp [Program.elem, Try.underlying22]
  have ha : ∀ ad : Addr, ad.add 0 = ad := fun ad => by unfold Addr.add; split <;> simp_all
  rw [he, hs]
  cases a <;> simp [Result.andThen, sliced, ha]
theorem cut_f (a : Option Addr) (n m c : Nat) (h : m ≤ n) (hc : n ≤ c) (W : World) : (Instr.sliceAt 22 (.slice a n c) (some (.int .i64 (m : Int))) none none).run Try.prog W = .ok (.slice (behind a c m) (n - m) (c - m)) W := by
  rw [run_sliceAt_slice W 22 _ _ _ _ (by simp [Program.elem, Try.underlying22])]
  have hs : (sizeOf 5).run Try.prog W = .ok 1 W := by kernel_rfl
  rw [run_slice_l W 22 _ _ _ (by simp [Program.elem, Try.underlying22]) .i64 (m : Int) (by omega) (by omega)]
  have he : Try.prog.elem 22 = 5 := by simp [Program.elem, Try.underlying22]
  rw [he, hs]
  simp [Result.andThen, sliced, behind]

set_option maxRecDepth 100000 in
set_option maxHeartbeats 2000000 in
theorem refraw_ok (a : Option Addr) (len c m : Nat) (h : m ≤ len) (hc : len ≤ c) (hx : c ≤ 9223372036854775807) (w : World) :
    Calls Try.prog 47 #[rdV a len c 0, .int .i64 (m : Int)] w fun e w' => e = .returned (.tuple #[rdV (behind a c m) (len - m) (c - m) 0, .slice a m c]) ∧ Kept [] w w' := by
  have h1 := fun W => cut_b a len m c (by omega) W
  have h2 := fun W => cut_f a len m c h hc W
  obtain ⟨b, hb⟩ : ∃ b, b = behind a c m := ⟨_, rfl⟩
  obtain ⟨l2, hl2⟩ : ∃ l, l = len - m := ⟨_, rfl⟩
  obtain ⟨c2, hc2⟩ : ∃ l, l = c - m := ⟨_, rfl⟩
  rw [← hb, ← hl2, ← hc2] at h2 ⊢
  clear hb hl2 hc2
  go_enter Try.func47, Try.ntmps47
  go_wp2
  have hb : ((w.alloc (.cells #[.slice b l2 c2, .int .i64 0] 28)).alloc (.cells #[.slice b l2 c2, .int .i64 0] 28)).heap[w.heap.size + 1]? = some (.cells #[.slice b l2 c2, .int .i64 0] 28 (0, 0)) := heap_alloc_at (by simp)
  have e0 := cell_of_row _ _ 0 _ _ _ hb
  have e1 := cell_of_row _ _ 1 _ _ _ hb
  refine bodyPost_ret (v := .tuple #[rdV b l2 c2 0, .slice a m c]) ?_ rfl ?_
  · simp [results, Try.f47, go_sem, e0, e1]
  · exact ⟨rfl, ((Kept.refl [] w).alloc _).alloc _⟩
set_option maxRecDepth 100000 in
set_option maxHeartbeats 2000000 in
theorem refraw_neg (a : Option Addr) (len c : Nat) (n : Int) (hn : n < 0) (hc : len ≤ c) (hx : c ≤ 9223372036854775807) (w : World) :
    Calls Try.prog 47 #[rdV a len c 0, .int .i64 n] w fun e w' => e = .returned (.tuple #[rdV (behind a c 0) len c 0, .slice a 0 c]) ∧ Kept [] w w' := by
  have h1 := fun W => cut_b a len 0 c (by omega) W
  have h2 := fun W => cut_f a len 0 c (by omega) hc W
  rw [Nat.sub_zero, Nat.sub_zero] at h2
  simp only [Int.ofNat_zero, Int.natCast_zero] at h1 h2
  obtain ⟨b, hb⟩ : ∃ b, b = behind a c 0 := ⟨_, rfl⟩
  rw [← hb] at h2 ⊢
  clear hb
  go_enter Try.func47, Try.ntmps47
  go_wp2
  have hb : ((w.alloc (.cells #[.slice b len c, .int .i64 0] 28)).alloc (.cells #[.slice b len c, .int .i64 0] 28)).heap[w.heap.size + 1]? = some (.cells #[.slice b len c, .int .i64 0] 28 (0, 0)) := heap_alloc_at (by simp)
  have e0 := cell_of_row _ _ 0 _ _ _ hb
  have e1 := cell_of_row _ _ 1 _ _ _ hb
  refine bodyPost_ret (v := .tuple #[rdV b len c 0, .slice a 0 c]) ?_ rfl ?_
  · simp [results, Try.f47, go_sem, e0, e1]
  · exact ⟨rfl, ((Kept.refl [] w).alloc _).alloc _⟩
/-- Raw, of any number. -/
theorem refraw_any (a : Option Addr) (len c : Nat) (n : Int) (hc : len ≤ c) (hx : c ≤ 9223372036854775807) (w : World) :
    Calls Try.prog 47 #[rdV a len c 0, .int .i64 n] w fun e w' => (e = .returned (.tuple (if n.toNat ≤ len then #[rdV (behind a c n.toNat) (len - n.toNat) (c - n.toNat) 0, .slice a n.toNat c] else #[rdV a len c 20, .slice none 0 0]))) ∧ Kept [] w w' := by
  by_cases h : n.toNat ≤ len
  · rw [if_pos h]
    by_cases hn : n < 0
    · rw [show n.toNat = 0 by omega, Nat.sub_zero, Nat.sub_zero]; exact refraw_neg a len c n hn hc hx w
    · have := refraw_ok a len c n.toNat h hc hx w
      rwa [show ((n.toNat : Nat) : Int) = n by omega] at this
  · rw [if_neg h]
    have hl : len = (List.replicate len (0 : UInt8)).length := by simp
    have := refraw_short a c (List.replicate len (0 : UInt8)) n (by rw [← hl]; omega) w
    rwa [← hl] at this
end Go.Proofs.Ytignphegdigalaa
