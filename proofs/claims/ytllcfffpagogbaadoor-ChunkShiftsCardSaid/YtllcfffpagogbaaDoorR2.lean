/- roll.number, Make, At, behind, Sum: what each call answers. -/
import Derived.Test.YtllcfffpagogbaaDoorR1
import Derived.Test.YtllcfffpagogbaaDoorH4
namespace Go.Proofs.YtllcfffpagogbaaDoor
open Go.RowKit

/-- A byte's number by a seed, as the walk spells it. -/
def numI (s c : Int) : Int :=
  let x := IntKind.u64.wrap (s + IntKind.u64.wrap (c * 11400714819323198485))
  let y := IntKind.u64.wrap (bits .xor .u64 x (x / 1073741824) * 13787848793156543929)
  let z := IntKind.u64.wrap (bits .xor .u64 y (y / 134217728) * 10723151780598845931)
  let v := bits .xor .u64 z (z / 2147483648)
  IntKind.u32.wrap (v / 4294967296)
def num (s : Int) (c : UInt8) : Roll.W := BitVec.ofInt 32 (numI s (c.toNat : Int))
theorem num_spelled (s : Int) (c : UInt8) : U (num s c) = .int .u32 (numI s (c.toNat : Int)) := by
  have h : 0 ≤ numI s (c.toNat : Int) ∧ numI s (c.toNat : Int) < 4294967296 := by
    unfold numI; rw [IntKind.wrap_u32]; omega
  show Value.int .u32 (((BitVec.ofInt 32 (numI s (c.toNat : Int))).toNat : Nat) : Int) = _
  rw [BitVec.toNat_ofInt]; congr 1; omega

theorem number_any (s : Int) (c : Int) (w : World) (h0 : 0 ≤ c) (h1 : c < 256) (hs : 0 ≤ s) (hs1 : s < 18446744073709551616) :
    Calls Tryd.prog 50 #[.int .u64 s, .int .u64 c] w fun e w' => e = .returned (.int .u32 (numI s c)) ∧ w = w' := by
  go_enter Tryd.func50, Tryd.ntmps50
  go_wp2
  go_ret
  refine ⟨?_, rfl⟩
  unfold numI
  simp only [IntKind.wrap_u64, IntKind.wrap_u32]
  rfl

theorem at_any (p o : Nat) (T : UInt8 → Roll.W) (c : UInt8) (w : World) (h : Tb w p o T) :
    Calls Tryd.prog 82 #[.pointer (some ⟨p, o, none⟩), B c] w fun e w' => e = .returned (U (T c)) ∧ w = w' := by
  have hc := h c
  have hb := c.toNat_lt
  obtain ⟨n, hn⟩ : ∃ n, n = c.toNat := ⟨_, rfl⟩
  rw [show B c = .int .u8 (n : Int) by rw [hn]; rfl]
  rw [← hn] at hc hb
  clear hn
  go_enter Tryd.func82, Tryd.ntmps82
  go_wp2
  go_ret
  exact ⟨rfl, rfl⟩

theorem behind_any (p o : Nat) (T : UInt8 → Roll.W) (s : Roll.W) (c : UInt8) (w : World) (h : Tb w p o T) :
    Calls Tryd.prog 80 #[.pointer (some ⟨p, o, none⟩), U s, B c] w fun e w' => e = .returned (U (Roll.step T s c)) ∧ w = w' := by
  have H := hid h
  have hx := hid (xor_bv (Roll.turn s 1) (T c))
  clear h
  go_enter Tryd.func80, Tryd.ntmps80
  go_wp2_with fail
  refine (rotl_any s 1 (by omega) _).mono ?_
  rintro e w' ⟨rfl, rfl⟩
  go_wp2_with fail
  refine (at_any p o T c _ H.out).mono ?_
  rintro e w' ⟨rfl, rfl⟩
  go_wp2_with fail
  go_ret
  exact ⟨by rw [hx.out]; rfl, rfl⟩

theorem add_add (x : Addr) (i j : Nat) : (x.add i).add j = x.add (i + j) := by
  unfold Addr.add
  by_cases hi : i = 0
  · subst hi; simp
  · by_cases hj : j = 0
    · subst hj; simp [hi]
    · simp [hi, hj, Nat.add_assoc]

/-- A slice of bytes reads as a list. -/
def Reads (w : World) (a : Option Addr) (ys : List UInt8) : Prop :=
  (a = none → ys = []) ∧ ∀ ad, a = some ad → ∀ (j : Nat) (u : Value), (ys.map B)[j]? = some u → w.cell? (ad.add j) = some u
theorem Reads.kept {S : List Nat} {w w' : World} {a : Option Addr} {ys : List UInt8} (h : Reads w a ys) (hk : Kept S w w') (hS : ys ≠ [] → ∀ x, a = some x → x.block ∉ S) : Reads w' a ys :=
  ⟨h.1, fun ad ha j u hu => by
    have hc := h.2 ad ha j u hu
    have hl := World.block_lt_of_cell? w _ hc
    have hne : ys ≠ [] := fun e => by rw [e] at hu; simp at hu
    exact (hk.cell hl (by rw [add_block]; exact hS hne ad ha)).trans hc⟩
theorem Reads.lt {w : World} {a : Option Addr} {ys : List UInt8} (h : Reads w a ys) (hne : ys ≠ []) : ∀ x, a = some x → x.block < w.heap.size := by
  intro x hx
  cases ys with
  | nil => exact absurd rfl hne
  | cons y ys =>
    have hc := h.2 x hx 0 (B y) rfl
    have := World.block_lt_of_cell? w _ hc
    rwa [add_block] at this
theorem Reads.get {w : World} {a : Option Addr} {ys : List UInt8} (h : Reads w a ys) (i : Nat) (hi : i < ys.length) : ∃ ad, a = some ad ∧ w.cell? (ad.add i) = some (B ys[i]) := by
  cases a with
  | none => rw [h.1 rfl] at hi; simp at hi
  | some ad => exact ⟨ad, rfl, h.2 ad rfl i _ (by simp [hi])⟩

/-- The table as far as it is made. -/
def mkL (s : Int) (i : Nat) : List Value := (List.range 256).map fun c => if c < i then U (num s (UInt8.ofNat c)) else U 0
theorem mkL_len (s : Int) (i : Nat) : (mkL s i).length = 256 := by simp [mkL]
theorem mkL_set (s : Int) (i : Nat) (hi : i < 256) : (mkL s i).set i (.int .u32 (numI s (i : Int))) = mkL s (i + 1) := by
  have hn : Value.int .u32 (numI s (i : Int)) = U (num s (UInt8.ofNat i)) := by
    rw [num_spelled]; congr 2; simp; omega
  rw [hn]
  apply List.ext_getElem?
  intro j
  rw [List.getElem?_set]
  by_cases hj : i = j
  · subst hj; simp [mkL, hi]
  · by_cases h2 : j < 256
    · have e : (j < i + 1) = (j < i) := by simp; omega
      simp [mkL, hj, h2, e]
    · simp [mkL, hj, h2]
theorem mkL_end (s : Int) : mkL s 256 = tabL (num s) := by
  unfold mkL tabL
  apply List.map_congr_left
  intro c hc
  rw [if_pos (by simpa using hc)]
theorem mkL_zero (s : Int) : mkL s 0 = List.replicate 256 (U 0) := by
  refine List.eq_replicate_iff.2 ⟨mkL_len s 0, fun b hb => ?_⟩
  unfold mkL at hb
  obtain ⟨c, _, rfl⟩ := List.mem_map.1 hb
  exact if_neg (by omega)
theorem zero_table (W : World) : (zeroValue 106).run Tryd.prog W = .ok (.agg (List.replicate 256 (U 0)).toArray) W := by kernel_rfl

def MkRel (w : World) (s : Int) (i : Nat) (wr : World) : Prop := Kept [] w wr ∧ wr.heap[w.heap.size]? = some (.cells (mkL s i).toArray 106 (0, 0))
theorem MkRel.step {w wr : World} {s : Int} {i : Nat} (h : MkRel w s i wr) (hi : i < 256) : MkRel w s (i + 1) (wr.setCell ⟨w.heap.size, i, none⟩ (.int .u32 (numI s (i : Int)))) := by
  obtain ⟨h1, h2⟩ := h
  refine ⟨h1.setCell (fun e => absurd e (by simp)) _, ?_⟩
  rw [Go.heap_setCell_same wr _ i _ _ _ h2, List.setIfInBounds_toArray, mkL_set s i hi]

set_option maxRecDepth 100000 in
set_option maxHeartbeats 1000000 in
theorem make_any (s : Int) (w : World) (h0 : 0 ≤ s) (h1 : s < 18446744073709551616) :
    Calls Tryd.prog 31 #[.int .u64 s] w fun e w' => e = .returned (.pointer (some ⟨w.heap.size, 0, none⟩)) ∧ Kept [] w w' ∧ w'.heap[w.heap.size]? = some (.cells (tabL (num s)).toArray 106 (0, 0)) := by
  obtain ⟨cs0, hcs0⟩ : ∃ cs0, cs0 = List.replicate 256 (U 0) := ⟨_, rfl⟩
  have hzv : ∀ W, (zeroValue 106).run Tryd.prog W = .ok (.agg cs0.toArray) W := by rw [hcs0]; exact zero_table
  have Hcs0 := hid hcs0
  clear hcs0
  go_enter Tryd.func31, Tryd.ntmps31
  go_wp2_with fail
  have h00 : Hid (MkRel w s 0 (w.alloc (.cells cs0.toArray 106))) := hid ⟨(Kept.refl _ _).alloc _, by rw [mkL_zero, ← Hcs0.out]; exact heap_alloc_at rfl⟩
  go_loopw [5] (fun j wr => ∃ i : Nat, i ≤ 256 ∧ j = .int .i64 i ∧ Hid (MkRel w s i wr)) (fun j _ => 256 - (intOf j).toNat)
  case atStart => exact ⟨0, by omega, rfl, h00⟩
  case round =>
    clear h00
    obtain ⟨i, hi, rfl, hr⟩ := hrel
    by_cases hlt : i < 256
    · obtain ⟨v, gx⟩ : ∃ v, wr.cell? ⟨w.heap.size, i, none⟩ = some v := ⟨(mkL s i)[i]'(by rw [mkL_len]; omega), by rw [cell_of_row wr _ _ _ _ _ hr.out.2]; simp [mkL_len, hlt]⟩
      have gf := frozen_of_row wr _ i _ _ hr.out.2
      have hr2 := hid (hr.out.step hlt)
      clear hr
      go_wp2_with fail
      refine (number_any s (i : Int) _ (by omega) (by omega) h0 h1).mono ?_
      rintro e w' ⟨rfl, rfl⟩
      generalize numI s (i : Int) = v2 at *
      go_wp2_with fail
      exact ⟨⟨i + 1, by omega, by go_num, hr2⟩, by simp [intOf]; omega⟩
    · obtain rfl : i = 256 := by omega
      have hr' := hr.out.2
      rw [mkL_end] at hr'
      have Hk := hid hr.out.1
      have Hr' := hid hr'
      clear hr hr' hlt hi
      go_wp2_with fail
      go_ret
      exact ⟨rfl, Hk.out, Hr'.out⟩
end Go.Proofs.YtllcfffpagogbaaDoor
