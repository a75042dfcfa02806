import Derived.Test.YtcdbgijbfppmoaaDoorH1
import Derived.BigRegion
import Derived.RegionTactic
import Derived.StillTailTactics
import Derived.BigQuiet
import Derived.Deep.QuietTactic
import Derived.LoopTactic

/- sha.spread: a block's words. -/
namespace Go.Proofs.YtcdbgijbfppmoaaDoor
open Go.RowKit

/-- The value of a byte. -/
theorem bs_get (bs : List UInt8) (i : Nat) (h : i < bs.length) : (bs.map B).toArray[i]? = some (Value.int .u8 ((bs.getD i 0).toNat : Int)) := by
  simp [B, h]

/-- The words so far, and noughts. -/
def wArr (b : List UInt8) (i : Nat) : Array Value := ((Sha.words b i).map U ++ List.replicate (64 - i) (Value.int .u32 0)).toArray
theorem wArr_size (b : List UInt8) (i : Nat) (h : i ≤ 64) : (wArr b i).size = 64 := by simp [wArr, Sha.words_len]; omega
theorem wArr_get (b : List UInt8) (i j : Nat) (h : j < i) : (wArr b i)[j]? = some (U ((Sha.words b i).getD j 0)) := by
  have hl : j < (Sha.words b i).length := by rw [Sha.words_len]; exact h
  simp only [wArr, List.getElem?_toArray]
  rw [List.getElem?_append_left (by simpa using hl)]
  simp [hl]
theorem wArr_set (b : List UInt8) (i : Nat) (h : i < 64) (x : Sha.W) (hx : Sha.words b (i + 1) = Sha.words b i ++ [x]) : (wArr b i).setIfInBounds i (U x) = wArr b (i + 1) := by
  unfold wArr
  rw [hx]
  have hl := Sha.words_len b i
  obtain ⟨n, hn⟩ : ∃ n, 64 - i = n + 1 := ⟨64 - i - 1, by omega⟩
  have hn' : 64 - (i + 1) = n := by omega
  rw [hn, hn', List.replicate_succ]
  simp
  rw [List.set_append_right _ _ (by simp [hl])]
  simp [hl]

theorem wArr_one (b : List UInt8) (i : Nat) : (wArr b i).all (·.oneCell') = true := by
  rw [Array.all_eq_true_iff_forall_mem]
  intro x hx
  simp [wArr] at hx
  rcases hx with ⟨y, _, rfl⟩ | ⟨_, rfl⟩ <;> rfl

def SpRel (k : Nat) (b : List UInt8) (w : World) (i : Nat) (wr : World) : Prop :=
  k = w.heap.size ∧ Kept [] w wr ∧ wr.heap[k]? = some (.cells (b.map B).toArray 122 (0, 0)) ∧ wr.heap[k + 1]? = some (.cells (wArr [] 0) 143 (0, 0)) ∧ wr.heap[k + 1 + 1]? = some (.cells (wArr b i) 143 (0, 0))

theorem SpRel.drew {k : Nat} {b : List UInt8} {w wr : World} {i : Nat} (h : SpRel k b w i wr) : SpRel k b w i wr.drew := ⟨h.1, h.2.1.drew, h.2.2⟩
theorem SpRel.step {k : Nat} {b : List UInt8} {w wr : World} {i : Nat} (h : SpRel k b w i wr) (hi : i < 64) (x : Sha.W) (hx : Sha.words b (i + 1) = Sha.words b i ++ [x]) : SpRel k b w (i + 1) (wr.setCell ⟨k + 1 + 1, i, none⟩ (U x)) := by
  obtain ⟨h0, h1, h2, h3, h4⟩ := h
  refine ⟨h0, h1.setCell (fun e => absurd e (by simp; omega)) _, heap_setCell_other h2 (by simp; omega), heap_setCell_other h3 (by simp), ?_⟩
  rw [Go.heap_setCell_same wr (k + 1 + 1) i _ _ _ h4, wArr_set b i hi x hx]

theorem word_spelled (n0 n1 n2 n3 : Nat) (h0 : n0 < 256) (h1 : n1 < 256) (h2 : n2 < 256) (h3 : n3 < 256) :
    bits .or .u32 (bits .or .u32 (bits .or .u32 (IntKind.u32.wrap (IntKind.u32.wrap (n0 : Int) * 16777216)) (IntKind.u32.wrap (IntKind.u32.wrap (n1 : Int) * 65536))) (IntKind.u32.wrap (IntKind.u32.wrap (n2 : Int) * 256))) (IntKind.u32.wrap (n3 : Int)) =
      (((BitVec.ofNat 32 n0 <<< 24) ||| (BitVec.ofNat 32 n1 <<< 16) ||| (BitVec.ofNat 32 n2 <<< 8) ||| BitVec.ofNat 32 n3 : Sha.W).toNat : Int) := by
  have e : ∀ n : Nat, n < 256 → IntKind.u32.wrap (n : Int) = ((BitVec.ofNat 32 n : Sha.W).toNat : Int) := fun n h => by
    rw [IntKind.wrap_u32, BitVec.toNat_ofNat]; omega
  rw [e n0 h0, e n1 h1, e n2 h2, e n3 h3]
  have s24 := fun a : Sha.W => shl_bv a 24
  have s16 := fun a : Sha.W => shl_bv a 16
  have s8 := fun a : Sha.W => shl_bv a 8
  simp only [IntKind.wrap_u32]
  rw [show (16777216 : Int) = ((2 ^ 24 : Nat) : Int) from rfl, show (65536 : Int) = ((2 ^ 16 : Nat) : Int) from rfl, show (256 : Int) = ((2 ^ 8 : Nat) : Int) from rfl, s24, s16, s8, or_bv, or_bv, or_bv]

theorem next_spelled (c d e f : Sha.W) :
    IntKind.u32.wrap (IntKind.u32.wrap (IntKind.u32.wrap ((c.toNat : Int) + (d.toNat : Int)) + bits .xor .u32 (bits .xor .u32 ((Sha.rotr e 7).toNat : Int) ((Sha.rotr e 18).toNat : Int)) ((e.toNat : Int) / 8)) + bits .xor .u32 (bits .xor .u32 ((Sha.rotr f 17).toNat : Int) ((Sha.rotr f 19).toNat : Int)) ((f.toNat : Int) / 1024)) =
      ((c + d + (Sha.rotr e 7 ^^^ Sha.rotr e 18 ^^^ (e >>> 3)) + (Sha.rotr f 17 ^^^ Sha.rotr f 19 ^^^ (f >>> 10))).toNat : Int) := by
  have h3 := shr_bv e 3
  have h10 := shr_bv f 10
  simp only [IntKind.wrap_u32]
  rw [show (8 : Int) = ((2 ^ 3 : Nat) : Int) from rfl, show (1024 : Int) = ((2 ^ 10 : Nat) : Int) from rfl, h3, h10, xor_bv, xor_bv, xor_bv, xor_bv, add_bv, add_bv, add_bv]

theorem slice_word (k i : Nat) (hi : i < 16) (W : World) : (Instr.sliceAt 122 (.pointer (some ⟨k, 0, none⟩)) (some (.int .i64 (4 * (i : Int)))) (some (.int .i64 (4 * (i : Int) + 4))) none).run Tryd.prog W = .ok (.slice (some ⟨k, 4 * i, none⟩) 4 (64 - 4 * i)) W := by
  have hal : Tryd.prog.arrayLen 122 = 64 := by simp [Program.arrayLen, Tryd.underlying122]
  rw [run_sliceAt_array_lh W 122 ⟨k, 0, none⟩ (by simp [Program.arrayLen, Program.elem, Tryd.underlying122]) .i64 .i64 (4 * (i : Int)) (4 * (i : Int) + 4) (by omega) (by omega) (by rw [hal]; omega)]
  have e1 : (4 * (i : Int)).toNat = 4 * i := by omega
  have e2 : (4 * (i : Int) + 4).toNat = 4 * i + 4 := by omega
  have e3 : (4 * i + 4) - 4 * i = 4 := by omega
  have e4 : ¬ 64 = 4 * i := by omega
  rw [hal, e1, e2]
  go_simp

set_option maxRecDepth 100000 in
set_option maxHeartbeats 4000000 in
theorem spread_any (b : List UInt8) (hb : b.length = 64) (w : World) :
    Calls Tryd.prog 103 #[.agg (b.map B).toArray] w fun e w' => e = .returned (.agg (wArr b 64)) ∧ Kept [] w w' := by
  go_enter Tryd.func103, Tryd.ntmps103
  go_wp2
  have h0 : Hid (SpRel w.heap.size b w 0 (((w.alloc (.cells (b.map B).toArray 122)).alloc (.cells (wArr [] 0) 143)).alloc (.cells (wArr b 0) 143))) :=
    hid ⟨rfl, (((Kept.refl [] w).alloc _).alloc _).alloc _, heap_alloc_old (heap_alloc_old (heap_alloc_at rfl)), heap_alloc_old (heap_alloc_at (by simp)), heap_alloc_at (by simp)⟩
  go_loopw [9] (fun s wr => ∃ i : Nat, i ≤ 16 ∧ s = .int .i64 i ∧ Hid (SpRel w.heap.size b w i wr)) (fun s _ => 16 - (intOf s).toNat)
  case atStart => exact ⟨0, Nat.zero_le _, rfl, h0⟩
  case round =>
    obtain ⟨i, hi, rfl, hr⟩ := hrel
    by_cases hlt : i < 16
    · obtain ⟨-, -, c1, -, c3⟩ := hr.out
      have g0 : wr.cell? ⟨w.heap.size, 4 * i, none⟩ = some (.int .u8 ((b.getD (4 * i) 0).toNat : Int)) := (cell_of_row wr _ _ _ _ _ c1).trans (bs_get b _ (by omega))
      have g1 : wr.cell? ⟨w.heap.size, 4 * i + 1, none⟩ = some (.int .u8 ((b.getD (4 * i + 1) 0).toNat : Int)) := (cell_of_row wr _ _ _ _ _ c1).trans (bs_get b _ (by omega))
      have g2 : wr.cell? ⟨w.heap.size, 4 * i + 2, none⟩ = some (.int .u8 ((b.getD (4 * i + 2) 0).toNat : Int)) := (cell_of_row wr _ _ _ _ _ c1).trans (bs_get b _ (by omega))
      have g3 : wr.cell? ⟨w.heap.size, 4 * i + 3, none⟩ = some (.int .u8 ((b.getD (4 * i + 3) 0).toNat : Int)) := (cell_of_row wr _ _ _ _ _ c1).trans (bs_get b _ (by omega))
      obtain ⟨v, gx⟩ : ∃ v, wr.cell? ⟨w.heap.size + 1 + 1, i, none⟩ = some v := ⟨(wArr b i)[i]'(by rw [wArr_size] <;> omega), (cell_of_row wr _ _ _ _ _ c3).trans (Array.getElem?_eq_getElem _)⟩
      have gf := frozen_of_row wr _ i _ _ c3
      have b0 := (b.getD (4 * i) 0).toNat_lt
      have b1 := (b.getD (4 * i + 1) 0).toNat_lt
      have b2 := (b.getD (4 * i + 2) 0).toNat_lt
      have b3 := (b.getD (4 * i + 3) 0).toNat_lt
      clear c1 c3
      have hx : Hid (∃ n0 n1 n2 n3 : Nat, n0 = (b.getD (4 * i) 0).toNat ∧ n1 = (b.getD (4 * i + 1) 0).toNat ∧ n2 = (b.getD (4 * i + 2) 0).toNat ∧ n3 = (b.getD (4 * i + 3) 0).toNat ∧
        Sha.word b i = (BitVec.ofNat 32 n0 <<< 24) ||| (BitVec.ofNat 32 n1 <<< 16) ||| (BitVec.ofNat 32 n2 <<< 8) ||| BitVec.ofNat 32 n3) := hid ⟨_, _, _, _, rfl, rfl, rfl, rfl, rfl⟩
      have hx := hx.out
      obtain ⟨n0, n1, n2, n3, e0, e1, e2, e3, hx⟩ := hx
      rw [← e0] at g0 b0; rw [← e1] at g1 b1; rw [← e2] at g2 b2; rw [← e3] at g3 b3
      have HX := hid hx
      clear e0 e1 e2 e3 hx
      have hw : i < 64 := by omega
      have hsl := fun W => slice_word w.heap.size i hlt W
      have i0 : (0 : Int) ≤ (i : Int) := by omega
      have i1 : (i : Int) < 64 := by omega
      have hwd := hid (word_spelled n0 n1 n2 n3 b0 b1 b2 b3)
      go_wp2
      clear hsl
      go_still_tail 24, (by kernel_rfl)
      change wpList _ _ _ _ _ wr.drew
      rw [hwd.out, ← HX.out]
      have hr2 := hid (hr.out.drew.step hw (Sha.word b i) (by rw [Sha.words, if_pos hlt]))
      clear hwd HX g0 g1 g2 g3 hr b0 b1 b2 b3
      go_wp2
      go_roundw
      case rel => exact ⟨i + 1, by omega, by go_num, hr2⟩
      case measure => simp [intOf]; omega
    · obtain rfl : i = 16 := by omega
      go_wp2_with fail
      clear h0
      rw [show ((16 : Nat) : Int) = 16 from rfl]
      go_loopw [6] (fun s wr => ∃ i : Nat, 16 ≤ i ∧ i ≤ 64 ∧ s = .int .i64 i ∧ Hid (SpRel w.heap.size b w i wr)) (fun s _ => 64 - (intOf s).toNat)
      case atStart => exact ⟨16, by omega, by omega, rfl, hr⟩
      case round =>
        clear hr hlt hi
        obtain ⟨i, hi, hi2, rfl, hr⟩ := hrel
        by_cases hlt : i < 64
        · obtain ⟨-, -, -, -, c3⟩ := hr.out
          have gw := fun j (hj : j < i) => (cell_of_row _ _ j _ _ _ c3).trans (wArr_get b i j hj)
          have g15 := gw (i - 15) (by omega)
          have g2 := gw (i - 2) (by omega)
          have g16 := gw (i - 16) (by omega)
          have g7 := gw (i - 7) (by omega)
          obtain ⟨v, gx⟩ : ∃ v, wr.cell? ⟨w.heap.size + 1 + 1, i, none⟩ = some v := ⟨(wArr b i)[i]'(by rw [wArr_size] <;> omega), (cell_of_row wr _ _ _ _ _ c3).trans (Array.getElem?_eq_getElem _)⟩
          have gf := frozen_of_row wr _ i _ _ c3
          obtain ⟨e, he⟩ : ∃ e, (Sha.words b i).getD (i - 15) 0 = e := ⟨_, rfl⟩
          obtain ⟨f, hf⟩ : ∃ f, (Sha.words b i).getD (i - 2) 0 = f := ⟨_, rfl⟩
          obtain ⟨c, hc⟩ : ∃ c, (Sha.words b i).getD (i - 16) 0 = c := ⟨_, rfl⟩
          obtain ⟨d, hd⟩ : ∃ d, (Sha.words b i).getD (i - 7) 0 = d := ⟨_, rfl⟩
          obtain ⟨z, hz1, hz2⟩ : ∃ z : Sha.W, IntKind.u32.wrap (IntKind.u32.wrap (IntKind.u32.wrap ((c.toNat : Int) + (d.toNat : Int)) + bits .xor .u32 (bits .xor .u32 ((Sha.rotr e 7).toNat : Int) ((Sha.rotr e 18).toNat : Int)) ((e.toNat : Int) / 8)) + bits .xor .u32 (bits .xor .u32 ((Sha.rotr f 17).toNat : Int) ((Sha.rotr f 19).toNat : Int)) ((f.toNat : Int) / 1024)) = (z.toNat : Int) ∧ Sha.words b (i + 1) = Sha.words b i ++ [z] :=
            ⟨_, next_spelled c d e f, by rw [Sha.words, if_neg (by omega)]; simp only [Sha.nextW, Sha.words_len, he, hf, hc, hd]⟩
          have hx := hid hz1
          have hn := hid hz2
          clear hz1 hz2
          rw [he] at g15; rw [hf] at g2; rw [hc] at g16; rw [hd] at g7
          have hr2 := hid (hr.out.drew.drew.step hlt _ hn.out)
          have i0 : (0 : Int) ≤ (i : Int) := by omega
          have i1 : (i : Int) < 64 := by omega
          have j15 : (0 : Int) ≤ (i : Int) - 15 := by omega
          have k15 : (i : Int) - 15 < 64 := by omega
          have l15 : (15 : Int) ≤ (i : Int) := by omega
          have n15 : ((i : Int) - 15).toNat = i - 15 := by omega
          have l2 : (2 : Int) ≤ (i : Int) := by omega
          have k2 : (i : Int) - 2 < 64 := by omega
          have n2 : ((i : Int) - 2).toNat = i - 2 := by omega
          have l7 : (7 : Int) ≤ (i : Int) := by omega
          have k7 : (i : Int) - 7 < 64 := by omega
          have n7 : ((i : Int) - 7).toNat = i - 7 := by omega
          have l16 : (16 : Int) ≤ (i : Int) := by omega
          have k16 : (i : Int) - 16 < 64 := by omega
          have n16 : ((i : Int) - 16).toNat = i - 16 := by omega
          have w15 : IntKind.i64.wrap ((i : Int) - 15) = (i : Int) - 15 := IntWalk.i64_in _ (by omega)
          have w2 : IntKind.i64.wrap ((i : Int) - 2) = (i : Int) - 2 := IntWalk.i64_in _ (by omega)
          have w7 : IntKind.i64.wrap ((i : Int) - 7) = (i : Int) - 7 := IntWalk.i64_in _ (by omega)
          have w16 : IntKind.i64.wrap ((i : Int) - 16) = (i : Int) - 16 := IntWalk.i64_in _ (by omega)
          have r1 := fun w => rot_still e (-7) 25 7 (by omega) (by omega) (by decide) (by decide) w
          have r2 := fun w => rot_still e (-18) 14 18 (by omega) (by omega) (by decide) (by decide) w
          have r3 := fun w => rot_still f (-17) 15 17 (by omega) (by omega) (by decide) (by decide) w
          have r4 := fun w => rot_still f (-19) 13 19 (by omega) (by omega) (by decide) (by decide) w
          have R1 := hid r1; have R2 := hid r2; have R3 := hid r3; have R4 := hid r4
          clear r1 r2 r3 r4 gw c3 hr he hf hc hd
          go_wp2_with fail
          go_still (by kernel_rfl)
          go_wp2_with fail
          refine wp_region_still_tail 29 (by kernel_rfl) (by kernel_rfl) ?_
          simp only [List.take_succ_cons, List.take_zero, List.drop_succ_cons, List.drop_zero]
          change wpStill _ _ wr.drew.drew _ _ _
          repeat still_step
          still_call (R1.out _)
          repeat still_step
          still_call (R2.out _)
          repeat still_step
          still_call (R3.out _)
          repeat still_step
          still_call (R4.out _)
          repeat still_step
          refine wpStill_nil ?_
          change wpList _ _ _ _ _ wr.drew.drew
          clear R1 R2 R3 R4 w15 w2 w7 w16
          rw [hx.out]
          clear hx hn
          go_wp2
          go_roundw
          case rel => exact ⟨i + 1, by omega, by omega, by go_num, hr2⟩
          case measure => simp [intOf]; omega
        · obtain rfl : i = 64 := by omega
          obtain ⟨hz, hk, -, c4, c5⟩ := hr.out
          have hsz : Hid (wr.heap.size = wr.heap.size) := hid rfl
          go_wp2_with (first
            | (refine wpList_load_row rfl 143 (.tmp 3) rfl (w.heap.size + 1 + 1) rfl _ _ _ _ c5 Tryd.underlying143 rfl (by rw [wArr_size _ _ (Nat.le_refl _)]; kernel_rfl) ?_)
            | (refine wpList_store_row rfl 143 (.tmp 2) (.tmp 84) rfl (w.heap.size + 1) (wArr b 64) rfl rfl _ _ c4 (by rw [wArr_size _ _ (Nat.le_refl _)]; kernel_rfl) (by rw [wArr_size _ _ (by omega), wArr_size _ _ (Nat.le_refl _)]) (wArr_one b 64) ?_))
          refine bodyPost_ret (v := .agg (wArr b 64)) (results_cell_row Tryd.results103 _ _ (w.heap.size + 1) _ _ _ _ (by simp) (setRow_heap _ _ _ _ _ _ c4) Tryd.underlying143 rfl (by rw [wArr_size _ _ (Nat.le_refl _)]; kernel_rfl)) rfl ⟨rfl, hk.setRow (fun h => absurd h (by omega)) _⟩
end Go.Proofs.YtcdbgijbfppmoaaDoor
