/- ChunkPlain. -/
import Derived.Test.YthfojiicblppdaaDoorQ8
namespace Go.Proofs.YthfojiicblppdaaDoor
open Go.RowKit Go.Lib

theorem ends_plain {P : Chunk.Par} (h : P.bits = 0) (hm : P.min ≤ P.max) (n : Nat) (s : Roll.W) : Chunk.ends P n s = decide (P.min ≤ n) := by
  unfold Chunk.ends
  rw [h, decide_eq_true (Nat.zero_le _), Bool.and_true]
  by_cases e : P.min ≤ n
  · simp [e]
  · have : ¬ P.max ≤ n := by omega
    simp [e, this]
theorem spl_step {P : Chunk.Par} (hE : ∀ n s, Chunk.ends P n s = decide (P.min ≤ n)) (h1 : 1 ≤ P.min) (T : UInt8 → Roll.W) (ys : List UInt8) (hy : ys ≠ []) : spl P T ys = ys.take P.min :: spl P T (ys.drop P.min) := by
  unfold spl
  rw [Chunk.split_cons ys hy, Chunk.first_even P.min h1 hE]
  rcases Nat.le_total P.min ys.length with h2 | h2
  · rw [Nat.min_eq_left h2]
  · rw [Nat.min_eq_right h2, List.take_length, List.drop_length, List.take_of_length_le h2, List.drop_eq_nil_of_le h2]
theorem spl_lens {P : Chunk.Par} (hE : ∀ n s, Chunk.ends P n s = decide (P.min ≤ n)) (h1 : 1 ≤ P.min) (T : UInt8 → Roll.W) : ∀ (f : Nat) (ys : List UInt8), ys.length ≤ f → ∀ i x, (spl P T ys)[i]? = some x → (i + 1 < (spl P T ys).length → x.length = P.min) ∧ x.length = min P.min (ys.length - i * P.min)
  | _, [], _ => fun i x hx => by simp [spl_nil] at hx
  | 0, _ :: _, h => by simp at h
  | f + 1, y :: ys, h => by
    intro i x hx
    obtain ⟨c, hc⟩ : ∃ c, c = y :: ys := ⟨_, rfl⟩
    have hcn : c ≠ [] := by rw [hc]; simp
    rw [← hc] at hx h ⊢
    rw [spl_step hE h1 T c hcn] at hx ⊢
    cases i with
    | zero =>
      simp at hx
      subst hx
      refine ⟨fun hl => ?_, by rw [List.length_take]; simp⟩
      rw [List.length_take]
      simp only [List.length_cons] at hl
      by_cases e : c.drop P.min = []
      · rw [e, spl_nil] at hl; simp at hl
      · have := List.length_pos_iff.2 e
        rw [List.length_drop] at this
        omega
    | succ i =>
      simp only [List.getElem?_cons_succ] at hx
      obtain ⟨h2, h3⟩ := spl_lens hE h1 T f (c.drop P.min) (by rw [List.length_drop]; omega) i x hx
      refine ⟨fun hl => h2 (by simpa using hl), ?_⟩
      rw [h3, List.length_drop, Nat.succ_mul]
      congr 1; omega
theorem spl_count {P : Chunk.Par} (hE : ∀ n s, Chunk.ends P n s = decide (P.min ≤ n)) (h1 : 1 ≤ P.min) (T : UInt8 → Roll.W) : ∀ (f : Nat) (ys : List UInt8), ys.length ≤ f → (spl P T ys).length = (ys.length + P.min - 1) / P.min
  | _, [], _ => by rw [spl_nil]; simp; symm; exact Nat.div_eq_of_lt (by omega)
  | 0, _ :: _, h => by simp at h
  | f + 1, y :: ys, h => by
    obtain ⟨c, hc⟩ : ∃ c, c = y :: ys := ⟨_, rfl⟩
    have hcn : c ≠ [] := by rw [hc]; simp
    have hcp := List.length_pos_iff.2 hcn
    rw [← hc] at h ⊢
    rw [spl_step hE h1 T c hcn, List.length_cons, spl_count hE h1 T f (c.drop P.min) (by rw [List.length_drop]; omega), List.length_drop]
    rcases Nat.le_total c.length P.min with h2 | h2
    · rw [show c.length - P.min + P.min - 1 = P.min - 1 by omega, Nat.div_eq_of_lt (by omega), show c.length + P.min - 1 = (c.length - 1) + P.min by omega, Nat.add_div_right _ (by omega), Nat.div_eq_of_lt (by omega)]
    · rw [show c.length - P.min + P.min - 1 = c.length - 1 by omega, show c.length + P.min - 1 = (c.length - 1) + P.min by omega, Nat.add_div_right _ (by omega)]

theorem Sl.kept0 {S : List Nat} {w w' : World} {a : Option Addr} {c : Nat} {ys : List UInt8} (h : Sl w a c ys) (hk : Kept S w w') (hS : ∀ k ∈ S, ys ≠ [] → ∀ x, a = some x → x.block ≠ k) : Sl w' a c ys :=
  ⟨h.reads.kept hk (fun hn x hx hm => hS _ hm hn x hx rfl), h.le, h.max, h.nil⟩
/-- A box of Params. -/
def ParAt (W : World) (b : Nat) (a c d e s : Int) : Prop := W.heap[b]? = some (.cells #[.int .i64 a, .int .i64 c, .int .i64 d, .int .i64 e, .int .u64 s] 24 (0, 0))
theorem ParAt.cells {W : World} {b : Nat} {a c d e s : Int} (h : ParAt W b a c d e s) : W.cell? ⟨b, 0, none⟩ = some (.int .i64 a) ∧ W.cell? ⟨b, 1, none⟩ = some (.int .i64 c) ∧ W.cell? ⟨b, 2, none⟩ = some (.int .i64 d) ∧ W.cell? ⟨b, 3, none⟩ = some (.int .i64 e) ∧ W.cell? ⟨b, 4, none⟩ = some (.int .u64 s) ∧
    W.frozen? ⟨b, 0, none⟩ = false ∧ W.frozen? ⟨b, 1, none⟩ = false ∧ W.frozen? ⟨b, 2, none⟩ = false :=
  ⟨cell_of_row W b 0 _ _ _ h, cell_of_row W b 1 _ _ _ h, cell_of_row W b 2 _ _ _ h, cell_of_row W b 3 _ _ _ h, cell_of_row W b 4 _ _ _ h, frozen_of_row W b 0 _ _ h, frozen_of_row W b 1 _ _ h, frozen_of_row W b 2 _ _ h⟩
/-- What New tells of any numbers. -/
theorem new_any (a b d e s : Int) (hs0 : 0 ≤ s) (hs1 : s < 18446744073709551616) : (∃ P : Chunk.Par, ParOk P ∧ a = P.min ∧ b = P.max ∧ d = P.bits ∧ e = P.width) ∨
    ∀ w, Calls Tryd.prog 12 #[parV a b d e s] w fun r w' => r = .returned (.tuple #[.pointer none, .int .i64 1]) ∧ Kept [] w w' := by
  by_cases h : a < 1 ∨ b < a ∨ 65536 < b ∨ d < 0 ∨ 20 < d
  · exact .inr fun w => new_bad a b d e s h w
  by_cases he : e < 1 ∨ 64 < e
  · exact .inr fun w => new_width a b d e s (by omega) (by omega) (by omega) (by omega) (by omega) he hs0 hs1 w
  exact .inl ⟨⟨a.toNat, b.toNat, d.toNat, e.toNat⟩, ⟨by show 1 ≤ a.toNat; omega, by show a.toNat ≤ b.toNat; omega, by show b.toNat ≤ 65536; omega, by show d.toNat ≤ 20; omega, by show 1 ≤ e.toNat; omega, by show e.toNat ≤ 64; omega⟩, by show a = (a.toNat : Int); omega, by show b = (b.toNat : Int); omega, by show d = (d.toNat : Int); omega, by show e = (e.toNat : Int); omega⟩

set_option maxRecDepth 100000 in
set_option maxHeartbeats 4000000 in
theorem chunk_plain (a b d e s : Int) (hs0 : 0 ≤ s) (hs1 : s < 18446744073709551616) (ba : Option Addr) (cap : Nat) (ys : List UInt8) (w : World) (hdb : DB w) (hb : Sl w ba cap ys) :
    Calls Tryd.prog 6 #[parV a b d e s, .slice ba ys.length cap] w fun e w' => e = .returned (.bool true) ∧ Kept [] w w' := by
  obtain ⟨w0, hw0⟩ : ∃ w0, w0 = w.alloc (.cells #[.int .i64 a, .int .i64 b, .int .i64 d, .int .i64 e, .int .u64 s] 24) := ⟨_, rfl⟩
  have k0 : Kept [] w w0 := hw0 ▸ (Kept.refl _ _).alloc _
  have hal := hid (alive09 w0 (hdb.kept k0 (by simp)))
  have hp0 : ParAt w0 w.heap.size a b d e s := by rw [hw0]; exact heap_alloc_at rfl
  have hmax := hb.max; have hle := hb.le
  by_cases hl : 300 < ys.length
  · go_enter Tryd.func6, Tryd.ntmps6
    go_wp2_with fail
    rw [← hw0]
    refine hal.out.mono ?_
    rintro r w1 ⟨rfl, k1⟩
    go_wp2
    go_ret
    exact ⟨rfl, k0.trans k1⟩
  rcases new_any a b d e s hs0 hs1 with ⟨P, hok, rfl, rfl, rfl, rfl⟩ | hbad
  · obtain ⟨mn, mx, bt, wd⟩ := P
    obtain ⟨q1, q2, q3, q4, q5, q6⟩ := hok
    dsimp only at q1 q2 q3 q4 q5 q6 hp0 hw0 ⊢
    have hok0 : ParOk ⟨mn, mx, 0, wd⟩ := ⟨q1, q2, q3, Nat.zero_le _, q5, q6⟩
    have hok1 : ParOk ⟨1, 1, 0, wd⟩ := ⟨Nat.le_refl _, Nat.le_refl _, by show 1 ≤ 65536; omega, Nat.zero_le _, q5, q6⟩
    have hokP : ParOk ⟨mn, mx, bt, wd⟩ := ⟨q1, q2, q3, q4, q5, q6⟩
    have hnP := hid (fun W (hd : DB W) => (show Calls Tryd.prog 12 #[parV mn mx bt wd s] W _ from new_ok ⟨mn, mx, bt, wd⟩ s hokP hs0 hs1 W hd))
    have hn0 := hid (fun W (hd : DB W) => (show Calls Tryd.prog 12 #[parV mn mx 0 wd s] W _ from new_ok ⟨mn, mx, 0, wd⟩ s hok0 hs0 hs1 W hd))
    have hn1 := hid (fun W (hd : DB W) => (show Calls Tryd.prog 12 #[parV 1 1 0 wd s] W _ from new_ok ⟨1, 1, 0, wd⟩ s hok1 hs0 hs1 W hd))
    obtain ⟨P0, hP0⟩ : ∃ P0 : Chunk.Par, P0 = ⟨mn, mx, 0, wd⟩ := ⟨_, rfl⟩
    obtain ⟨P1, hP1⟩ : ∃ P1 : Chunk.Par, P1 = ⟨1, 1, 0, wd⟩ := ⟨_, rfl⟩
    have hE0 : ∀ n t, Chunk.ends P0 n t = decide (P0.min ≤ n) := ends_plain (by rw [hP0]) (by rw [hP0]; exact q2)
    have hE1 : ∀ n t, Chunk.ends P1 n t = decide (P1.min ≤ n) := ends_plain (by rw [hP1]) (by rw [hP1]; exact Nat.le_refl _)
    have hm0 : P0.min = mn := by rw [hP0]
    have hm1 : P1.min = 1 := by rw [hP1]
    rw [← hP0] at hn0
    rw [← hP1] at hn1
    obtain ⟨T, hT⟩ : ∃ T, T = num s := ⟨_, rfl⟩
    rw [← hT] at hn0 hn1
    have hsl := hid hb
    have hbk := hid (show ∀ k, w.heap.size ≤ k → ys ≠ [] → ∀ x, ba = some x → x.block ≠ k from fun k hk hn x hx => by have := hb.reads.lt hn x hx; omega)
    have hd := hid hdb
    clear hb hdb hP0 hP1 hT hokP hok0 hok1
    go_enter Tryd.func6, Tryd.ntmps6
    go_wp2_with fail
    rw [← hw0]
    refine hal.out.mono ?_
    rintro r w1 ⟨rfl, k1⟩
    have hp1 : ParAt w1 w.heap.size mn mx bt wd s := k1.at hp0 (by simp)
    obtain ⟨c0, c1, c2, c3, c4, -, -, -⟩ := hp1.cells
    have K1 := hid (k0.trans k1)
    clear k1
    go_wp2_with fail
    refine (hnP.out w1 (hd.out.kept K1.out (by simp))).mono ?_
    rintro r w2 ⟨c, g, rfl, k2, -, -, -⟩
    have hp2 : ParAt w2 w.heap.size mn mx bt wd s := k2.at hp1 (by simp)
    have K2 := hid (K1.out.trans k2)
    clear k2 c0 c1 c2 c3 c4 hp1
    obtain ⟨c0, c1, c2, c3, c4, f0, f1, f2⟩ := hp2.cells
    obtain ⟨w3, hw3⟩ : ∃ w3, w3 = w2.setCell ⟨w.heap.size, 2, none⟩ (.int .i64 0) := ⟨_, rfl⟩
    have hp3 : ParAt w3 w.heap.size mn mx 0 wd s := by rw [hw3]; unfold ParAt; rw [Go.heap_setCell_same w2 _ 2 _ _ _ hp2]; rfl
    have K3 := hid (show Kept [] w w3 from K2.out.trans' (hw3 ▸ (Kept.refl [w.heap.size] w2).setCell (p := ⟨w.heap.size, 2, none⟩) (fun _ => by simp) _) (fun x hx hm => by simp at hm; omega))
    go_wp2_with fail
    rw [← hw3]
    refine (hn0.out w3 (hd.out.kept K3.out (by simp))).mono ?_
    rintro r w4 ⟨ca, ga, rfl, k4, hca, hca1, hga1⟩
    have hp4 : ParAt w4 w.heap.size mn mx 0 wd s := k4.at hp3 (by simp)
    have K4 := hid (K3.out.trans k4)
    have lb3 : w.heap.size < w3.heap.size := lt_of_block hp3
    clear k4 c0 c1 c2 c3 c4 f0 f1 f2 hw3 hp2
    obtain ⟨c0, c1, c2, c3, c4, f0, f1, f2⟩ := hp4.cells
    obtain ⟨w5, hw5⟩ : ∃ w5, w5 = (w4.setCell ⟨w.heap.size, 0, none⟩ (.int .i64 1)).setCell ⟨w.heap.size, 1, none⟩ (.int .i64 1) := ⟨_, rfl⟩
    have hp5 : ParAt w5 w.heap.size 1 1 0 wd s := by rw [hw5]; unfold ParAt; rw [Go.heap_setCell_same _ _ 1 _ _ _ (Go.heap_setCell_same w4 _ 0 _ _ _ hp4)]; rfl
    have k45 : Kept [w.heap.size] w4 w5 := hw5 ▸ ((Kept.refl [w.heap.size] w4).setCell (p := ⟨w.heap.size, 0, none⟩) (fun _ => by simp) _).setCell (p := ⟨w.heap.size, 1, none⟩) (fun _ => by simp) _
    have K5 := hid (show Kept [] w w5 from K4.out.trans' k45 (fun x hx hm => by simp at hm; omega))
    have hca5 := hid (hca.kept k45 (by simp; omega) (by simp; omega) (by have := hd.out.pos; simp; omega))
    go_wp2_with fail
    rw [← hw5]
    refine (hn1.out w5 (hd.out.kept K5.out (by simp))).mono ?_
    rintro r w6 ⟨cb, gb, rfl, k6, hcb, hcb1, hgb1⟩
    have K6 := hid (K5.out.trans k6)
    have hca6 := hid (hca5.out.kept k6 (by simp) (by simp) (by simp))
    have hcb6 := hid hcb
    have hs6 := hid (hsl.out.kept K6.out (by simp))
    clear k6 k45 c0 c1 c2 c3 c4 f0 f1 f2 hw5 hp4 hp5 hp3 hca hcb hp0
    go_wp2_with fail
    refine (split_any ca P0 s ga T ba cap ys w6 hca6.out hs6.out (by omega)).mono ?_
    rintro r w7 ⟨v, xs, rfl, k7, hz, hrow, hps⟩
    have hz1 : xs.map (·.ys) = spl P0 T ys := hz.1
    have hlens := hid (fun i x hx => spl_lens hE0 (by omega) T ys.length ys (Nat.le_refl _) i x hx)
    rw [← hz1, hm0] at hlens
    have hcount : (spl P1 T ys).length = ys.length := by rw [spl_count hE1 (by omega) T ys.length ys (Nat.le_refl _), hm1]; simp
    have hf0 : Chunk.first (Chunk.ends P0) T P0.width ys = min mn ys.length := by rw [Chunk.first_even P0.min (by omega) hE0, hm0]
    have hf1 : Chunk.first (Chunk.ends P1) T P1.width ys = min 1 ys.length := by rw [Chunk.first_even P1.min (by omega) hE1, hm1]
    have K7 := hid (K6.out.trans k7)
    have hca7 := hid (hca6.out.kept k7 (by simp) (by simp) (by simp))
    have hcb7 := hid (hcb6.out.kept k7 (by simp) (by simp) (by simp))
    have hs7 := hid (hsl.out.kept K7.out (by simp))
    have hc1 := hid (cfirst_any ca P0 s ga T ba cap ys w7 hca7.out hs7.out.reads (by omega))
    rw [hf0] at hc1
    have hsp := hid (fun W (k : Kept [] w7 W) => split_any cb P1 s gb T ba cap ys W (hcb7.out.kept k (by simp) (by simp) (by simp)) (hs7.out.kept k (by simp)) (by omega))
    have hc2 := hid (fun W (k : Kept [] w7 W) => cfirst_any cb P1 s gb T ba cap ys W (hcb7.out.kept k (by simp) (by simp) (by simp)) (hs7.out.kept k (by simp)).reads (by omega))
    rw [hf1] at hc2
    have Hcount := hid hcount
    have hN : xs.length = (spl P0 T ys).length := by rw [← hz1]; simp
    obtain ⟨n0, hn0e⟩ : ∃ n0, n0 = min mn ys.length := ⟨_, rfl⟩
    rw [← hn0e] at hc1
    have Hn0 := hid hn0e
    by_cases hy : ys = []
    · have hN0 : xs.length = 0 := by rw [hN, hy, spl_nil]; rfl
      have hx0 : xs = [] := List.eq_nil_of_length_eq_zero hN0
      have hn00 : n0 = 0 := by rw [hn0e, hy]; simp
      obtain ⟨av, cv, rfl⟩ := qslice hrow
      have hyl : ys.length = 0 := by rw [hy]; rfl
      rw [hn00] at hc1
      rw [hN0]
      clear hlens Hn0 hz hps hrow hz1 hN hx0 hy hn0e
      have hmin : min 1 ys.length = 0 := by omega
      rw [hmin, hyl] at hc2
      rw [hyl] at hc1 hsp Hcount ⊢
      clear hyl
      go_wp2_with fail
      go_loopw [13, 14, 58] (fun _ _ i wr => i = .int .i64 0 ∧ w7 = wr) (fun _ _ i _ => 0)
      case atStart => exact ⟨rfl, rfl⟩
      case round =>
        obtain ⟨rfl, rfl⟩ := hrel
        go_wp2_with fail
        refine hc1.out.mono ?_
        rintro r w8 ⟨rfl, k8⟩
        go_wp2_with fail
        refine (hsp.out w8 k8).mono ?_
        rintro r w9 ⟨v1, xs1, rfl, k9, hz2, hrow2, -⟩
        obtain ⟨av1, cv1, rfl⟩ := qslice hrow2
        have hx1 : xs1.length = 0 := by have := congrArg List.length hz2.1; rw [Hcount.out] at this; simpa using this
        rw [hx1]
        clear hz2 hrow2 hx1
        go_wp2_with fail
        refine (hc2.out w9 (k8.trans k9)).mono ?_
        rintro r w10 ⟨rfl, k10⟩
        go_wp2
        all_goals go_ret
        all_goals exact ⟨by first | rfl | (simp; omega), K7.out.trans ((k8.trans k9).trans k10)⟩
    · have hNp : 0 < xs.length := by rw [hN, spl_step hE0 (by omega) T ys hy]; simp
      obtain ⟨gv, cv, rfl, hcv1, hcv2, hcell⟩ := row_slice hrow hNp
      have hyl := List.length_pos_iff.2 hy
      obtain ⟨x0, hx0⟩ : ∃ x, xs[0]? = some x := ⟨xs[0]'hNp, List.getElem?_eq_getElem _⟩
      have hl0 := hlens.out 0 x0.ys (by rw [List.getElem?_map, hx0]; rfl)
      rw [Nat.zero_mul, Nat.sub_zero, ← hn0e] at hl0
      have e0 : w7.cell? ⟨gv, 0, none⟩ = some (.slice x0.a n0 x0.c) := by have := hcell 0 x0 hx0; unfold pval at this; rwa [hl0.2] at this
      have hcl := hid hcell
      have hget := hid (fun j (hj : j < xs.length) => (⟨xs[j]'hj, List.getElem?_eq_getElem _⟩ : ∃ x, xs[j]? = some x))
      have hmn := hid (show 1 < xs.length → n0 = mn from fun h => by
        have := hl0.1 (by simpa using h)
        rw [← this]; exact hl0.2.symm)
      obtain ⟨N, hNe⟩ : ∃ N, N = xs.length := ⟨_, rfl⟩
      have hlm : (xs.map (·.ys)).length = N := by rw [hNe]; simp
      rw [hlm] at hlens
      rw [← hNe] at hget hmn hNp hcv1 ⊢
      clear hl0 hcell hrow hz hz1 hps hNe hlm hN hx0 hn0e
      have hmin : min 1 ys.length = 1 := by omega
      rw [hmin] at hc2
      have hn300 : n0 ≤ 300 := by have := Hn0.out; omega
      go_wp2_with fail
      go_loopw [13, 14, 58] (fun _ _ i wr => ∃ j : Nat, j ≤ N ∧ i = .int .i64 (j : Int) ∧ w7 = wr) (fun _ _ i _ => N - (intOf i).toNat)
      case atStart => exact ⟨0, by omega, rfl, rfl⟩
      case round =>
        obtain ⟨j, hj, rfl, rfl⟩ := hrel
        by_cases hjl : j < N
        · obtain ⟨x, hx⟩ := hget.out j hjl
          have hc := hcl.out j x hx
          have hxl := (hlens.out j x.ys (by rw [List.getElem?_map, hx]; rfl)).1
          unfold pval at hc
          clear e0 hx
          by_cases hj2 : j + 1 < N
          · rw [hxl hj2, ← hmn.out (by omega)] at hc
            clear hxl
            go_wp2_with fail
            exact ⟨⟨j + 1, by omega, by go_num, trivial⟩, by simp [intOf]; omega⟩
          · clear hxl
            obtain ⟨m, hm⟩ : ∃ m, m = x.ys.length := ⟨_, rfl⟩
            rw [← hm] at hc
            clear hm
            go_wp2_with fail
            exact ⟨⟨j + 1, by omega, by go_num, trivial⟩, by simp [intOf]; omega⟩
        · obtain rfl : j = N := by omega
          go_wp2_with fail
          refine hc1.out.mono ?_
          rintro r w8 ⟨rfl, k8⟩
          go_wp2_with fail
          refine (hsp.out w8 k8).mono ?_
          rintro r w9 ⟨v1, xs1, rfl, k9, hz2, hrow2, -⟩
          obtain ⟨av1, cv1, rfl⟩ := qslice hrow2
          have hx1 : xs1.length = ys.length := by have := congrArg List.length hz2.1; rw [Hcount.out] at this; simpa using this
          rw [hx1]
          clear hz2 hrow2 hx1
          go_wp2_with fail
          refine (hc2.out w9 (k8.trans k9)).mono ?_
          rintro r w10 ⟨rfl, k10⟩
          go_wp2
          all_goals go_ret
          all_goals exact ⟨by first | rfl | (simp; omega), K7.out.trans ((k8.trans k9).trans k10)⟩
  · have Hb := hid hbad
    go_enter Tryd.func6, Tryd.ntmps6
    go_wp2_with fail
    rw [← hw0]
    refine hal.out.mono ?_
    rintro r w1 ⟨rfl, k1⟩
    obtain ⟨c0, c1, c2, c3, c4, _, _, _⟩ := ParAt.cells (W := w1) (k1.at hp0 (by simp))
    go_wp2_with fail
    refine (Hb.out w1).mono ?_
    rintro r w2 ⟨rfl, k2⟩
    go_wp2
    go_ret
    exact ⟨rfl, k0.trans (k1.trans k2)⟩
end Go.Proofs.YthfojiicblppdaaDoor
