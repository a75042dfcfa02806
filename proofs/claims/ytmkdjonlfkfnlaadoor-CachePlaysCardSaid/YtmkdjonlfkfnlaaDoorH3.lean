import Derived.Test.YtmkdjonlfkfnlaaDoorMH
import Derived.Deep.WholeRow

/- sha.mix: the state behind a block. -/
namespace Go.Proofs.YtmkdjonlfkfnlaaDoor
open Go.RowKit

/-- The two tables stand where their initialisers laid them. -/
def Tabs (w : World) : Prop := (∀ i, i < 8 → w.cell? ⟨0, i, none⟩ = some (U (Sha.first.list.getD i 0))) ∧ ∀ i, i < 64 → w.cell? ⟨1, i, none⟩ = some (U (Sha.kAt i))
theorem Tabs.pos {w : World} (h : Tabs w) : 1 < w.heap.size := World.block_lt_of_cell? w _ (h.2 0 (by omega))
theorem Tabs.pos0 {w : World} (h : Tabs w) : 0 < w.heap.size := World.block_lt_of_cell? w _ (h.1 0 (by omega))
theorem Tabs.kept {S : List Nat} {w w' : World} (h : Tabs w) (hk : Kept S w w') (h0 : 0 ∉ S) (h1 : 1 ∉ S) : Tabs w' :=
  ⟨fun i hi => (hk.cell (p := ⟨0, i, none⟩) h.pos0 h0).trans (h.1 i hi), fun i hi => (hk.cell (p := ⟨1, i, none⟩) h.pos h1).trans (h.2 i hi)⟩

theorem choice_spelled (e f g : Sha.W) : bits .xor .u32 (bits .and .u32 (e.toNat : Int) (f.toNat : Int)) (bits .and .u32 (bits .xor .u32 IntKind.u32.max (e.toNat : Int)) (g.toNat : Int)) = ((Sha.choice e f g).toNat : Int) := by
  rw [not_bv, and_bv, and_bv, xor_bv]; rfl
theorem major_spelled (a b c : Sha.W) : bits .xor .u32 (bits .xor .u32 (bits .and .u32 (a.toNat : Int) (b.toNat : Int)) (bits .and .u32 (a.toNat : Int) (c.toNat : Int))) (bits .and .u32 (b.toNat : Int) (c.toNat : Int)) = ((Sha.major a b c).toNat : Int) := by
  rw [and_bv, and_bv, and_bv, xor_bv, xor_bv]; rfl
theorem one_spelled (h s c k w : Sha.W) : IntKind.u32.wrap (IntKind.u32.wrap (IntKind.u32.wrap (IntKind.u32.wrap ((h.toNat : Int) + (s.toNat : Int)) + (c.toNat : Int)) + (k.toNat : Int)) + (w.toNat : Int)) = ((h + s + c + k + w).toNat : Int) := by
  simp only [IntKind.wrap_u32]
  rw [add_bv, add_bv, add_bv, add_bv]

/-- An array of 64 words. -/
structure Arr (ws : Array Value) (l : List Sha.W) : Prop where
  size : ws.size = 64
  one : ws.all (·.oneCell') = true
  get : ∀ j, j < 64 → ws[j]? = some (U (l.getD j 0))
  index : ∀ (i : Nat) (W : World), i < 64 → (Instr.index 93 (.agg ws) (.int .i64 (i : Int))).run Tryd.prog W = .ok (U (l.getD i 0)) W

theorem words_index (b : List UInt8) (i : Nat) (hi : i < 64) (W : World) : (Instr.index 93 (.agg (wArr b 64)) (.int .i64 (i : Int))).run Tryd.prog W = .ok (U ((Sha.words b 64).getD i 0)) W := by
  have h := wArr_get b 64 i hi
  have h0 : (0 : Int) ≤ (i : Int) ∧ (i : Int) < 64 := by omega
  have hs : (sizeOf 67).run Tryd.prog W = .ok 1 W := by kernel_rfl
  have hp : (part 67 (wArr b 64) i).run Tryd.prog W = .ok (U ((Sha.words b 64).getD i 0)) W := by
    simp [part, isAgg, run_underlying Tryd.underlying67, h]
  have hi' : i < 64 := hi
  simp [Instr.index, asIntOf, run_underlying Tryd.underlying93, Sem.run_bind, hs, hp, hi']

theorem arr_words (b : List UInt8) : Arr (wArr b 64) (Sha.words b 64) := ⟨wArr_size b 64 (Nat.le_refl _), wArr_one b 64, fun j hj => wArr_get b 64 j hj, fun i W hi => words_index b i hi W⟩

theorem spread_arr (b : List UInt8) (hb : b.length = 64) (w : World) :
    Calls Tryd.prog 40 #[.agg (b.map B).toArray] w fun e w' => ∃ ws, e = .returned (.agg ws) ∧ Arr ws (Sha.words b 64) ∧ Kept [] w w' :=
  (spread_any b hb w).mono fun _ _ h => ⟨_, h.1, arr_words b, h.2⟩

/-- The last sums: the first i are added. -/
def addArr (t s : List Sha.W) (i : Nat) : Array Value := ((List.range 8).map fun j => U (if j < i then t.getD j 0 + s.getD j 0 else t.getD j 0)).toArray
theorem addArr_size (t s : List Sha.W) (i : Nat) : (addArr t s i).size = 8 := by simp [addArr]
theorem addArr_get (t s : List Sha.W) (i : Nat) (hi : i < 8) : (addArr t s i)[i]? = some (U (t.getD i 0)) := by
  simp [addArr, hi]
theorem addArr_set (t s : List Sha.W) (i : Nat) (hi : i < 8) (x : Sha.W) (hx : t.getD i 0 + s.getD i 0 = x) : (addArr t s i).setIfInBounds i (U x) = addArr t s (i + 1) := by
  subst hx
  apply Array.ext_getElem?
  intro j
  rw [Array.getElem?_setIfInBounds]
  by_cases hj : i = j
  · subst hj
    simp [addArr, hi]
  · simp only [hj, if_false]
    by_cases h8 : j < 8
    · have e : (j < i + 1) = (j < i) := by simp; omega
      simp [addArr, h8, e]
    · simp [addArr, h8]
theorem addArr_one (t s : List Sha.W) (i : Nat) : (addArr t s i).all (·.oneCell') = true := by
  rw [Array.all_eq_true_iff_forall_mem]
  intro x hx
  simp [addArr] at hx
  obtain ⟨_, _, rfl⟩ := hx
  rfl
theorem addArr_zero (t s : Sha.St) : addArr t.list s.list 0 = #[U t.a, U t.b, U t.c, U t.d, U t.e, U t.f, U t.g, U t.h] := rfl
theorem addArr_end (t s : Sha.St) : addArr t.list s.list 8 = #[U (t.add s).a, U (t.add s).b, U (t.add s).c, U (t.add s).d, U (t.add s).e, U (t.add s).f, U (t.add s).g, U (t.add s).h] := rfl
theorem state_index (s : Sha.St) (i : Nat) (hi : i < 8) (W : World) : (Instr.index 81 (.agg #[U s.a, U s.b, U s.c, U s.d, U s.e, U s.f, U s.g, U s.h]) (.int .i64 (i : Int))).run Tryd.prog W = .ok (U (s.list.getD i 0)) W := by
  have h : (#[U s.a, U s.b, U s.c, U s.d, U s.e, U s.f, U s.g, U s.h] : Array Value)[i]? = some (U (s.list.getD i 0)) := by
    rcases i with _ | _ | _ | _ | _ | _ | _ | _ | i <;> first | rfl | omega
  have hs : (sizeOf 67).run Tryd.prog W = .ok 1 W := by kernel_rfl
  have hp : (part 67 #[U s.a, U s.b, U s.c, U s.d, U s.e, U s.f, U s.g, U s.h] i).run Tryd.prog W = .ok (U (s.list.getD i 0)) W := by
    simp only [part, isAgg, Sem.run_bind, run_underlying Tryd.underlying67, Result.andThen_ok, Sem.run_pure, h]
    rfl
  have hi' : i < 8 := hi
  simp only [Instr.index, asIntOf, run_underlying Tryd.underlying81, Sem.run_bind, Sem.run_pure, Result.andThen_ok]
  simp [hs, hp, Sem.run_bind]
  intro h8
  omega

def AddRel (s : Sha.St) (tl : List Sha.W) (w : World) (q i : Nat) (wr : World) : Prop :=
  w.heap.size + 1 + 1 < q ∧ Kept [] w wr ∧ wr.heap[w.heap.size + 1 + 1]? = some (.cells #[.int .u32 0, .int .u32 0, .int .u32 0, .int .u32 0, .int .u32 0, .int .u32 0, .int .u32 0, .int .u32 0] 81 (0, 0)) ∧ wr.heap[q]? = some (.cells (addArr tl s.list i) 81 (0, 0))
theorem AddRel.step {s : Sha.St} {tl : List Sha.W} {w wr : World} {q i : Nat} (h : AddRel s tl w q i wr) (hi : i < 8) (x : Sha.W) (hx : tl.getD i 0 + s.list.getD i 0 = x) : AddRel s tl w q (i + 1) (wr.setCell ⟨q, i, none⟩ (U x)) := by
  obtain ⟨h0, h1, h2, h3⟩ := h
  refine ⟨h0, h1.setCell (fun e => absurd e (by simp; omega)) _, heap_setCell_other h2 (by simp; omega), ?_⟩
  rw [Go.heap_setCell_same wr q i _ _ _ h3, addArr_set _ _ i hi x hx]

/-- What a round leaves as it is. -/
def MixKeep (s : Sha.St) (w wr : World) : Prop :=
  Kept [] w wr ∧ wr.heap[w.heap.size]? = some (.cells #[U s.a, U s.b, U s.c, U s.d, U s.e, U s.f, U s.g, U s.h] 81 (0, 0)) ∧ wr.heap[w.heap.size + 1 + 1]? = some (.cells #[.int .u32 0, .int .u32 0, .int .u32 0, .int .u32 0, .int .u32 0, .int .u32 0, .int .u32 0, .int .u32 0] 81 (0, 0))
theorem MixKeep.drew {s : Sha.St} {w wr : World} (h : MixKeep s w wr) : MixKeep s w wr.drew := ⟨h.1.drew, h.2⟩

set_option maxRecDepth 100000 in
set_option maxHeartbeats 1000000 in
theorem mix_any (s : Sha.St) (b : List UInt8) (hb : b.length = 64) (w : World) (ht : Tabs w) :
    Calls Tryd.prog 37 #[.agg #[U s.a, U s.b, U s.c, U s.d, U s.e, U s.f, U s.g, U s.h], .agg (b.map B).toArray] w fun e w' =>
      e = .returned (.agg #[U (Sha.mix s b).a, U (Sha.mix s b).b, U (Sha.mix s b).c, U (Sha.mix s b).d, U (Sha.mix s b).e, U (Sha.mix s b).f, U (Sha.mix s b).g, U (Sha.mix s b).h]) ∧ Kept [] w w' := by
  have Ht := hid ht
  clear ht
  have hsz : (Tryd.prog.info? 82).map (·.size) = some (b.map B).toArray.size := by
    rw [show (b.map B).toArray.size = 64 by simp [hb]]; kernel_rfl
  go_enter Tryd.func37, Tryd.ntmps37
  have b3 : (((w.alloc (.cells #[U s.a, U s.b, U s.c, U s.d, U s.e, U s.f, U s.g, U s.h] 81)).alloc (.cells (b.map B).toArray 82)).alloc (.cells #[.int .u32 0, .int .u32 0, .int .u32 0, .int .u32 0, .int .u32 0, .int .u32 0, .int .u32 0, .int .u32 0] 81)).heap[w.heap.size + 1]? = some (.cells (b.map B).toArray 82 (0, 0)) := heap_alloc_old (heap_alloc_at (by simp))
  have B3 := hid b3
  clear b3
  go_wp2_with (refine wpList_load_row rfl 82 (.tmp 3) rfl (w.heap.size + 1) rfl _ _ _ _ B3.out Tryd.underlying82 rfl hsz ?_)
  obtain ⟨W3, hW3⟩ : ∃ W3, W3 = (((w.alloc (.cells #[U s.a, U s.b, U s.c, U s.d, U s.e, U s.f, U s.g, U s.h] 81)).alloc (.cells (b.map B).toArray 82)).alloc (.cells #[.int .u32 0, .int .u32 0, .int .u32 0, .int .u32 0, .int .u32 0, .int .u32 0, .int .u32 0, .int .u32 0] 81)) := ⟨_, rfl⟩
  have Hk3 := hid (show Kept [] w W3 by rw [hW3]; exact (((Kept.refl [] w).alloc _).alloc _).alloc _)
  have S3 := hid (show W3.heap[w.heap.size]? = some (.cells #[U s.a, U s.b, U s.c, U s.d, U s.e, U s.f, U s.g, U s.h] 81 (0, 0)) by rw [hW3]; exact heap_alloc_old (heap_alloc_old (heap_alloc_at rfl)))
  have R3 := hid (show W3.heap[w.heap.size + 1 + 1]? = some (.cells #[.int .u32 0, .int .u32 0, .int .u32 0, .int .u32 0, .int .u32 0, .int .u32 0, .int .u32 0, .int .u32 0] 81 (0, 0)) by rw [hW3]; exact heap_alloc_at (by simp))
  rw [← hW3]
  clear hW3 B3
  refine (spread_arr b hb _).mono ?_
  rintro e w4 ⟨ws, rfl, ha, hk4⟩
  have Ha := hid ha
  clear ha
  have S4 := hid (hk4.at S3.out (by simp))
  have R4 := hid (hk4.at R3.out (by simp))
  have Hk4 := hid (Hk3.out.trans hk4)
  clear hk4 S3 R3 Hk3
  have hwz : (Tryd.prog.info? 93).map (·.size) = some ws.size := by rw [Ha.out.size]; kernel_rfl
  go_wp2_with (refine wpList_store_row rfl 93 (.tmp 5) (.tmp 24) rfl w4.heap.size ws rfl rfl _ _ (heap_alloc_at rfl) hwz ?c1 Ha.out.one ?_)
  case c1 => rw [Ha.out.size]; rfl
  rw [World.setRow_alloc_new]
  obtain ⟨W5, hW5⟩ : ∃ W5, W5 = w4.alloc (.cells ws 93) := ⟨_, rfl⟩
  have S5 := hid (show W5.heap[w.heap.size]? = some (.cells #[U s.a, U s.b, U s.c, U s.d, U s.e, U s.f, U s.g, U s.h] 81 (0, 0)) by rw [hW5]; exact heap_alloc_old S4.out)
  have R5 := hid (show W5.heap[w.heap.size + 1 + 1]? = some (.cells #[.int .u32 0, .int .u32 0, .int .u32 0, .int .u32 0, .int .u32 0, .int .u32 0, .int .u32 0, .int .u32 0] 81 (0, 0)) by rw [hW5]; exact heap_alloc_old R4.out)
  have W5w := hid (show W5.heap[w4.heap.size]? = some (.cells ws 93 (0, 0)) by rw [hW5]; exact heap_alloc_at rfl)
  have Hk5 := hid (show Kept [] w W5 by rw [hW5]; exact Hk4.out.alloc _)
  rw [← hW5]
  clear hW5 S4 R4 Hk4
  have c0 : W5.cell? ⟨w.heap.size, 0, none⟩ = some (U s.a) := cell_of_row W5 _ _ _ _ _ S5.out
  have c1 : W5.cell? ⟨w.heap.size, 1, none⟩ = some (U s.b) := cell_of_row W5 _ _ _ _ _ S5.out
  have c2 : W5.cell? ⟨w.heap.size, 2, none⟩ = some (U s.c) := cell_of_row W5 _ _ _ _ _ S5.out
  have c3 : W5.cell? ⟨w.heap.size, 3, none⟩ = some (U s.d) := cell_of_row W5 _ _ _ _ _ S5.out
  have c4 : W5.cell? ⟨w.heap.size, 4, none⟩ = some (U s.e) := cell_of_row W5 _ _ _ _ _ S5.out
  have c5 : W5.cell? ⟨w.heap.size, 5, none⟩ = some (U s.f) := cell_of_row W5 _ _ _ _ _ S5.out
  have c6 : W5.cell? ⟨w.heap.size, 6, none⟩ = some (U s.g) := cell_of_row W5 _ _ _ _ _ S5.out
  have c7 : W5.cell? ⟨w.heap.size, 7, none⟩ = some (U s.h) := cell_of_row W5 _ _ _ _ _ S5.out
  go_still (by kernel_rfl)
  go_wp2_with fail
  refine wp_region_still_lit (by kernel_rfl) (by kernel_rfl) ?_
  change wpStill _ _ W5.drew.drew _ _ _
  repeat still_step
  refine wpStill_nil ?_
  change Exit.then _ _ _ _ W5.drew.drew
  clear c0 c1 c2 c3 c4 c5 c6 c7
  go_wp2_with (refine wpList_load_row rfl 93 (.tmp 5) rfl w4.heap.size rfl _ _ _ _ W5w.out Tryd.underlying93 rfl hwz ?_)
  have h0 : Hid (MixKeep s w W5.drew.drew) := hid ⟨Hk5.out.drew.drew, S5.out, R5.out⟩
  obtain ⟨l, hl⟩ : ∃ l, l = Sha.words b 64 := ⟨_, rfl⟩
  rw [← hl] at Ha
  have Hl := hid hl
  clear hl S5 R5 W5w Hk5
  go_loopw [6, 7, 8, 9, 10, 11, 12, 13, 42] (fun a b c d e f g h i wr => ∃ n : Nat, n ≤ 64 ∧ a = U (Sha.rnds s l n).a ∧ b = U (Sha.rnds s l n).b ∧ c = U (Sha.rnds s l n).c ∧ d = U (Sha.rnds s l n).d ∧ e = U (Sha.rnds s l n).e ∧ f = U (Sha.rnds s l n).f ∧ g = U (Sha.rnds s l n).g ∧ h = U (Sha.rnds s l n).h ∧ i = .int .i64 n ∧ Hid (MixKeep s w wr)) (fun _ _ _ _ _ _ _ _ i _ => 64 - (intOf i).toNat)
  case atStart => exact ⟨0, by omega, rfl, rfl, rfl, rfl, rfl, rfl, rfl, rfl, rfl, h0⟩
  case round =>
    clear h0
    obtain ⟨n, hn, rfl, rfl, rfl, rfl, rfl, rfl, rfl, rfl, rfl, hr⟩ := hrel
    by_cases hlt : n < 64
    · have gk := ((Ht.out).kept hr.out.1 (by simp) (by simp)).2 n hlt
      have hr2 := hid hr.out.drew
      obtain ⟨x, hx⟩ : ∃ x, x = l.getD n 0 := ⟨_, rfl⟩
      have hix := fun W => Ha.out.index n W hlt
      rw [← hx] at hix
      obtain ⟨S, hS⟩ : ∃ S, S = Sha.rnds s l n := ⟨_, rfl⟩
      have hS2 := hid (show Sha.rnds s l (n + 1) = Sha.rnd S (Sha.kAt n) x by rw [Sha.rnds, hS, hx])
      rw [← hS]
      clear hS hx
      generalize Sha.kAt n = k at *
      obtain ⟨ch, hc1, hc2⟩ : ∃ ch, _ = ((ch : Sha.W).toNat : Int) ∧ Sha.choice S.e S.f S.g = ch := ⟨_, choice_spelled S.e S.f S.g, rfl⟩
      obtain ⟨mj, hm1, hm2⟩ : ∃ mj, _ = ((mj : Sha.W).toNat : Int) ∧ Sha.major S.a S.b S.c = mj := ⟨_, major_spelled S.a S.b S.c, rfl⟩
      obtain ⟨o, ho1, ho2⟩ : ∃ o, _ = ((o : Sha.W).toNat : Int) ∧ Sha.one S k x = o := ⟨_, one_spelled S.h (Sha.sig S.e 6 11 25) ch k x, by rw [← hc2]; rfl⟩
      obtain ⟨t, ht1, ht2⟩ : ∃ t, _ = ((t : Sha.W).toNat : Int) ∧ Sha.two S = t := ⟨_, add_bv (Sha.sig S.a 2 13 22) mj, by rw [← hm2]; rfl⟩
      obtain ⟨p, hp1, hp2⟩ : ∃ p, _ = ((p : Sha.W).toNat : Int) ∧ o + t = p := ⟨_, add_bv o t, rfl⟩
      obtain ⟨q, hq1, hq2⟩ : ∃ q, _ = ((q : Sha.W).toNat : Int) ∧ S.d + o = q := ⟨_, add_bv S.d o, rfl⟩
      have hnx := hid (show Sha.rnd S k x = ⟨p, S.a, S.b, S.c, q, S.e, S.f, S.g⟩ by unfold Sha.rnd; rw [ho2, ht2, hp2, hq2])
      have Hc := hid hc1; have Hm := hid hm1; have Ho := hid ho1; have Hta := hid ht1; have Hp := hid hp1; have Hq := hid hq1
      clear hc1 hc2 hm1 hm2 ho1 ho2 ht1 ht2 hp1 hp2 hq1 hq2
      obtain ⟨Sa, Sb, Sc, Sd, Se, Sf, Sg, Sh⟩ := S
      go_wp2_with fail
      rw [Hc.out, Hm.out]
      have n0 : (0 : Int) ≤ (n : Int) := by omega
      have n1 : (n : Int) < 64 := by omega
      clear Hc Hm hix
      refine wp_region_still_lit (by kernel_rfl) (by kernel_rfl) ?_
      change wpStill _ _ wr.drew _ _ _
      repeat still_step
      still_call (turned_e_still _ _)
      repeat still_step
      refine wpStill_nil ?_
      change Exit.then _ _ _ _ wr.drew
      rw [Ho.out]
      clear Ho gk n0 n1
      go_wp2_with (refine (turned_a _ _).mono ?_; rintro e w' ⟨rfl, rfl⟩)
      go_roundw
      case rel => exact ⟨n + 1, by omega, by rw [hS2.out, hnx.out]; rw [Hta.out, Hp.out], by rw [hS2.out, hnx.out], by rw [hS2.out, hnx.out], by rw [hS2.out, hnx.out], by rw [hS2.out, hnx.out]; rw [Hq.out], by rw [hS2.out, hnx.out], by rw [hS2.out, hnx.out], by rw [hS2.out, hnx.out], by go_num, hr2⟩
      case measure => simp [intOf]; omega
    · obtain rfl : n = 64 := by omega
      obtain ⟨-, S5, R5⟩ := hr.out
      obtain ⟨T, hT⟩ : ∃ T, T = Sha.rnds s l 64 := ⟨_, rfl⟩
      rw [← hT]
      have hres := hid (show T.add s = Sha.mix s b by rw [hT, Hl.out]; rfl)
      have Hr := hid hr.out
      have S5' := hid S5
      clear hT hlt hn hr S5 R5
      rw [show ((64 : Nat) : Int) = 64 from rfl]
      go_wp2_with (refine wpList_load_row rfl 81 (.tmp 2) rfl w.heap.size rfl _ _ _ _ (heap_alloc_old S5'.out) Tryd.underlying81 rfl (by kernel_rfl) ?_)
      have hlt := lt_of_block Hr.out.2.2
      have h0 : Hid (AddRel s T.list w wr.heap.size 0 (wr.alloc (.cells #[U T.a, U T.b, U T.c, U T.d, U T.e, U T.f, U T.g, U T.h] 81))) :=
        hid ⟨hlt, Hr.out.1.alloc _, heap_alloc_old Hr.out.2.2, heap_alloc_at rfl⟩
      obtain ⟨q, hq⟩ : ∃ q, q = wr.heap.size := ⟨_, rfl⟩
      rw [← hq] at h0 ⊢
      clear hq hlt Hr S5'
      go_loopw [104] (fun j wr => ∃ i : Nat, i ≤ 8 ∧ j = .int .i64 i ∧ Hid (AddRel s T.list w q i wr)) (fun j _ => 8 - (intOf j).toNat)
      case atStart => exact ⟨0, by omega, rfl, h0⟩
      case round =>
        clear h0
        obtain ⟨i, hi, rfl, hr⟩ := hrel
        by_cases hlt : i < 8
        · obtain ⟨-, -, -, c3⟩ := hr.out
          have gx := (cell_of_row _ q i _ _ _ c3).trans (addArr_get T.list s.list i hlt)
          have gf := frozen_of_row _ q i _ _ c3
          have hix := fun W => state_index s i hlt W
          obtain ⟨x, hx⟩ : ∃ x, T.list.getD i 0 = x := ⟨_, rfl⟩
          obtain ⟨y, hy⟩ : ∃ y, s.list.getD i 0 = y := ⟨_, rfl⟩
          obtain ⟨z, hz1, hz2⟩ : ∃ z, _ = ((z : Sha.W).toNat : Int) ∧ x + y = z := ⟨_, add_bv x y, rfl⟩
          have hr2 := hid (hr.out.step hlt z (by rw [hx, hy, hz2]))
          rw [hy] at hix
          rw [hx] at gx
          have Hz := hid hz1
          have n0 : (0 : Int) ≤ (i : Int) := by omega
          have n1 : (i : Int) < 8 := by omega
          clear hx hy hz1 hz2 c3 hr
          go_wp2_with fail
          rw [Hz.out]
          go_roundw
          case rel => exact ⟨i + 1, by omega, by go_num, hr2⟩
          case measure => simp [intOf]; omega
        · obtain rfl : i = 8 := by omega
          obtain ⟨hq, hk, c2, c3⟩ := hr.out
          obtain ⟨cs, hcs⟩ : ∃ cs, cs = addArr T.list s.list 8 := ⟨_, rfl⟩
          rw [← hcs] at c3
          have hone : cs.all (·.oneCell') = true := by rw [hcs]; exact addArr_one _ _ _
          have hsz8 : (Tryd.prog.info? 81).map (·.size) = some cs.size := by rw [hcs, addArr_size]; kernel_rfl
          have hold : (#[.int .u32 0, .int .u32 0, .int .u32 0, .int .u32 0, .int .u32 0, .int .u32 0, .int .u32 0, .int .u32 0] : Array Value).size = cs.size := by rw [hcs, addArr_size]; rfl
          have Hone := hid hone
          have Hold := hid hold
          have Hsz := hid hsz8
          have Hcs := hid (hcs.trans ((addArr_end T s).trans (by rw [hres.out])))
          have Hk := hid hk
          have C2 := hid c2
          have C3 := hid c3
          clear hr hk c2 c3 hres hlt hi hcs hone hsz8 hold
          go_wp2_with (first
            | (refine wpList_load_row rfl 81 (.tmp 20) rfl q rfl _ _ _ _ C3.out Tryd.underlying81 rfl Hsz.out ?_)
            | (refine wpList_store_row rfl 81 (.tmp 4) (.tmp 115) rfl (w.heap.size + 1 + 1) cs rfl rfl _ _ C2.out Hsz.out Hold.out Hone.out ?_))
          refine bodyPost_ret (v := .agg cs) (results_cell_row Tryd.results37 _ _ (w.heap.size + 1 + 1) _ _ _ _ rfl (setRow_heap _ _ _ _ _ _ C2.out) Tryd.underlying81 rfl Hsz.out) rfl ⟨by rw [Hcs.out], Hk.out.setRow (fun h => absurd h (by omega)) _⟩
end Go.Proofs.YtmkdjonlfkfnlaaDoor
