/- coldstorelaw09.alive: the document's example. -/
import Derived.Test.YtllcfffpagogbaaDoorQ7
import Derived.OpenShut
import Derived.Lib.SlBytesConst
namespace Go.Proofs.YtllcfffpagogbaaDoor
open Go.RowKit Go.Lib

theorem qtext (w : World) (a : Option Addr) (c : Nat) (ys : List UInt8) (h : Sl w a c ys) :
    (convert 25 9 (.slice a ys.length c)).run Tryd.prog w = .ok (.string ⟨ys.toArray⟩) w := by
  cases a with
  | none =>
    have hc := h.nil rfl
    have hy : ys = [] := h.reads.1 rfl
    subst hy; subst hc
    exact run_convert_bytes_nil (P := Tryd.prog) w _ _ Tryd.underlying25 Tryd.underlying5 0 0 _ Tryd.underlying9
  | some x =>
    have hl : (loadCells x ys.length).run Tryd.prog w = .ok ((ys.map fun y => (y.toNat : Int)).map (Value.int .u8)).toArray w := by
      have := run_loadCells_list (P := Tryd.prog) w x (ys.map B) (fun j u hj => h.reads.2 x rfl j u hj)
      have eB : (ys.map fun y => (y.toNat : Int)).map (Value.int .u8) = ys.map B := by rw [List.map_map]; rfl
      rw [eB]
      simpa using this
    rw [run_convert_bytes_string w _ _ _ _ ys.length c Tryd.underlying25 Tryd.underlying5 Tryd.underlying9, run_bytesToString w _ ys.length c _ hl, foldl_push_bytes]
    have e : (ys.map fun y => (y.toNat : Int)).map (fun n => UInt8.ofNat n.toNat) = ys := by
      rw [List.map_map]
      conv => rhs; rw [← List.map_id ys]
      apply List.map_congr_left
      intro y _
      simp
    rw [e]
    simp [ByteArray.empty, ByteArray.emptyWithCapacity]
    rfl
theorem sl_new (W : World) (ys : List UInt8) (h : ys.length ≤ 100000000) (mk : Nat × Nat) : Sl (W.alloc (.cells (ys.map B).toArray 5 mk)) (some ⟨W.heap.size, 0, none⟩) ys.length ys :=
  ⟨⟨fun h => (by cases h), fun ad had j u hj => by
    cases had
    rw [plain_add, Nat.zero_add, cell_of_row _ _ _ _ _ _ (heap_alloc_at rfl)]
    simpa using hj⟩, Nat.le_refl _, by omega, fun h => (by cases h)⟩
theorem ends_even {P : Chunk.Par} (h : P.min = P.max) (n : Nat) (s : Roll.W) : Chunk.ends P n s = decide (P.min ≤ n) := by
  unfold Chunk.ends
  rw [h]
  by_cases e : P.max ≤ n <;> simp [e]
theorem spl_even {P : Chunk.Par} (h : P.min = P.max) (h1 : 1 ≤ P.min) (T : UInt8 → Roll.W) (ys : List UInt8) (hy : ys ≠ []) : spl P T ys = ys.take P.min :: spl P T (ys.drop P.min) := by
  unfold spl
  rw [Chunk.split_cons ys hy, Chunk.first_even P.min h1 (ends_even h)]
  rcases Nat.le_total P.min ys.length with h2 | h2
  · rw [Nat.min_eq_left h2]
  · rw [Nat.min_eq_right h2, List.take_length, List.drop_length, List.take_of_length_le h2, List.drop_eq_nil_of_le h2]
theorem spl_nil (P : Chunk.Par) (T : UInt8 → Roll.W) : spl P T [] = [] := rfl
/-- A row of pieces as a slice, and its cells. -/
theorem row_slice {w : World} {base : Nat} {v : Value} {xs : List Piece} (h : w.ownsRow base 25 1 v xs.length (xs.map pval)) (hx : 0 < xs.length) : ∃ gv c, v = .slice (some ⟨gv, 0, none⟩) xs.length c ∧ xs.length ≤ c ∧ c ≤ 9223372036854775807 ∧ ∀ i x, xs[i]? = some x → w.cell? ⟨gv, i, none⟩ = some (pval x) := by
  rcases h.2 with ⟨h1, h2⟩ | ⟨gv, cap, cur, h1, hb, hh, h3, h4, _⟩
  · omega
  · refine ⟨gv, cap, h1, h3, by unfold maxLen at h4; omega, fun i x hi => ?_⟩
    have := h.cells (g := gv) (by rw [h1]; rfl) i (pval x) (by rw [List.getElem?_map, hi]; rfl)
    rwa [plain_add, Nat.zero_add] at this

set_option maxRecDepth 100000 in
set_option maxHeartbeats 2000000 in
theorem alive09 (w : World) (hdb : DB w) : Calls Tryd.prog 9 #[] w fun e w' => e = .returned (.bool true) ∧ Kept [] w w' := by
  obtain ⟨P, hP⟩ : ∃ P : Chunk.Par, P = ⟨2, 2, 20, 4⟩ := ⟨_, rfl⟩
  have hok : ParOk P := by rw [hP]; constructor <;> decide
  have hnew : Hid (Calls Tryd.prog 10 #[parV 2 2 20 4 0] w fun r w' => ∃ c g, r = .returned (.tuple #[.pointer (some ⟨c, 0, none⟩), .int .i64 0]) ∧ Kept [] w w' ∧ Ch w' c P 0 g (num 0) ∧ w.heap.size ≤ c ∧ w.heap.size ≤ g) := hid (by
    have := new_ok P 0 hok (by decide) (by decide) w hdb
    rw [hP] at this ⊢
    exact this)
  have hbad := hid (fun w => new_bad 3 2 20 4 0 (by decide) w)
  have e5 : ∀ T, spl P T [97, 98, 99, 100, 101] = [[97, 98], [99, 100], [101]] := fun T => by
    have h0 : P.min = P.max := by rw [hP]
    have h1 : 1 ≤ P.min := by rw [hP]; decide
    have h2 : P.min = 2 := by rw [hP]
    rw [spl_even h0 h1 T _ (by simp), h2]
    show [97, 98] :: spl P T [99, 100, 101] = _
    rw [spl_even h0 h1 T _ (by simp), h2]
    show _ :: [99, 100] :: spl P T [101] = _
    rw [spl_even h0 h1 T _ (by simp), h2]
    rfl
  have f3 : ∀ T, Chunk.first (Chunk.ends P) T P.width [97, 98, 99] = 2 := fun T => by
    rw [Chunk.first_even P.min (by rw [hP]; decide) (ends_even (by rw [hP]))]
    rw [hP]; rfl
  have E5 := hid e5; have F3 := hid f3
  clear e5 f3 hP
  go_enter Tryd.func9, Tryd.ntmps9
  go_wp2_with fail
  refine hnew.out.mono ?_
  rintro e w1 ⟨c, g, rfl, k1, hch, hc1, hg1⟩
  have hslit : ∀ W, Kept [] w1 W → Calls Tryd.prog 13 #[.pointer (some ⟨c, 0, none⟩), .slice (some ⟨W.heap.size, 0, none⟩) 5 5] (W.alloc (.cells #[.int .u8 97, .int .u8 98, .int .u8 99, .int .u8 100, .int .u8 101] 5 (5, 6))) fun e w' => ∃ gv cv, ∃ x : Piece, e = .returned (.slice (some ⟨gv, 0, none⟩) 3 cv) ∧ Kept [] w1 w' ∧ 3 ≤ cv ∧ cv ≤ 9223372036854775807 ∧ w'.cell? ⟨gv, 2, none⟩ = some (.slice x.a 1 x.c) ∧ Sl w' x.a x.c [101] := fun W k => by
    have hkW : Kept [] w1 (W.alloc (.cells #[.int .u8 97, .int .u8 98, .int .u8 99, .int .u8 100, .int .u8 101] 5 (5, 6))) := k.alloc _
    refine (split_any c P 0 g (num 0) (some ⟨W.heap.size, 0, none⟩) 5 [97, 98, 99, 100, 101] _ (hch.kept hkW (by simp) (by simp) (by simp)) (sl_new W [97, 98, 99, 100, 101] (by decide) (5, 6)) (by decide)).mono ?_
    rintro e w' ⟨v, xs, rfl, k', hz, hrow, hps⟩
    have h1 := hz.1
    rw [E5.out] at h1
    have hl : xs.length = 3 := by have := congrArg List.length h1; simpa using this
    obtain ⟨gv, cv, rfl, h3, h4, hcell⟩ := row_slice hrow (by omega)
    obtain ⟨x, hx⟩ : ∃ x, xs[2]? = some x := ⟨xs[2]'(by omega), List.getElem?_eq_getElem _⟩
    have hxy : x.ys = [101] := by
      have := congrArg (fun l => l[2]?) h1
      simp [hx] at this
      exact this
    obtain ⟨s1, _, _⟩ := hps x (List.mem_of_getElem? hx)
    rw [hxy] at s1
    have hc := hcell 2 x hx
    unfold pval at hc
    rw [hxy] at hc
    rw [hl] at h3 ⊢
    exact ⟨gv, cv, x, rfl, hkW.trans k', h3, h4, hc, s1⟩
  have hall : ∀ W, Kept [] w1 W → Calls Tryd.prog 15 #[.pointer (some ⟨c, 0, none⟩), .slice (some ⟨W.heap.size, 0, none⟩) 5 5, .int .i64 9] (W.alloc (.cells #[.int .u8 97, .int .u8 98, .int .u8 99, .int .u8 100, .int .u8 101] 5 (5, 6))) fun e w' => ∃ av cv, e = .returned (.tuple #[.slice av 3 cv, .bool true]) ∧ Kept [] (W.alloc (.cells #[.int .u8 97, .int .u8 98, .int .u8 99, .int .u8 100, .int .u8 101] 5 (5, 6))) w' := fun W k => by
    have hkW : Kept [] w1 (W.alloc (.cells #[.int .u8 97, .int .u8 98, .int .u8 99, .int .u8 100, .int .u8 101] 5 (5, 6))) := k.alloc _
    refine (all09 c P 0 g (num 0) (some ⟨W.heap.size, 0, none⟩) 5 [97, 98, 99, 100, 101] 9 _ (hch.kept hkW (by simp) (by simp) (by simp)) (sl_new W [97, 98, 99, 100, 101] (by decide) (5, 6)) (by decide) (by decide) (by decide)).mono ?_
    rintro e w' ⟨v, xs, rfl, k', hz, hrow, hps⟩
    rw [E5.out] at hz
    have hl : xs.length = 3 := by have := congrArg List.length hz; simpa using this
    obtain ⟨av, cv, rfl⟩ := qslice hrow
    rw [hl]
    exact ⟨av, cv, rfl, k'⟩
  have hf0 : ∀ W, Kept [] w1 W → Calls Tryd.prog 16 #[.pointer (some ⟨c, 0, none⟩), .slice none 0 0] W fun e w' => e = .returned (.int .i64 0) ∧ Kept [] w1 w' := fun W k =>
    (cfirst_any c P 0 g (num 0) none 0 [] W (hch.kept k (by simp) (by simp) (by simp)) ⟨fun _ => rfl, fun _ h => (by cases h)⟩ (by decide)).mono fun e w' h => ⟨h.1, k.trans h.2⟩
  have hf3 : ∀ W, Kept [] w1 W → Calls Tryd.prog 16 #[.pointer (some ⟨c, 0, none⟩), .slice (some ⟨W.heap.size, 0, none⟩) 3 3] (W.alloc (.cells #[.int .u8 97, .int .u8 98, .int .u8 99] 5 (3, 4))) fun e w' => e = .returned (.int .i64 2) ∧ Kept [] w1 w' := fun W k => by
    have hkW : Kept [] w1 (W.alloc (.cells #[.int .u8 97, .int .u8 98, .int .u8 99] 5 (3, 4))) := k.alloc _
    have h := cfirst_any c P 0 g (num 0) (some ⟨W.heap.size, 0, none⟩) 3 [97, 98, 99] _ (hch.kept hkW (by simp) (by simp) (by simp)) (sl_new W [97, 98, 99] (by decide) (3, 4)).reads (by decide)
    rw [F3.out] at h
    exact h.mono fun e w' h => ⟨h.1, hkW.trans h.2⟩
  have Hs := hid hslit; have Ha := hid hall; have Hf0 := hid hf0; have Hf3 := hid hf3
  have htx := hid (fun (W : World) (x : Piece) (h : Sl W x.a x.c [101]) => qtext W x.a x.c [101] h)
  have K1 := hid k1
  clear hslit hall hf0 hf3 hnew hch k1
  go_wp2_with fail
  refine (hbad.out _).mono ?_
  rintro e w2 ⟨rfl, k2⟩
  have v2 := Lib.run_convert_bytes_const (P := Tryd.prog) w2 25 5 #[.int .u8 97, .int .u8 98, .int .u8 99, .int .u8 100, .int .u8 101] 5 5 Tryd.underlying25 Tryd.underlying5
  go_wp2_with fail
  refine (Hs.out _ k2).mono ?_
  rintro e w3 ⟨gv, cv, x, rfl, k3, h3, h4, c2, s2⟩
  have S2 := hid s2
  have lgv := World.block_lt_of_cell? w3 _ c2
  clear s2 v2
  have v3 := Lib.run_convert_bytes_const (P := Tryd.prog) w3 25 5 #[.int .u8 97, .int .u8 98, .int .u8 99, .int .u8 100, .int .u8 101] 5 5 Tryd.underlying25 Tryd.underlying5
  go_wp2_with fail
  refine (Ha.out _ k3).mono ?_
  rintro e w4 ⟨av, cv', rfl, k4⟩
  have hk34 := ((Kept.refl [] w3).alloc (.cells #[.int .u8 97, .int .u8 98, .int .u8 99, .int .u8 100, .int .u8 101] 5 (5, 6))).trans k4
  have c2' : w4.cell? ⟨gv, 2, none⟩ = some (.slice x.a 1 x.c) := (hk34.cell lgv (by simp)).trans c2
  have hcv := htx.out w4 x (S2.out.kept hk34 (by simp))
  simp only [List.length_cons, List.length_nil, Nat.zero_add] at hcv
  have K4 := hid (k3.trans hk34)
  clear k4 hk34 c2 v3
  go_wp2_with fail
  refine (Hf0.out _ K4.out).mono ?_
  rintro e w5 ⟨rfl, k5⟩
  have v5 := Lib.run_convert_bytes_const (P := Tryd.prog) w5 25 5 #[.int .u8 97, .int .u8 98, .int .u8 99] 3 3 Tryd.underlying25 Tryd.underlying5
  go_wp2_with fail
  refine (Hf3.out _ k5).mono ?_
  rintro e w6 ⟨rfl, k6⟩
  go_wp2
  go_ret
  exact ⟨rfl, K1.out.trans k6⟩
end Go.Proofs.YtllcfffpagogbaaDoor
