/- A chunker's First; New. -/
import Derived.Test.YtllcfffpagogbaaDoorQ5
namespace Go.Proofs.YtllcfffpagogbaaDoor
open Go.RowKit Go.Lib

set_option maxHeartbeats 1000000 in
theorem cfirst_any (c : Nat) (P : Chunk.Par) (seed : Int) (g : Nat) (T : UInt8 → Roll.W) (a : Option Addr) (cap : Nat) (ys : List UInt8) (w : World) (h : Ch w c P seed g T) (hs : Reads w a ys) (hl : ys.length ≤ 100000000) :
    Calls Tryd.prog 16 #[.pointer (some ⟨c, 0, none⟩), .slice a ys.length cap] w fun e w' => e = .returned (.int .i64 ((Chunk.first (Chunk.ends P) T P.width ys : Nat) : Int)) ∧ Kept [] w w' := by
  have hwin := hid (window_any c P seed g T w h)
  have hlt := hid (show c < w.heap.size ∧ g < w.heap.size ∧ 1 < w.heap.size from ⟨lt_of_block h.here, h.tb.lt, h.db.pos⟩)
  have hfi := hid (fun (w1 : World) (k1 : Kept [] w w1) (hw : Win w1 w.heap.size T P.width []) => first_in c w.heap.size P seed g T a cap ys [] w1 (h.kept k1 (by simp) (by simp) (by simp)) (hs.kept k1 (fun _ _ _ => by simp)) hw (by have := hlt.out; omega) (fun hne x hx => by have := hs.lt hne x hx; omega) hl)
  clear h hs
  go_enter Tryd.func16, Tryd.ntmps16
  go_wp2_with fail
  refine hwin.out.mono ?_
  rintro e w1 ⟨rfl, k1, hw1⟩
  go_wp2_with fail
  refine (hfi.out w1 k1 hw1).mono ?_
  rintro e w2 ⟨rfl, k2, -⟩
  go_wp2
  go_ret
  exact ⟨rfl, k1.trans' k2 (fun x hx hm => by simp at hm; omega)⟩

abbrev parV (a b d e s : Int) : Value := .agg #[.int .i64 a, .int .i64 b, .int .i64 d, .int .i64 e, .int .u64 s]
set_option maxRecDepth 100000 in
set_option maxHeartbeats 2000000 in
theorem new_bad (a b d e s : Int) (h : a < 1 ∨ b < a ∨ 65536 < b ∨ d < 0 ∨ 20 < d) (w : World) :
    Calls Tryd.prog 10 #[parV a b d e s] w fun r w' => r = .returned (.tuple #[.pointer none, .int .i64 1]) ∧ Kept [] w w' := by
  by_cases h1 : a < 1
  · go_enter Tryd.func10, Tryd.ntmps10
    go_wp2
    go_ret2
    exact ⟨rfl, (Kept.refl _ _).alloc _⟩
  by_cases h2 : b < a
  · clear h
    go_enter Tryd.func10, Tryd.ntmps10
    go_wp2
    go_ret2
    exact ⟨rfl, (Kept.refl _ _).alloc _⟩
  by_cases h3 : 65536 < b
  · clear h
    go_enter Tryd.func10, Tryd.ntmps10
    go_wp2
    go_ret2
    exact ⟨rfl, (Kept.refl _ _).alloc _⟩
  by_cases h4 : d < 0
  · clear h
    go_enter Tryd.func10, Tryd.ntmps10
    go_wp2
    go_ret2
    exact ⟨rfl, (Kept.refl _ _).alloc _⟩
  have h5 : 20 < d := by omega
  clear h
  go_enter Tryd.func10, Tryd.ntmps10
  go_wp2
  go_ret2
  exact ⟨rfl, (Kept.refl _ _).alloc _⟩

set_option maxRecDepth 100000 in
set_option maxHeartbeats 2000000 in
theorem new_width (a b d e s : Int) (h1 : ¬ a < 1) (h2 : ¬ b < a) (h3 : ¬ 65536 < b) (h4 : ¬ d < 0) (h5 : ¬ 20 < d) (he : e < 1 ∨ 64 < e) (hs0 : 0 ≤ s) (hs1 : s < 18446744073709551616) (w : World) :
    Calls Tryd.prog 10 #[parV a b d e s] w fun r w' => r = .returned (.tuple #[.pointer none, .int .i64 1]) ∧ Kept [] w w' := by
  have hmk := hid (make_tb s (w.alloc (.cells #[.int .i64 a, .int .i64 b, .int .i64 d, .int .i64 e, .int .u64 s] 24)) hs0 hs1)
  have He := hid he
  clear he
  go_enter Tryd.func10, Tryd.ntmps10
  go_wp2_with fail
  refine hmk.out.mono ?_
  rintro r w1 ⟨rfl, k1, -⟩
  have c3 : w1.cell? ⟨w.heap.size, 3, none⟩ = some (.int .i64 e) := cell_of_row w1 w.heap.size 3 _ _ _ (k1.at (heap_alloc_at rfl) (by simp))
  have K1 := hid (((Kept.refl [] w).alloc _).trans k1)
  clear k1 hmk
  go_wp2_with fail
  refine (window_bad e He.out _ _).mono ?_
  rintro r w2 ⟨rfl, rfl⟩
  go_wp2
  go_ret2
  exact ⟨rfl, K1.out⟩

theorem built_chunker (a b d e s : Int) (g : Nat) : Tryd.prog.built 79 [(0, parV a b d e s), (1, .pointer (some ⟨g, 0, none⟩))] = some #[.int .i64 a, .int .i64 b, .int .i64 d, .int .i64 e, .int .u64 s, .pointer (some ⟨g, 0, none⟩)] := by kernel_rfl

set_option maxRecDepth 100000 in
set_option maxHeartbeats 2000000 in
theorem new_ok (P : Chunk.Par) (s : Int) (h : ParOk P) (hs0 : 0 ≤ s) (hs1 : s < 18446744073709551616) (w : World) (hdb : DB w) :
    Calls Tryd.prog 10 #[parV P.min P.max P.bits P.width s] w fun r w' => ∃ c g, r = .returned (.tuple #[.pointer (some ⟨c, 0, none⟩), .int .i64 0]) ∧ Kept [] w w' ∧ Ch w' c P s g (num s) ∧ w.heap.size ≤ c ∧ w.heap.size ≤ g := by
  obtain ⟨mn, mx, bt, wd⟩ := P
  have hok := hid h
  obtain ⟨p1, p2, p3, p4, p5, p6⟩ := h
  dsimp only at p1 p2 p3 p4 p5 p6 ⊢
  have h1 : ¬ (mn : Int) < 1 := by omega
  have h2 : ¬ (mx : Int) < (mn : Int) := by omega
  have h3 : ¬ (65536 : Int) < (mx : Int) := by omega
  have h4 : ¬ (bt : Int) < 0 := by omega
  have h5 : ¬ (20 : Int) < (bt : Int) := by omega
  have hmk := hid (make_tb s (w.alloc (.cells #[.int .i64 (mn : Int), .int .i64 (mx : Int), .int .i64 (bt : Int), .int .i64 (wd : Int), .int .u64 s] 24)) hs0 hs1)
  obtain ⟨T, hT⟩ : ∃ T, T = num s := ⟨_, rfl⟩
  rw [← hT] at hmk ⊢
  clear hT
  have hb := hid (built_chunker mn mx bt wd s (w.heap.size + 1))
  have hsz : (Tryd.prog.info? 24).map (·.size) = some 5 := by kernel_rfl
  have hdb := hid hdb
  go_enter Tryd.func10, Tryd.ntmps10
  go_wp2_with fail
  refine hmk.out.mono ?_
  rintro r w1 ⟨rfl, k1, ht1⟩
  simp only [World.size_alloc] at ht1 ⊢
  have hbx := hid (k1.at (k := w.heap.size) (heap_alloc_at rfl) (by simp))
  have c3 : w1.cell? ⟨w.heap.size, 3, none⟩ = some (.int .i64 (wd : Int)) := cell_of_row w1 w.heap.size 3 _ _ _ hbx.out
  have K1 := hid (((Kept.refl [] w).alloc _).trans k1)
  have Ht := hid ht1
  have hwn := hid (window_ok (w.heap.size + 1) wd T w1 p5 p6 ht1)
  clear k1 ht1 hmk
  go_wp2_with fail
  refine hwn.out.mono ?_
  rintro r w2 ⟨rfl, k2, -⟩
  have hload := hid (show ∀ (j : Nat) v, [Value.int .i64 (mn : Int), .int .i64 (mx : Int), .int .i64 (bt : Int), .int .i64 (wd : Int), .int .u64 s][j]? = some v → w2.cell? ((⟨w.heap.size, 0, none⟩ : Addr).add j) = some v from fun j v hj => by
    rw [plain_add, Nat.zero_add, cell_of_row w2 w.heap.size j _ _ _ (k2.at hbx.out (by simp)), ← hj]; simp)
  have d0 : w2.cell? ⟨w.heap.size, 0, none⟩ = some (.int .i64 (mn : Int)) := hload.out 0 _ rfl
  have d1 : w2.cell? ⟨w.heap.size, 1, none⟩ = some (.int .i64 (mx : Int)) := by have := hload.out 1 _ rfl; rwa [plain_add, Nat.zero_add] at this
  have d2 : w2.cell? ⟨w.heap.size, 2, none⟩ = some (.int .i64 (bt : Int)) := by have := hload.out 2 _ rfl; rwa [plain_add, Nat.zero_add] at this
  have d3 : w2.cell? ⟨w.heap.size, 3, none⟩ = some (.int .i64 (wd : Int)) := by have := hload.out 3 _ rfl; rwa [plain_add, Nat.zero_add] at this
  have d4 : w2.cell? ⟨w.heap.size, 4, none⟩ = some (.int .u64 s) := by have := hload.out 4 _ rfl; rwa [plain_add, Nat.zero_add] at this
  have K2 := hid (K1.out.trans k2)
  have Ht2 := hid (Ht.out.kept k2 (by simp))
  clear k2 hwn c3
  have hbo := hb.out
  go_wp2
  go_ret2
  refine ⟨w2.heap.size, w.heap.size + 1, rfl, K2.out.alloc _, ⟨heap_alloc_at rfl, Ht2.out.kept ((Kept.refl [] w2).alloc _) (by simp), hdb.out.kept (K2.out.alloc _) (by simp), hok.out⟩, K2.out.size, by omega⟩
end Go.Proofs.YtllcfffpagogbaaDoor
