/- ChunkSplits. -/
import Derived.Test.YtllcfffpagogbaaDoorU3
namespace Go.Proofs.YtllcfffpagogbaaDoor
open Go.RowKit Go.Lib

/-- What the pieces that are written over keep. -/
structure ClI (w6 : World) (S : List Nat) (xs : List Piece) (wr : World) : Prop where
  kept : Kept S w6 wr
  room : ∀ x ∈ xs, ∀ y, x.a = some y → ∀ j, j < x.ys.length → (wr.cell? ⟨y.block, j, none⟩).isSome = true ∧ wr.frozen? ⟨y.block, j, none⟩ = false
def blocksOf (xs : List Piece) : List Nat := xs.filterMap fun x => x.a.map (·.block)
theorem mem_blocks {xs : List Piece} {k : Nat} : k ∈ blocksOf xs ↔ ∃ x ∈ xs, ∃ y, x.a = some y ∧ y.block = k := by
  unfold blocksOf
  rw [List.mem_filterMap]
  constructor
  · rintro ⟨x, hx, h⟩
    obtain ⟨y, hy, rfl⟩ := Option.map_eq_some_iff.1 h
    exact ⟨x, hx, y, hy, rfl⟩
  · rintro ⟨x, hx, y, hy, rfl⟩
    exact ⟨x, hx, by rw [hy]; rfl⟩
theorem room_of {w : World} {b : Nat} {xs : List Piece} (hp : PiecesAt w b xs) (hf : PiecesFr w xs) : ∀ x ∈ xs, ∀ y, x.a = some y → ∀ j, j < x.ys.length → (w.cell? ⟨y.block, j, none⟩).isSome = true ∧ w.frozen? ⟨y.block, j, none⟩ = false := by
  intro x hx y hy j hj
  obtain ⟨h1, h2, h3⟩ := hp x hx
  obtain ⟨ad, had, hc⟩ := h1.reads.get j hj
  rw [hy] at had; cases had
  have h4 := (h3 y hy).2.2
  obtain ⟨yb, yo, ysp⟩ := y
  obtain ⟨e1, e2⟩ := h4
  dsimp only at e1 e2
  subst e1; subst e2
  rw [plain_add, Nat.zero_add] at hc
  obtain ⟨cs, t, hh⟩ := hf x hx _ hy
  exact ⟨by rw [hc]; rfl, frozen_of_row w yb j _ _ hh⟩
theorem ClI.clear {w6 wr : World} {S : List Nat} {xs : List Piece} (h : ClI w6 S xs wr) {b : Nat} (hb : b ∈ S) (vs : List Value) : ClI w6 S xs (wr.setCells b 0 vs) :=
  ⟨h.kept.trans ((kept_setCells b vs 0 wr).wider (fun k _ hk => by simp at hk; subst hk; exact hb)), fun x hx y hy j hj => ⟨World.isSome_setCells b vs 0 wr _ (h.room x hx y hy j hj).1, by rw [World.frozen?_setCells]; exact (h.room x hx y hy j hj).2⟩⟩

set_option maxRecDepth 100000 in
set_option maxHeartbeats 8000000 in
theorem chunk_splits_bad (a b d e s : Int) (ba : Option Addr) (cap : Nat) (ys : List UInt8) (most : Int) (w : World) (hdb : DB w) (hl : ¬ 300 < ys.length) (hbad : a < 1 ∨ b < a ∨ 65536 < b ∨ d < 0 ∨ 20 < d ∨ e < 1 ∨ 64 < e)
    (hnew : ∀ w, Calls Tryd.prog 10 #[parV a b d e s] w fun r w' => r = .returned (.tuple #[.pointer none, .int .i64 1]) ∧ Kept [] w w') :
    Calls Tryd.prog 3 #[parV a b d e s, .slice ba ys.length cap, .int .i64 most] w fun e w' => e = .returned (.bool true) ∧ Kept [] w w' := by
  obtain ⟨w0, hw0⟩ : ∃ w0, w0 = w.alloc (.cells #[.int .i64 a, .int .i64 b, .int .i64 d, .int .i64 e, .int .u64 s] 24) := ⟨_, rfl⟩
  have k0 : Kept [] w w0 := hw0 ▸ (Kept.refl _ _).alloc _
  have hal := hid (alive09 w0 (hdb.kept k0 (by simp)))
  have hp0 : ParAt w0 w.heap.size a b d e s := by rw [hw0]; exact heap_alloc_at rfl
  have hr := hid (fun W => right_bad a b d e s hbad W)
  have Hnew := hid hnew
  clear hnew hbad hdb
  go_enter Tryd.func3, Tryd.ntmps3
  go_wp2_with fail
  rw [← hw0]
  refine hal.out.mono ?_
  rintro r w1 ⟨rfl, k1⟩
  have hp1 : ParAt w1 w.heap.size a b d e s := k1.at hp0 (by simp)
  obtain ⟨c0, c1, c2, c3, c4, -, -, -⟩ := hp1.cells
  have K1 := hid (k0.trans k1)
  clear k1 hw0 hp0 k0
  go_wp2_with fail
  refine (Hnew.out w1).mono ?_
  rintro r w2 ⟨rfl, k2⟩
  have hp2 : ParAt w2 w.heap.size a b d e s := k2.at hp1 (by simp)
  obtain ⟨c0, c1, c2, c3, c4, -, -, -⟩ := hp2.cells
  have K2 := hid (K1.out.trans k2)
  clear k2 hp1
  obtain ⟨w3, hw3⟩ : ∃ w3, w3 = w2.alloc (.cells #[.int .i64 a, .int .i64 b, .int .i64 d, .int .i64 e, .int .u64 s] 31) := ⟨_, rfl⟩
  have K3 := hid (show Kept [] w w3 from hw3 ▸ K2.out.alloc _)
  have hx3 : w3.heap[w2.heap.size]? = some (.cells #[.int .i64 a, .int .i64 b, .int .i64 d, .int .i64 e, .int .u64 s] 31 (0, 0)) := by rw [hw3]; exact heap_alloc_at rfl
  go_wp2_with fail
  rw [← hw3]
  refine (hr.out _).mono ?_
  rintro r w4 ⟨rfl, k4⟩
  have hx4 := k4.at hx3 (by simp)
  have e0 := cell_of_row w4 w2.heap.size 0 _ _ _ hx4
  have e1 := cell_of_row w4 w2.heap.size 1 _ _ _ hx4
  have e2 := cell_of_row w4 w2.heap.size 2 _ _ _ hx4
  have e3 := cell_of_row w4 w2.heap.size 3 _ _ _ hx4
  have e4 := cell_of_row w4 w2.heap.size 4 _ _ _ hx4
  have K4 := hid (K3.out.trans k4)
  clear k4 hx3 hx4 c0 c1 c2 c3 c4 hp2 hw3
  go_wp2_with fail
  refine (hr.out _).mono ?_
  rintro r w5 ⟨rfl, k5⟩
  have K5 := hid (K4.out.trans k5)
  clear k5
  go_wp2
  go_ret
  exact ⟨rfl, K5.out⟩
end Go.Proofs.YtllcfffpagogbaaDoor
