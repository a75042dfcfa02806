/- bits.TrailingZeros32; a chunker in memory: its ends, its window, its first chunk. -/
import Derived.Test.YtllcfffpagogbaaDoorRP
import Derived.Test.YtllcfffpagogbaaDoorQ0
import Derived.Deep.QuietTactic
import Derived.BigQuiet
import Derived.WalkSpells
namespace Go.Proofs.YtllcfffpagogbaaDoor
open Go.RowKit

/-- The table of bits' own. -/
def DB (w : World) : Prop := ∀ j, j < 32 → w.cell? ⟨1, j, none⟩ = some (.int .u8 ((Lib.deBruijn32tab.getD j 0 : Nat) : Int))
theorem DB.pos {w : World} (h : DB w) : 1 < w.heap.size := World.block_lt_of_cell? w _ (h 0 (by omega))
theorem DB.kept {S : List Nat} {w w' : World} (h : DB w) (hk : Kept S w w') (hS : 1 ∉ S) : DB w' := fun i hi => (hk.cell (p := ⟨1, i, none⟩) h.pos hS).trans (h i hi)

theorem tz_key (x a : Nat) (hx : x < 4294967296) (hx0 : x ≠ 0) (hlow : x &&& (4294967296 - x) = a) :
    IntKind.u32.wrap (bits BinOp.and IntKind.u32 (x : Int) (IntKind.u32.wrap (-(x : Int))) * 125613361) / 134217728 = ((a * 125613361 % 4294967296 / 134217728 : Nat) : Int) := by
  have e1 : IntKind.u32.wrap (-(x : Int)) = ((4294967296 - x : Nat) : Int) := by rw [IntKind.wrap_u32]; omega
  have h := and_bv (BitVec.ofNat 32 x) (BitVec.ofNat 32 (4294967296 - x))
  rw [BitVec.toNat_and, BitVec.toNat_ofNat, BitVec.toNat_ofNat, Nat.mod_eq_of_lt (by omega), Nat.mod_eq_of_lt (by omega), hlow] at h
  rw [e1, h, IntKind.wrap_u32]
  omega

set_option maxHeartbeats 1000000 in
theorem tz32_any (s : Roll.W) (w : World) (h : DB w) :
    Calls Tryd.prog 79 #[U s] w fun e w' => e = .returned (.int .i64 ((Lib.ctz 32 s.toNat : Nat) : Int)) ∧ w = w' := by
  have hx := s.isLt
  obtain ⟨x, hxs⟩ : ∃ x, x = s.toNat := ⟨_, rfl⟩
  unfold U
  rw [← hxs] at hx ⊢
  clear hxs
  by_cases hx0 : x = 0
  · subst hx0
    rw [show Lib.ctz 32 0 = 32 from rfl]
    go_enter Tryd.func79, Tryd.ntmps79
    go_wp2
    go_ret
    exact ⟨rfl, rfl⟩
  · obtain ⟨hlow, hk⟩ := Lib.lowest_bit 32 x hx0 hx
    obtain ⟨hi, htab⟩ := Lib.deBruijn32_at _ hk
    have hcell := h _ hi
    rw [htab] at hcell
    have key := tz_key x _ hx hx0 hlow
    obtain ⟨idx, hidx⟩ : ∃ i, i = 2 ^ Lib.ctz 32 x * 125613361 % 4294967296 / 134217728 := ⟨_, rfl⟩
    rw [← hidx] at hcell key hi
    have hxz : ((x : Int) == 0) = false := by simp; omega
    obtain ⟨k, hkk⟩ : ∃ k, k = Lib.ctz 32 x := ⟨_, rfl⟩
    rw [← hkk] at hcell hk ⊢
    simp only [IntKind.wrap_u32] at key
    clear hidx hkk hlow htab h
    go_enter Tryd.func79, Tryd.ntmps79
    go_wp2
    go_ret
    exact ⟨rfl, rfl⟩

/-- A chunker's cells. -/
def chCells (P : Chunk.Par) (seed : Int) (g : Nat) : Array Value := #[.int .i64 (P.min : Int), .int .i64 (P.max : Int), .int .i64 (P.bits : Int), .int .i64 (P.width : Int), .int .u64 seed, .pointer (some ⟨g, 0, none⟩)]
structure ParOk (P : Chunk.Par) : Prop where
  min1 : 1 ≤ P.min
  minmax : P.min ≤ P.max
  max : P.max ≤ 65536
  bits : P.bits ≤ 20
  w1 : 1 ≤ P.width
  w64 : P.width ≤ 64
structure Ch (w : World) (c : Nat) (P : Chunk.Par) (seed : Int) (g : Nat) (T : UInt8 → Roll.W) : Prop where
  here : w.heap[c]? = some (.cells (chCells P seed g) 79 (0, 0))
  tb : Tb w g 0 T
  db : DB w
  ok : ParOk P
theorem Ch.kept {S : List Nat} {w w' : World} {c : Nat} {P : Chunk.Par} {seed : Int} {g : Nat} {T : UInt8 → Roll.W} (h : Ch w c P seed g T) (hk : Kept S w w') (h1 : c ∉ S) (h2 : g ∉ S) (h3 : 1 ∉ S) : Ch w' c P seed g T :=
  ⟨hk.at h.here h1, h.tb.kept hk h2, h.db.kept hk h3, h.ok⟩
theorem Ch.cell {w : World} {c : Nat} {P : Chunk.Par} {seed : Int} {g : Nat} {T : UInt8 → Roll.W} (h : Ch w c P seed g T) (i : Nat) : w.cell? ⟨c, i, none⟩ = (chCells P seed g)[i]? := by
  have := cell_of_row w c i _ _ _ h.here
  rw [this]

set_option maxRecDepth 100000 in
set_option maxHeartbeats 2000000 in
theorem ends_any (c : Nat) (P : Chunk.Par) (seed : Int) (g : Nat) (T : UInt8 → Roll.W) (n : Nat) (s : Roll.W) (w : World) (h : Ch w c P seed g T) (hn : n ≤ 1000000000) :
    Calls Tryd.prog 57 #[.pointer (some ⟨c, 0, none⟩), .int .i64 (n : Int), U s] w fun e w' => e = .returned (.bool (Chunk.ends P n s)) ∧ ∃ m, w' = w.drewN m := by
  have c0 : w.cell? ⟨c, 0, none⟩ = some (.int .i64 (P.min : Int)) := h.cell 0
  have c1 : w.cell? ⟨c, 1, none⟩ = some (.int .i64 (P.max : Int)) := h.cell 1
  have c2 : w.cell? ⟨c, 2, none⟩ = some (.int .i64 (P.bits : Int)) := h.cell 2
  have htz := hid (fun m => (show Calls Tryd.prog 79 #[U s] (w.drewN m) (fun e w' => e = .returned (.int .i64 ((Lib.ctz 32 s.toNat : Nat) : Int)) ∧ w' = w.drewN m) from
    (tz32_any s (w.drewN m) (h.db.kept ((Kept.refl [] w).drewN m) (by simp))).mono fun e w' h => ⟨h.1, h.2.symm⟩))
  clear h
  unfold Chunk.ends
  obtain ⟨t, ht⟩ : ∃ t, t = Lib.ctz 32 s.toNat := ⟨_, rfl⟩
  rw [← ht] at htz ⊢
  clear ht
  obtain ⟨mn, mx, bt, wd⟩ := P
  dsimp only at *
  by_cases h1 : mx ≤ n
  · have b1 : decide (mx ≤ n) = true := decide_eq_true h1
    rw [decide_eq_true h1]
    clear h1
    go_enter Tryd.func57, Tryd.ntmps57
    go_wp2_with fail
    go_quiet (fail)
    go_wp2
    go_ret
    exact ⟨rfl, _, rfl⟩
  · have b1 : decide (mx ≤ n) = false := decide_eq_false h1
    rw [decide_eq_false h1]
    clear h1
    by_cases h2 : mn ≤ n
    · have b2 : decide (mn ≤ n) = true := decide_eq_true h2
      rw [decide_eq_true h2]
      clear h2
      go_enter Tryd.func57, Tryd.ntmps57
      go_wp2_with fail
      go_quiet ((go_at_call 79; exact Calls.quiet_of_same (htz.out _)))
      go_wp2
      go_ret
      exact ⟨by simp, _, rfl⟩
    · have b2 : decide (mn ≤ n) = false := decide_eq_false h2
      rw [decide_eq_false h2]
      clear h2
      go_enter Tryd.func57, Tryd.ntmps57
      go_wp2_with fail
      go_quiet (fail)
      go_wp2
      go_ret
      exact ⟨rfl, _, rfl⟩
end Go.Proofs.YtllcfffpagogbaaDoor
