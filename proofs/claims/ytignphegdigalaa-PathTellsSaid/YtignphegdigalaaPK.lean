/- All contracts of path as one structure. -/
import Derived.Test.YtignphegdigalaaP17
namespace Go.Proofs.Ytignphegdigalaa
open Go.RowKit

theorem S_isE (a : List UInt8) : (S a).toList.isEmpty = decide (a = []) := by
  rw [S_toList]; cases a <;> simp
structure JF (d n r : List UInt8) : Prop where
  is : joinL d n = r
  a : d.length ≤ 1000000000
  b : n.length ≤ 1000000000
structure CkF (a : List UInt8) (n : Int) : Prop where
  is : pathErr a = n
structure ClF (a c : List UInt8) (n : Int) : Prop where
  is : cleanS a = c
  er : cleanErr a = n
  len : a.length ≤ 10000000
/-- Calls of path, each in a world that keeps what W holds. -/
structure PathK (w : World) : Prop where
  check : ∀ (a : List UInt8) (n : Int), CkF a n → ∀ v, Kept [] w v → Calls Try.prog 20 #[.string (S a)] v fun e w' => e = .returned (.int .i64 n) ∧ Kept [] w w'
  clean : ∀ (a c : List UInt8) (n : Int), ClF a c n → ∀ v, Kept [] w v → Calls Try.prog 16 #[.string (S a)] v fun e w' => e = .returned (.tuple #[.string (S c), .int .i64 n]) ∧ Kept [] w w'
  join : ∀ (d n r : List UInt8), JF d n r → ∀ v, Kept [] w v → Calls Try.prog 24 #[.string (S d), .string (S n)] v fun e w' => e = .returned (.string (S r)) ∧ Kept [] w w'
  parent : ∀ (a r : List UInt8), parentL a = r → a.length ≤ 1000000000 → ∀ v, Kept [] w v → Calls Try.prog 22 #[.string (S a)] v fun e w' => e = .returned (.string (S r)) ∧ Kept [] w w'
  base : ∀ (a r : List UInt8), baseL a = r → a.length ≤ 1000000000 → ∀ v, Kept [] w v → Calls Try.prog 23 #[.string (S a)] v fun e w' => e = .returned (.string (S r)) ∧ Kept [] w w'
  within : ∀ (a d : List UInt8) (r : Bool), within a d = r → ∀ v, Kept [] w v → Calls Try.prog 27 #[.string (S a), .string (S d)] v fun e w' => e = .returned (.bool r) ∧ Kept [] w w'
  less : ∀ (a b : List UInt8) (r : Bool), pless a b = r → a.length ≤ 1000000000 → b.length ≤ 1000000000 → ∀ v, Kept [] w v → Calls Try.prog 25 #[.string (S a), .string (S b)] v fun e w' => e = .returned (.bool r) ∧ Kept [] w w'
theorem pathK (w : World) : PathK w where
  check a n h v k := (check_all a n h.is v).mono fun e w' h' => ⟨h'.1, k.trans h'.2⟩
  clean a c n h v k := (clean_any a h.len v).mono fun e w' h' => ⟨by rw [h'.1, h.is, h.er], k.trans h'.2⟩
  join d n r h v k := (join_any d n h.a h.b v).mono fun e w' h' => ⟨by rw [h'.1, h.is], h'.2 ▸ k⟩
  parent a r h l v k := (parent_any a l v).mono fun e w' h' => ⟨by rw [h'.1, h], h'.2 ▸ k⟩
  base a r h l v k := (base_any a l v).mono fun e w' h' => ⟨by rw [h'.1, h], h'.2 ▸ k⟩
  within a d r h v k := (within_any a d v).mono fun e w' h' => ⟨by rw [h'.1, h], h'.2 ▸ k⟩
  less a b r h l l2 v k := (less_any a b l l2 v).mono fun e w' h' => ⟨by rw [h'.1, h], k.trans h'.2⟩
end Go.Proofs.Ytignphegdigalaa
