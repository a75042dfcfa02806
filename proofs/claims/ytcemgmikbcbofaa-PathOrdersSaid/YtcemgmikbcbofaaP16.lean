/- PathOrders: the walk. -/
import Derived.Test.YtcemgmikbcbofaaP15
namespace Go.Proofs.Ytcemgmikbcbofaa
open Go.RowKit

theorem S_isEmpty (a : List UInt8) : (S a).toList.isEmpty = decide (a = []) := by
  rw [S_toList]; cases a <;> simp

structure LF (s t : List UInt8) (r : Bool) : Prop where
  is : pless s t = r
  a : s.length ≤ 1000000000
  b : t.length ≤ 1000000000
structure WF (s t : List UInt8) (r : Bool) : Prop where
  out : within s t = r

set_option maxRecDepth 100000 in
set_option maxHeartbeats 20000000 in
theorem path_orders (a b c : List UInt8) (w : World) :
    Calls Try.prog 6 #[.string (S a), .string (S b), .string (S c)] w fun e w' => e = .returned (.bool true) ∧ Kept [] w w' := by
  have ha := hid (alive5 w)
  have sa := S_size a; have sb := S_size b; have sc := S_size c
  by_cases hla : 120 < a.length
  · go_enter Try.func6, Try.ntmps6
    go_wp2_with fail
    refine ha.out.mono ?_
    rintro e w1 ⟨rfl, k1⟩
    go_wp2
    go_ret
    exact ⟨rfl, k1⟩
  by_cases hlb : 120 < b.length
  · go_enter Try.func6, Try.ntmps6
    go_wp2_with fail
    refine ha.out.mono ?_
    rintro e w1 ⟨rfl, k1⟩
    go_wp2
    go_ret
    exact ⟨rfl, k1⟩
  by_cases hlc : 120 < c.length
  · go_enter Try.func6, Try.ntmps6
    go_wp2_with fail
    refine ha.out.mono ?_
    rintro e w1 ⟨rfl, k1⟩
    go_wp2
    go_ret
    exact ⟨rfl, k1⟩
  have hless : Hid (∀ (s t : List UInt8) (r : Bool), LF s t r → ∀ v, Kept [] w v → Calls Try.prog 29 #[.string (S s), .string (S t)] v fun e w' => e = .returned (.bool r) ∧ Kept [] w w') := hid (fun s t r h v k => (less_any s t h.a h.b v).mono fun e w' h' => ⟨h.is ▸ h'.1, k.trans h'.2⟩)
  have hwith : Hid (∀ (s t : List UInt8) (r : Bool), WF s t r → ∀ v, Kept [] w v → Calls Try.prog 31 #[.string (S s), .string (S t)] v fun e w' => e = .returned (.bool r) ∧ Kept [] w w') := hid (fun s t r h v k => (within_any s t v).mono fun e w' h' => ⟨h.out ▸ h'.1, h'.2 ▸ k⟩)
  have hab : LF a b (pless a b) := ⟨rfl, by omega, by omega⟩
  have hba : LF b a (pless b a) := ⟨rfl, by omega, by omega⟩
  have hbc : LF b c (pless b c) := ⟨rfl, by omega, by omega⟩
  have hac : LF a c (pless a c) := ⟨rfl, by omega, by omega⟩
  have wba : WF b a (within b a) := ⟨rfl⟩
  have wca : WF c a (within c a) := ⟨rfl⟩
  have eab := S_beq a b
  have eca := S_beq c a
  have eem := S_isEmpty a
  have F1 : (pless a b && pless b a) = false := by
    cases h : pless a b with
    | false => rfl
    | true => rw [pless_asymm a b h]; rfl
  have F2 : (pless a b || pless b a) = !decide (a = b) := by
    by_cases e : a = b
    · subst e; rw [pless_irrefl]; simp
    · rw [pless_total a b e]; simp [e]
  have F3 : (pless a b && pless b c && !pless a c) = false := by
    cases h : pless a b with
    | false => rfl
    | true =>
      cases h2 : pless b c with
      | false => rfl
      | true => rw [pless_trans a b c h h2]; rfl
  have F4 : (!decide (a = []) && within b a && !pless a b) = false := by
    by_cases e : a = []
    · simp [e]
    · cases h : within b a with
      | false => simp
      | true => rw [pless_inside a b e h]; simp
  have F5 : (!decide (a = []) && within b a && !(within c a || decide (c = a) || (pless a c == pless b c))) = false := by
    by_cases e : a = []
    · simp [e]
    · cases h : within b a with
      | false => simp
      | true => rw [pless_beside a b c e h]; simp
  generalize pless a b = x at *
  generalize pless b a = y at *
  generalize pless b c = u at *
  generalize pless a c = v at *
  generalize within b a = m at *
  generalize within c a = n at *
  generalize decide (a = b) = q at *
  generalize decide (c = a) = p at *
  generalize decide (a = []) = em at *
  have G : (q = true ∧ x = false ∧ y = false) ∨ (q = false ∧ x = true ∧ y = false ∧ u = false) ∨ (q = false ∧ x = true ∧ y = false ∧ u = true ∧ v = true) ∨ (q = false ∧ x = false ∧ y = true) := by
    revert F1 F2 F3; cases x <;> cases y <;> cases q <;> cases u <;> cases v <;> decide
  have H : em = true ∨ (em = false ∧ m = false) ∨ (em = false ∧ m = true ∧ x = true ∧ n = true) ∨ (em = false ∧ m = true ∧ x = true ∧ n = false ∧ p = true) ∨ (em = false ∧ m = true ∧ x = true ∧ n = false ∧ p = false ∧ u = v) := by
    revert F4 F5; cases x <;> cases u <;> cases v <;> cases em <;> cases m <;> cases n <;> cases p <;> decide
  clear F1 F2 F3 F4 F5
  have k0 := Kept.refl [] w
  rcases G with ⟨rfl, rfl, rfl⟩ | ⟨rfl, rfl, rfl, rfl⟩ | ⟨rfl, rfl, rfl, rfl, rfl⟩ | ⟨rfl, rfl, rfl⟩ <;>
    rcases H with rfl | ⟨rfl, rfl⟩ | ⟨rfl, rfl, h, rfl⟩ | ⟨rfl, rfl, h, rfl, rfl⟩ | ⟨rfl, rfl, h, rfl, rfl, h2⟩ <;> (try (cases h)) <;> (try (cases h2))
  all_goals
    go_enter Try.func6, Try.ntmps6
    go_wp2_with fail
    refine ha.out.mono ?_
    rintro e w1 ⟨rfl, k1⟩
    repeat (go_wp2_with fail; first
      | (with_reducible refine (hless.out _ _ _ (by first | exact hab | exact hba | exact hbc | exact hac) _ (by assumption)).mono ?_; rintro e w' ⟨rfl, k⟩)
      | (with_reducible refine (hwith.out _ _ _ (by first | exact wba | exact wca) _ (by assumption)).mono ?_; rintro e w' ⟨rfl, k⟩))
    go_wp2
    go_ret
    exact ⟨rfl, by assumption⟩
end Go.Proofs.Ytcemgmikbcbofaa
