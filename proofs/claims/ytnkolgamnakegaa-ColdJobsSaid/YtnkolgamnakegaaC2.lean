
/- code.Reader: what each call reads. -/
import Derived.Test.YtnkolgamnakegaaC1
namespace Go.Proofs.Ytnkolgamnakegaa
open Go.RowKit Go.Lib

/-- The number of bytes, the lowest first. -/
def numOf : List UInt8 → Nat
  | [] => 0
  | b :: r => b.toNat + 256 * numOf r

theorem numOf_lt : ∀ l : List UInt8, numOf l < 256 ^ l.length
  | [] => by simp [numOf]
  | b :: r => by
    have h := numOf_lt r
    have hb := b.toNat_lt
    simp only [numOf, List.length_cons, Nat.pow_succ]
    omega
theorem numOf_snoc (l : List UInt8) (b : UInt8) : numOf (l ++ [b]) = numOf l + 256 ^ l.length * b.toNat := by
  induction l with
  | nil => simp [numOf]
  | cons a r ih =>
    simp only [List.cons_append, numOf, ih, List.length_cons, Nat.pow_succ]
    rw [Nat.mul_add, ← Nat.mul_assoc, Nat.mul_comm 256 (256 ^ r.length)]
    omega

theorem or_step (m b i : Nat) (hi : i < 8) (hm : m < 256 ^ i) (hb : b < 256) :
    bits .or .u64 (m : Int) (IntKind.u64.wrap (IntKind.u64.wrap (b : Int) * 2 ^ (8 * i))) = ((m + 256 ^ i * b : Nat) : Int) := by
  have e0 : (256 : Nat) ^ i = 2 ^ (8 * i) := by rw [show (256 : Nat) = 2 ^ 8 from rfl, ← Nat.pow_mul]
  have hle : 256 ^ i * b < 256 ^ 8 := by
    have h1 : 256 ^ i * b < 256 ^ i * 256 := Nat.mul_lt_mul_of_pos_left hb (Nat.pow_pos (by omega))
    have h2 : 256 ^ (i + 1) ≤ 256 ^ 8 := Nat.pow_le_pow_right (by omega) (by omega)
    rw [Nat.pow_succ] at h2
    omega
  have e1 : IntKind.u64.wrap (b : Int) = (b : Int) := by rw [IntKind.wrap_u64]; omega
  have e2 : ((b : Int) * 2 ^ (8 * i)) = ((256 ^ i * b : Nat) : Int) := by rw [e0]; push_cast; rw [Int.mul_comm]
  have e3 : IntKind.u64.wrap ((256 ^ i * b : Nat) : Int) = ((256 ^ i * b : Nat) : Int) := by
    rw [IntKind.wrap_u64]
    have : (256 : Nat) ^ 8 = 18446744073709551616 := by decide
    omega
  have hm64 : m < 18446744073709551616 := by
    have h2 : 256 ^ i ≤ 256 ^ 8 := Nat.pow_le_pow_right (by omega) (by omega)
    have : (256 : Nat) ^ 8 = 18446744073709551616 := by decide
    omega
  have hle' : 256 ^ i * b < 18446744073709551616 := by
    have : (256 : Nat) ^ 8 = 18446744073709551616 := by decide
    omega
  rw [e1, e2, e3, bits_or_u64_nat m (256 ^ i * b) hm64 hle', Nat.or_comm]
  rw [e0] at hm ⊢
  rw [← Nat.two_pow_add_eq_or_of_lt hm, Nat.add_comm]

/-- Where the rest of a row of c cells begins, behind m of them. -/
def behind (a : Option Addr) (c m : Nat) : Option Addr := if c = m then a else a.map (·.add m)

theorem add_0 (x : Addr) : x.add 0 = x := by unfold Addr.add; simp
theorem add_add (x : Addr) (i j : Nat) : (x.add i).add j = x.add (i + j) := by
  unfold Addr.add
  by_cases hi : i = 0
  · subst hi; simp
  · by_cases hj : j = 0
    · subst hj; simp [hi]
    · simp [hi, hj, Nat.add_assoc]

theorem add_spot (x : Addr) (i : Nat) (h : x.spot = none) : (x.add i).spot = none := by unfold Addr.add; split <;> simp_all

/-- The world behind reading m bytes. -/
def nextW (w : World) (r : Nat) (a : Option Addr) (c : Nat) (xs : List UInt8) (m : Nat) : World := w.setCell ⟨r, 0, none⟩ (.slice (behind a c m) (xs.length - m) (c - m))

theorem next_kept (w : World) (r : Nat) (a : Option Addr) (c : Nat) (xs : List UInt8) (m : Nat) : Kept [r] w (nextW w r a c xs m) := (Kept.refl _ _).setCell (p := ⟨r, 0, none⟩) (fun _ => by simp) _

/-- How long the next field is said to be. -/
def said (xs : List UInt8) : Nat := numOf (xs.take 4)
theorem said_lt (xs : List UInt8) : said xs < 4294967296 := by
  have h := numOf_lt (xs.take 4)
  have h2 : (xs.take 4).length ≤ 4 := by simp; omega
  have h3 : 256 ^ (xs.take 4).length ≤ 256 ^ 4 := Nat.pow_le_pow_right (by omega) h2
  unfold said
  omega

theorem behind_plain {a : Option Addr} {c m : Nat} (h : ∀ x, a = some x → x.spot = none) : ∀ x, behind a c m = some x → x.spot = none := by
  intro x hx
  unfold behind at hx
  split at hx
  · exact h x hx
  · cases a with
    | none => simp at hx
    | some y => simp at hx; subst hx; exact add_spot y m (h y rfl)

/-- A slice of bytes, turned into a text. -/
theorem text_of (w : World) (a : Option Addr) (c : Nat) (ys : List UInt8) (hp : ∀ x, a = some x → x.spot = none) (h : SrcB w (.slice a ys.length c) ys) :
    (convert 36 9 (.slice a ys.length c)).run Try.prog w = .ok (.string ⟨ys.toArray⟩) w := by
  rcases h with ⟨h1, h2, _⟩ | ⟨x, c', h1, hc⟩
  · simp at h1
    obtain ⟨rfl, h1, rfl⟩ := h1
    have hy : ys = [] := List.eq_nil_of_length_eq_zero h2
    subst hy
    exact run_convert_bytes_nil (P := Try.prog) w _ _ Try.underlying36 Try.underlying5 0 0 _ Try.underlying9
  · simp at h1
    obtain ⟨rfl, rfl⟩ := h1
    have hx := hp x rfl
    obtain ⟨b, off, sp⟩ := x
    simp at hx
    subst hx
    have e : strOfNums (ys.map fun y => (y.toNat : Int)) = ⟨ys.toArray⟩ := by
      unfold strOfNums
      congr 1
      rw [List.map_map]
      congr 1
      conv => rhs; rw [← List.map_id ys]
      apply List.map_congr_left
      intro y _
      simp
    have := run_convert_bytes_arg (P := Try.prog) w _ _ Try.underlying36 Try.underlying5 b off ys.length c (ys.map fun y => (y.toNat : Int)) (by simp) (fun i hi => by
      have h2 := hc i (B ys[i]) (by simp [hi])
      have ea : (⟨b, off, none⟩ : Addr).add i = ⟨b, off + i, none⟩ := by unfold Addr.add; split <;> simp_all
      rw [ea] at h2
      simpa [B, hi] using h2) _ Try.underlying9
    rw [e] at this
    exact this
end Go.Proofs.Ytnkolgamnakegaa
