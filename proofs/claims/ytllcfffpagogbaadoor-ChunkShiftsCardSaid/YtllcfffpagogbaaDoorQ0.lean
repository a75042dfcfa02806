/- Chunks as mathematics: where the first one ends, and all. No program is named here. -/
import Derived.Test.YtllcfffpagogbaaDoorR0
import Derived.Lib.TrailingZeros
namespace Go.Proofs.YtllcfffpagogbaaDoor
namespace Chunk
open Roll

/-- How bytes are cut. -/
structure Par where
  min : Nat
  max : Nat
  bits : Nat
  width : Nat

/-- Does a chunk of so many bytes end behind this sum? -/
def ends (p : Par) (n : Nat) (s : W) : Bool := decide (p.max ≤ n) || (decide (p.min ≤ n) && decide (p.bits ≤ Go.Lib.ctz 32 s.toNat))

/-- Where the first chunk ends, of bytes of which some are seen. -/
def go (E : Nat → W → Bool) (T : UInt8 → W) (k : Nat) : List UInt8 → List UInt8 → Nat
  | pre, [] => pre.length
  | pre, x :: r => if E (pre.length + 1) (sum T (last k (pre ++ [x]))) = true then pre.length + 1 else go E T k (pre ++ [x]) r
def first (E : Nat → W → Bool) (T : UInt8 → W) (k : Nat) (b : List UInt8) : Nat := go E T k [] b

variable {E : Nat → W → Bool} {T : UInt8 → W} {k : Nat}
theorem go_cons (pre : List UInt8) (x : UInt8) (r : List UInt8) : go E T k pre (x :: r) = if E (pre.length + 1) (sum T (last k (pre ++ [x]))) = true then pre.length + 1 else go E T k (pre ++ [x]) r := rfl
theorem go_le : ∀ (r pre : List UInt8), go E T k pre r ≤ pre.length + r.length ∧ pre.length ≤ go E T k pre r ∧ (r ≠ [] → pre.length < go E T k pre r)
  | [], pre => by simp [go]
  | x :: r, pre => by
    have ih := go_le r (pre ++ [x])
    unfold go
    split
    · simp
    · simp at ih ⊢; omega
theorem first_le (b : List UInt8) : first E T k b ≤ b.length := by have := (go_le (E := E) (T := T) (k := k) b []).1; simpa [first] using this
theorem first_pos (b : List UInt8) (h : b ≠ []) : 0 < first E T k b := by have := (go_le (E := E) (T := T) (k := k) b []).2.2 h; simpa [first] using this
theorem first_nil : first E T k [] = 0 := rfl

/-- All chunks. -/
def splitF (E : Nat → W → Bool) (T : UInt8 → W) (k : Nat) : Nat → List UInt8 → List (List UInt8)
  | 0, _ => []
  | f + 1, b => if b = [] then [] else b.take (first E T k b) :: splitF E T k f (b.drop (first E T k b))
def split (E : Nat → W → Bool) (T : UInt8 → W) (k : Nat) (b : List UInt8) : List (List UInt8) := splitF E T k b.length b
theorem splitF_more : ∀ (f g : Nat) (b : List UInt8), b.length ≤ f → b.length ≤ g → splitF E T k f b = splitF E T k g b
  | 0, 0, _, _, _ => rfl
  | 0, g + 1, b, h, _ => by have : b = [] := List.eq_nil_of_length_eq_zero (by omega); subst this; simp [splitF]
  | f + 1, 0, b, _, h => by have : b = [] := List.eq_nil_of_length_eq_zero (by omega); subst this; simp [splitF]
  | f + 1, g + 1, b, hf, hg => by
    by_cases h : b = []
    · simp [splitF, h]
    · have := first_pos (E := E) (T := T) (k := k) b h
      simp only [splitF, if_neg h]
      rw [splitF_more f g _ (by simp; omega) (by simp; omega)]
theorem split_nil : split E T k [] = [] := rfl
theorem split_cons (b : List UInt8) (h : b ≠ []) : split E T k b = b.take (first E T k b) :: split E T k (b.drop (first E T k b)) := by
  have hp := first_pos (E := E) (T := T) (k := k) b h
  have hl := List.length_pos_iff.2 h
  unfold split
  obtain ⟨m, hm⟩ : ∃ m, b.length = m + 1 := ⟨b.length - 1, by omega⟩
  rw [hm]
  simp only [splitF, if_neg h]
  rw [splitF_more m _ _ (by simp; omega) (Nat.le_refl _)]
theorem split_join : ∀ (n : Nat) (b : List UInt8), b.length ≤ n → (split E T k b).flatten = b
  | n, [], _ => rfl
  | 0, _ :: _, h => by simp at h
  | n + 1, x :: b, h => by
    have hp := first_pos (E := E) (T := T) (k := k) (x :: b) (by simp)
    rw [split_cons _ (by simp), List.flatten_cons, split_join n _ (by simp at h ⊢; omega), List.take_append_drop]
theorem split_ne : ∀ (n : Nat) (b : List UInt8), b.length ≤ n → ∀ x ∈ split E T k b, x ≠ [] ∧ x.length ≤ b.length
  | n, [], _ => by simp [split_nil]
  | 0, _ :: _, h => by simp at h
  | n + 1, y :: b, h => by
    have hp := first_pos (E := E) (T := T) (k := k) (y :: b) (by simp)
    have hl := first_le (E := E) (T := T) (k := k) (y :: b)
    intro x hx
    rw [split_cons _ (by simp)] at hx
    rcases List.mem_cons.1 hx with rfl | hx
    · exact ⟨List.ne_nil_of_length_pos (by rw [List.length_take]; simp at hl ⊢; omega), by rw [List.length_take]; omega⟩
    · have := split_ne n _ (by simp at h ⊢; omega) x hx
      exact ⟨this.1, by have h2 := this.2; rw [List.length_drop] at h2; omega⟩
theorem split_len : ∀ (n : Nat) (b : List UInt8), b.length ≤ n → (split E T k b).length ≤ b.length
  | n, [], _ => by simp [split_nil]
  | 0, _ :: _, h => by simp at h
  | n + 1, y :: b, h => by
    have hp := first_pos (E := E) (T := T) (k := k) (y :: b) (by simp)
    have hl := first_le (E := E) (T := T) (k := k) (y :: b)
    rw [split_cons _ (by simp), List.length_cons]
    have := split_len n ((y :: b).drop (first E T k (y :: b))) (by simp at h ⊢; omega)
    rw [List.length_drop] at this
    simp at hl ⊢
    simp at this
    omega

/-- What is read of bytes hangs on those ahead of the end alone. -/
theorem go_take : ∀ (r pre : List UInt8) (m : Nat), go E T k pre r ≤ pre.length + m → go E T k pre (r.take m) = go E T k pre r
  | [], pre, m, _ => by simp
  | x :: r, pre, 0, h => by
    have := (go_le (E := E) (T := T) (k := k) (x :: r) pre).2.2 (by simp)
    omega
  | x :: r, pre, m + 1, h => by
    rw [List.take_succ_cons]
    unfold go at h ⊢
    split
    · rfl
    · rename_i hn
      rw [if_neg hn] at h
      exact go_take r (pre ++ [x]) m (by simp at h ⊢; omega)
theorem first_take (b : List UInt8) (m : Nat) (h : first E T k b ≤ m) : first E T k (b.take m) = first E T k b := go_take b [] m (by simpa [first] using h)
theorem first_chunk (b : List UInt8) : first E T k (b.take (first E T k b)) = (b.take (first E T k b)).length := by
  rw [first_take b _ (Nat.le_refl _), List.length_take]
  have := first_le (E := E) (T := T) (k := k) b
  omega
theorem split_one (x : List UInt8) (h : x ≠ []) (hf : first E T k x = x.length) : split E T k x = [x] := by
  rw [split_cons x h, hf, List.take_length, List.drop_length, split_nil]
theorem split_chunks : ∀ (n : Nat) (b : List UInt8), b.length ≤ n → ∀ x ∈ split E T k b, split E T k x = [x]
  | n, [], _ => by simp [split_nil]
  | 0, _ :: _, h => by simp at h
  | n + 1, y :: b, h => by
    intro x hx
    have hp := first_pos (E := E) (T := T) (k := k) (y :: b) (by simp)
    rw [split_cons _ (by simp)] at hx
    rcases List.mem_cons.1 hx with rfl | hx
    · exact split_one _ (List.ne_nil_of_length_pos (by rw [List.length_take]; simp; omega)) (first_chunk _)
    · exact split_chunks n _ (by simp at h ⊢; omega) x hx
/-- Cut at an end both sides are cut as they were. -/
theorem split_cut : ∀ (j n : Nat) (b : List UInt8), b.length ≤ n → split E T k (b.take (((split E T k b).take j).flatten.length)) = (split E T k b).take j ∧ split E T k (b.drop (((split E T k b).take j).flatten.length)) = (split E T k b).drop j
  | 0, n, b, _ => by simp [split_nil]
  | j + 1, n, [], _ => by simp [split_nil]
  | j + 1, 0, _ :: _, h => by simp at h
  | j + 1, n + 1, y :: b, h => by
    have hp := first_pos (E := E) (T := T) (k := k) (y :: b) (by simp)
    have hl := first_le (E := E) (T := T) (k := k) (y :: b)
    obtain ⟨f, hf⟩ : ∃ f, f = first E T k (y :: b) := ⟨_, rfl⟩
    obtain ⟨c, hc⟩ : ∃ c, c = y :: b := ⟨_, rfl⟩
    have hcn : c ≠ [] := by rw [hc]; simp
    rw [← hc] at hf hp hl h ⊢
    rw [← hf] at hp hl
    have ih := split_cut j n (c.drop f) (by simp at h ⊢; omega)
    have hs := split_cons (E := E) (T := T) (k := k) c hcn
    rw [← hf] at hs
    rw [hs, List.take_succ_cons, List.flatten_cons, List.length_append, List.drop_succ_cons]
    have htl : (c.take f).length = f := by rw [List.length_take]; omega
    rw [htl]
    obtain ⟨m, hm⟩ : ∃ m, m = (((split E T k (c.drop f)).take j).flatten).length := ⟨_, rfl⟩
    rw [← hm] at ih ⊢
    constructor
    · have hne : c.take (f + m) ≠ [] := List.ne_nil_of_length_pos (by rw [List.length_take]; omega)
      have h1 : first E T k (c.take (f + m)) = f := by rw [first_take c _ (by omega), hf]
      rw [split_cons _ hne, h1, List.take_take, Nat.min_eq_left (by omega), ← ih.1, List.drop_take]
      congr 3; omega
    · rw [← ih.2, List.drop_drop]
/-- Where an end hangs on the length alone, chunks have one length. -/
theorem go_even (m : Nat) (hm : 1 ≤ m) (hE : ∀ n s, E n s = decide (m ≤ n)) : ∀ (r pre : List UInt8), pre.length < m → go E T k pre r = Nat.min m (pre.length + r.length)
  | [], pre, h => by simp [go]; show pre.length = Nat.min m pre.length; exact (Nat.min_eq_right (by omega)).symm
  | x :: r, pre, h => by
    unfold go
    rw [hE]
    by_cases h2 : m ≤ pre.length + 1
    · rw [if_pos (by simpa using h2)]; simp only [List.length_cons]; show _ = min m _; omega
    · rw [if_neg (by simpa using h2), go_even m hm hE r (pre ++ [x]) (by simp; omega)]
      simp only [List.length_append, List.length_cons, List.length_nil]; congr 1; omega
theorem first_even (m : Nat) (hm : 1 ≤ m) (hE : ∀ n s, E n s = decide (m ≤ n)) (b : List UInt8) : first E T k b = min m b.length := by
  have := go_even (T := T) (k := k) m hm hE b [] (by simp; omega)
  simpa [first] using this
end Chunk
end Go.Proofs.YtllcfffpagogbaaDoor
