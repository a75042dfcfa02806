/- ChunkShifts: where chunks end, as mathematics; a map of ends. -/
import Derived.Maps.Own
import Derived.Maps.OwnOps
import Derived.Maps.OwnSet
import Derived.Maps.Views
import Derived.Test.YtllcfffpagogbaaDoorU3
namespace Go.Proofs.YtllcfffpagogbaaDoor
open Go.RowKit Go.Lib Go.Maps

theorem go_max {E : Nat → Roll.W → Bool} {T : UInt8 → Roll.W} {k m : Nat} (hE : ∀ n s, m ≤ n → E n s = true) : ∀ (r pre : List UInt8), pre.length < m → Chunk.go E T k pre r ≤ m
  | [], pre, h => by show pre.length ≤ m; omega
  | x :: r, pre, h => by
    rw [Chunk.go_cons]
    split
    · omega
    · rename_i hf
      have h1 : pre.length + 1 < m := by
        rcases Nat.lt_or_ge (pre.length + 1) m with h2 | h2
        · exact h2
        · exact absurd (hE _ _ h2) hf
      exact go_max hE r (pre ++ [x]) (by simpa using h1)
theorem go_stop {E : Nat → Roll.W → Bool} {T : UInt8 → Roll.W} {k : Nat} : ∀ (r pre : List UInt8), Chunk.go E T k pre r = pre.length + r.length ∨ ∃ s, E (Chunk.go E T k pre r) s = true
  | [], pre => .inl rfl
  | x :: r, pre => by
    rw [Chunk.go_cons]
    split
    · rename_i h; exact .inr ⟨_, h⟩
    · have ih := go_stop (E := E) (T := T) (k := k) r (pre ++ [x])
      rcases ih with ih | ih
      · exact .inl (by rw [ih]; simp; omega)
      · exact .inr ih
theorem ends_max {P : Chunk.Par} (n : Nat) (s : Roll.W) (h : P.max ≤ n) : Chunk.ends P n s = true := by unfold Chunk.ends; rw [decide_eq_true h]; rfl
theorem ends_min {P : Chunk.Par} (h : P.min ≤ P.max) {n : Nat} {s : Roll.W} (he : Chunk.ends P n s = true) : P.min ≤ n := by
  unfold Chunk.ends at he
  simp only [Bool.or_eq_true, Bool.and_eq_true, decide_eq_true_eq] at he
  omega
theorem spl_bounds {P : Chunk.Par} (h1 : 1 ≤ P.min) (h2 : P.min ≤ P.max) (T : UInt8 → Roll.W) : ∀ (f : Nat) (ys : List UInt8), ys.length ≤ f → ∀ i x, (spl P T ys)[i]? = some x → x.length ≤ P.max ∧ (i + 1 < (spl P T ys).length → P.min ≤ x.length)
  | f, [], _, i, x, hx => by rw [spl_nil] at hx; simp at hx
  | 0, _ :: _, h, _, _, _ => by simp at h
  | f + 1, y :: r, h, i, x, hx => by
    obtain ⟨c, hc⟩ : ∃ c, c = y :: r := ⟨_, rfl⟩
    have hcn : c ≠ [] := by rw [hc]; simp
    rw [← hc] at hx h ⊢
    have hs : spl P T c = c.take (Chunk.first (Chunk.ends P) T P.width c) :: spl P T (c.drop (Chunk.first (Chunk.ends P) T P.width c)) := Chunk.split_cons c hcn
    have hm : Chunk.first (Chunk.ends P) T P.width c ≤ P.max := go_max (fun n s h => ends_max n s h) c [] (by simp; omega)
    have hst : Chunk.first (Chunk.ends P) T P.width c = 0 + c.length ∨ ∃ s, Chunk.ends P (Chunk.first (Chunk.ends P) T P.width c) s = true := go_stop (E := Chunk.ends P) (T := T) (k := P.width) c []
    have hp := Chunk.first_pos (E := Chunk.ends P) (T := T) (k := P.width) c hcn
    generalize Chunk.first (Chunk.ends P) T P.width c = n at *
    rw [hs] at hx ⊢
    cases i with
    | zero =>
      simp at hx
      subst hx
      refine ⟨by rw [List.length_take]; omega, fun hl => ?_⟩
      rw [List.length_take]
      have hd : c.drop n ≠ [] := fun e => by rw [e, spl_nil] at hl; simp at hl
      have hd2 := List.length_pos_iff.2 hd
      rw [List.length_drop] at hd2
      rcases hst with hst | ⟨s, hst⟩
      · omega
      · have := ends_min h2 hst; omega
    | succ i =>
      simp only [List.getElem?_cons_succ] at hx
      have ih := spl_bounds h1 h2 T f (c.drop n) (by rw [List.length_drop]; omega) i x hx
      exact ⟨ih.1, fun hl => ih.2 (by simpa using hl)⟩

/-- Where a row of chunks ends. -/
def pos (R : List (List UInt8)) (k : Nat) : Nat := (R.take k).flatten.length
theorem pos_zero (R : List (List UInt8)) : pos R 0 = 0 := by simp [pos]
theorem pos_succ {R : List (List UInt8)} {k : Nat} {x : List UInt8} (h : R[k]? = some x) : pos R (k + 1) = pos R k + x.length := by
  unfold pos
  rw [List.take_add_one, h, List.flatten_append, List.length_append]; simp
theorem pos_le {R : List (List UInt8)} {b : List UInt8} (hb : R.flatten = b) (k : Nat) : pos R k ≤ b.length := by
  unfold pos
  rw [← hb]
  conv => rhs; rw [← List.take_append_drop k R, List.flatten_append, List.length_append]
  omega
theorem pos_lt {R : List (List UInt8)} (h : ∀ x ∈ R, x ≠ []) {i : Nat} : ∀ j, i < j → j ≤ R.length → pos R i < pos R j
  | 0, hj, _ => by omega
  | j + 1, hj, hl => by
    obtain ⟨x, hx⟩ : ∃ x, R[j]? = some x := ⟨R[j], List.getElem?_eq_getElem _⟩
    have h1 := pos_succ hx
    have h2 := List.length_pos_iff.2 (h x (List.mem_of_getElem? hx))
    by_cases he : i = j
    · subst he; omega
    · have := pos_lt (i := i) h j (by omega) (by omega); omega
theorem pos_inj {R : List (List UInt8)} (h : ∀ x ∈ R, x ≠ []) {i j : Nat} (hi : i ≤ R.length) (hj : j ≤ R.length) (he : pos R i = pos R j) : i = j := by
  rcases Nat.lt_trichotomy i j with h1 | h1 | h1
  · have := pos_lt h j h1 hj; omega
  · exact h1
  · have := pos_lt h i h1 hi; omega
theorem pos_all {R : List (List UInt8)} {b : List UInt8} (hb : R.flatten = b) : pos R R.length = b.length := by
  unfold pos; rw [List.take_length, hb]
/-- Two cuts that meet stay together. -/
theorem spl_meet {P : Chunk.Par} {T : UInt8 → Roll.W} (a b : List UInt8) (i k : Nat) (h : pos (spl P T (a ++ b)) i = a.length + pos (spl P T b) k) : (spl P T (a ++ b)).drop i = (spl P T b).drop k := by
  have h1 := (Chunk.split_cut (E := Chunk.ends P) (T := T) (k := P.width) i (a ++ b).length (a ++ b) (Nat.le_refl _)).2
  have h2 := (Chunk.split_cut (E := Chunk.ends P) (T := T) (k := P.width) k b.length b (Nat.le_refl _)).2
  have h3 : (((spl P T (a ++ b)).take i).flatten).length = a.length + (((spl P T b).take k).flatten).length := h
  unfold spl at *
  rw [← h1, ← h2, h3, List.drop_append]
  congr 1
  rw [List.drop_eq_nil_of_le (by omega), List.nil_append]
  congr 1; omega

/-- A map of ends: which chunk ends there. -/
structure MpI (w : World) (B j : Nat) (R : List (List UInt8)) (D : DataW Unit) : Prop where
  own : w.ownsMap Tryd.prog 3 (plainElem (H := Unit) Tryd.prog 3) B j D
  has : ∀ x : Int, Maps.has D (.int .i64 x) = true ↔ ∃ k, 1 ≤ k ∧ k ≤ j ∧ x = (pos R k : Int)
  at_ : ∀ k, 1 ≤ k → k ≤ j → D.atKey (.int .i64 (pos R k : Int)) (.lit (.int .i64 0)) = .lit (.int .i64 (k : Int))
theorem mpI_made (w : World) (R : List (List UInt8)) : MpI (w.alloc (.map #[] 0)) w.heap.size 0 R (.map []) :=
  ⟨World.ownsMap_made _ _ _ _, fun x => ⟨fun h => by simp [Maps.has] at h, fun ⟨k, h1, h2, _⟩ => by omega⟩, fun k h1 h2 => by omega⟩
theorem MpI.step {w w' : World} {B j : Nat} {R : List (List UInt8)} {D : DataW Unit} (h : MpI w B j R D) (hn : ∀ x ∈ R, x ≠ []) (hj : j + 1 ≤ R.length) (ho : w'.ownsMap Tryd.prog 3 (plainElem (H := Unit) Tryd.prog 3) B (j + 1) (D.put (.int .i64 (pos R (j + 1) : Int)) (.lit (.int .i64 ((j : Int) + 1))))) :
    MpI w' B (j + 1) R (D.put (.int .i64 (pos R (j + 1) : Int)) (.lit (.int .i64 ((j : Int) + 1)))) := by
  have hm := h.own.isMap
  refine ⟨ho, fun x => ?_, fun k h1 h2 => ?_⟩
  · by_cases hx : x = (pos R (j + 1) : Int)
    · subst hx
      exact ⟨fun _ => ⟨j + 1, by omega, by omega, rfl⟩, fun _ => has_put_same hm (show WideAt.IsKeyLit (.int .i64 _) from trivial) _⟩
    · rw [has_put_other (fun e => hx (by injection e)), h.has]
      constructor
      · rintro ⟨k, h1, h2, h3⟩; exact ⟨k, h1, by omega, h3⟩
      · rintro ⟨k, h1, h2, h3⟩
        by_cases hk : k = j + 1
        · subst hk; exact absurd h3 hx
        · exact ⟨k, h1, by omega, h3⟩
  · by_cases hk : k = j + 1
    · subst hk
      rw [atKey_put_same hm (show WideAt.IsKeyLit (.int .i64 _) from trivial)]; simp
    · rw [atKey_put_other (fun e => by
        injection e with _ e
        exact hk (pos_inj hn (by omega) (by omega) (by omega)))]
      exact h.at_ k h1 (by omega)
theorem MpI.grown {w w' : World} {B j : Nat} {R : List (List UInt8)} {D : DataW Unit} (h : MpI w B j R D) (hg : w.grownBy w' none) : MpI w' B j R D := ⟨h.own.kept hg (by simp), h.has, h.at_⟩
theorem mapLaw : Keyed Tryd.prog 3 := int_keyed Tryd.underlying3
theorem zero_int (w : World) : (zeroValue 3).run Tryd.prog w = .ok (.int .i64 0) w := by kernel_rfl
end Go.Proofs.YtllcfffpagogbaaDoor
