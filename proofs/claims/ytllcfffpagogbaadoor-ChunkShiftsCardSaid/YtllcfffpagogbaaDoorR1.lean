/- A window in memory, as a list of cells: what a byte more makes of it. -/
import Derived.Test.YtllcfffpagogbaaDoorRB
namespace Go.Proofs.YtllcfffpagogbaaDoor
open Go.RowKit

/-- The cells of a window of n bytes, of the table T, behind the bytes ys; the next byte's place is nx. -/
structure Pw (T : UInt8 → Roll.W) (n nx : Nat) (ys : List UInt8) (L : List Value) : Prop where
  len : L.length = 324
  tab : ∀ c : UInt8, L[c.toNat]? = some (U (T c))
  width : L[256]? = some (.int .i64 (n : Int))
  ring : ∀ j, j < ys.length → j < n → L[257 + (nx + 63 - j) % 64]? = some (B (ys.getD (ys.length - 1 - j) 0))
  next : L[321]? = some (.int .i64 (nx : Int))
  nxlt : nx < 64
  count : L[322]? = some (.int .i64 ((min ys.length n : Nat) : Int))
  sum : L[323]? = some (U (Roll.sum T (Roll.last n ys)))

theorem sum_last_nil (T : UInt8 → Roll.W) (n : Nat) : Roll.sum T (Roll.last n []) = 0 := by simp [Roll.last, Roll.sum]

/-- What a byte more leaves: the sum s, so many that count. -/
def pushed (L : List Value) (nx : Nat) (s : Roll.W) (k : Int) (c : UInt8) : List Value :=
  (((L.set 323 (U s)).set 322 (.int .i64 k)).set (257 + nx) (B c)).set 321 (.int .i64 (((nx + 1) % 64 : Nat) : Int))

theorem Pw.push {T : UInt8 → Roll.W} {n nx : Nat} {ys : List UInt8} {L : List Value} (h : Pw T n nx ys L) (hn : n ≤ 64) (c : UInt8) (k : Nat) (hk : k = min (ys.length + 1) n) :
    Pw T n ((nx + 1) % 64) (ys ++ [c]) (pushed L nx (Roll.sum T (Roll.last n (ys ++ [c]))) (k : Int) c) := by
  obtain ⟨h1, h2, h3, h4, h5, h6, h7, h8⟩ := h
  unfold pushed
  refine ⟨by simp [h1], fun d => ?_, ?_, fun j hj hjn => ?_, ?_, by omega, ?_, ?_⟩
  · have := d.toNat_lt
    rw [List.getElem?_set_ne (by omega), List.getElem?_set_ne (by omega), List.getElem?_set_ne (by omega), List.getElem?_set_ne (by omega)]
    exact h2 d
  · rw [List.getElem?_set_ne (by omega), List.getElem?_set_ne (by omega), List.getElem?_set_ne (by omega), List.getElem?_set_ne (by omega)]
    exact h3
  · have hl : (ys ++ [c]).length = ys.length + 1 := by simp
    rw [hl] at hj ⊢
    rw [List.getElem?_set_ne (by omega)]
    rcases j with _ | j
    · rw [show 257 + ((nx + 1) % 64 + 63 - 0) % 64 = 257 + nx by omega, List.getElem?_set_self (by simp [h1]; omega)]
      simp [List.getD]
    · rw [show 257 + ((nx + 1) % 64 + 63 - (j + 1)) % 64 = 257 + (nx + 63 - j) % 64 by omega, List.getElem?_set_ne (by omega), List.getElem?_set_ne (by omega), List.getElem?_set_ne (by omega)]
      rw [h4 j (by omega) (by omega)]
      congr 2
      simp only [List.getD]
      rw [List.getElem?_append_left (by omega)]
      congr 2; omega
  · rw [List.getElem?_set_self (by simp [h1])]
  · rw [List.getElem?_set_ne (by omega), List.getElem?_set_ne (by omega), List.getElem?_set_self (by simp [h1]), hk]; simp
  · rw [List.getElem?_set_ne (by omega), List.getElem?_set_ne (by omega), List.getElem?_set_ne (by omega), List.getElem?_set_self (by simp [h1])]

theorem Pw.reset {T : UInt8 → Roll.W} {n nx : Nat} {ys : List UInt8} {L : List Value} (h : Pw T n nx ys L) : Pw T n nx [] ((L.set 322 (.int .i64 0)).set 323 (U 0)) := by
  obtain ⟨h1, h2, h3, h4, h5, h6, h7, h8⟩ := h
  refine ⟨by simp [h1], fun d => ?_, ?_, fun j hj hjn => absurd hj (by simp), ?_, h6, ?_, ?_⟩
  · have := d.toNat_lt
    rw [List.getElem?_set_ne (by omega), List.getElem?_set_ne (by omega)]
    exact h2 d
  · rw [List.getElem?_set_ne (by omega), List.getElem?_set_ne (by omega)]; exact h3
  · rw [List.getElem?_set_ne (by omega), List.getElem?_set_ne (by omega)]; exact h5
  · rw [List.getElem?_set_ne (by omega), List.getElem?_set_self (by simp [h1])]; simp
  · rw [List.getElem?_set_self (by simp [h1]), sum_last_nil]

/-- The byte that leaves a full window. -/
theorem Pw.oldest {T : UInt8 → Roll.W} {n nx : Nat} {ys : List UInt8} {L : List Value} (h : Pw T n nx ys L) (h1 : 1 ≤ n) (hn : n ≤ 64) (hf : n ≤ ys.length) :
    L[257 + (nx + 64 - n) % 64]? = some (B (ys.getD (ys.length - n) 0)) := by
  have := h.ring (n - 1) (by omega) (by omega)
  rw [show (nx + 63 - (n - 1)) % 64 = (nx + 64 - n) % 64 by omega, show ys.length - 1 - (n - 1) = ys.length - n by omega] at this
  exact this

/-- A table of 256 words as cells. -/
def tabL (T : UInt8 → Roll.W) : List Value := (List.range 256).map fun c => U (T (UInt8.ofNat c))
theorem tabL_len (T : UInt8 → Roll.W) : (tabL T).length = 256 := by simp [tabL]
theorem tabL_get (T : UInt8 → Roll.W) (c : UInt8) : (tabL T)[c.toNat]? = some (U (T c)) := by
  have := c.toNat_lt
  simp [tabL, this]
/-- A new window's cells. -/
def newL (T : UInt8 → Roll.W) (n : Nat) : List Value := tabL T ++ (.int .i64 (n : Int) :: (List.replicate 64 (B 0) ++ [.int .i64 0, .int .i64 0, U 0]))
theorem newL_pw (T : UInt8 → Roll.W) (n : Nat) : Pw T n 0 [] (newL T n) := by
  have hl := tabL_len T
  refine ⟨by simp [newL, hl], fun c => ?_, ?_, fun j hj => absurd hj (by simp), ?_, by omega, ?_, ?_⟩
  · unfold newL
    rw [List.getElem?_append_left (by rw [hl]; exact c.toNat_lt)]; exact tabL_get T c
  all_goals
    unfold newL
    rw [List.getElem?_append_right (by omega), hl]
    simp [List.getElem?_cons, List.getElem?_append, List.getElem?_replicate]
  rw [sum_last_nil]; rfl

/-- A window in block p. -/
def Win (w : World) (p : Nat) (T : UInt8 → Roll.W) (n : Nat) (ys : List UInt8) : Prop :=
  ∃ nx L, w.heap[p]? = some (.cells L.toArray 110 (0, 0)) ∧ Pw T n nx ys L
theorem Win.kept {S : List Nat} {w w' : World} {p n : Nat} {T : UInt8 → Roll.W} {ys : List UInt8} (h : Win w p T n ys) (hk : Kept S w w') (hS : p ∉ S) : Win w' p T n ys := by
  obtain ⟨nx, L, h1, h2⟩ := h
  exact ⟨nx, L, hk.at h1 hS, h2⟩
theorem Win.lt {w : World} {p n : Nat} {T : UInt8 → Roll.W} {ys : List UInt8} (h : Win w p T n ys) : p < w.heap.size := by
  obtain ⟨nx, L, h1, _⟩ := h
  exact lt_of_block h1
/-- A table in block p, from the cell o. -/
def Tb (w : World) (p o : Nat) (T : UInt8 → Roll.W) : Prop := ∀ c : UInt8, w.cell? ⟨p, o + c.toNat, none⟩ = some (U (T c))
theorem Tb.lt {w : World} {p o : Nat} {T : UInt8 → Roll.W} (h : Tb w p o T) : p < w.heap.size := World.block_lt_of_cell? w _ (h 0)
theorem Tb.kept {S : List Nat} {w w' : World} {p o : Nat} {T : UInt8 → Roll.W} (h : Tb w p o T) (hk : Kept S w w') (hS : p ∉ S) : Tb w' p o T := fun c =>
  (hk.cell (p := ⟨p, o + c.toNat, none⟩) h.lt hS).trans (h c)
theorem Pw.tb {w : World} {p n nx : Nat} {T : UInt8 → Roll.W} {ys : List UInt8} {L : List Value} (h : Pw T n nx ys L) (hh : w.heap[p]? = some (.cells L.toArray 110 (0, 0))) : Tb w p 0 T := fun c => by
  rw [cell_of_row w _ _ _ _ _ hh]
  simpa using h.tab c
end Go.Proofs.YtllcfffpagogbaaDoor
