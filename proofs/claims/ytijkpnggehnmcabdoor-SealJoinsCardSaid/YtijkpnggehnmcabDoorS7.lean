/- seal.Unchain's closure: words and small lemmas. -/
import Derived.Test.YtijkpnggehnmcabDoorS6
namespace Go.Proofs.YtijkpnggehnmcabDoor
open Go.RowKit Go.Lib

/-- A slice of bytes, wherever it lies, with its capacity. -/
structure BSl (w : World) (a : Option Addr) (c : Nat) (xs : List UInt8) : Prop where
  src : SrcB w (.slice a xs.length c) xs
  le : xs.length ≤ c
  max : c ≤ maxLen
  nil : a = none → c = 0

theorem BSl.drop {w : World} {a : Option Addr} {c : Nat} {xs : List UInt8} (h : BSl w a c xs) {m : Nat} (hm : m ≤ xs.length) : BSl w (behind a c m) (c - m) (xs.drop m) := by
  have hle := h.le
  have hmx := h.max
  refine ⟨?_, by simp; omega, by omega, fun hb => ?_⟩
  · rcases h.src with ⟨h1, h2, h3⟩ | ⟨x, c', h1, hc⟩
    · have hx : xs = [] := List.eq_nil_of_length_eq_zero h2
      subst hx
      simp at h1 hm
      obtain ⟨rfl, rfl⟩ := h1
      subst hm
      exact Or.inl ⟨by simp [behind], by simp, by simp⟩
    · simp at h1
      obtain ⟨rfl, rfl⟩ := h1
      by_cases hcm : c = m
      · have e : xs.drop m = [] := List.drop_eq_nil_of_le (by omega)
        rw [e]
        exact Or.inr ⟨x, c - m, by simp [behind, hcm], fun j u hj => by simp at hj⟩
      · refine Or.inr ⟨x.add m, c - m, by simp [behind, hcm], fun j u hj => ?_⟩
        rw [add_add]
        refine hc (m + j) u ?_
        rw [List.getElem?_map] at hj ⊢
        rw [List.getElem?_drop] at hj
        exact hj
  · unfold behind at hb
    split at hb
    · omega
    · cases a with
      | none => have := h.nil rfl; omega
      | some x => simp at hb

theorem BSl.take {w : World} {a : Option Addr} {c : Nat} {xs : List UInt8} (h : BSl w a c xs) {m : Nat} (hm : m ≤ xs.length) : SrcB w (.slice a m c) (xs.take m) := by
  have hl : (xs.take m).length = m := by simp; omega
  by_cases hx : xs = []
  · subst hx
    simp at hm
    subst hm
    exact h.src
  · have := h.src.take hm hx
    rwa [hl] at this

/-- Slice values that read as rows of bytes, in blocks that P says. -/
def RowsAt (P : Nat → Prop) (W : World) (vals : List Value) (rows : List (List UInt8)) : Prop :=
  vals.length = rows.length ∧ ∀ (i : Nat) (r : List UInt8), rows[i]? = some r → ∃ a c, vals[i]? = some (Value.slice a r.length c) ∧ Bys W a c r ∧ ∀ x, a = some x → P x.block

theorem RowsAt.nil (P : Nat → Prop) (W : World) : RowsAt P W [] [] := ⟨rfl, fun i r h => by simp at h⟩
theorem RowsAt.kept {P : Nat → Prop} {S : List Nat} {W W' : World} {vals : List Value} {rows : List (List UInt8)} (h : RowsAt P W vals rows) (hk : Kept S W W') (hS : ∀ x ∈ S, ¬ P x) : RowsAt P W' vals rows :=
  ⟨h.1, fun i r hi => by
    obtain ⟨a, c, h1, h2, h3⟩ := h.2 i r hi
    exact ⟨a, c, h1, h2.kept hk (fun x hx hm => hS _ hm (h3 x hx)), h3⟩⟩
theorem RowsAt.err {P : Nat → Prop} {x : Nat} {W W' : World} {vals : List Value} {rows : List (List UInt8)} (h : RowsAt P W vals rows) (he : ErrAt W x) (hk : Kept [x] W W') : RowsAt P W' vals rows :=
  ⟨h.1, fun i r hi => by
    obtain ⟨a, c, h1, h2, h3⟩ := h.2 i r hi
    exact ⟨a, c, h1, h2.err he hk, h3⟩⟩
theorem RowsAt.weak {P Q : Nat → Prop} {W : World} {vals : List Value} {rows : List (List UInt8)} (h : RowsAt P W vals rows) (hPQ : ∀ k, P k → Q k) : RowsAt Q W vals rows :=
  ⟨h.1, fun i r hi => by
    obtain ⟨a, c, h1, h2, h3⟩ := h.2 i r hi
    exact ⟨a, c, h1, h2, fun x hx => hPQ _ (h3 x hx)⟩⟩
theorem RowsAt.snoc {P : Nat → Prop} {W : World} {vals : List Value} {rows : List (List UInt8)} (h : RowsAt P W vals rows) {a : Option Addr} {c : Nat} {r : List UInt8} (hb : Bys W a c r) (hx : ∀ x, a = some x → P x.block) : RowsAt P W (vals ++ [Value.slice a r.length c]) (rows ++ [r]) := by
  refine ⟨by simp [h.1], fun i r' hi => ?_⟩
  rcases Nat.lt_or_ge i rows.length with h1 | h1
  · rw [List.getElem?_append_left h1] at hi
    obtain ⟨a', c', h2, h3⟩ := h.2 i r' hi
    exact ⟨a', c', by rw [List.getElem?_append_left (by rw [h.1]; exact h1)]; exact h2, h3⟩
  · rw [List.getElem?_append_right h1] at hi
    have h0 : i - rows.length = 0 := by
      rcases Nat.eq_zero_or_pos (i - rows.length) with h2 | h2
      · exact h2
      · rw [List.getElem?_eq_none (by simp; omega)] at hi; simp at hi
    rw [h0] at hi
    simp at hi
    subst hi
    exact ⟨a, c, by rw [List.getElem?_append_right (by rw [h.1]; exact h1), h.1, h0]; rfl, hb, hx⟩

theorem owns_err {W W' : World} {base n x : Nat} {v : Value} {vals : List Value} (h : W.ownsRow base 22 1 v n vals) (he : ErrAt W x) (hk : Kept [x] W W') : W'.ownsRow base 22 1 v n vals := by
  refine hk.owns h (fun g hg hm => ?_)
  simp at hm
  subst hm
  obtain ⟨k, hk'⟩ := he
  rcases h.2 with ⟨rfl, _⟩ | ⟨g', cap, cur, rfl, _, hh, _⟩
  · simp [Value.ownBlock] at hg
  · simp [Value.ownBlock] at hg
    subst hg
    rw [hh] at hk'
    simp at hk'

/-- Behind the reading: the rows that were whole, and what is left. -/
def UcQ (w0 : World) (pr pl : Nat) (xs0 : List UInt8) (W' : World) : Prop :=
  ∃ rows rest, Unch xs0 rows rest ∧ (∃ ar cr, W'.heap[pr]? = some (.cells #[.slice ar rest.length cr] 22 (0, 0)) ∧ ∀ W, Kept [] w0 W → BSl W ar cr rest) ∧
    ∃ v vals, W'.heap[pl]? = some (.cells #[v] 35 (0, 0)) ∧ W'.ownsRow (w0.heap.size) 22 1 v rows.length vals ∧ (∀ g, v.ownBlock = some g → g ≠ pr ∧ g ≠ pl) ∧ RowsAt (w0.heap.size ≤ ·) W' vals rows

/-- Blocks that were made since w0, ahead of W, and are none of three. -/
def Mid (w0 W : World) (rb pr pl : Nat) (k : Nat) : Prop := w0.heap.size ≤ k ∧ k ∉ [rb, pr, pl] ∧ k < W.heap.size
/-- What is had when xs are still to be read. -/
def UcSt (w0 W : World) (rb pr pl : Nat) (xs0 xs : List UInt8) (wr : World) : Prop :=
  ∃ done, 8 * done.length + xs.length ≤ xs0.length ∧ (∀ rows rest, Unch xs rows rest → Unch xs0 (done ++ rows) rest) ∧
    (∃ ar cr, wr.heap[pr]? = some (.cells #[.slice ar xs.length cr] 22 (0, 0)) ∧ ∀ W', Kept [] w0 W' → BSl W' ar cr xs) ∧
    ∃ v vals, wr.heap[pl]? = some (.cells #[v] 35 (0, 0)) ∧ wr.ownsRow W.heap.size 22 1 v done.length vals ∧ RowsAt (Mid w0 W rb pr pl) wr vals done
/-- Where the loop stands: xs are still to be read. -/
def UcAt (w0 W : World) (rb pr pl : Nat) (a : Option Addr) (xs0 xs : List UInt8) (wr : World) : Prop :=
  ∃ a1 c1, Kept [rb, pr, pl] W wr ∧ Rd wr rb a1 c1 xs ∧ (∀ x, a1 = some x → ∃ y, a = some y ∧ x.block = y.block) ∧ UcSt w0 W rb pr pl xs0 xs wr

theorem own_block_ge {w' : World} {base b : Nat} {v : Value} {n : Nat} {xs : List Value} (h : w'.ownsRow base b 1 v n xs) : ∀ g, v.ownBlock = some g → base ≤ g ∧ g < w'.heap.size := by
  intro g hg
  rcases h.2 with ⟨rfl, _⟩ | ⟨g', cap, cur, rfl, hb, hh, _⟩
  · simp [Value.ownBlock] at hg
  · simp [Value.ownBlock] at hg
    subst hg
    exact ⟨hb, lt_of_block hh⟩

theorem UcSt.kept {w0 W wr w' : World} {rb pr pl : Nat} {xs0 xs : List UInt8} (h : UcSt w0 W rb pr pl xs0 xs wr) (hrb : rb < W.heap.size) (hne : pr ≠ rb ∧ pl ≠ rb) (hk : Kept [rb] wr w') : UcSt w0 W rb pr pl xs0 xs w' := by
  obtain ⟨done, h1, h2, ⟨ar, cr, h3, h4⟩, v, vals, h5, h6, h7⟩ := h
  exact ⟨done, h1, h2, ⟨ar, cr, hk.at h3 (by simpa using hne.1), h4⟩, v, vals, hk.at h5 (by simpa using hne.2), hk.owns h6 (fun g hg => by have := (own_block_ge h6 g hg).1; simp; omega), h7.kept hk (fun x hx hp => by simp at hx; subst hx; exact hp.2.1 (by simp))⟩

theorem UcSt.stop {w0 W wr : World} {rb pr pl : Nat} {xs0 xs : List UInt8} (hW : w0.heap.size ≤ W.heap.size) (hp : pr < W.heap.size ∧ pl < W.heap.size) (h : UcSt w0 W rb pr pl xs0 xs wr) (hs : row1 xs = none) :
    UcQ w0 pr pl xs0 wr := by
  obtain ⟨done, _, hun, ⟨ar, cr, h1, h2⟩, v, vals, h3, h4, h5⟩ := h
  have hu := hun [] xs (Unch.stop xs hs)
  rw [List.append_nil] at hu
  refine ⟨done, xs, hu, ⟨ar, cr, h1, h2⟩, v, vals, h3, ⟨h4.1, h4.2.imp id fun ⟨g, cap, cur, k1, k2, k3⟩ => ⟨g, cap, cur, k1, Nat.le_trans hW k2, k3⟩⟩, fun g hg => ?_, h5.weak fun k hk => hk.1⟩
  have := (own_block_ge h4 g hg).1; omega

theorem row1_err (xs : List UInt8) (h : ¬ 8 + said xs ≤ xs.length) : row1 xs = none := by
  unfold row1
  rw [if_neg (fun hh => h hh.1)]
theorem fieldErr_ok (xs : List UInt8) (h : 4 + said xs ≤ xs.length) : fieldErr xs xs.length = 0 := by
  unfold fieldErr
  rw [if_neg (by omega), if_neg (by omega), if_neg (by omega)]

/-- A row more. -/
theorem UcSt.more {w0 W w' : World} {rb pr pl : Nat} {xs0 xs : List UInt8} {r : List UInt8} (h : row1 xs = some r) {done : List (List UInt8)} (hdl : 8 * done.length + xs.length ≤ xs0.length) (hun : ∀ rows rest, Unch xs rows rest → Unch xs0 (done ++ rows) rest)
    {ar : Option Addr} {cr : Nat} (hpr : w'.heap[pr]? = some (.cells #[.slice (behind ar cr (8 + said xs)) (xs.length - (8 + said xs)) (cr - (8 + said xs))] 22 (0, 0))) (hb : ∀ W', Kept [] w0 W' → BSl W' ar cr xs)
    {v : Value} {vals : List Value} (hpl : w'.heap[pl]? = some (.cells #[v] 35 (0, 0))) (hown : w'.ownsRow W.heap.size 22 1 v (done.length + 1) vals) (hrows : RowsAt (Mid w0 W rb pr pl) w' vals (done ++ [r])) :
    UcSt w0 W rb pr pl xs0 (xs.drop (8 + said xs)) w' := by
  have h8 : 8 + said xs ≤ xs.length := by
    rcases Nat.lt_or_ge xs.length (8 + said xs) with hl | hl
    · rw [row1_err xs (by omega)] at h; simp at h
    · exact hl
  refine ⟨done ++ [r], by simp; omega, fun rows rest hu => ?_, ⟨_, _, by rw [List.length_drop]; exact hpr, fun W' hk => (hb W' hk).drop h8⟩, v, vals, hpl, by simpa using hown, hrows⟩
  rw [List.append_assoc]
  exact hun _ _ (Unch.more xs r rows rest h hu)
end Go.Proofs.YtijkpnggehnmcabDoor
