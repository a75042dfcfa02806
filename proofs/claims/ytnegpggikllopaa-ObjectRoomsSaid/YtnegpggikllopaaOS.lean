
/- ObjectRooms: a store and a map of its texts, step by step. -/
import Derived.Test.YtnegpggikllopaaOR
namespace Go.Proofs.Ytnegpggikllopaa
open Go.RowKit Go.Lib Go.Maps Go.Sort

structure RS (w W : World) (p bx f b : Nat) (q : Int) (i : Nat) (es : List Ent) (U : List Nat) (fl : List Bool) (k : Nat) (left : Int) : Prop where
  ob : Ob W U p 68 [] q es (.pointer (some ⟨f, 0, none⟩)) fl k
  fu : FuV W U (.pointer (some ⟨f, 0, none⟩)) left
  mp : Mp W [b] (.map (some b)) (es.map texted)
  box : W.heap[bx]? = some (.cells #[.pointer (some ⟨p, 0, none⟩)] 26 (0, 0))
  bU : b ∉ U ∧ b ≠ f
  xU : bx ∉ U ∧ bx ≠ f ∧ bx ≠ b
  kept : Kept [] w W
  low : (∀ x ∈ U, w.heap.size ≤ x) ∧ w.heap.size ≤ f ∧ w.heap.size ≤ b
  sz : (sizeE es : Int) ≤ q
  sm : sizeE es ≤ 200 * i
  kk : k ≤ i
theorem Mp.blt' {w : World} {S : List Nat} {b : Nat} {es : List Ent} (h : Mp w S (.map (some b)) es) : b < w.heap.size := by
  rcases h with ⟨h, _⟩ | ⟨b', hb, h2, h3⟩
  · cases h
  · cases hb; exact h3.lt
theorem RS.keep {w W W' : World} {p bx f b : Nat} {q : Int} {i : Nat} {es : List Ent} {U : List Nat} {fl : List Bool} {k : Nat} {left : Int} (h : RS w W p bx f b q i es U fl k left) (hk : Kept [] W W') : RS w W' p bx f b q i es U fl k left :=
  ⟨h.ob.kept hk (by simp), h.fu.kept hk (by simp), h.mp.kept hk (by simp), hk.at h.box (by simp), h.bU, h.xU, h.kept.trans hk, h.low, h.sz, h.sm, h.kk⟩
theorem RS.more {w W : World} {p bx f b : Nat} {q : Int} {i : Nat} {es : List Ent} {U : List Nat} {fl : List Bool} {k : Nat} {left : Int} (h : RS w W p bx f b q i es U fl k left) : RS w W p bx f b q (i + 1) es U fl k left :=
  ⟨h.ob, h.fu, h.mp, h.box, h.bU, h.xU, h.kept, h.low, h.sz, by have := h.sm; omega, by have := h.kk; omega⟩
theorem RS.flt {w W : World} {p bx f b : Nat} {q : Int} {i : Nat} {es : List Ent} {U : List Nat} {fl : List Bool} {k : Nat} {left : Int} (h : RS w W p bx f b q i es U fl k left) : f < W.heap.size ∧ f ∉ U ∧ -1 ≤ left := by
  rcases h.fu with ⟨h1, _⟩ | ⟨g, hg, h2, h3, h4, _⟩
  · simp at h1
  · simp at hg; subst hg; exact ⟨lt_of_block h3, h2, h4⟩
theorem Rm.kept {W0 W W' : World} {U : List Nat} {p : Nat} {q : Int} {ef : Value → List Ent} {f : Nat} {fl : List Bool} {k : Nat} {left : Int} {eb : Nat} {er : Int} {T : List Nat} (h : Rm W0 U p q ef f fl k left eb er W) (hk : Kept T W W') (hT : ∀ x ∈ T, x ∉ U ∧ x < W0.heap.size ∧ x ≠ f ∧ x ≠ eb) : Rm W0 U p q ef f fl k left eb er W' := by
  obtain ⟨v', U', h1, h2, h3, h4⟩ := h
  refine ⟨v', U', h1, h2.kept hk (fun x hx hm => ?_), h3.kept hk (fun x hx hm => ?_), hk.at h4 (fun hm => (hT _ hm).2.2.2 rfl)⟩
  · have := hT x hm
    rcases h1 x hx with h | h
    · exact this.1 h
    · omega
  · simp [fuB] at hx
    exact (hT x hm).2.2.1 hx
section
variable {w W W' : World} {p bx f b : Nat} {q : Int} {i : Nat} {es : List Ent} {U U' : List Nat} {fl : List Bool} {k : Nat} {left : Int}
/-- The closure has come: the store is another; the map is not yet. -/
theorem RS.mid (h : RS w W p bx f b q i es U fl k left) {eb : Nat} (heb : W.heap.size ≤ eb) {W2 : World} (hW2 : Kept [] W W2) (hk : Kept (eb :: (U ++ [f])) W2 W') :
    Mp W' [b] (.map (some b)) (es.map texted) ∧ W'.heap[bx]? = some (.cells #[.pointer (some ⟨p, 0, none⟩)] 26 (0, 0)) ∧ Kept [] w W' := by
  have hb := h.mp.blt'
  have hx := lt_of_block h.box
  have h1 := h.keep hW2
  refine ⟨h1.mp.kept hk (fun x hx hm => ?_), hk.at h1.box (fun hm => ?_), h1.kept.trans' hk (fun x hx hm => ?_)⟩
  · simp at hx hm
    subst hx
    rcases hm with hm | hm | hm
    · omega
    · exact h.bU.1 hm
    · exact h.bU.2 hm
  · simp at hm
    rcases hm with hm | hm | hm
    · omega
    · exact h.xU.1 hm
    · exact h.xU.2.1 hm
  · simp at hm
    have := h.kept.size
    rcases hm with hm | hm | hm
    · omega
    · have := h.low.1 x hm; omega
    · have := h.low.2.1; omega
/-- The step is done. -/
theorem RS.up (h : RS w W p bx f b q i es U fl k left) {W2 : World} (hz : W.heap.size ≤ W2.heap.size) (hU : ∀ x ∈ U', x ∈ U ∨ W2.heap.size ≤ x) {es' : List Ent} (ho : Ob W' U' p 68 [] q es' (.pointer (some ⟨f, 0, none⟩)) (fl.drop 1) (k + 1)) (hf : FuV W' U' (.pointer (some ⟨f, 0, none⟩)) (decL left))
    (hm : Mp W' [b] (.map (some b)) (es'.map texted)) (hb : W'.heap[bx]? = some (.cells #[.pointer (some ⟨p, 0, none⟩)] 26 (0, 0))) (hk : Kept [] w W') (hs : (sizeE es' : Int) ≤ q) (hs2 : sizeE es' ≤ 200 * (i + 1)) :
    RS w W' p bx f b q (i + 1) es' U' (fl.drop 1) (k + 1) (decL left) := by
  have h1 := h.mp.blt'; have h2 := lt_of_block h.box
  refine ⟨ho, hf, hm, hb, ⟨fun hx => ?_, h.bU.2⟩, ⟨fun hx => ?_, h.xU.2⟩, hk, ⟨fun x hx => ?_, h.low.2⟩, hs, hs2, by have := h.kk; omega⟩
  · rcases hU _ hx with h3 | h3
    · exact h.bU.1 h3
    · omega
  · rcases hU _ hx with h3 | h3
    · exact h.xU.1 h3
    · omega
  · rcases hU _ hx with h3 | h3
    · exact h.low.1 x h3
    · have := h.kept.size; omega
theorem size_put_eq (x : Ent) {es : List Ent} (hr : Rising es) : (sizeE (putE x es) : Int) = (sizeE es : Int) - ((lookB x.name es).length : Int) + (x.b.length : Int) := by
  unfold putE
  rw [size_ins]
  have := (del_size hr x.name).1
  omega
theorem drop_same {fl : List Bool} {es : List Ent} {nm : List UInt8} (h : gotE fl es nm ≠ 0) : dropE fl es nm = es := by
  unfold gotE at h
  unfold dropE
  split
  · rename_i h0
    rw [if_pos h0] at h
    cases hf : findE nm es with
    | none => exact del_none hf
    | some e => rw [hf] at h; simp at h
  · rfl
theorem drop_del {fl : List Bool} {es : List Ent} {nm : List UInt8} (h : gotE fl es nm = 0) : dropE fl es nm = delE nm es := by
  unfold gotE at h
  unfold dropE
  split
  · rfl
  · rename_i h0
    rw [if_neg h0] at h
    exact absurd h h0
theorem drop_size (fl : List Bool) (es : List Ent) (nm : List UInt8) : sizeE (dropE fl es nm) ≤ sizeE es := by
  unfold dropE
  split
  · exact size_del_le nm es
  · exact Nat.le_refl _
end
theorem bytes_back2 (w : World) (a : Option Addr) (c : Nat) (l : List UInt8) (h : Src w (.slice a l.length c) l.length (l.map B)) : (convert 36 9 (.slice a l.length c)).run Try.prog w = .ok (.string (S l)) w := by
  cases l with
  | cons x r => exact bytes_back w a c (x :: r) (by simp) h
  | nil =>
    rcases h with ⟨h1, h2, _⟩ | ⟨ad, c', h1, hc⟩
    · rw [h1]
      rw [run_convert_bytes_string w _ _ 5 none 0 0 Try.underlying36 Try.underlying5 Try.underlying9]
      rfl
    · simp at h1
      obtain ⟨rfl, rfl⟩ := h1
      exact run_convert_bytes_back w _ _ 5 ad c [] Try.underlying36 Try.underlying5 Try.underlying9 (fun j hj => by simp at hj)
end Go.Proofs.Ytnegpggikllopaa
