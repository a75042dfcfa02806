
/- ObjectLists' helpers: a store, and a map of names to sizes beside it. -/
import Derived.Test.YtnegpggikllopaaOM
import Derived.Test.YtnegpggikllopaaOJ
namespace Go.Proofs.Ytnegpggikllopaa
open Go.RowKit Go.Lib Go.Maps Go.Sort

/-- A store, and a map of the sizes of what it has. -/
structure LS (w W : World) (p b i : Nat) (es : List Ent) (U : List Nat) : Prop where
  ob : Ob W U p 68 [] 1048576 es (.pointer none) [] i
  mp : Mp W [b] (.map (some b)) (es.map sized)
  bU : b ∉ U
  kept : Kept [] w W
  lowU : ∀ x ∈ U, w.heap.size ≤ x
  lowb : w.heap.size ≤ b
  sz : sizeE es ≤ 200 * i
  len : es.length ≤ i
theorem Mp.blt {w : World} {S : List Nat} {b : Nat} {es : List Ent} (h : Mp w S (.map (some b)) es) : b < w.heap.size ∧ b ∈ S := by
  rcases h with ⟨h, _⟩ | ⟨b', hb, h2, h3⟩
  · cases h
  · cases hb; exact ⟨h3.lt, h2⟩
theorem LS.keep {w W W' : World} {p b i : Nat} {es : List Ent} {U : List Nat} (h : LS w W p b i es U) (hk : Kept [] W W') : LS w W' p b i es U :=
  ⟨h.ob.kept hk (by simp), h.mp.kept hk (by simp), h.bU, h.kept.trans hk, h.lowU, h.lowb, h.sz, h.len⟩
section
variable {w W W' : World} {p b i : Nat} {es : List Ent} {U U' : List Nat}
theorem LS.mid (h : LS w W p b i es U) (hk : Kept U W W') : Mp W' [b] (.map (some b)) (es.map sized) ∧ Kept [] w W' :=
  ⟨h.mp.kept hk (fun x hx hm => by simp at hx; subst hx; exact h.bU hm), h.kept.trans' hk (fun x hx hm => by have := h.lowU x hm; omega)⟩
theorem LS.up (h : LS w W p b i es U) (hU : ∀ x ∈ U', x ∈ U ∨ W.heap.size ≤ x) : b ∉ U' ∧ ∀ x ∈ U', w.heap.size ≤ x := by
  refine ⟨fun hm => ?_, fun x hx => ?_⟩
  · rcases hU b hm with h1 | h1
    · exact h.bU h1
    · have := h.mp.blt.1; omega
  · rcases hU x hx with h1 | h1
    · exact h.lowU x h1
    · exact Nat.le_trans h.kept.size h1
theorem LS.same (h : LS w W p b i es U) (hk : Kept U W W') (hU : ∀ x ∈ U', x ∈ U ∨ W.heap.size ≤ x) (ho : Ob W' U' p 68 [] 1048576 es (.pointer none) [] (i + 1)) : LS w W' p b (i + 1) es U' :=
  ⟨ho, (h.mid hk).1, (h.up hU).1, (h.mid hk).2, (h.up hU).2, h.lowb, by have := h.sz; omega, by have := h.len; omega⟩
theorem LS.drop (h : LS w W p b i es U) (nm : List UInt8) (hnm : nm.length ≤ 100) (hk : Kept U W W') (ho : Ob W' U p 68 [] 1048576 (delE nm es) (.pointer none) [] (i + 1)) :
    ∃ W2, (∀ ty, (Builtin.delete_ #[56, 9] ty #[.map (some b), .string (S nm)]).run Try.prog W' = .ok (.tuple #[]) W2) ∧ LS w W2 p b (i + 1) (delE nm es) U := by
  obtain ⟨W2, h1, h2, h3⟩ := mi_drop (h.mid hk).1 nm (by omega)
  have h2' : Kept [b] W' W2 := h2
  refine ⟨W2, h1, ho.kept h2' (fun x hx hm => by simp at hm; subst hm; exact h.bU hx), by rw [← del_sized]; exact h3, h.bU, (h.mid hk).2.trans' h2' (fun x hx hm => by simp at hm; have := h.lowb; omega), h.lowU, h.lowb, ?_, ?_⟩
  · have := h.sz; have := size_del_le nm es; omega
  · have := h.len; have := len_del_le nm es; omega
theorem LS.put (h : LS w W p b i es U) (nm bs : List UInt8) (v' : Value) (hnm : nm.length ≤ 100) (hbs : bs.length ≤ 200) (hi : i ≤ 100) (hk : Kept U W W') (hU : ∀ x ∈ U', x ∈ U ∨ W.heap.size ≤ x) (ho : Ob W' U' p 68 [] 1048576 (putE ⟨nm, v', bs⟩ es) (.pointer none) [] (i + 1)) :
    ∃ W2, (Instr.mapUpdate 56 (.map (some b)) (.string (S nm)) (.int .i64 (bs.length : Int))).run Try.prog W' = .ok () W2 ∧ LS w W2 p b (i + 1) (putE ⟨nm, v', bs⟩ es) U' := by
  have hl := h.len
  obtain ⟨W2, h1, h2, h3⟩ := mi_put (h.mid hk).1 ⟨nm, .int .i64 (bs.length : Int), bs⟩ (by show nm.length ≤ _; omega) (by simp; omega)
  refine ⟨W2, h1, ho.kept h2 (fun x hx hm => by simp at hm; subst hm; exact (h.up hU).1 hx), ?_, (h.up hU).1, (h.mid hk).2.trans' h2 (fun x hx hm => by simp at hm; have := h.lowb; omega), (h.up hU).2, h.lowb, ?_, ?_⟩
  · rw [← put_sized]; exact h3
  · have := h.sz; have := size_put_le ⟨nm, v', bs⟩ es; simp at this; omega
  · have := len_put_le ⟨nm, v', bs⟩ es; omega
end
/-- How many names that begin so have come. -/
def CntI (w : World) (b r : Nat) (es : List Ent) (pre : List UInt8) (v : Value) (wr : World) : Prop :=
  ∃ left cnt ss, wr.ranges Try.prog 9 heldR b r es.length (DM es) left cnt ∧ Collected (DM es) left ss ∧ ss.length + cnt ≤ es.length ∧ Kept [] w wr ∧ v = .int .i64 ((ss.filter (fun x => Lib.hasPrefix x pre)).length : Int)
end Go.Proofs.Ytnegpggikllopaa
