import Derived.Test.YtkabfdclecbnpaaJ0
import Derived.Test.YtkabfdclecbnpaaJ9
import Derived.Lib.LaidTab
import Derived.OpenShut
import Derived.Deep.Slices

/- A list of snapshots as an argument, opened to its cells. -/
namespace Go.Proofs.Ytkabfdclecbnpaa
open Go.RowKit Go.ChangeShapes Go.WideShapes Go.ChangeAt Go.Deep Go.Lib

theorem snap_add_add (x : Addr) (i j : Nat) : (x.add i).add j = x.add (i + j) := by
  unfold Addr.add
  by_cases h1 : i = 0
  · simp [h1]
  · by_cases h2 : j = 0
    · simp [h1, h2]
    · simp [h1, h2, Nat.add_assoc]

section
variable {H : Type} {enc : TypeId × Value → H} {w : World} {base : Nat} {held : Bool}
set_option maxRecDepth 100000 in
theorem snap_of_trod {fuel : Nat} {cs : List Value} {y : DataW H × List MemPlace} (h : DataW.trod enc Try.prog w base (fun _ => true) held fuel 42 cs = some y) :
    ∃ s : Sp, cs = s.cells ∧ s.ok := by
  have k0 : Try.prog.cellsOf 2 = 1 := by kernel_rfl
  have k1 : Try.prog.cellsOf 9 = 1 := by kernel_rfl
  have k3 : Try.prog.cellsOf 40 = 32 := by kernel_rfl
  have k4 : Try.prog.cellsOf 3 = 1 := by kernel_rfl
  obtain ⟨xs, n', _, _, hcl, hxl, hf⟩ := DataW.trod_struct Try.underlying42 h
  have f0 : DataW.trod enc Try.prog w base (fun _ => true) held n' 2 ((cs.drop 0).take (Try.prog.cellsOf 2)) = xs[0]? := hf 0 _ rfl
  rw [k0] at f0
  have f1 : DataW.trod enc Try.prog w base (fun _ => true) held n' 9 ((cs.drop 1).take (Try.prog.cellsOf 9)) = xs[1]? := hf 1 _ rfl
  rw [k1] at f1
  have f2 : DataW.trod enc Try.prog w base (fun _ => true) held n' 9 ((cs.drop 2).take (Try.prog.cellsOf 9)) = xs[2]? := hf 2 _ rfl
  rw [k1] at f2
  have f3 : DataW.trod enc Try.prog w base (fun _ => true) held n' 40 ((cs.drop 3).take (Try.prog.cellsOf 40)) = xs[3]? := hf 3 _ rfl
  rw [k3] at f3
  have f4 : DataW.trod enc Try.prog w base (fun _ => true) held n' 3 ((cs.drop 35).take (Try.prog.cellsOf 3)) = xs[4]? := hf 4 _ rfl
  rw [k4] at f4
  have f5 : DataW.trod enc Try.prog w base (fun _ => true) held n' 2 ((cs.drop 36).take (Try.prog.cellsOf 2)) = xs[5]? := hf 5 _ rfl
  rw [k0] at f5
  have hx6 : xs.length = 6 := by simpa using hxl
  obtain ⟨z0, e0, _, w0⟩ := DataW.trod_int Try.underlying2 (f0.trans (List.getElem?_eq_getElem (show 0 < xs.length by omega)))
  obtain ⟨s1, e1, _⟩ := DataW.trod_string Try.underlying9 (f1.trans (List.getElem?_eq_getElem (show 1 < xs.length by omega)))
  obtain ⟨s2, e2, _⟩ := DataW.trod_string Try.underlying9 (f2.trans (List.getElem?_eq_getElem (show 2 < xs.length by omega)))
  obtain ⟨id, hidl, e3⟩ := id_of_trod (f3.trans (List.getElem?_eq_getElem (show 3 < xs.length by omega)))
  obtain ⟨z4, e4, _, w4⟩ := DataW.trod_int Try.underlying3 (f4.trans (List.getElem?_eq_getElem (show 4 < xs.length by omega)))
  obtain ⟨z5, e5, _, w5⟩ := DataW.trod_int Try.underlying2 (f5.trans (List.getElem?_eq_getElem (show 5 < xs.length by omega)))
  have b0 := bounds_i64 w0; have b4 := bounds_i64 w4; have b5 := bounds_i64 w5
  refine ⟨⟨z0, s1.data.toList, s2.data.toList, id, z4, z5⟩, ?_, ⟨hidl, by show _ ≤ z0; omega, by show z0 ≤ _; omega, by show _ ≤ z4; omega, by show z4 ≤ _; omega, by show _ ≤ z5; omega, by show z5 ≤ _; omega⟩⟩
  have hl37 : cs.length = 37 := by
    have hc : Try.prog.cellsOf 42 = 37 := by kernel_rfl
    simpa [hc] using hcl
  have hcat : cs = ((cs.drop 0).take 1 ++ (cs.drop 1).take 1 ++ (cs.drop 2).take 1) ++ (cs.drop 3).take 32 ++ ((cs.drop 35).take 1 ++ (cs.drop 36).take 1) := by
    have d : ∀ a n, cs.drop a = (cs.drop a).take n ++ cs.drop (a + n) := fun a n => by rw [← List.drop_drop]; exact (List.take_append_drop n _).symm
    have h1 := d 0 1; have h2 := d 1 1; have h3 := d 2 1; have h4 := d 3 32; have h5 := d 35 1; have h6 := d 36 1
    have h7 : cs.drop 37 = [] := List.drop_eq_nil_of_le (by omega)
    rw [List.drop_zero] at h1 ⊢
    conv => lhs; rw [h1, h2, h3, h4, h5, h6, h7]
    simp
  have hfin : cs = (Sp.mk z0 s1.data.toList s2.data.toList id z4 z5).cells := by
    rw [hcat, e0, e1, e2, e3, e4, e5]; rfl
  exact hfin

set_option maxRecDepth 100000 in
theorem snaps_of_trod {fuel : Nat} {v : Value} {y : DataW H × List MemPlace} (h : DataW.trod enc Try.prog w base (fun _ => true) held fuel 22 [v] = some y) :
    ∃ a c xs, v = .slice a xs.length c ∧ Snaps w a c xs := by
  have hC : Try.prog.cellsOf 42 = 37 := by kernel_rfl
  rcases open_slice Try.underlying22 h with ⟨hcs, _⟩ | ⟨x, l, c, m, n, D, Pl, hcs, hb, hl, hm, hmm, _, hi⟩
  · simp at hcs
    subst hcs
    exact ⟨none, 0, [], rfl, by simp, by omega, fun _ => ⟨rfl, rfl⟩, fun x hx => by simp at hx⟩
  · simp at hcs
    subst hcs
    obtain ⟨xs, hil, hns⟩ := nlist_of (p := fun i (s : Sq) => ∀ j v, (encQ s)[j]? = some v → w.cell? (x.add (i * 37 + j)) = some v) l (fun i hil => by
      obtain ⟨cs, hc, ht⟩ := hi i (by simp at hmm; omega)
      rw [hC] at hc
      obtain ⟨_, hcl, hat⟩ := World.cells?_some hc
      obtain ⟨s, rfl, ok⟩ := snap_of_trod ht
      refine ⟨⟨s, ok⟩, fun j v hj => ?_⟩
      have hj37 : j < 37 := by have := (List.getElem?_eq_some_iff.1 hj).1; rw [encQ_len] at this; exact this
      have := hat j hj37
      rw [snap_add_add] at this
      rw [this]; exact hj)
    subst hil
    exact ⟨some x, c, xs, rfl, hl, by unfold maxLen at hm; omega, fun h => by simp at h, fun z hz i s hs => by simp at hz; subst hz; exact hns i s hs⟩
end
end Go.Proofs.Ytkabfdclecbnpaa
