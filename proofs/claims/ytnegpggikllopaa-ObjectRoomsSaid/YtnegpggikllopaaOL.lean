
/- coldstorelaw06's []Op, []bool as arguments: the handed row, opened to cells. -/
import Derived.Test.YtnegpggikllopaaOI
import Derived.Test.YtnegpggikllopaaRows
import Derived.ProofKit
import Derived.OpenShut
import Derived.Deep.Slices
namespace Go.Proofs.Ytnegpggikllopaa
open Go.ChangeShapes Go.WideShapes Go.ChangeAt Go.RowKit Go.Deep Go.Lib

section
variable {H : Type} {enc : TypeId × Value → H} {w : World} {base : Nat} {held : Bool}

theorem src_of_trod6 {fuel : Nat} {v : Value} {y : DataW H × List MemPlace} (h : DataW.trod enc Try.prog w base (fun _ => true) held fuel 36 [v] = some y) :
    ∃ a c, ∃ bs : List UInt8, v = .slice a bs.length c ∧ SrcB w (.slice a bs.length c) bs ∧ bs.length ≤ 9223372036854775807 := by
  rcases open_ints Try.underlying36 Try.underlying5 (by kernel_rfl) h with ⟨hcs, _⟩ | ⟨x, l, c, zs, hcs, _, hl, hm, hz, _, hcell, hwz⟩
  · simp at hcs
    subst hcs
    exact ⟨none, 0, [], rfl, Or.inl ⟨rfl, rfl, rfl⟩, by simp⟩
  · simp at hcs
    subst hcs
    obtain ⟨bs, hbl, hs, h2⟩ := src_of_args (Or.inr ⟨x, rfl, hl, hm, by simpa using hz, hcell, hwz⟩)
    subst hbl
    exact ⟨some x, c, bs, rfl, hs, h2⟩

theorem list_of6 {α : Type} {p : Nat → α → Prop} : ∀ n, (∀ i, i < n → ∃ o, p i o) → ∃ ops : List α, ops.length = n ∧ ∀ i o, ops[i]? = some o → p i o
  | 0, _ => ⟨[], rfl, fun i o ho => by simp at ho⟩
  | n + 1, h => by
    obtain ⟨ops, hl, hp⟩ := list_of6 n (fun i hi => h i (by omega))
    obtain ⟨o, ho⟩ := h n (by omega)
    refine ⟨ops ++ [o], by simp [hl], fun i o' hi => ?_⟩
    rcases Nat.lt_or_ge i ops.length with h1 | h1
    · rw [List.getElem?_append_left h1] at hi
      exact hp i o' hi
    · rw [List.getElem?_append_right h1] at hi
      have h2 : i - ops.length = 0 := by
        rcases Nat.eq_zero_or_pos (i - ops.length) with h2 | h2
        · exact h2
        · rw [List.getElem?_eq_none (by simp; omega)] at hi; simp at hi
      rw [h2] at hi
      simp at hi
      subst hi
      have : i = n := by omega
      exact this ▸ ho

set_option maxRecDepth 100000 in
theorem open_steps {fuel : Nat} {a : Option Addr} {len cap : Nat} {y : DataW H × List MemPlace} (h : DataW.trod enc Try.prog w base (fun _ => true) held fuel 23 [.slice a len cap] = some y) :
    ∃ ops : List OpO, ops.length = len ∧ IsSteps w a ops ∧ len ≤ 9223372036854775807 := by
  have hC : Try.prog.cellsOf 38 = 3 := by kernel_rfl
  rcases open_slice Try.underlying23 h with ⟨hcs, _⟩ | ⟨x, l, c, m, n, D, Pl, hcs, hb, hl, hm, hmm, _, hi⟩
  · simp at hcs
    obtain ⟨rfl, rfl, rfl⟩ := hcs
    exact ⟨[], rfl, ⟨fun _ => rfl, fun x hx => by simp at hx⟩, by omega⟩
  · simp at hcs
    obtain ⟨rfl, rfl, rfl⟩ := hcs
    obtain ⟨ops, hol, hops⟩ := list_of6 (p := fun i (o : OpO) => w.cell? (x.add (i * 3)) = some (.int .i64 o.kind) ∧ w.cell? ⟨(x.add (i * 3)).block, (x.add (i * 3)).off + 1, none⟩ = some (.string (S o.nm)) ∧
      w.cell? ⟨(x.add (i * 3)).block, (x.add (i * 3)).off + 2, none⟩ = some (.slice o.ba o.bs.length o.bc) ∧ SrcB w (.slice o.ba o.bs.length o.bc) o.bs ∧ o.nm.length ≤ 9223372036854775807 ∧ o.bs.length ≤ 9223372036854775807) len (fun i hil => by
      obtain ⟨cs, hc, ht⟩ := hi i (by simp at hmm; omega)
      rw [hC] at hc
      obtain ⟨_, hcl, hat⟩ := World.cells?_some hc
      obtain ⟨xs, n', _, _, _, hxl, hf⟩ := DataW.trod_struct Try.underlying38 ht
      match cs, hcl with
      | [v0, v1, v2], _ =>
        have c0 := hat 0 (by omega)
        have c1 := hat 1 (by omega)
        have c2 := hat 2 (by omega)
        have k0 : Try.prog.cellsOf 3 = 1 := by kernel_rfl
        have k1 : Try.prog.cellsOf 9 = 1 := by kernel_rfl
        have k2 : Try.prog.cellsOf 36 = 1 := by kernel_rfl
        have f0 := hf 0 _ rfl
        have f1 := hf 1 _ rfl
        have f2 := hf 2 _ rfl
        simp [k0, k1, k2] at f0 f1 f2 hxl c0 c1 c2
        obtain ⟨z0, e0, _, _⟩ := DataW.trod_int Try.underlying3 (f0.trans (List.getElem?_eq_getElem (show 0 < xs.length by omega)))
        obtain ⟨s1, e1, _, hs1⟩ := DataW.trod_string Try.underlying9 (f1.trans (List.getElem?_eq_getElem (show 1 < xs.length by omega)))
        obtain ⟨ba, bc, bs, rfl, hs, hbl⟩ := src_of_trod6 (f2.trans (List.getElem?_eq_getElem (show 2 < xs.length by omega)))
        simp at e0 e1
        subst e0 e1
        have hx0 : x.add (i * 3) = (x.add (i * 3)).add 0 := by unfold Addr.add; simp
        refine ⟨⟨z0, s1.data.toList, ba, bc, bs⟩, by rw [hx0]; exact c0, c1, c2, hs, ?_, hbl⟩
        show s1.data.toList.length ≤ _
        have : s1.data.toList.length = s1.size := by simp
        unfold maxLen at hs1
        omega)
    exact ⟨ops, hol, ⟨fun h => by simp at h, fun y hy i o ho => by simp at hy; subst hy; exact hops i o ho⟩, by unfold maxLen at hm; omega⟩
end
end Go.Proofs.Ytnegpggikllopaa
