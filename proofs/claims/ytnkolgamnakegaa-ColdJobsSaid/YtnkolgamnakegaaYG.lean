
/- coldstorelaw07's []Op, In as arguments: what was handed, opened to cells. -/
import Derived.Test.YtnkolgamnakegaaYF
import Derived.Test.YtnkolgamnakegaaRows
import Derived.ProofKit
import Derived.OpenShut
import Derived.Deep.Slices
namespace Go.Proofs.Ytnkolgamnakegaa
open Go.ChangeShapes Go.WideShapes Go.ChangeAt Go.RowKit Go.Deep Go.Lib

section
variable {H : Type} {enc : TypeId × Value → H} {w : World} {base : Nat} {held : Bool}

theorem src_of_trod7 {fuel : Nat} {v : Value} {y : DataW H × List MemPlace} (h : DataW.trod enc Try.prog w base (fun _ => true) held fuel 36 [v] = some y) :
    ∃ a c, ∃ bs : List UInt8, v = .slice a bs.length c ∧ SrcB w (.slice a bs.length c) bs ∧ bs.length ≤ 9223372036854775807 := by
  rcases open_ints Try.underlying36 Try.underlying5 (by kernel_rfl) h with ⟨hcs, _⟩ | ⟨x, l, c, zs, hcs, _, hl, hm, hz, _, hcell, hwz⟩
  · simp at hcs
    subst hcs
    exact ⟨none, 0, [], rfl, Or.inl ⟨rfl, rfl, rfl⟩, by simp⟩
  · simp at hcs
    subst hcs
    obtain ⟨bs, hbl, hs, h2⟩ := src_of_args_c (Or.inr ⟨x, rfl, hl, hm, by simpa using hz, hcell, hwz⟩)
    subst hbl
    exact ⟨some x, c, bs, rfl, hs, h2⟩

theorem list_of7 {α : Type} {p : Nat → α → Prop} : ∀ n, (∀ i, i < n → ∃ o, p i o) → ∃ ops : List α, ops.length = n ∧ ∀ i o, ops[i]? = some o → p i o
  | 0, _ => ⟨[], rfl, fun i o ho => by simp at ho⟩
  | n + 1, h => by
    obtain ⟨ops, hl, hp⟩ := list_of7 n (fun i hi => h i (by omega))
    obtain ⟨o, ho⟩ := h n (by omega)
    refine ⟨ops ++ [o], by simp [hl], fun i o' hi => ?_⟩
    rcases Nat.lt_or_ge i ops.length with h1 | h1
    · rw [List.getElem?_append_left h1] at hi
      exact hp i o' hi
    · rw [List.getElem?_append_right h1] at hi
      have h2 : i - ops.length = 0 := by
        rcases Nat.eq_zero_or_pos (i - ops.length) with h2 | h2
        · exact h2
        · rw [List.getElem?_eq_none (by simp; omega)] at hi; simp at hi
      rw [h2] at hi
      simp at hi
      subst hi
      have : i = n := by omega
      exact this ▸ ho


set_option maxRecDepth 100000 in
set_option maxHeartbeats 2000000 in
theorem open_steps_c {fuel : Nat} {a : Option Addr} {len cap : Nat} {y : DataW H × List MemPlace} (h : DataW.trod enc Try.prog w base (fun _ => true) held fuel 51 [.slice a len cap] = some y) :
    ∃ ops : List OpC, ops.length = len ∧ IsStepsC w a ops ∧ len ≤ 9223372036854775807 := by
  have hC : Try.prog.cellsOf 65 = 6 := by kernel_rfl
  rcases open_slice Try.underlying51 h with ⟨hcs, _⟩ | ⟨x, l, c, m, n, D, Pl, hcs, hb, hl, hm, hmm, _, hi⟩
  · simp at hcs
    obtain ⟨rfl, rfl, rfl⟩ := hcs
    exact ⟨[], rfl, ⟨fun _ => rfl, fun x hx => by simp at hx⟩, by omega⟩
  · simp at hcs
    obtain ⟨rfl, rfl, rfl⟩ := hcs
    obtain ⟨ops, hol, hops⟩ := list_of7 (p := fun i (o : OpC) => w.cell? (x.add (i * 6)) = some (.int .i64 o.kind) ∧ w.cell? ⟨(x.add (i * 6)).block, (x.add (i * 6)).off + 1, none⟩ = some (.string (S o.nm)) ∧
    w.cell? ⟨(x.add (i * 6)).block, (x.add (i * 6)).off + 2, none⟩ = some (.slice o.ba o.bs.length o.bc) ∧ w.cell? ⟨(x.add (i * 6)).block, (x.add (i * 6)).off + 3, none⟩ = some (.int .i64 o.now) ∧
    w.cell? ⟨(x.add (i * 6)).block, (x.add (i * 6)).off + 4, none⟩ = some (.int .i64 o.wait) ∧ w.cell? ⟨(x.add (i * 6)).block, (x.add (i * 6)).off + 5, none⟩ = some (.bool o.force) ∧
    SrcB w (.slice o.ba o.bs.length o.bc) o.bs ∧ o.nm.length ≤ 9223372036854775807 ∧ o.bs.length ≤ 9223372036854775807 ∧
    (-9223372036854775808 ≤ o.now ∧ o.now ≤ 9223372036854775807) ∧ (-9223372036854775808 ≤ o.wait ∧ o.wait ≤ 9223372036854775807)) len (fun i hil => by
      obtain ⟨cs, hc, ht⟩ := hi i (by simp at hmm; omega)
      rw [hC] at hc
      obtain ⟨_, hcl, hat⟩ := World.cells?_some hc
      obtain ⟨xs, n', _, _, _, hxl, hf⟩ := DataW.trod_struct Try.underlying65 ht
      match cs, hcl with
      | [v0, v1, v2, v3, v4, v5], _ =>
        have c0 := hat 0 (by omega)
        have c1 := hat 1 (by omega)
        have c2 := hat 2 (by omega)
        have c3 := hat 3 (by omega)
        have c4 := hat 4 (by omega)
        have c5 := hat 5 (by omega)
        have k0 : Try.prog.cellsOf 3 = 1 := by kernel_rfl
        have k1 : Try.prog.cellsOf 9 = 1 := by kernel_rfl
        have k2 : Try.prog.cellsOf 36 = 1 := by kernel_rfl
        have k3 : Try.prog.cellsOf 2 = 1 := by kernel_rfl
        have k4 : Try.prog.cellsOf 4 = 1 := by kernel_rfl
        have f0 := hf 0 _ rfl
        have f1 := hf 1 _ rfl
        have f2 := hf 2 _ rfl
        have f3 := hf 3 _ rfl
        have f4 := hf 4 _ rfl
        have f5 := hf 5 _ rfl
        simp [k0, k1, k2, k3, k4] at f0 f1 f2 f3 f4 f5 hxl c0 c1 c2 c3 c4 c5
        obtain ⟨z0, e0, _, _⟩ := DataW.trod_int Try.underlying3 (f0.trans (List.getElem?_eq_getElem (show 0 < xs.length by omega)))
        obtain ⟨s1, e1, _, hs1⟩ := DataW.trod_string Try.underlying9 (f1.trans (List.getElem?_eq_getElem (show 1 < xs.length by omega)))
        obtain ⟨ba, bc, bs, rfl, hs, hbl⟩ := src_of_trod7 (f2.trans (List.getElem?_eq_getElem (show 2 < xs.length by omega)))
        obtain ⟨z3, e3, _, w3⟩ := DataW.trod_int Try.underlying2 (f3.trans (List.getElem?_eq_getElem (show 3 < xs.length by omega)))
        obtain ⟨z4, e4, _, w4⟩ := DataW.trod_int Try.underlying2 (f4.trans (List.getElem?_eq_getElem (show 4 < xs.length by omega)))
        obtain ⟨z5, e5, _⟩ := DataW.trod_bool Try.underlying4 (f5.trans (List.getElem?_eq_getElem (show 5 < xs.length by omega)))
        simp at e0 e1 e3 e4 e5
        subst e0 e1 e3 e4 e5
        have hx0 : x.add (i * 6) = (x.add (i * 6)).add 0 := by unfold Addr.add; simp
        have b3 := bounds_i64 w3
        have b4 := bounds_i64 w4
        refine ⟨⟨z0, s1.data.toList, ba, bc, bs, z3, z4, z5⟩, by rw [hx0]; exact c0, c1, c2, c3, c4, c5, hs, ?_, hbl, ⟨b3.1, b3.2⟩, ⟨b4.1, b4.2⟩⟩
        show s1.data.toList.length ≤ _
        have : s1.data.toList.length = s1.size := by simp
        unfold maxLen at hs1
        omega)
    exact ⟨ops, hol, ⟨fun h => by simp at h, fun y hy i o ho => by simp at hy; subst hy; exact hops i o ho⟩, by unfold maxLen at hm; omega⟩

theorem bools_of_trod {fuel : Nat} {v : Value} {y : DataW H × List MemPlace} (h : DataW.trod enc Try.prog w base (fun _ => true) held fuel 22 [v] = some y) :
    ∃ a c, ∃ fl : List Bool, v = .slice a fl.length c ∧ Src w (.slice a fl.length c) fl.length (fl.map .bool) ∧ fl.length ≤ 9223372036854775807 := by
  have hC : Try.prog.cellsOf 4 = 1 := by kernel_rfl
  rcases open_slice Try.underlying22 h with ⟨hcs, _⟩ | ⟨x, l, c, m, n, D, Pl, hcs, hb, hl, hm, hmm, _, hi⟩
  · simp at hcs
    subst hcs
    exact ⟨none, 0, [], rfl, Or.inl ⟨rfl, rfl, rfl⟩, by simp⟩
  · simp at hcs
    subst hcs
    obtain ⟨fl, hol, hfl⟩ := list_of7 (p := fun i (o : Bool) => w.cell? (x.add i) = some (.bool o)) l (fun i hil => by
      obtain ⟨cs, hc, ht⟩ := hi i (by simp at hmm; omega)
      rw [hC] at hc
      obtain ⟨_, hcl, hat⟩ := World.cells?_some hc
      match cs, hcl with
      | [v0], _ =>
        have c0 := hat 0 (by omega)
        obtain ⟨d, e0, _⟩ := DataW.trod_bool Try.underlying4 ht
        simp at e0 c0
        subst e0
        refine ⟨d, ?_⟩
        have e1 : (x.add i).add 0 = x.add i := by unfold Addr.add; simp
        rw [Nat.mul_one] at *
        first | exact c0 | (rw [e1] at c0; exact c0) | (simpa [e1] using c0))
    refine ⟨some x, c, fl, by rw [hol], Or.inr ⟨x, c, rfl, fun j u hj => ?_⟩, by unfold maxLen at hm; omega⟩
    rw [List.getElem?_map] at hj
    cases hf : fl[j]? with
    | none => rw [hf] at hj; simp at hj
    | some d => rw [hf] at hj; simp at hj; rw [← hj]; exact hfl j d hf
set_option maxRecDepth 100000 in
set_option maxHeartbeats 2000000 in
theorem open_in {r : Reach} {b0 : Nat} {v : Value} {d : DataW H} {p : List MemPlace} (hv : Value.okWide Try.prog w r b0 50 v) (h : DataW.Trod enc Try.prog w base (fun _ => true) held 50 v d p) :
    ∃ (q jobs fuse life least : Int) (fa : Option Addr) (fc : Nat) (fl : List Bool), v = .agg #[.int .i64 q, .int .i64 jobs, .int .i64 fuse, .int .i64 life, .int .i64 least, .slice fa fl.length fc] ∧ (Lit.int .i64 q).wf = true ∧
      Src w (.slice fa fl.length fc) fl.length (fl.map .bool) ∧ fl.length ≤ 9223372036854775807 := by
  have hC : Try.prog.cellsOf 50 = 6 := by kernel_rfl
  have k0 : Try.prog.cellsOf 3 = 1 := by kernel_rfl
  have k1 : Try.prog.cellsOf 2 = 1 := by kernel_rfl
  have k2 : Try.prog.cellsOf 22 = 1 := by kernel_rfl
  obtain ⟨cs, rfl, hsz⟩ := okWide_struct Try.underlying50 hv
  rw [hC] at hsz
  obtain ⟨fuel, hf⟩ := h
  obtain ⟨xs, n, _, _, hl, hlen, hx⟩ := DataW.trod_struct Try.underlying50 hf
  obtain ⟨v0, v1, v2, v3, v4, v5, rfl⟩ : ∃ v0 v1 v2 v3 v4 v5, cs = #[v0, v1, v2, v3, v4, v5] := by
    obtain ⟨l⟩ := cs
    match l, hsz with
    | [v0, v1, v2, v3, v4, v5], _ => exact ⟨v0, v1, v2, v3, v4, v5, rfl⟩
  have f0 := hx 0 _ rfl
  have f1 := hx 1 _ rfl
  have f2 := hx 2 _ rfl
  have f3 := hx 3 _ rfl
  have f4 := hx 4 _ rfl
  have f5 := hx 5 _ rfl
  simp [k0, k1, k2, Value.cells] at f0 f1 f2 f3 f4 f5 hlen
  obtain ⟨z0, e0, _, w0⟩ := DataW.trod_int Try.underlying3 (f0.trans (List.getElem?_eq_getElem (show 0 < xs.length by omega)))
  obtain ⟨z1, e1, _, w1⟩ := DataW.trod_int Try.underlying3 (f1.trans (List.getElem?_eq_getElem (show 1 < xs.length by omega)))
  obtain ⟨z2, e2, _, w2⟩ := DataW.trod_int Try.underlying3 (f2.trans (List.getElem?_eq_getElem (show 2 < xs.length by omega)))
  obtain ⟨z3, e3, _, w3⟩ := DataW.trod_int Try.underlying2 (f3.trans (List.getElem?_eq_getElem (show 3 < xs.length by omega)))
  obtain ⟨z4, e4, _, w4⟩ := DataW.trod_int Try.underlying2 (f4.trans (List.getElem?_eq_getElem (show 4 < xs.length by omega)))
  obtain ⟨fa, fc, fl, rfl, hs, hfl⟩ := bools_of_trod (f5.trans (List.getElem?_eq_getElem (show 5 < xs.length by omega)))
  simp at e0 e1 e2 e3 e4
  subst e0 e1 e2 e3 e4
  exact ⟨z0, z1, z2, z3, z4, fa, fc, fl, rfl, w0, hs, hfl⟩
end
end Go.Proofs.Ytnkolgamnakegaa
