import Derived.Test.YtmholofhmpplcaaHW
import Derived.Test.YtmholofhmpplcaaW1
import Derived.OrdersIn

/- A drawn region that loads a cell and stores into it: what stands in the cell need hold only as far as the store, which waits for the load. No program is named here. -/
namespace Go.Proofs.Ytmholofhmpplcaa
open Go.RowKit

section
variable {P : Program} {md : Region.Mode} {Q : Exit → Act → World → Prop} {S : World → Prop} {late : List Nat}

/-- In whatever order, each operation yields a value, or writes; and S holds behind each that is not late. -/
def AnyV (P : Program) (md : Region.Mode) (ops : Array Oper) (Q : Act → World → Prop) (S : World → Prop) (late : List Nat) : Nat → Array Bool → Act → World → Prop
  | 0, listed, a, w => Region.ready md ops listed = [] ∧ Q a w
  | k + 1, listed, a, w => (Region.ready md ops listed = [] → Q a w) ∧
      ∀ i ∈ Region.ready md ops listed, ∃ o v w', ops[i]? = some o ∧ Region.wanted o (yielded ops a.tmps) = true ∧ ((execOp a.eval o).run P w = .ok (.value v) w' ∨ (v = undef ∧ (execOp a.eval o).run P w = .ok .skip w')) ∧ (i ∉ late → S w') ∧ AnyV P md ops Q S late k (listed.setIfInBounds i true) (a.put o.dst v) w'
/-- It does so within whatever fence, if none of its operations is about to call. -/
theorem anyIn_of_V {F : Fence} {n : Nat} {ops : Array Oper} {Q' : Act → World → Prop} (hpl : ∀ (i : Nat) (o : Oper), ops[i]? = some o → (∀ ρ, o.semAt F.round ρ = execOp ρ o) ∧ ∀ w ρ, o.about P w ρ = none) (hq : ∀ a w, Q' a w → Q .normal a w) :
    ∀ (k : Nat) (listed : Array Bool) (a : Act) (w : World), AnyV P md ops Q' S late k listed a w → wpAnyIn F n P md ops Q k listed a w
  | 0, _, _, _, h => ⟨h.1, hq _ _ h.2⟩
  | k + 1, listed, a, w, h => ⟨fun h0 => hq _ _ (h.1 h0), fun i hi => by
    obtain ⟨o, v, w', ho, hw, hrun, _, hrest⟩ := h.2 i hi
    have hnext := anyIn_of_V (n := n) hpl hq k _ _ _ hrest
    unfold wpOpIn
    rw [ho]
    dsimp only
    rw [if_pos hw]
    unfold Oper.wpIn
    refine ⟨fun f hf => (by rw [(hpl i o ho).2] at hf; cases hf), ?_⟩
    rw [(hpl i o ho).1]
    rcases hrun with hrun | ⟨rfl, hrun⟩
    · rw [hrun]; exact hnext
    · rw [hrun]; exact hnext⟩
/-- Does j wait for i itself? -/
def direct (md : Region.Mode) (ops : Array Oper) (j i : Nat) : Bool :=
  match ops[j]? with
  | some oj => oj.after.any (fun e => Region.binds md e && e.on == i)
  | none => false
theorem direct_not {ops : Array Oper} {i j : Nat} {oj : Oper} (hj : ops[j]? = some oj) (hno : ∀ e ∈ oj.after, Region.binds md e = true → e.on ≠ i) : direct md ops j i = false := by
  unfold direct
  rw [hj]
  dsimp only
  rw [Array.any_eq_false]
  intro k hk hb
  simp at hb
  exact hno oj.after[k] (Array.getElem_mem hk) hb.1 hb.2
/-- Or for what waits for it? -/
def waits2 (md : Region.Mode) (ops : Array Oper) (j i : Nat) : Bool :=
  direct md ops j i || match ops[j]? with
  | some oj => oj.after.any (fun e => Region.binds md e && direct md ops e.on i)
  | none => false
theorem waits2_not {ops : Array Oper} {i j : Nat} {oj : Oper} {listed : Array Bool} (hj : ops[j]? = some oj) (hno : ∀ e ∈ oj.after, Region.binds md e = true → e.on ≠ i) (hl : ∀ m, listed[m]? = some true → waits2 md ops m i = false)
    (hall : ∀ e ∈ oj.after, Region.binds md e = true → listed[e.on]? = some true) : waits2 md ops j i = false := by
  unfold waits2
  rw [direct_not hj hno, hj]
  simp only [Bool.false_or]
  rw [Array.any_eq_false]
  intro k hk hb
  simp only [Bool.and_eq_true] at hb
  have := hl _ (hall _ (Array.getElem_mem hk) hb.1)
  unfold waits2 at this
  rw [hb.2] at this
  simp at this
/-- The late ones wait for i, if need be by what waits for it. -/
def lateWait (md : Region.Mode) (ops : Array Oper) (late : List Nat) (i : Nat) : Bool :=
  late.all fun j => direct md ops j i || match ops[j]? with
    | some oj => oj.after.any (fun e => Region.binds md e && waits2 md ops e.on i)
    | none => false
/-- Nothing that has come waits for i. -/
def lateFree (md : Region.Mode) (ops : Array Oper) (listed : Array Bool) (i : Nat) : Bool := (List.range listed.size).all fun m => !(listed.getD m false) || !(waits2 md ops m i)
theorem lateFree_spec {ops : Array Oper} {listed : Array Bool} {i : Nat} (h : lateFree md ops listed i = true) : ∀ m, listed[m]? = some true → waits2 md ops m i = false := by
  intro m hm
  have hlt := (Array.getElem?_eq_some_iff.1 hm).1
  have h1 := List.all_eq_true.1 h m (List.mem_range.2 hlt)
  have h2 : listed.getD m false = true := by rw [Array.getD_eq_getD_getElem?, hm]; rfl
  rw [h2] at h1
  simpa using h1
theorem lateWait_spec {ops : Array Oper} {listed : Array Bool} {i : Nat} (h : lateWait md ops late i = true) (hl : ∀ m, listed[m]? = some true → waits2 md ops m i = false) {j : Nat} {oj : Oper} (hj : ops[j]? = some oj) (hno : ∀ e ∈ oj.after, Region.binds md e = true → e.on ≠ i)
    (hall : ∀ e ∈ oj.after, Region.binds md e = true → listed[e.on]? = some true) : j ∉ late := by
  intro hm
  have h1 := List.all_eq_true.1 h j hm
  rw [direct_not hj hno, hj] at h1
  simp only [Bool.false_or] at h1
  obtain ⟨k, hk, hb⟩ := Array.any_eq_true.1 h1
  simp only [Bool.and_eq_true] at hb
  have := hl _ (hall _ (Array.getElem_mem hk) hb.1)
  rw [this] at hb
  cases hb.2
variable {Q : Act → World → Prop}
theorem firstV {ops : Array Oper} {i : Nat} {oi : Oper} {v : Value} (hi : ops[i]? = some oi) (hsel : ∀ (j : Nat) (o : Oper) cs b, ops[j]? = some o → o.op ≠ .select cs b) (hlw : lateWait md ops late i = true) :
    ∀ (k : Nat) (listed : Array Bool) (a : Act) (w : World),
      (∀ j oj, ops[j]? = some oj → j ≠ i → listed.getD j true = false → (∀ e ∈ oj.after, Region.binds md e = true → e.on ≠ i) → oi.apart ops oj = true) →
      (∀ m, listed[m]? = some true → waits2 md ops m i = false) →
      i ∈ Region.ready md ops listed → Region.wanted oi (yielded ops a.tmps) = true → (∀ w, S w → (execOp a.eval oi).run P w = .ok (.value v) w) → S w → i ∉ late →
      AnyV P md ops Q S late k (listed.setIfInBounds i true) (a.put oi.dst v) w → AnyV P md ops Q S late (k + 1) listed a w := by
  intro k
  induction k with
  | zero =>
    intro listed a w _ _ hr hw hy hS hil H
    refine ⟨fun h => (by rw [h] at hr; cases hr), fun j hj => ?_⟩
    by_cases e : j = i
    · subst e; exact ⟨oi, v, w, hi, hw, .inl (hy w hS), fun _ => hS, H⟩
    · have := ready_mono hj e
      rw [H.1] at this
      cases this
  | succ k ih =>
    intro listed a w hfr hin hr hw hy hS hil H
    refine ⟨fun h => (by rw [h] at hr; cases hr), fun j hj => ?_⟩
    by_cases e : j = i
    · subst e; exact ⟨oi, v, w, hi, hw, .inl (hy w hS), fun _ => hS, H⟩
    obtain ⟨oj, u, w', hoj, hwj, hrj, hSj, Hj⟩ := H.2 j (ready_mono hj e)
    obtain ⟨hun, oj', hoj', hall⟩ := mem_ready.1 hj
    rw [hoj] at hoj'
    cases hoj'
    have hno : ∀ d ∈ oj.after, Region.binds md d = true → d.on ≠ i := fun d hd hb he => by
      have h2 := hall d hd hb
      have h0 := (mem_ready.1 hr).1
      rw [he] at h2
      rcases Nat.lt_or_ge i listed.size with hl | hl
      · simp [hl] at h0 h2; rw [h0] at h2; cases h2
      · simp [Array.getElem?_eq_none hl] at h2
    have hall' : ∀ d ∈ oj.after, Region.binds md d = true → listed[d.on]? = some true := fun d hd hb => by
      have h4 := hall d hd hb
      rw [Array.getD_eq_getD_getElem?] at h4
      cases h5 : listed[d.on]? with
      | none => rw [h5] at h4; cases h4
      | some b => rw [h5] at h4; simp at h4; rw [h4]
    have hjl : j ∉ late := lateWait_spec hlw hin hoj hno hall'
    obtain ⟨h1, h2, h3⟩ := Oper.apart_spec (hfr j oj hoj e hun hno)
    rw [wanted_put oj a oi.dst v h1] at hwj
    rw [execOp_put oj (fun cs b => hsel j oj cs b hoj) a oi.dst v h1] at hrj
    refine ⟨oj, u, w', hoj, hwj, hrj, hSj, ih (listed.setIfInBounds j true) (a.put oj.dst u) w' (fun m om hm hmi hmu hmn => ?_) (fun m hm => ?_) (ready_mono hr (Ne.symm e)) ?_ ?_ (hSj hjl) hil ?_⟩
    · refine hfr m om hm hmi ?_ hmn
      by_cases ejm : j = m
      · subst ejm; exact hun
      · rwa [getD_set_ne true ejm] at hmu
    · by_cases ejm : j = m
      · subst ejm; exact waits2_not hoj hno hin hall'
      · rw [Array.getElem?_setIfInBounds_ne ejm] at hm; exact hin m hm
    · rw [wanted_put oi a oj.dst u h3]; exact hw
    · rw [execOp_put oi (fun cs b => hsel i oi cs b hi) a oj.dst u h3]; exact hy
    · rw [Array.setIfInBounds_comm _ _ e, ← Act.put_comm a v u h2]
      exact Hj

variable {l rest rest' : List Oper} {oi oj : Oper} {fuel : Nat} {listed : Array Bool} {a : Act} {w : World}
theorem takeV (i : Nat) (v : Value) (hi : l.drop i = oi :: rest) (hs : Region.noSelect l.toArray = true) (hf : Region.free md l.toArray listed i = true) (hr : (Region.ready md l.toArray listed).contains i = true)
    (hlw : lateWait md l.toArray late i = true) (hlf : lateFree md l.toArray listed i = true) (hil : i ∉ late)
    (hw : Region.wanted oi (yielded l.toArray a.tmps) = true) (hy : ∀ w, S w → (execOp a.eval oi).run P w = .ok (.value v) w) (hS : S w)
    (h : AnyV P md l.toArray Q S late fuel (listed.setIfInBounds i true) (a.put oi.dst v) w) : AnyV P md l.toArray Q S late (fuel + 1) listed a w :=
  firstV (getL_of_drop hi) (Region.noSelect_spec hs) hlw fuel listed a w (Region.free_spec (getL_of_drop hi) hf) (lateFree_spec hlf) (by simpa using hr) hw hy hS hil h
theorem runV (i : Nat) (hi : l.drop i = oi :: rest) (hr : Region.ready md l.toArray listed = [i]) (hw : Region.wanted oi (yielded l.toArray a.tmps) = true)
    (v : Value) (w' : World) (hrun : (execOp a.eval oi).run P w = .ok (.value v) w') (hS' : i ∉ late → S w') (h : AnyV P md l.toArray Q S late fuel (listed.setIfInBounds i true) (a.put oi.dst v) w') : AnyV P md l.toArray Q S late (fuel + 1) listed a w :=
  ⟨fun h0 => (by rw [hr] at h0; cases h0), fun j hj => by rw [hr] at hj; cases List.mem_singleton.1 hj; exact ⟨oi, v, w', getL_of_drop hi, hw, .inl hrun, hS', h⟩⟩
theorem writeV (i : Nat) (hi : l.drop i = oi :: rest) (hr : Region.ready md l.toArray listed = [i]) (hw : Region.wanted oi (yielded l.toArray a.tmps) = true)
    (w' : World) (hrun : (execOp a.eval oi).run P w = .ok .skip w') (hS' : i ∉ late → S w') (h : AnyV P md l.toArray Q S late fuel (listed.setIfInBounds i true) (a.put oi.dst undef) w') : AnyV P md l.toArray Q S late (fuel + 1) listed a w :=
  ⟨fun h0 => (by rw [hr] at h0; cases h0), fun j hj => by rw [hr] at hj; cases List.mem_singleton.1 hj; exact ⟨oi, undef, w', getL_of_drop hi, hw, .inr ⟨rfl, hrun⟩, hS', h⟩⟩
theorem bothV (i j : Nat) (hi : l.drop i = oi :: rest) (hj : l.drop j = oj :: rest') (hr : Region.ready md l.toArray listed = [i, j]) (hwi : Region.wanted oi (yielded l.toArray a.tmps) = true) (hwj : Region.wanted oj (yielded l.toArray a.tmps) = true)
    (vi : Value) (wi : World) (hri : (execOp a.eval oi).run P w = .ok (.value vi) wi) (hSi : i ∉ late → S wi) (vj : Value) (wj : World) (hrj : (execOp a.eval oj).run P w = .ok (.value vj) wj) (hSj : j ∉ late → S wj)
    (h1 : AnyV P md l.toArray Q S late fuel (listed.setIfInBounds i true) (a.put oi.dst vi) wi) (h2 : AnyV P md l.toArray Q S late fuel (listed.setIfInBounds j true) (a.put oj.dst vj) wj) : AnyV P md l.toArray Q S late (fuel + 1) listed a w :=
  ⟨fun h0 => (by rw [hr] at h0; cases h0), fun k hk => by
    rw [hr] at hk
    rcases List.mem_cons.1 hk with rfl | hk
    · exact ⟨oi, vi, wi, getL_of_drop hi, hwi, .inl hri, hSi, h1⟩
    · cases List.mem_singleton.1 hk; exact ⟨oj, vj, wj, getL_of_drop hj, hwj, .inl hrj, hSj, h2⟩⟩
theorem doneV {ops : Array Oper} (hr : Region.ready md ops listed = []) (h : Q a w) : ∀ k, AnyV P md ops Q S late k listed a w
  | 0 => ⟨hr, h⟩
  | _ + 1 => ⟨fun _ => h, by rw [hr]; simp⟩
theorem wpIn_region_V {F : Fence} {n : Nat} {Q' : Exit → Act → World → Prop} {l : List Oper} {id : Nat} (S : World → Prop) (late : List Nat) (Q : Act → World → Prop) (hm : P.follows .mixedOrders = true) (hpl : ∀ o ∈ l, (∀ ρ, o.semAt F.round ρ = execOp ρ o) ∧ ∀ w ρ, o.about P w ρ = none) (hq : ∀ a w, Q a w → Q' .normal a w)
    (h : AnyV P .any l.toArray Q S late l.length (Array.replicate l.length false) a w.drew) : (Code.region id l.toArray true).wpIn F n P Q' a w :=
  wpIn_region_any hm (anyIn_of_V (fun i o hi => hpl o (by have := Array.mem_of_getElem? hi; simpa using this)) hq _ _ _ _ (by simpa using h))
/-- An append whose outcome is known. -/
theorem run_app_op {oi : Oper} {w' : World} (s x : Operand) (t : TypeId) (ho : oi.op = .call { callee := .builtin .append, args := #[s, x], argTypes := #[t, t] }) (v sv v' : Value) (hs : a.eval s = v) (hx : a.eval x = sv)
    (hrun : (Builtin.append_ #[t, t] oi.type #[v, sv]).run P w = .ok v' w') : (execOp a.eval oi).run P w = .ok (.value v') w' := by
  unfold execOp
  simp only [ho, resolve, invoke, builtin, Sem.run_bind, Sem.run_pure, Result.andThen_ok, List.map_toArray, List.map_cons, List.map_nil, hs, hx, hrun]
end
end Go.Proofs.Ytmholofhmpplcaa
