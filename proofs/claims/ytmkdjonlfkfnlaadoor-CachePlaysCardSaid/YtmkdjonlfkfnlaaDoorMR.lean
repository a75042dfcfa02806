import Derived.Test.YtmkdjonlfkfnlaaDoorWK
import Derived.Test.YtmkdjonlfkfnlaaDoorHX

/- An append of rows of k cells as one step of a region, in whatever order. -/
namespace Go.Proofs.YtmkdjonlfkfnlaaDoor
open Go.RowKit Go.Lib Go.Maps

theorem wp_append_k {P : Program} {o : Oper} {a : Act} {w : World} {K : Act → World → Prop} {Q : Exit → Act → World → Prop} (s x : Operand) (t : TypeId)
    (ho : o.op = .call { callee := .builtin .append, args := #[s, x], argTypes := #[t, t] }) (base : Nat) (e : TypeId) (i : TypeInfo) (z : Value) (size bytes : Nat) (ht : P.underlying t = some (.slice e)) (hi : P.info? e = some i) (hz : i.zero = some z)
    (hsize : i.size = size) (hby : i.bytes = bytes) (hzs : z.cells.size = size) (hsz : 0 < size) (v : Value) (n : Nat) (xs : List Value) (hs : a.eval s = v) (hown : w.ownsRow base e size v n xs)
    (sv : Value) (m : Nat) (news : List Value) (hx : a.eval x = sv) (hsrc : Src w sv m news) (hl : news.length = m * size) (h1 : ∀ u ∈ news, u.oneCell' = true)
    (h63 : n + m ≤ maxLen) (hbytes : (n + m) * bytes ≤ 140737488355328) (hbase : base ≤ w.heap.size)
    (h : ∀ v' w', w'.ownsRow base e size v' (n + m) (xs ++ news) → w.grownBy w' v.ownBlock → (∀ g, v'.ownBlock = some g → v.ownBlock = some g ∨ w.heap.size ≤ g) → K (a.put o.dst v') w') : o.wp P a w K Q := by
  obtain ⟨v', w', hr, h2, h3, h4, h5⟩ := run_append_k (P := P) w t o.type base e i z size bytes ht hi hz hsize hby hzs hsz v n xs hown sv m news hsrc hl h1 h63 hbytes hbase
  unfold Oper.wp execOp
  simp only [ho, resolve, invoke, builtin, Sem.run_bind, Sem.run_pure, Result.andThen_ok, List.map_toArray, List.map_cons, List.map_nil, hs, hx, hr]
  exact h _ _ h2 h3 h5
end Go.Proofs.YtmkdjonlfkfnlaaDoor


/- A region that draws its order, walked by an invariant over what has come up: no order is gone through. No program is named here. -/
namespace Go.Proofs.YtmkdjonlfkfnlaaDoor
open Go.RowKit Go.Lib

/-- Values put into slots, one behind the other. -/
def putAll (a : Act) : List (Option Nat) → List Value → Act
  | d :: ds, v :: vs => putAll (a.put d v) ds vs
  | _, _ => a
/-- What may have come up, from a list on, up to an end. -/
def reach (md : Region.Mode) (l : List Oper) (stop : List Bool) : Nat → List (List Bool) → List (List Bool)
  | 0, X => X
  | n + 1, X => X ++ reach md l stop n ((X.filter (· != stop)).flatMap fun L => (Region.ready md l.toArray L.toArray).map (L.set · true)).eraseDups
/-- Each of these states is the end, or goes on to one of them; what may come up has what it asks for. -/
def reachChk (md : Region.Mode) (l : List Oper) (stop : List Bool) (evs : List (Nat × List (Nat × Bool))) (R : List (List Bool)) : Bool :=
  R.all fun L => L == stop || (!(Region.ready md l.toArray L.toArray).isEmpty && (Region.ready md l.toArray L.toArray).all fun i =>
    R.contains (L.set i true) && ((L.set i true).count false + 1 == L.count false) && decide (i < L.length) && evs.any fun e => e.1 == i && e.2.all fun d => L.getD d.1 false == d.2)

theorem getD_set_eq {L : List Bool} {i : Nat} (h : i < L.length) : (L.set i true).getD i false = true := by simp [h]
theorem getD_set_ne {L : List Bool} {i j : Nat} (h : i ≠ j) : (L.set i true).getD j false = L.getD j false := by
  simp [List.getElem?_set, h]

section
variable {P : Program} {md : Region.Mode} {l : List Oper} {Q : Exit → Act → World → Prop} {S : World → Prop}

theorem region_inv (stop : List Bool) (evs : List (Nat × List (Nat × Bool))) (R : List (List Bool)) (ds : List (Option Nat)) (a0 : Act) (Inv : List Bool → List Value → World → Prop)
    (hR : reachChk md l stop evs R = true) (hS : ∀ L vs w, Inv L vs w → S w)
    (hstep : ∀ e ∈ evs, ∀ L, e.1 < L.length → (∀ d ∈ e.2, L.getD d.1 false = d.2) → ∀ vs w, Inv L vs w → wpOp P l.toArray Q e.1 (fun a' w' => ∃ vs', a' = putAll a0 ds vs' ∧ Inv (L.set e.1 true) vs' w') (putAll a0 ds vs) w)
    (hend : ∀ vs w, Inv stop vs w → wpAnyH P md l.toArray Q S (stop.count false) stop.toArray (putAll a0 ds vs) w) :
    ∀ (n : Nat) (L : List Bool), L.count false = n → L ∈ R → ∀ vs w, Inv L vs w → wpAnyH P md l.toArray Q S n L.toArray (putAll a0 ds vs) w := by
  intro n
  induction n with
  | zero =>
    intro L hn hL vs w hI
    have h1 := List.all_eq_true.1 hR L hL
    by_cases hs : L = stop
    · subst hs; rw [← hn]; exact hend vs w hI
    · simp only [Bool.or_eq_true, beq_iff_eq, hs, false_or, Bool.and_eq_true] at h1
      obtain ⟨h2, h3⟩ := h1
      cases hr : Region.ready md l.toArray L.toArray with
      | nil => rw [hr] at h2; simp at h2
      | cons i is =>
        rw [hr] at h3
        simp only [List.all_cons, Bool.and_eq_true] at h3
        have := h3.1.1.1.2
        simp only [beq_iff_eq] at this
        omega
  | succ n ih =>
    intro L hn hL vs w hI
    have h1 := List.all_eq_true.1 hR L hL
    by_cases hs : L = stop
    · subst hs; rw [← hn]; exact hend vs w hI
    · simp only [Bool.or_eq_true, beq_iff_eq, hs, false_or, Bool.and_eq_true] at h1
      obtain ⟨h2, h3⟩ := h1
      refine wpAnyH_all rfl (fun h => by rw [h] at h2; simp at h2) (fun i hi => ?_)
      have h4 := List.all_eq_true.1 h3 i hi
      simp only [Bool.and_eq_true, beq_iff_eq, decide_eq_true_eq] at h4
      obtain ⟨⟨⟨h5, h6⟩, h8⟩, h7⟩ := h4
      obtain ⟨e, he, h9⟩ := List.any_eq_true.1 h7
      simp only [Bool.and_eq_true, beq_iff_eq] at h9
      obtain ⟨rfl, h9⟩ := h9
      have hd : ∀ d ∈ e.2, L.getD d.1 false = d.2 := fun d hd => by simpa using List.all_eq_true.1 h9 d hd
      refine wpOp_mono (fun a' w' h => ?_) (hstep e he L h8 hd vs w hI)
      obtain ⟨vs', rfl, hI'⟩ := h
      refine ⟨hS _ _ _ hI', ?_⟩
      rw [List.setIfInBounds_toArray]
      exact ih _ (by omega) (List.elem_iff.1 h5) _ _ hI'

theorem region_inv_at (stop : List Bool) (evs : List (Nat × List (Nat × Bool))) (k : Nat) (ds : List (Option Nat)) (Inv : List Bool → List Value → World → Prop) (L : List Bool) (vs : List Value)
    {fuel : Nat} {listed : Array Bool} {a : Act} {w : World} (hput : putAll a ds vs = a) (hL : L.toArray = listed) (hn : L.count false = fuel) (hm : (reach md l stop k [L]).contains L = true) (hR : reachChk md l stop evs (reach md l stop k [L]) = true) (hS : ∀ L vs w, Inv L vs w → S w)
    (hstep : ∀ e ∈ evs, ∀ L, e.1 < L.length → (∀ d ∈ e.2, L.getD d.1 false = d.2) → ∀ vs w, Inv L vs w → wpOp P l.toArray Q e.1 (fun a' w' => ∃ vs', a' = putAll a ds vs' ∧ Inv (L.set e.1 true) vs' w') (putAll a ds vs) w)
    (hend : ∀ vs w, Inv stop vs w → wpAnyH P md l.toArray Q S (stop.count false) stop.toArray (putAll a ds vs) w) (h0 : Inv L vs w) : wpAnyH P md l.toArray Q S fuel listed a w := by
  have h := region_inv stop evs _ ds a Inv hR hS hstep hend fuel L hn (List.elem_iff.1 hm) vs w h0
  rwa [hput, hL] at h

theorem wpOp_run {rest : List Oper} {oi : Oper} {a : Act} {w : World} {K : Act → World → Prop} (i : Nat) (hi : l.drop i = oi :: rest) (hw : Region.wanted oi (yielded l.toArray a.tmps) = true)
    (v : Value) (w' : World) (hrun : (execOp a.eval oi).run P w = .ok (.value v) w') (h : K (a.put oi.dst v) w') : wpOp P l.toArray Q i K a w := by
  unfold wpOp
  rw [getL_of_drop hi]
  simp only
  rw [if_pos hw]
  left
  unfold Oper.wp
  rw [hrun]
  exact h
theorem wpOp_callE {rest : List Oper} {oi : Oper} {a : Act} {w : World} {K : Act → World → Prop} (i : Nat) (hi : l.drop i = oi :: rest) (hw : Region.wanted oi (yielded l.toArray a.tmps) = true) (f : FuncId) (args : Array Value)
    (hrun : (execOp a.eval oi).run P w = .ok (.enter f args) w) (R : Value → World → Prop) (hc : Calls P f args w fun e w' => ∃ v, e = .returned v ∧ R v w')
    (h : ∀ v w', R v w' → K (a.put oi.dst v) w') : wpOp P l.toArray Q i K a w := by
  unfold wpOp
  rw [getL_of_drop hi]
  simp only
  rw [if_pos hw]
  left
  unfold Oper.wp
  rw [hrun]
  refine hc.mono ?_
  rintro e w' ⟨v, rfl, hR⟩
  exact h _ _ hR
theorem wpOp_append_k {rest : List Oper} {oi : Oper} {a : Act} {w : World} {K : Act → World → Prop} (j : Nat) (hi : l.drop j = oi :: rest) (hgd : oi.guard = none) (s x : Operand) (t : TypeId)
    (ho : oi.op = .call { callee := .builtin .append, args := #[s, x], argTypes := #[t, t] }) (base : Nat) (e : TypeId) (i : TypeInfo) (z : Value) (size bytes : Nat) (ht : P.underlying t = some (.slice e)) (hie : P.info? e = some i) (hz : i.zero = some z)
    (hsize : i.size = size) (hby : i.bytes = bytes) (hzs : z.cells.size = size) (hsz : 0 < size) (v : Value) (n : Nat) (xs : List Value) (hs : a.eval s = v) (hown : w.ownsRow base e size v n xs)
    (sv : Value) (m : Nat) (news : List Value) (hx : a.eval x = sv) (hsrc : Src w sv m news) (hl : news.length = m * size) (h1 : ∀ u ∈ news, u.oneCell' = true)
    (h63 : n + m ≤ maxLen) (hbytes : (n + m) * bytes ≤ 140737488355328) (hbase : base ≤ w.heap.size)
    (h : ∀ v' w', w'.ownsRow base e size v' (n + m) (xs ++ news) → w.grownBy w' v.ownBlock → (∀ g, v'.ownBlock = some g → v.ownBlock = some g ∨ w.heap.size ≤ g) → K (a.put oi.dst v') w') : wpOp P l.toArray Q j K a w := by
  unfold wpOp
  rw [getL_of_drop hi]
  simp only
  have hw : Region.wanted oi (yielded l.toArray a.tmps) = true := by simp [Region.wanted, hgd]
  rw [if_pos hw]
  exact Or.inl (wp_append_k s x t ho base e i z size bytes ht hie hz hsize hby hzs hsz v n xs hs hown sv m news hx hsrc hl h1 h63 hbytes hbase h)
end
end Go.Proofs.YtmkdjonlfkfnlaaDoor
