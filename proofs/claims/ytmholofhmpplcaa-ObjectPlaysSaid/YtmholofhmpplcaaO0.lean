import Derived.Test.YtmholofhmpplcaaLib
import Derived.Maps.OwnSet
import Derived.Sort.KeysCollected

/- Things by their names as mathematics, and as a map reads. No program is named here. -/
namespace Go.Proofs.Ytmholofhmpplcaa
open Go.RowKit Go.Lib Go.Maps

/-- A thing: its name, the value that a map has for it, its bytes. -/
structure Ent where
  name : List UInt8
  v : Value
  b : List UInt8
def findE (nm : List UInt8) (es : List Ent) : Option Ent := es.find? (fun e => e.name == nm)
def delE (nm : List UInt8) (es : List Ent) : List Ent := es.filter (fun e => !(e.name == nm))
def insE (x : Ent) : List Ent → List Ent
  | [] => [x]
  | y :: r => if bytesBefore x.name y.name then x :: y :: r else y :: insE x r
def putE (x : Ent) (es : List Ent) : List Ent := insE x (delE x.name es)
/-- How many bytes all have. -/
def sizeE (es : List Ent) : Nat := (es.map (·.b.length)).sum
def pairE (e : Ent) : Lit × DataW Value := (.string e.name, .held e.v)
/-- What a map of them reads as. -/
def DM (es : List Ent) : DataW Value := .map (es.map pairE)
def heldR (v : Value) : Option (DataW Value × List MemPlace) := some (.held v, [])

theorem ins_pair (x : Ent) (es : List Ent) : (insE x es).map pairE = DataW.insert (pairE x) (es.map pairE) := by
  induction es with
  | nil => rfl
  | cons y r ih =>
    rw [List.map_cons]
    unfold insE DataW.insert
    show List.map pairE (if bytesBefore x.name y.name = true then _ else _) = if bytesBefore x.name y.name = true then _ else _
    split
    · rfl
    · rw [List.map_cons, ih]
theorem del_pair (nm : List UInt8) (es : List Ent) : (delE nm es).map pairE = (es.map pairE).filter (fun p => !p.1.sameKey (.string nm)) := by
  unfold delE
  rw [List.filter_map]
  rfl
theorem DM_put (x : Ent) (es : List Ent) : (DM es).put (.string x.name) (.held x.v) = DM (putE x es) := by
  unfold DM DataW.put putE
  simp only
  rw [ins_pair, del_pair]
  rfl
theorem DM_del (nm : List UInt8) (es : List Ent) : (DM es).del (.string nm) = DM (delE nm es) := by
  unfold DM DataW.del
  simp only
  rw [del_pair]
theorem DM_at (nm : List UInt8) (es : List Ent) (z : DataW Value) : (DM es).atKey (.string nm) z = match findE nm es with | some e => .held e.v | none => z := by
  unfold DM DataW.atKey findE
  simp only
  rw [List.find?_map]
  have : ((fun p : Lit × DataW Value => p.1.sameKey (.string nm)) ∘ pairE) = fun e : Ent => e.name == nm := rfl
  rw [this]
  cases es.find? (fun e => e.name == nm) <;> rfl
theorem DM_has (nm : List UInt8) (es : List Ent) : Maps.has (DM es) (.string nm) = (findE nm es).isSome := by
  unfold Maps.has DM findE
  simp only
  rw [List.any_map, List.isSome_find?]
  rfl
theorem DM_size (es : List Ent) : Maps.size (DM es) = es.length := by simp [Maps.size, DM]
theorem DM_keys (es : List Ent) : strKeys (DM es) = es.map (·.name) := by
  unfold strKeys DM
  simp only
  rw [List.map_map]
  rfl

/-- Rising by their names. -/
def Rising (es : List Ent) : Prop := (es.map (·.name)).Pairwise (fun x y => bytesBefore x y = true)
theorem owns_rising {P : Program} {k : TypeId} {w : World} {b n : Nat} {es : List Ent} (K : Keyed P k) (h : w.ownsMap P k heldR b n (DM es)) : Rising es := by
  obtain ⟨m, clock, _, F, _, hD⟩ := h
  have h2 := Maps.sorted_sorted K.one _ (Maps.fit_keys F) (Maps.fit_apart K F)
  unfold DM at hD
  injection hD with hD
  rw [← hD] at h2
  unfold Rising
  rw [List.pairwise_map] at h2 ⊢
  exact h2
theorem before_lt : ∀ x y : List UInt8, bytesBefore x y = true ↔ x < y
  | [], [] => by simp [bytesBefore]
  | [], b :: y => by simp [bytesBefore]
  | a :: x, [] => by simp [bytesBefore]
  | a :: x, b :: y => by
    unfold bytesBefore
    rw [List.cons_lt_cons_iff, ← before_lt x y]
    simp
theorem rising_nodup {es : List Ent} (h : Rising es) : (es.map (·.name)).Nodup := by
  refine List.Pairwise.imp (fun {x y} hxy e => ?_) h
  subst e
  exact absurd ((before_lt x x).1 hxy) (List.lt_irrefl x)
theorem sorted_names {es : List Ent} (h : Rising es) {ss : List (List UInt8)} (p : List UInt8 → Bool) (hp : ss.Perm (es.map (·.name))) : (ss.filter p).mergeSort leB = (es.map (·.name)).filter p := by
  rw [mergeSort_of_perm (hp.filter p)]
  refine List.mergeSort_of_pairwise ?_
  refine List.Pairwise.imp (fun {x y} hxy => ?_) (List.Pairwise.filter p h)
  simp only [leB, decide_eq_true_eq]
  exact List.le_of_lt ((before_lt x y).1 hxy)

theorem find_mem {nm : List UInt8} {es : List Ent} {e : Ent} (h : findE nm es = some e) : e ∈ es ∧ e.name = nm := by
  unfold findE at h
  exact ⟨List.mem_of_find?_eq_some h, by have := List.find?_some h; simpa using this⟩
theorem find_none {nm : List UInt8} {es : List Ent} : findE nm es = none ↔ ∀ e ∈ es, e.name ≠ nm := by
  unfold findE
  rw [List.find?_eq_none]
  simp
theorem mem_ins {x e : Ent} {es : List Ent} : e ∈ insE x es ↔ e = x ∨ e ∈ es := by
  induction es with
  | nil => simp [insE]
  | cons y r ih =>
    unfold insE
    split
    · simp
    · simp [ih]; constructor
      · rintro (h | h | h) <;> simp [h]
      · rintro (h | h | h) <;> simp [h]
theorem mem_del {nm : List UInt8} {e : Ent} {es : List Ent} : e ∈ delE nm es ↔ e ∈ es ∧ e.name ≠ nm := by
  unfold delE; rw [List.mem_filter]; simp
theorem mem_put {x e : Ent} {es : List Ent} : e ∈ putE x es ↔ e = x ∨ (e ∈ es ∧ e.name ≠ x.name) := by
  unfold putE; rw [mem_ins, mem_del]
theorem ins_len (x : Ent) (es : List Ent) : (insE x es).length = es.length + 1 := by
  induction es with
  | nil => rfl
  | cons y r ih => unfold insE; split <;> simp [ih]
theorem ins_size (x : Ent) (es : List Ent) : sizeE (insE x es) = x.b.length + sizeE es := by
  induction es with
  | nil => rfl
  | cons y r ih =>
    unfold insE
    split
    · simp [sizeE]
    · have h1 : sizeE (y :: insE x r) = y.b.length + sizeE (insE x r) := by simp [sizeE]
      have h2 : sizeE (y :: r) = y.b.length + sizeE r := by simp [sizeE]
      rw [h1, h2, ih]; omega
theorem del_none {nm : List UInt8} {es : List Ent} (h : findE nm es = none) : delE nm es = es := by
  unfold delE
  rw [List.filter_eq_self]
  intro e he
  have := find_none.1 h e he
  simp [this]
/-- Of rising ones each name is there once. -/
theorem del_some {nm : List UInt8} {es : List Ent} {e : Ent} (hr : Rising es) (h : findE nm es = some e) : (delE nm es).length + 1 = es.length ∧ sizeE (delE nm es) + e.b.length = sizeE es := by
  induction es with
  | nil => simp [findE] at h
  | cons y r ih =>
    have hr2 : Rising r := by unfold Rising at hr ⊢; rw [List.map_cons] at hr; exact (List.pairwise_cons.1 hr).2
    have hnd := rising_nodup hr
    rw [List.map_cons, List.nodup_cons] at hnd
    by_cases hy : y.name = nm
    · have he : e = y := by
        unfold findE at h
        rw [List.find?_cons_of_pos (by simpa using hy)] at h
        exact (Option.some.inj h).symm
      subst he
      have h0 : findE nm r = none := find_none.2 (fun z hz e => hnd.1 (by rw [hy, ← e]; exact List.mem_map.2 ⟨z, hz, rfl⟩))
      have h1 : delE nm (e :: r) = r := by
        have : delE nm (e :: r) = delE nm r := by unfold delE; rw [List.filter_cons_of_neg (by simp [hy])]
        rw [this, del_none h0]
      rw [h1]
      exact ⟨by simp, by simp [sizeE]; omega⟩
    · have h0 : findE nm r = some e := by
        unfold findE at h ⊢
        rwa [List.find?_cons_of_neg (by simpa using hy)] at h
      obtain ⟨h1, h2⟩ := ih hr2 h0
      have h3 : delE nm (y :: r) = y :: delE nm r := by unfold delE; rw [List.filter_cons_of_pos (by simpa using hy)]
      rw [h3]
      have h4 : sizeE (y :: delE nm r) = y.b.length + sizeE (delE nm r) := by simp [sizeE]
      have h5 : sizeE (y :: r) = y.b.length + sizeE r := by simp [sizeE]
      refine ⟨by simp; omega, by omega⟩
theorem find_put_same (x : Ent) (es : List Ent) : findE x.name (putE x es) = some x := by
  cases h : findE x.name (putE x es) with
  | none => exact absurd rfl (find_none.1 h x (mem_put.2 (Or.inl rfl)))
  | some e =>
    obtain ⟨h1, h2⟩ := find_mem h
    rcases mem_put.1 h1 with h3 | ⟨_, h3⟩
    · rw [h3]
    · exact absurd h2 h3
theorem rising_del {nm : List UInt8} {es : List Ent} (h : Rising es) : Rising (delE nm es) := by
  unfold Rising delE at *
  rw [List.pairwise_map] at h ⊢
  exact h.filter _
theorem find_unique {es : List Ent} (hr : Rising es) {e : Ent} (he : e ∈ es) : findE e.name es = some e := by
  induction es with
  | nil => cases he
  | cons y r ih =>
    have hr2 : Rising r := by unfold Rising at hr ⊢; rw [List.map_cons] at hr; exact (List.pairwise_cons.1 hr).2
    have hnd := rising_nodup hr
    rw [List.map_cons, List.nodup_cons] at hnd
    unfold findE
    rcases List.mem_cons.1 he with rfl | h1
    · rw [List.find?_cons_of_pos (by simp)]
    · have : y.name ≠ e.name := fun h => hnd.1 (by rw [h]; exact List.mem_map.2 ⟨e, h1, rfl⟩)
      rw [List.find?_cons_of_neg (by simpa using this)]
      exact ih hr2 h1
theorem find_put_other {x : Ent} {es : List Ent} {nm : List UInt8} (h : nm ≠ x.name) (hr : Rising es) (hr2 : Rising (putE x es)) : findE nm (putE x es) = findE nm es := by
  cases h1 : findE nm es with
  | none => exact find_none.2 (fun e he hn => by
      rcases mem_put.1 he with h3 | ⟨h3, _⟩
      · subst h3; exact h hn.symm
      · exact find_none.1 h1 e h3 hn)
  | some e =>
    obtain ⟨h2, rfl⟩ := find_mem h1
    exact find_unique hr2 (mem_put.2 (Or.inr ⟨h2, h⟩))
theorem find_del {es : List Ent} {nm mm : List UInt8} (hr : Rising es) : findE nm (delE mm es) = if nm = mm then none else findE nm es := by
  split
  · next h => subst h; exact find_none.2 (fun e he => (mem_del.1 he).2)
  · next h =>
    cases h1 : findE nm es with
    | none => exact find_none.2 (fun e he => find_none.1 h1 e (mem_del.1 he).1)
    | some e =>
      obtain ⟨h2, rfl⟩ := find_mem h1
      exact find_unique (rising_del hr) (mem_del.2 ⟨h2, h⟩)
end Go.Proofs.Ytmholofhmpplcaa
