import Derived.Test.YtmkdjonlfkfnlaaDoorA0
import Derived.Test.YtmkdjonlfkfnlaaDoorHW
import Derived.Test.YtmkdjonlfkfnlaaDoorHY

/- A map from sums to pointers. -/
namespace Go.Proofs.YtmkdjonlfkfnlaaDoor
open Go.RowKit Go.Lib Go.Maps

def heldP (v : Value) : Option (DataW Value × List MemPlace) := some (.held v, [])
/-- The block that a sum stands for. -/
def findI (id : List UInt8) : List (List UInt8 × Nat) → Option Nat
  | [] => none
  | e :: r => if e.1 = id then some e.2 else findI id r
def ptrO : Option Nat → Value
  | some b => .pointer (some ⟨b, 0, none⟩)
  | none => .pointer none
def delI (id : List UInt8) (es : List (List UInt8 × Nat)) : List (List UInt8 × Nat) := es.filter (fun e => decide (e.1 ≠ id))
def atI (D : DataW Value) (es : List (List UInt8 × Nat)) (id : List UInt8) (kl : Lit) : Prop :=
  Maps.has D kl = (findI id es).isSome ∧ ∀ z, D.atKey kl z = match findI id es with | some g => .held (ptrO (some g)) | none => z
def IMb (w : World) (b : Nat) (es : List (List UInt8 × Nat)) : Prop :=
  (∀ e ∈ es, e.1.length = 32) ∧ (es.map (·.1)).Nodup ∧ ∃ D, w.ownsMap Tryd.prog 34 heldP b es.length D ∧ Maps.size D = es.length ∧
    ∀ id kl, id.length = 32 → keyOf Tryd.prog 34 (.agg (id.map B).toArray) = some kl → atI D es id kl
def IM (w : World) (mv : Value) (es : List (List UInt8 × Nat)) : Prop := (mv = .map none ∧ es = []) ∨ ∃ b, mv = .map (some b) ∧ IMb w b es
theorem IMb.lt {w : World} {b : Nat} {es : List (List UInt8 × Nat)} (h : IMb w b es) : b < w.heap.size := by
  obtain ⟨_, _, D, h1, _⟩ := h
  exact h1.lt
theorem IM.kept {w w' : World} {S : List Nat} {mv : Value} {es : List (List UInt8 × Nat)} (h : IM w mv es) (hk : Kept S w w') (hd : ∀ b, mv = .map (some b) → b ∉ S) : IM w' mv es := by
  rcases h with h | ⟨b, rfl, h1, h2, D, h3, h4, h5⟩
  · exact Or.inl h
  · exact Or.inr ⟨b, rfl, h1, h2, D, hk.ownsMap h3 (hd b rfl), h4, h5⟩
theorem zero_ptr (w : World) : (zeroValue 57).run Tryd.prog w = .ok (.pointer none) w := by kernel_rfl
theorem im_tight {P : Program} {k : TypeId} {R : Value → Option (DataW Value × List MemPlace)} {w : World} {b n : Nat} {D : DataW Value} (h : w.ownsMap P k R b n D) : w.ownsMap P k R b (Maps.size D) D := by
  obtain ⟨es, clock, hb, F, hs, rfl⟩ := h
  exact ⟨es, clock, hb, F, by simp [Maps.size, length_sorted], rfl⟩
theorem id_keyN {id : List UInt8} (h : id.length = 32) : ∃ kl, keyOf Tryd.prog 34 (.agg (id.map B).toArray) = some kl := id_key id h
theorem im_look {w : World} {mv : Value} {es : List (List UInt8 × Nat)} (h : IM w mv es) (id : List UInt8) (hn : id.length = 32) :
    (Instr.lookup 56 mv (.agg (id.map B).toArray) true).run Tryd.prog w = .ok (.tuple #[ptrO (findI id es), .bool (findI id es).isSome]) w := by
  obtain ⟨kl, hkl⟩ := id_keyN hn
  rcases h with ⟨rfl, rfl⟩ | ⟨b, rfl, _, _, D, h, _, h5⟩
  · exact Maps.look_nil true a_keyed Tryd.underlying56 (zero_ptr w) hkl
  · obtain ⟨v, ps, h1, h2⟩ := h.look_ok a_keyed Tryd.underlying56 (zero_ptr w) (zd := .held (.pointer none)) (zp := []) rfl hkl
    obtain ⟨e1, e2⟩ := h5 id kl hn hkl
    rw [e1] at h1
    rw [e2] at h2
    have hv : v = ptrO (findI id es) := by
      unfold heldP at h2
      cases hf : findI id es <;> rw [hf] at h2 <;> simp at h2 <;> exact h2.1
    rw [← hv]
    exact h1
theorem im_len {w : World} {mv : Value} {es : List (List UInt8 × Nat)} (h : IM w mv es) (ty : TypeId) : (Builtin.len_ #[56] ty #[mv]).run Tryd.prog w = .ok (.int .i64 es.length) w := by
  rcases h with ⟨rfl, rfl⟩ | ⟨b, rfl, _, _, D, h, h4, _⟩
  · exact Maps.len_nil Tryd.underlying56 ty
  · have h1 := h.len Tryd.underlying56 ty
    rw [h4] at h1
    exact h1
theorem find_del_same (id : List UInt8) (es : List (List UInt8 × Nat)) : findI id (delI id es) = none := by
  unfold delI
  induction es with
  | nil => rfl
  | cons e r ih =>
    rw [List.filter_cons]
    split
    · rename_i h
      unfold findI
      rw [if_neg (by simpa using h)]
      exact ih
    · exact ih
theorem find_del_other {id x : List UInt8} (hne : x ≠ id) (es : List (List UInt8 × Nat)) : findI x (delI id es) = findI x es := by
  unfold delI
  induction es with
  | nil => rfl
  | cons e r ih =>
    rw [List.filter_cons]
    split
    · unfold findI
      split
      · rfl
      · exact ih
    · rename_i h
      have he : e.1 = id := by simpa using h
      rw [ih]
      conv => rhs; unfold findI
      rw [if_neg (by rw [he]; exact fun hh => hne hh.symm)]
theorem del_none {id : List UInt8} {es : List (List UInt8 × Nat)} (h : findI id es = none) : delI id es = es := by
  unfold delI
  induction es with
  | nil => rfl
  | cons e r ih =>
    unfold findI at h
    split at h
    · cases h
    · rename_i hne
      rw [List.filter_cons, if_pos (by simpa using hne), ih h]
theorem find_mem {id : List UInt8} {es : List (List UInt8 × Nat)} : findI id es = none ↔ id ∉ es.map (·.1) := by
  induction es with
  | nil => simp [findI]
  | cons e r ih =>
    unfold findI
    by_cases he : e.1 = id
    · simp [he]
    · rw [if_neg he, ih]; simp [Ne.symm he]
theorem find_app (id : List UInt8) (xs ys : List (List UInt8 × Nat)) : findI id (xs ++ ys) = (findI id xs).or (findI id ys) := by
  induction xs with
  | nil => simp [findI]
  | cons e r ih =>
    rw [List.cons_append]
    by_cases he : e.1 = id
    · simp [findI, he]
    · have e1 : findI id (e :: (r ++ ys)) = findI id (r ++ ys) := by
        conv => lhs; unfold findI
        rw [if_neg he]
      have e2 : findI id (e :: r) = findI id r := by
        conv => lhs; unfold findI
        rw [if_neg he]
      rw [e1, e2, ih]
theorem del_len {id : List UInt8} : ∀ {es : List (List UInt8 × Nat)}, (es.map (·.1)).Nodup → (delI id es).length + (if (findI id es).isSome then 1 else 0) = es.length
  | [], _ => rfl
  | e :: r, h => by
    rw [List.map_cons, List.nodup_cons] at h
    by_cases he : e.1 = id
    · have h1 : findI id r = none := find_mem.2 (by rw [← he]; exact h.1)
      have h2 : delI id (e :: r) = r := by
        unfold delI
        rw [List.filter_cons, if_neg (by simpa using he)]
        exact del_none h1
      rw [h2]
      unfold findI
      rw [if_pos he]; rfl
    · have ih := del_len (id := id) h.2
      have h2 : delI id (e :: r) = e :: delI id r := by
        unfold delI
        rw [List.filter_cons, if_pos (by simpa using he)]
      have h3 : findI id (e :: r) = findI id r := by
        conv => lhs; unfold findI
        rw [if_neg he]
      rw [h2, h3, List.length_cons, List.length_cons]
      omega
theorem turnedI {w w' : World} {b : Nat} (h : w.mapTurned w' b) : Kept [b] w w' := Kept.of_grown h.grown (fun k hk _ => by simp at hk; simp [hk])
theorem im_drop {w : World} {b : Nat} {es : List (List UInt8 × Nat)} (h : IMb w b es) (id : List UInt8) (hn : id.length = 32) :
    ∃ w', (∀ ty, (Builtin.delete_ #[56, 34] ty #[.map (some b), .agg (id.map B).toArray]).run Tryd.prog w = .ok (.tuple #[]) w') ∧ Kept [b] w w' ∧ IMb w' b (delI id es) := by
  obtain ⟨kl, hkl⟩ := id_keyN hn
  obtain ⟨hl, hnd, D, ho, hs, hat⟩ := h
  obtain ⟨w', h1, h2, h3⟩ := ho.drop a_keyed Tryd.underlying56 hkl 34
  have hsz : Maps.size (D.del kl) = (delI id es).length := by
    have e1 := Maps.size_del (k := kl) (ho.tidy a_keyed)
    have e2 := del_len (id := id) hnd
    rw [(hat id kl hn hkl).1] at e1
    omega
  refine ⟨w', fun ty => h1, turnedI h3, fun e he => hl e (List.mem_filter.1 he).1, (List.Sublist.map _ List.filter_sublist).nodup hnd, D.del kl, hsz ▸ im_tight h2, hsz, ?_⟩
  intro x kx hx hkx
  by_cases e : kx = kl
  · subst e
    have e2 : x = id := bytesV_inj (a_keyed.inj hkx hkl)
    subst e2
    refine ⟨by rw [has_del_same, find_del_same]; rfl, fun z => by rw [atKey_del_same, find_del_same]⟩
  · have e2 : x ≠ id := fun h => by subst h; rw [hkx] at hkl; exact e (Option.some.inj hkl)
    obtain ⟨a1, a2⟩ := hat x kx hx hkx
    exact ⟨by rw [has_del_other e, find_del_other e2, a1], fun z => by rw [atKey_del_other e, find_del_other e2, a2]⟩
theorem im_put {w : World} {b : Nat} {es : List (List UInt8 × Nat)} (h : IMb w b es) (id : List UInt8) (hn : id.length = 32) (g : Nat) (hf : findI id es = none) (hl : es.length ≤ 1000000000) :
    ∃ w', (Instr.mapUpdate 56 (.map (some b)) (.agg (id.map B).toArray) (.pointer (some ⟨g, 0, none⟩))).run Tryd.prog w = .ok () w' ∧ Kept [b] w w' ∧ IMb w' b (es ++ [(id, g)]) := by
  obtain ⟨kl, hkl⟩ := id_keyN hn
  obtain ⟨hl, hnd, D, ho, hs, hat⟩ := h
  obtain ⟨w', h1, h2, h3⟩ := ho.store (val := .pointer (some ⟨g, 0, none⟩)) (d := .held (.pointer (some ⟨g, 0, none⟩))) (ps := []) a_keyed Tryd.underlying56 (by unfold maxLen; omega) hkl rfl
  have hhas := (hat id kl hn hkl).1
  rw [hf] at hhas
  have hsz : Maps.size (D.put kl (.held (.pointer (some ⟨g, 0, none⟩)))) = (es ++ [(id, g)]).length := by
    rw [Maps.size_put (ho.tidy a_keyed), hhas, hs]; simp
  refine ⟨w', h1, turnedI h3, fun e he => ?_, ?_, D.put kl _, hsz ▸ im_tight h2, hsz, ?_⟩
  · rcases List.mem_append.1 he with he | he
    · exact hl e he
    · simp at he; subst he; exact hn
  · rw [List.map_append, List.map_cons, List.map_nil, List.nodup_append]
    refine ⟨hnd, by simp, fun a ha c hc => ?_⟩
    simp at hc
    subst hc
    intro e
    subst e
    exact find_mem.1 hf ha
  · intro x kx hx hkx
    by_cases e : kx = kl
    · subst e
      have e2 : x = id := bytesV_inj (a_keyed.inj hkx hkl)
      subst e2
      have e3 : findI x (es ++ [(x, g)]) = some g := by rw [find_app, hf]; simp [findI]
      refine ⟨by rw [has_put_same ho.isMap (a_keyed.key hkx), e3]; rfl, fun z => by rw [atKey_put_same ho.isMap (a_keyed.key hkx), e3]; rfl⟩
    · have e2 : x ≠ id := fun h => by subst h; rw [hkx] at hkl; exact e (Option.some.inj hkl)
      obtain ⟨a1, a2⟩ := hat x kx hx hkx
      have e3 : findI x (es ++ [(id, g)]) = findI x es := by rw [find_app]; simp [findI, Ne.symm e2]
      exact ⟨by rw [has_put_other e, e3, a1], fun z => by rw [atKey_put_other e, e3, a2]⟩
theorem im_made (w : World) : IMb (w.alloc (.map #[] 0)) w.heap.size [] :=
  ⟨by simp, by simp, .map [], World.ownsMap_made w _ _ _, rfl, fun id kl _ _ => ⟨by simp [Maps.has, findI], fun z => by simp [DataW.atKey, findI]⟩⟩
end Go.Proofs.YtmkdjonlfkfnlaaDoor


/- cache: nodes, their links, the cache's own cells; row.add. -/
namespace Go.Proofs.YtmkdjonlfkfnlaaDoor
open Go.RowKit Go.Lib Go.Maps

theorem ptrS (b : Nat) : ptrO (some b) = .pointer (some ⟨b, 0, none⟩) := rfl
theorem ptrN : ptrO none = .pointer none := rfl
/-- A kept blob: its block, its sum, its bytes (a slice, and what it says). -/
structure Kn where
  b : Nat
  id : List UInt8
  v : Value
  bs : List UInt8
def knL (n : Kn) (pv nx : Value) : List Value := n.id.map B ++ [n.v, pv, nx]
def KnAt (w : World) (n : Kn) (pv nx : Option Nat) : Prop := n.id.length = 32 ∧ w.heap[n.b]? = some (.cells (knL n (ptrO pv) (ptrO nx)).toArray 72 (0, 0))
def fstP : List Kn → Option Nat → Option Nat
  | [], nx => nx
  | n :: _, _ => some n.b
def lstP : Option Nat → List Kn → Option Nat
  | pv, [] => pv
  | _, n :: r => lstP (some n.b) r
def Lk (w : World) : Option Nat → List Kn → Option Nat → Prop
  | _, [], _ => True
  | pv, n :: r, nx => KnAt w n pv (fstP r nx) ∧ Lk w (some n.b) r nx
def caL (lim sz : Int) (mv f l : Value) : List Value := [.int .i64 lim, .int .i64 sz, mv, f, l]
def CaAt (w : World) (p : Nat) (lim sz : Int) (mv : Value) (f l : Option Nat) : Prop := w.heap[p]? = some (.cells (caL lim sz mv (ptrO f) (ptrO l)).toArray 61 (0, 0))
theorem fst_app (xs ys : List Kn) (nx : Option Nat) : fstP (xs ++ ys) nx = fstP xs (fstP ys nx) := by cases xs <;> rfl
theorem lst_app (pv : Option Nat) (xs ys : List Kn) : lstP pv (xs ++ ys) = lstP (lstP pv xs) ys := by
  induction xs generalizing pv with
  | nil => rfl
  | cons n r ih => exact ih _
theorem Lk.app {w : World} {pv nx : Option Nat} {xs ys : List Kn} : Lk w pv (xs ++ ys) nx ↔ Lk w pv xs (fstP ys nx) ∧ Lk w (lstP pv xs) ys nx := by
  induction xs generalizing pv with
  | nil => simp [Lk, lstP]
  | cons n r ih =>
    simp only [List.cons_append, Lk, lstP, ih, fst_app, and_assoc]
theorem KnAt.kept {w w' : World} {S : List Nat} {n : Kn} {pv nx : Option Nat} (h : KnAt w n pv nx) (hk : Kept S w w') (hb : n.b ∉ S) : KnAt w' n pv nx := ⟨h.1, hk.at h.2 hb⟩
theorem Lk.kept {w w' : World} {S : List Nat} {ns : List Kn} {pv nx : Option Nat} (h : Lk w pv ns nx) (hk : Kept S w w') (hb : ∀ n ∈ ns, n.b ∉ S) : Lk w' pv ns nx := by
  induction ns generalizing pv with
  | nil => trivial
  | cons n r ih => exact ⟨h.1.kept hk (hb n (by simp)), ih h.2 (fun m hm => hb m (by simp [hm]))⟩
theorem Lk.mem {w : World} {ns : List Kn} {pv nx : Option Nat} (h : Lk w pv ns nx) {n : Kn} (hn : n ∈ ns) : ∃ a b, KnAt w n a b := by
  induction ns generalizing pv with
  | nil => simp at hn
  | cons m r ih =>
    rcases List.mem_cons.1 hn with rfl | hn
    · exact ⟨_, _, h.1⟩
    · exact ih h.2 hn
theorem set_any {W : World} {p j T : Nat} {cs : List Value} {v : Value} (h : W.heap[p]? = some (.cells cs.toArray T (0, 0))) : (W.setCell ⟨p, j, none⟩ v).heap[p]? = some (.cells (cs.set j v).toArray T (0, 0)) := by
  rw [Go.heap_setCell_same W _ j _ _ _ h]; simp
theorem knL_set33 (n : Kn) (h : n.id.length = 32) (a b u : Value) : (knL n a b).set 33 u = knL n u b := by
  unfold knL
  rw [List.set_append_right _ _ (by simp [h])]
  simp [h]
theorem knL_set34 (n : Kn) (h : n.id.length = 32) (a b u : Value) : (knL n a b).set 34 u = knL n a u := by
  unfold knL
  rw [List.set_append_right _ _ (by simp [h])]
  simp [h]
theorem knL_get (n : Kn) (h : n.id.length = 32) (a b : Value) : (knL n a b)[32]? = some n.v ∧ (knL n a b)[33]? = some a ∧ (knL n a b)[34]? = some b := by
  unfold knL
  refine ⟨?_, ?_, ?_⟩ <;> rw [List.getElem?_append_right (by simp [h])] <;> simp [h]
theorem knL_id (n : Kn) (a b : Value) (j : Nat) (v : Value) (h : (n.id.map B)[j]? = some v) : (knL n a b)[j]? = some v := by
  unfold knL
  rw [List.getElem?_append_left (by have := (List.getElem?_eq_some_iff.1 h).1; simpa using this)]
  exact h
theorem kn_cells {w : World} {n : Kn} {a b : Value} (h32 : n.id.length = 32) (h : w.heap[n.b]? = some (.cells (knL n a b).toArray 72 (0, 0))) :
    w.cell? ⟨n.b, 32, none⟩ = some n.v ∧ w.cell? ⟨n.b, 33, none⟩ = some a ∧ w.cell? ⟨n.b, 34, none⟩ = some b := by
  obtain ⟨h1, h2, h3⟩ := knL_get n h32 a b
  refine ⟨?_, ?_, ?_⟩
  · rw [cell_of_row _ _ 32 _ _ _ h]; simpa using h1
  · rw [cell_of_row _ _ 33 _ _ _ h]; simpa using h2
  · rw [cell_of_row _ _ 34 _ _ _ h]; simpa using h3
theorem kn_ids {w : World} {n : Kn} {a b : Value} (h : w.heap[n.b]? = some (.cells (knL n a b).toArray 72 (0, 0))) : ∀ (j : Nat) v, (n.id.map B)[j]? = some v → w.cell? ((⟨n.b, 0, none⟩ : Addr).add j) = some v := fun j v hj => by
  have e : (⟨n.b, 0, none⟩ : Addr).add j = ⟨n.b, j, none⟩ := by unfold Addr.add; split <;> simp_all
  rw [e, cell_of_row _ _ j _ _ _ h]
  simpa using knL_id n a b j v hj
theorem ca_cells {w : World} {p : Nat} {lim sz : Int} {mv : Value} {f l : Option Nat} (h : CaAt w p lim sz mv f l) :
    w.cell? ⟨p, 0, none⟩ = some (.int .i64 lim) ∧ w.cell? ⟨p, 1, none⟩ = some (.int .i64 sz) ∧ w.cell? ⟨p, 2, none⟩ = some mv ∧ w.cell? ⟨p, 3, none⟩ = some (ptrO f) ∧ w.cell? ⟨p, 4, none⟩ = some (ptrO l) :=
  ⟨by rw [cell_of_row _ _ 0 _ _ _ h]; rfl, by rw [cell_of_row _ _ 1 _ _ _ h]; rfl, by rw [cell_of_row _ _ 2 _ _ _ h]; rfl, by rw [cell_of_row _ _ 3 _ _ _ h]; rfl, by rw [cell_of_row _ _ 4 _ _ _ h]; rfl⟩
theorem free_row {W : World} {p T : Nat} {cs : Array Value} (h : W.heap[p]? = some (.cells cs T (0, 0))) (i : Nat) : W.frozen? ⟨p, i, none⟩ = false := by unfold World.frozen?; simp [h]
theorem CaAt.far {w : World} {p : Nat} {lim sz : Int} {mv : Value} {f l : Option Nat} {n : Kn} {a b : Value} (h : CaAt w p lim sz mv f l) (hn : w.heap[n.b]? = some (.cells (knL n a b).toArray 72 (0, 0))) : n.b ≠ p := by
  intro e
  unfold CaAt at h
  rw [← e, hn] at h
  simp at h
theorem kset (w : World) (p j : Nat) (v : Value) : Kept [p] w (w.setCell ⟨p, j, none⟩ v) := (Kept.refl [p] w).setCell (p := ⟨p, j, none⟩) (fun _ => by simp) _
theorem ptr_eq (o : Option Nat) : (ptrO o = .pointer none) ↔ o = none := by cases o <;> simp [ptrO]

set_option maxRecDepth 100000 in
set_option maxHeartbeats 4000000 in
theorem row_add (w : World) (p : Nat) (lim sz : Int) (mv : Value) (ns : List Kn) (n : Kn) (a b : Value) (h : CaAt w p lim sz mv (fstP ns none) (lstP none ns)) (hl : Lk w none ns none) (h32 : n.id.length = 32)
    (hn : w.heap[n.b]? = some (.cells (knL n a b).toArray 72 (0, 0))) (hnd : ((ns ++ [n]).map (·.b)).Nodup) :
    Calls Tryd.prog 35 #[.pointer (some ⟨p, 3, none⟩), .pointer (some ⟨n.b, 0, none⟩)] w fun e w' => e = .returned (.tuple #[]) ∧ Kept (p :: n.b :: ns.map (·.b)) w w' ∧ CaAt w' p lim sz mv (fstP (ns ++ [n]) none) (some n.b) ∧ Lk w' none (ns ++ [n]) none := by
  have hpn := h.far hn
  obtain ⟨q0, q1, q2, q3, q4⟩ := ca_cells h
  obtain ⟨r0, r1, r2⟩ := kn_cells h32 hn
  have z1 := free_row hn 33
  have z2 := free_row hn 34
  have z3 := free_row h 3
  have z4 := free_row h 4
  have H := hid h; have HN := hid hn; have HL := hid hl
  rcases List.eq_nil_or_concat ns with rfl | ⟨A, m, hns⟩
  · simp only [fstP, lstP, ptrO] at q3 q4
    clear h hn hl hnd
    go_enter Tryd.func35, Tryd.ntmps35
    go_wp2
    go_end0
    have e1 := set_any (j := 33) (v := .pointer none) HN.out
    rw [knL_set33 n h32] at e1
    have e2 := set_any (j := 34) (v := .pointer none) e1
    rw [knL_set34 n h32] at e2
    have e3 := heap_setCell_other (p := ⟨p, 3, none⟩) (u := .pointer (some ⟨n.b, 0, none⟩)) e2 hpn
    have e4 := heap_setCell_other (p := ⟨p, 4, none⟩) (u := .pointer (some ⟨n.b, 0, none⟩)) e3 hpn
    have f1 := heap_setCell_other (p := ⟨n.b, 33, none⟩) (u := .pointer none) H.out (Ne.symm hpn)
    have f2 := heap_setCell_other (p := ⟨n.b, 34, none⟩) (u := .pointer none) f1 (Ne.symm hpn)
    have f3 := set_any (j := 3) (v := .pointer (some ⟨n.b, 0, none⟩)) f2
    have f4 := set_any (j := 4) (v := .pointer (some ⟨n.b, 0, none⟩)) f3
    refine ⟨rfl, ?_, f4, ⟨⟨h32, e4⟩, trivial⟩⟩
    exact ((((Kept.refl _ w).setCell (p := ⟨n.b, 33, none⟩) (fun _ => by simp) _).setCell (p := ⟨n.b, 34, none⟩) (fun _ => by simp) _).setCell (p := ⟨p, 3, none⟩) (fun _ => by simp) _).setCell (p := ⟨p, 4, none⟩) (fun _ => by simp) _
  · rw [List.concat_eq_append] at hns
    subst hns
    have hlst : lstP none (A ++ [m]) = some m.b := by rw [lst_app]; rfl
    rw [hlst] at q4 h H
    simp only [ptrO] at q4
    obtain ⟨hlA, hlm⟩ := Lk.app.1 hl
    have hm := hlm.1
    have hm32 := hm.1
    obtain ⟨s0, s1, s2⟩ := kn_cells hm32 hm.2
    have z5 := free_row hm.2 34
    have hpm := h.far hm.2
    have hAn := hid (show ∀ x ∈ A, x.b ≠ m.b ∧ x.b ≠ n.b from fun x hx => by
      simp only [List.map_append, List.map_cons, List.map_nil, List.append_assoc] at hnd
      have h1 := (List.nodup_append.1 hnd).2.2 x.b (List.mem_map_of_mem hx)
      exact ⟨h1 m.b (by simp), h1 n.b (by simp)⟩)
    have hmn : m.b ≠ n.b := by
      simp only [List.map_append, List.map_cons, List.map_nil, List.append_assoc] at hnd
      have h1 := (List.nodup_append.1 hnd).2.1
      simpa using h1
    have hAp := hid (show ∀ x ∈ A, x.b ≠ p from fun x hx => by
      obtain ⟨a, b, h1⟩ := hlA.mem hx
      exact h.far h1.2)
    have HM := hid hm; have HLA := hid hlA
    clear h hn hl hnd hm hlA hlm
    go_enter Tryd.func35, Tryd.ntmps35
    go_wp2
    go_end0
    have e1 := set_any (j := 33) (v := .pointer (some ⟨m.b, 0, none⟩)) HN.out
    rw [knL_set33 n h32] at e1
    have e2 := set_any (j := 34) (v := .pointer none) e1
    rw [knL_set34 n h32] at e2
    have e3 := heap_setCell_other (p := ⟨m.b, 34, none⟩) (u := .pointer (some ⟨n.b, 0, none⟩)) e2 (Ne.symm hmn)
    have e4 := heap_setCell_other (p := ⟨p, 4, none⟩) (u := .pointer (some ⟨n.b, 0, none⟩)) e3 hpn
    have g1 := heap_setCell_other (p := ⟨n.b, 33, none⟩) (u := .pointer (some ⟨m.b, 0, none⟩)) HM.out.2 hmn
    have g2 := heap_setCell_other (p := ⟨n.b, 34, none⟩) (u := .pointer none) g1 hmn
    have g3 := set_any (j := 34) (v := .pointer (some ⟨n.b, 0, none⟩)) g2
    rw [knL_set34 m hm32] at g3
    have g4 := heap_setCell_other (p := ⟨p, 4, none⟩) (u := .pointer (some ⟨n.b, 0, none⟩)) g3 hpm
    have f1 := heap_setCell_other (p := ⟨n.b, 33, none⟩) (u := .pointer (some ⟨m.b, 0, none⟩)) H.out (Ne.symm hpn)
    have f2 := heap_setCell_other (p := ⟨n.b, 34, none⟩) (u := .pointer none) f1 (Ne.symm hpn)
    have f3 := heap_setCell_other (p := ⟨m.b, 34, none⟩) (u := .pointer (some ⟨n.b, 0, none⟩)) f2 (Ne.symm hpm)
    have f4 := set_any (j := 4) (v := .pointer (some ⟨n.b, 0, none⟩)) f3
    have hk := ((((Kept.refl [n.b, m.b, p] w).setCell (p := ⟨n.b, 33, none⟩) (fun _ => by simp) (.pointer (some ⟨m.b, 0, none⟩))).setCell (p := ⟨n.b, 34, none⟩) (fun _ => by simp) (.pointer none)).setCell (p := ⟨m.b, 34, none⟩) (fun _ => by simp) (.pointer (some ⟨n.b, 0, none⟩))).setCell (p := ⟨p, 4, none⟩) (fun _ => by simp) (.pointer (some ⟨n.b, 0, none⟩))
    refine ⟨rfl, hk.wider (fun x _ hx => ?_), ?_, ?_⟩
    · simp at hx ⊢
      rcases hx with h | h | h <;> simp [h]
    · have e : fstP (A ++ [m] ++ [n]) none = fstP (A ++ [m]) none := by cases A <;> rfl
      rw [e]
      exact f4
    · rw [List.append_assoc]
      refine Lk.app.2 ⟨HLA.out.kept hk (fun x hx => ?_), ⟨⟨hm32, g4⟩, ⟨h32, e4⟩, trivial⟩⟩
      have h1 := hAn.out x hx
      have h2 := hAp.out x hx
      simp [h1.1, h1.2, h2]
end Go.Proofs.YtmkdjonlfkfnlaaDoor


/- cache: row.remove. -/
namespace Go.Proofs.YtmkdjonlfkfnlaaDoor
open Go.RowKit Go.Lib Go.Maps
theorem nd_far {A C : List Kn} {n : Kn} (h : ((A ++ n :: C).map (·.b)).Nodup) : (∀ x ∈ A, x.b ≠ n.b ∧ ∀ y ∈ C, x.b ≠ y.b) ∧ ∀ y ∈ C, n.b ≠ y.b := by
  rw [List.map_append, List.map_cons] at h
  have h1 := List.nodup_append.1 h
  refine ⟨fun x hx => ⟨h1.2.2 x.b (List.mem_map_of_mem hx) n.b (by simp), fun y hy => h1.2.2 x.b (List.mem_map_of_mem hx) y.b (by simp; exact Or.inr ⟨y, hy, rfl⟩)⟩, fun y hy e => ?_⟩
  have h2 := (List.nodup_cons.1 h1.2.1).1
  exact h2 (by rw [e]; exact List.mem_map_of_mem hy)

set_option maxRecDepth 100000 in
set_option maxHeartbeats 4000000 in
theorem row_rem00 (w : World) (p : Nat) (lim sz : Int) (mv : Value) (n : Kn) (h : CaAt w p lim sz mv (some n.b) (some n.b)) (hn : KnAt w n (none) (none)) :
    Calls Tryd.prog 34 #[.pointer (some ⟨p, 3, none⟩), .pointer (some ⟨n.b, 0, none⟩)] w fun e w' => e = .returned (.tuple #[]) ∧ Kept (p :: (([] : List Kn) ++ ([] : List Kn)).map (·.b)) w w' ∧ CaAt w' p lim sz mv (none) (none) ∧ Lk w' none (([] : List Kn) ++ ([] : List Kn)) none := by
  have hpn := h.far hn.2
  obtain ⟨q0, q1, q2, q3, q4⟩ := ca_cells h
  obtain ⟨r0, r1, r2⟩ := kn_cells hn.1 hn.2
  simp only [ptrS, ptrN] at q3 q4 r1 r2
  have z3 := free_row h 3
  have z4 := free_row h 4
  have H := hid h; have HN := hid hn
  clear h hn
  go_enter Tryd.func34, Tryd.ntmps34
  go_wp2
  obtain ⟨V, hV⟩ : ∃ V, V = w.setCell ⟨p, 3, none⟩ (.pointer none) := ⟨_, rfl⟩
  have hcaV : CaAt V p lim sz mv (none) (some n.b) := by rw [hV]; exact set_any (j := 3) H.out
  have hnV : KnAt V n (none) (none) := ⟨HN.out.1, by rw [hV]; exact heap_setCell_other (p := ⟨p, 3, none⟩) HN.out.2 hpn⟩
  have hkV : Kept [p] w V := by rw [hV]; exact kset _ _ _ _
  skip
  obtain ⟨u0, u1, u2, u3, u4⟩ := ca_cells hcaV
  obtain ⟨v0, v1, v2⟩ := kn_cells hnV.1 hnV.2
  simp only [ptrS, ptrN] at u3 u4 v1 v2
  have y9 := free_row hcaV 4
  have HCAV := hid hcaV; have HNV := hid hnV
  have HKV := hid hkV
  clear hcaV hnV hkV
  go_end0
  rw [← hV]
  have hk2 : Kept [p] V (V.setCell ⟨p, 4, none⟩ (.pointer none)) := kset _ _ _ _
  refine ⟨rfl, Kept.trans (HKV.out.wider (fun x _ hx => ?_)) (hk2.wider (fun x _ hx => ?_)), set_any (j := 4) HCAV.out, ?_⟩
  · simp at hx ⊢; simp [hx]
  · simp at hx ⊢; simp [hx]
  · trivial
set_option maxRecDepth 100000 in
set_option maxHeartbeats 4000000 in
theorem row_rem01 (w : World) (p : Nat) (lim sz : Int) (mv : Value) (n : Kn) (c : Kn) (C : List Kn) (h : CaAt w p lim sz mv (some n.b) (lstP (some c.b) C)) (hn : KnAt w n (none) (some c.b)) (hc : KnAt w c (some n.b) (fstP C none)) (hC : Lk w (some c.b) C none) (hCn : ∀ x ∈ C, x.b ≠ c.b) (hcn : c.b ≠ n.b) :
    Calls Tryd.prog 34 #[.pointer (some ⟨p, 3, none⟩), .pointer (some ⟨n.b, 0, none⟩)] w fun e w' => e = .returned (.tuple #[]) ∧ Kept (p :: (([] : List Kn) ++ (c :: C)).map (·.b)) w w' ∧ CaAt w' p lim sz mv (some c.b) (lstP (some c.b) C) ∧ Lk w' none (([] : List Kn) ++ (c :: C)) none := by
  have hpn := h.far hn.2
  obtain ⟨q0, q1, q2, q3, q4⟩ := ca_cells h
  obtain ⟨r0, r1, r2⟩ := kn_cells hn.1 hn.2
  simp only [ptrS, ptrN] at q3 q4 r1 r2
  have z3 := free_row h 3
  have z4 := free_row h 4
  have H := hid h; have HN := hid hn
  have hc32 := hc.1
  obtain ⟨t0, t1, t2⟩ := kn_cells hc32 hc.2
  simp only [ptrS, ptrN] at t1
  have z6 := free_row hc.2 33
  have hpc := h.far hc.2
  have hCp := hid (show ∀ x ∈ C, x.b ≠ p from fun x hx => by obtain ⟨a, b, h1⟩ := hC.mem hx; exact h.far h1.2)
  have HC := hid hc; have HCL := hid hC; have HCn := hid hCn
  clear h hn hc hC hCn
  go_enter Tryd.func34, Tryd.ntmps34
  go_wp2
  obtain ⟨V, hV⟩ : ∃ V, V = w.setCell ⟨p, 3, none⟩ (.pointer (some ⟨c.b, 0, none⟩)) := ⟨_, rfl⟩
  have hcaV : CaAt V p lim sz mv (some c.b) (lstP (some c.b) C) := by rw [hV]; exact set_any (j := 3) H.out
  have hnV : KnAt V n (none) (some c.b) := ⟨HN.out.1, by rw [hV]; exact heap_setCell_other (p := ⟨p, 3, none⟩) HN.out.2 hpn⟩
  have hkV : Kept [p] w V := by rw [hV]; exact kset _ _ _ _
  have hcV : KnAt V c (some n.b) (fstP C none) := HC.out.kept hkV (by simp [hpc])
  have hCV : Lk V (some c.b) C none := HCL.out.kept hkV (fun x hx => by have h2 := hCp.out x hx; simp [h2])
  rw [← hV]
  obtain ⟨u0, u1, u2, u3, u4⟩ := ca_cells hcaV
  obtain ⟨v0, v1, v2⟩ := kn_cells hnV.1 hnV.2
  simp only [ptrS, ptrN] at u3 u4 v1 v2
  have y9 := free_row hcaV 4
  have HCAV := hid hcaV; have HNV := hid hnV
  have y7 := free_row hcV.2 33; have y8 : V.cell? ⟨c.b, 33, none⟩ = some (.pointer (some ⟨n.b, 0, none⟩)) := (kn_cells hc32 hcV.2).2.1
  have HCV := hid hcV; have HCLV := hid hCV
  have HKV := hid hkV
  clear hcaV hnV hkV hcV hCV
  clear hV
  have y1 : V.drew.cell? ⟨n.b, 34, none⟩ = some (.pointer (some ⟨c.b, 0, none⟩)) := v2
  have y2 : V.drew.cell? ⟨n.b, 33, none⟩ = some (.pointer none) := v1
  refine wp_region_held_drew (S := fun v => v.cell? ⟨n.b, 34, none⟩ = some (.pointer (some ⟨c.b, 0, none⟩)) ∧ v.cell? ⟨n.b, 33, none⟩ = some (.pointer none)) (by kernel_rfl) ⟨y1, y2⟩ (fun hH => ?_)
  refine takeH 0 (.pointer (some ⟨n.b, 0, none⟩)) rfl (by kernel_rfl) (by kernel_rfl) (by kernel_rfl) (fun _ _ _ h => h) (by rfl) (fun v hv => by go_simp) hH ?_
  simp only [Act.put, List.setIfInBounds_toArray, List.set_cons_succ, List.set_cons_zero]
  refine takeH 1 (.pointer (some ⟨n.b, 0, none⟩)) rfl (by kernel_rfl) (by kernel_rfl) (by kernel_rfl) (fun _ _ _ h => h) (by rfl) (fun v hv => by go_simp) hH ?_
  simp only [Act.put, List.setIfInBounds_toArray, List.set_cons_succ, List.set_cons_zero]
  refine takeH 2 (.pointer (some ⟨n.b, 34, none⟩)) rfl (by kernel_rfl) (by kernel_rfl) (by kernel_rfl) (fun _ _ _ h => h) (by rfl) (fun v hv => by go_simp) hH ?_
  simp only [Act.put, List.setIfInBounds_toArray, List.set_cons_succ, List.set_cons_zero]
  refine takeH 3 (.pointer (some ⟨c.b, 0, none⟩)) rfl (by kernel_rfl) (by kernel_rfl) (by kernel_rfl) (fun _ _ _ h => h) (by rfl) (fun v hv => by have h := hv.1; go_simp) hH ?_
  simp only [Act.put, List.setIfInBounds_toArray, List.set_cons_succ, List.set_cons_zero]
  refine takeH 4 (.pointer (some ⟨n.b, 0, none⟩)) rfl (by kernel_rfl) (by kernel_rfl) (by kernel_rfl) (fun _ _ _ h => h) (by rfl) (fun v hv => by go_simp) hH ?_
  simp only [Act.put, List.setIfInBounds_toArray, List.set_cons_succ, List.set_cons_zero]
  refine takeH 5 (.pointer (some ⟨n.b, 0, none⟩)) rfl (by kernel_rfl) (by kernel_rfl) (by kernel_rfl) (fun _ _ _ h => h) (by rfl) (fun v hv => by go_simp) hH ?_
  simp only [Act.put, List.setIfInBounds_toArray, List.set_cons_succ, List.set_cons_zero]
  refine takeH 6 (.pointer (some ⟨n.b, 33, none⟩)) rfl (by kernel_rfl) (by kernel_rfl) (by kernel_rfl) (fun _ _ _ h => h) (by rfl) (fun v hv => by go_simp) hH ?_
  simp only [Act.put, List.setIfInBounds_toArray, List.set_cons_succ, List.set_cons_zero]
  refine takeH 7 (.pointer none) rfl (by kernel_rfl) (by kernel_rfl) (by kernel_rfl) (fun _ _ _ h => h) (by rfl) (fun v hv => by have h := hv.2; go_simp) hH ?_
  simp only [Act.put, List.setIfInBounds_toArray, List.set_cons_succ, List.set_cons_zero]
  refine takeH 8 (.pointer (some ⟨c.b, 0, none⟩)) rfl (by kernel_rfl) (by kernel_rfl) (by kernel_rfl) (fun _ _ _ h => h) (by rfl) (fun v hv => by go_simp) hH ?_
  simp only [Act.put, List.setIfInBounds_toArray, List.set_cons_succ, List.set_cons_zero]
  refine takeH 9 (.pointer (some ⟨c.b, 33, none⟩)) rfl (by kernel_rfl) (by kernel_rfl) (by kernel_rfl) (fun _ _ _ h => h) (by rfl) (fun v hv => by go_simp) hH ?_
  simp only [Act.put, List.setIfInBounds_toArray, List.set_cons_succ, List.set_cons_zero]
  have y3c : V.drew.cell? ⟨c.b, 33, none⟩ = some (.pointer (some ⟨n.b, 0, none⟩)) := y8
  have y4c : V.drew.frozen? ⟨c.b, 33, none⟩ = false := y7
  have ho2 := heap_setCell_other (w := V.drew) (p := ⟨c.b, 33, none⟩) (u := .pointer none) HNV.out.2 (Ne.symm hcn)
  refine writeH 10 rfl (by kernel_rfl) (by rfl) (V.drew.setCell ⟨c.b, 33, none⟩ (.pointer none)) (by go_simp) ((by have := kn_cells HNV.out.1 ho2; exact ⟨this.2.2, this.2.1⟩)) ?_
  simp only [Act.put, List.setIfInBounds_toArray, List.set_cons_succ, List.set_cons_zero]
  refine wpAnyH_done (by kernel_rfl) ?_ _
  go_wp2
  go_end0
  have hk2 : Kept [c.b] V (V.drew.setCell ⟨c.b, 33, none⟩ (.pointer none)) := ((Kept.refl [c.b] V).drew).setCell (p := ⟨c.b, 33, none⟩) (fun _ => by simp) _
  have hcF : KnAt (V.drew.setCell ⟨c.b, 33, none⟩ (.pointer none)) c (none) (fstP C none) := ⟨hc32, by have := set_any (W := V.drew) (j := 33) (v := .pointer none) HCV.out.2; rw [knL_set33 c hc32] at this; exact this⟩
  have hCF := HCLV.out.kept hk2 (fun x hx => by have h1 := HCn.out x hx; simp [h1])
  refine ⟨rfl, Kept.trans (HKV.out.wider (fun x _ hx => ?_)) (hk2.wider (fun x _ hx => ?_)), hk2.at HCAV.out (by simp [Ne.symm hpc]), ?_⟩
  · simp at hx ⊢; simp [hx]
  · simp at hx ⊢; simp [hx]
  · exact ⟨hcF, hCF⟩
set_option maxRecDepth 100000 in
set_option maxHeartbeats 4000000 in
theorem row_rem10 (w : World) (p : Nat) (lim sz : Int) (mv : Value) (A : List Kn) (m : Kn) (n : Kn) (h : CaAt w p lim sz mv (fstP (A ++ [m]) none) (some n.b)) (hn : KnAt w n (some m.b) (none)) (hm : KnAt w m (lstP none A) (some n.b)) (hA : Lk w none A (some m.b)) (hAn : ∀ x ∈ A, x.b ≠ m.b) (hmn : m.b ≠ n.b) :
    Calls Tryd.prog 34 #[.pointer (some ⟨p, 3, none⟩), .pointer (some ⟨n.b, 0, none⟩)] w fun e w' => e = .returned (.tuple #[]) ∧ Kept (p :: ((A ++ [m]) ++ ([] : List Kn)).map (·.b)) w w' ∧ CaAt w' p lim sz mv (fstP (A ++ [m]) none) (some m.b) ∧ Lk w' none ((A ++ [m]) ++ ([] : List Kn)) none := by
  have hpn := h.far hn.2
  obtain ⟨q0, q1, q2, q3, q4⟩ := ca_cells h
  obtain ⟨r0, r1, r2⟩ := kn_cells hn.1 hn.2
  simp only [ptrS, ptrN] at q3 q4 r1 r2
  have z3 := free_row h 3
  have z4 := free_row h 4
  have H := hid h; have HN := hid hn
  have hm32 := hm.1
  obtain ⟨s0, s1, s2⟩ := kn_cells hm32 hm.2
  simp only [ptrS, ptrN] at s2
  have z5 := free_row hm.2 34
  have hpm := h.far hm.2
  have hAp := hid (show ∀ x ∈ A, x.b ≠ p from fun x hx => by obtain ⟨a, b, h1⟩ := hA.mem hx; exact h.far h1.2)
  have HM := hid hm; have HA := hid hA; have HAn := hid hAn
  clear h hn hm hA hAn
  go_enter Tryd.func34, Tryd.ntmps34
  go_wp2
  have y1 : w.drew.cell? ⟨n.b, 33, none⟩ = some (.pointer (some ⟨m.b, 0, none⟩)) := r1
  have y2 : w.drew.cell? ⟨n.b, 34, none⟩ = some (.pointer none) := r2
  refine wp_region_held_drew (S := fun v => v.cell? ⟨n.b, 33, none⟩ = some (.pointer (some ⟨m.b, 0, none⟩)) ∧ v.cell? ⟨n.b, 34, none⟩ = some (.pointer none)) (by kernel_rfl) ⟨y1, y2⟩ (fun hH => ?_)
  refine takeH 0 (.pointer (some ⟨n.b, 0, none⟩)) rfl (by kernel_rfl) (by kernel_rfl) (by kernel_rfl) (fun _ _ _ h => h) (by rfl) (fun v hv => by go_simp) hH ?_
  simp only [Act.put, List.setIfInBounds_toArray, List.set_cons_succ, List.set_cons_zero]
  refine takeH 1 (.pointer (some ⟨n.b, 0, none⟩)) rfl (by kernel_rfl) (by kernel_rfl) (by kernel_rfl) (fun _ _ _ h => h) (by rfl) (fun v hv => by go_simp) hH ?_
  simp only [Act.put, List.setIfInBounds_toArray, List.set_cons_succ, List.set_cons_zero]
  refine takeH 2 (.pointer (some ⟨n.b, 33, none⟩)) rfl (by kernel_rfl) (by kernel_rfl) (by kernel_rfl) (fun _ _ _ h => h) (by rfl) (fun v hv => by go_simp) hH ?_
  simp only [Act.put, List.setIfInBounds_toArray, List.set_cons_succ, List.set_cons_zero]
  refine takeH 3 (.pointer (some ⟨m.b, 0, none⟩)) rfl (by kernel_rfl) (by kernel_rfl) (by kernel_rfl) (fun _ _ _ h => h) (by rfl) (fun v hv => by have h := hv.1; go_simp) hH ?_
  simp only [Act.put, List.setIfInBounds_toArray, List.set_cons_succ, List.set_cons_zero]
  refine takeH 4 (.pointer (some ⟨n.b, 0, none⟩)) rfl (by kernel_rfl) (by kernel_rfl) (by kernel_rfl) (fun _ _ _ h => h) (by rfl) (fun v hv => by go_simp) hH ?_
  simp only [Act.put, List.setIfInBounds_toArray, List.set_cons_succ, List.set_cons_zero]
  refine takeH 5 (.pointer (some ⟨n.b, 0, none⟩)) rfl (by kernel_rfl) (by kernel_rfl) (by kernel_rfl) (fun _ _ _ h => h) (by rfl) (fun v hv => by go_simp) hH ?_
  simp only [Act.put, List.setIfInBounds_toArray, List.set_cons_succ, List.set_cons_zero]
  refine takeH 6 (.pointer (some ⟨n.b, 34, none⟩)) rfl (by kernel_rfl) (by kernel_rfl) (by kernel_rfl) (fun _ _ _ h => h) (by rfl) (fun v hv => by go_simp) hH ?_
  simp only [Act.put, List.setIfInBounds_toArray, List.set_cons_succ, List.set_cons_zero]
  refine takeH 7 (.pointer none) rfl (by kernel_rfl) (by kernel_rfl) (by kernel_rfl) (fun _ _ _ h => h) (by rfl) (fun v hv => by have h := hv.2; go_simp) hH ?_
  simp only [Act.put, List.setIfInBounds_toArray, List.set_cons_succ, List.set_cons_zero]
  refine takeH 8 (.pointer (some ⟨m.b, 0, none⟩)) rfl (by kernel_rfl) (by kernel_rfl) (by kernel_rfl) (fun _ _ _ h => h) (by rfl) (fun v hv => by go_simp) hH ?_
  simp only [Act.put, List.setIfInBounds_toArray, List.set_cons_succ, List.set_cons_zero]
  refine takeH 9 (.pointer (some ⟨m.b, 34, none⟩)) rfl (by kernel_rfl) (by kernel_rfl) (by kernel_rfl) (fun _ _ _ h => h) (by rfl) (fun v hv => by go_simp) hH ?_
  simp only [Act.put, List.setIfInBounds_toArray, List.set_cons_succ, List.set_cons_zero]
  have y3 : w.drew.cell? ⟨m.b, 34, none⟩ = some (.pointer (some ⟨n.b, 0, none⟩)) := s2
  have y4 : w.drew.frozen? ⟨m.b, 34, none⟩ = false := z5
  have ho1 := heap_setCell_other (w := w.drew) (p := ⟨m.b, 34, none⟩) (u := .pointer none) HN.out.2 (Ne.symm hmn)
  refine writeH 10 rfl (by kernel_rfl) (by rfl) (w.drew.setCell ⟨m.b, 34, none⟩ (.pointer none)) (by go_simp) ((by have := kn_cells HN.out.1 ho1; exact ⟨this.2.1, this.2.2⟩)) ?_
  simp only [Act.put, List.setIfInBounds_toArray, List.set_cons_succ, List.set_cons_zero]
  refine wpAnyH_done (by kernel_rfl) ?_ _
  obtain ⟨V, hV⟩ : ∃ V, V = w.drew.setCell ⟨m.b, 34, none⟩ (.pointer none) := ⟨_, rfl⟩
  have hcaV : CaAt V p lim sz mv (fstP (A ++ [m]) none) (some n.b) := by rw [hV]; exact heap_setCell_other (w := w.drew) (p := ⟨m.b, 34, none⟩) H.out (Ne.symm hpm)
  have hnV : KnAt V n (some m.b) (none) := ⟨HN.out.1, by rw [hV]; exact ho1⟩
  have hmV : KnAt V m (lstP none A) (none) := ⟨hm32, by rw [hV]; have := set_any (W := w.drew) (j := 34) (v := .pointer none) HM.out.2; rw [knL_set34 m hm32] at this; exact this⟩
  have hkV : Kept [p, m.b] w V := by rw [hV]; exact ((Kept.refl [p, m.b] w).drew).setCell (p := ⟨m.b, 34, none⟩) (fun _ => by simp) _
  have hAV : Lk V none A (some m.b) := HA.out.kept hkV (fun x hx => by have h1 := HAn.out x hx; have h2 := hAp.out x hx; simp [h1, h2])
  rw [← hV]
  obtain ⟨u0, u1, u2, u3, u4⟩ := ca_cells hcaV
  obtain ⟨v0, v1, v2⟩ := kn_cells hnV.1 hnV.2
  simp only [ptrS, ptrN] at u3 u4 v1 v2
  have y9 := free_row hcaV 4
  have HCAV := hid hcaV; have HNV := hid hnV
  have HMV := hid hmV; have HAV := hid hAV
  have HKV := hid hkV
  clear hcaV hnV hkV hmV hAV
  clear hV
  go_wp2
  go_end0
  have hk2 : Kept [p] V (V.setCell ⟨p, 4, none⟩ (.pointer (some ⟨m.b, 0, none⟩))) := kset _ _ _ _
  refine ⟨rfl, Kept.trans (HKV.out.wider (fun x _ hx => ?_)) (hk2.wider (fun x _ hx => ?_)), set_any (j := 4) HCAV.out, ?_⟩
  · simp at hx ⊢; rcases hx with hx | hx <;> simp [hx]
  · simp at hx ⊢; simp [hx]
  · rw [List.append_nil]
    exact Lk.app.2 ⟨HAV.out.kept hk2 (fun x hx => by have h1 := hAp.out x hx; simp [h1]), ⟨HMV.out.kept hk2 (by simp [hpm]), trivial⟩⟩
set_option maxRecDepth 100000 in
set_option maxHeartbeats 4000000 in
theorem row_rem11 (w : World) (p : Nat) (lim sz : Int) (mv : Value) (A : List Kn) (m : Kn) (n : Kn) (c : Kn) (C : List Kn) (h : CaAt w p lim sz mv (fstP (A ++ [m]) none) (lstP (some c.b) C)) (hn : KnAt w n (some m.b) (some c.b)) (hm : KnAt w m (lstP none A) (some n.b)) (hA : Lk w none A (some m.b)) (hAn : ∀ x ∈ A, x.b ≠ m.b) (hmn : m.b ≠ n.b) (hc : KnAt w c (some n.b) (fstP C none)) (hC : Lk w (some c.b) C none) (hCn : ∀ x ∈ C, x.b ≠ c.b) (hcn : c.b ≠ n.b) (hmc : m.b ≠ c.b) (hAc : ∀ x ∈ A, x.b ≠ c.b) (hCm : ∀ x ∈ C, x.b ≠ m.b) :
    Calls Tryd.prog 34 #[.pointer (some ⟨p, 3, none⟩), .pointer (some ⟨n.b, 0, none⟩)] w fun e w' => e = .returned (.tuple #[]) ∧ Kept (p :: ((A ++ [m]) ++ (c :: C)).map (·.b)) w w' ∧ CaAt w' p lim sz mv (fstP (A ++ [m]) none) (lstP (some c.b) C) ∧ Lk w' none ((A ++ [m]) ++ (c :: C)) none := by
  have hpn := h.far hn.2
  obtain ⟨q0, q1, q2, q3, q4⟩ := ca_cells h
  obtain ⟨r0, r1, r2⟩ := kn_cells hn.1 hn.2
  simp only [ptrS, ptrN] at q3 q4 r1 r2
  have z3 := free_row h 3
  have z4 := free_row h 4
  have H := hid h; have HN := hid hn
  have hm32 := hm.1
  obtain ⟨s0, s1, s2⟩ := kn_cells hm32 hm.2
  simp only [ptrS, ptrN] at s2
  have z5 := free_row hm.2 34
  have hpm := h.far hm.2
  have hAp := hid (show ∀ x ∈ A, x.b ≠ p from fun x hx => by obtain ⟨a, b, h1⟩ := hA.mem hx; exact h.far h1.2)
  have HM := hid hm; have HA := hid hA; have HAn := hid hAn
  have hc32 := hc.1
  obtain ⟨t0, t1, t2⟩ := kn_cells hc32 hc.2
  simp only [ptrS, ptrN] at t1
  have z6 := free_row hc.2 33
  have hpc := h.far hc.2
  have hCp := hid (show ∀ x ∈ C, x.b ≠ p from fun x hx => by obtain ⟨a, b, h1⟩ := hC.mem hx; exact h.far h1.2)
  have HC := hid hc; have HCL := hid hC; have HCn := hid hCn
  have HAc := hid hAc; have HCm := hid hCm
  clear h hn hm hA hAn hc hC hCn hAc hCm
  go_enter Tryd.func34, Tryd.ntmps34
  go_wp2
  have y1 : w.drew.cell? ⟨n.b, 33, none⟩ = some (.pointer (some ⟨m.b, 0, none⟩)) := r1
  have y2 : w.drew.cell? ⟨n.b, 34, none⟩ = some (.pointer (some ⟨c.b, 0, none⟩)) := r2
  refine wp_region_held_drew (S := fun v => v.cell? ⟨n.b, 33, none⟩ = some (.pointer (some ⟨m.b, 0, none⟩)) ∧ v.cell? ⟨n.b, 34, none⟩ = some (.pointer (some ⟨c.b, 0, none⟩))) (by kernel_rfl) ⟨y1, y2⟩ (fun hH => ?_)
  refine takeH 0 (.pointer (some ⟨n.b, 0, none⟩)) rfl (by kernel_rfl) (by kernel_rfl) (by kernel_rfl) (fun _ _ _ h => h) (by rfl) (fun v hv => by go_simp) hH ?_
  simp only [Act.put, List.setIfInBounds_toArray, List.set_cons_succ, List.set_cons_zero]
  refine takeH 1 (.pointer (some ⟨n.b, 0, none⟩)) rfl (by kernel_rfl) (by kernel_rfl) (by kernel_rfl) (fun _ _ _ h => h) (by rfl) (fun v hv => by go_simp) hH ?_
  simp only [Act.put, List.setIfInBounds_toArray, List.set_cons_succ, List.set_cons_zero]
  refine takeH 2 (.pointer (some ⟨n.b, 33, none⟩)) rfl (by kernel_rfl) (by kernel_rfl) (by kernel_rfl) (fun _ _ _ h => h) (by rfl) (fun v hv => by go_simp) hH ?_
  simp only [Act.put, List.setIfInBounds_toArray, List.set_cons_succ, List.set_cons_zero]
  refine takeH 3 (.pointer (some ⟨m.b, 0, none⟩)) rfl (by kernel_rfl) (by kernel_rfl) (by kernel_rfl) (fun _ _ _ h => h) (by rfl) (fun v hv => by have h := hv.1; go_simp) hH ?_
  simp only [Act.put, List.setIfInBounds_toArray, List.set_cons_succ, List.set_cons_zero]
  refine takeH 4 (.pointer (some ⟨n.b, 0, none⟩)) rfl (by kernel_rfl) (by kernel_rfl) (by kernel_rfl) (fun _ _ _ h => h) (by rfl) (fun v hv => by go_simp) hH ?_
  simp only [Act.put, List.setIfInBounds_toArray, List.set_cons_succ, List.set_cons_zero]
  refine takeH 5 (.pointer (some ⟨n.b, 0, none⟩)) rfl (by kernel_rfl) (by kernel_rfl) (by kernel_rfl) (fun _ _ _ h => h) (by rfl) (fun v hv => by go_simp) hH ?_
  simp only [Act.put, List.setIfInBounds_toArray, List.set_cons_succ, List.set_cons_zero]
  refine takeH 6 (.pointer (some ⟨n.b, 34, none⟩)) rfl (by kernel_rfl) (by kernel_rfl) (by kernel_rfl) (fun _ _ _ h => h) (by rfl) (fun v hv => by go_simp) hH ?_
  simp only [Act.put, List.setIfInBounds_toArray, List.set_cons_succ, List.set_cons_zero]
  refine takeH 7 (.pointer (some ⟨c.b, 0, none⟩)) rfl (by kernel_rfl) (by kernel_rfl) (by kernel_rfl) (fun _ _ _ h => h) (by rfl) (fun v hv => by have h := hv.2; go_simp) hH ?_
  simp only [Act.put, List.setIfInBounds_toArray, List.set_cons_succ, List.set_cons_zero]
  refine takeH 8 (.pointer (some ⟨m.b, 0, none⟩)) rfl (by kernel_rfl) (by kernel_rfl) (by kernel_rfl) (fun _ _ _ h => h) (by rfl) (fun v hv => by go_simp) hH ?_
  simp only [Act.put, List.setIfInBounds_toArray, List.set_cons_succ, List.set_cons_zero]
  refine takeH 9 (.pointer (some ⟨m.b, 34, none⟩)) rfl (by kernel_rfl) (by kernel_rfl) (by kernel_rfl) (fun _ _ _ h => h) (by rfl) (fun v hv => by go_simp) hH ?_
  simp only [Act.put, List.setIfInBounds_toArray, List.set_cons_succ, List.set_cons_zero]
  have y3 : w.drew.cell? ⟨m.b, 34, none⟩ = some (.pointer (some ⟨n.b, 0, none⟩)) := s2
  have y4 : w.drew.frozen? ⟨m.b, 34, none⟩ = false := z5
  have ho1 := heap_setCell_other (w := w.drew) (p := ⟨m.b, 34, none⟩) (u := .pointer (some ⟨c.b, 0, none⟩)) HN.out.2 (Ne.symm hmn)
  refine writeH 10 rfl (by kernel_rfl) (by rfl) (w.drew.setCell ⟨m.b, 34, none⟩ (.pointer (some ⟨c.b, 0, none⟩))) (by go_simp) ((by have := kn_cells HN.out.1 ho1; exact ⟨this.2.1, this.2.2⟩)) ?_
  simp only [Act.put, List.setIfInBounds_toArray, List.set_cons_succ, List.set_cons_zero]
  refine wpAnyH_done (by kernel_rfl) ?_ _
  obtain ⟨V, hV⟩ : ∃ V, V = w.drew.setCell ⟨m.b, 34, none⟩ (.pointer (some ⟨c.b, 0, none⟩)) := ⟨_, rfl⟩
  have hcaV : CaAt V p lim sz mv (fstP (A ++ [m]) none) (lstP (some c.b) C) := by rw [hV]; exact heap_setCell_other (w := w.drew) (p := ⟨m.b, 34, none⟩) H.out (Ne.symm hpm)
  have hnV : KnAt V n (some m.b) (some c.b) := ⟨HN.out.1, by rw [hV]; exact ho1⟩
  have hmV : KnAt V m (lstP none A) (some c.b) := ⟨hm32, by rw [hV]; have := set_any (W := w.drew) (j := 34) (v := .pointer (some ⟨c.b, 0, none⟩)) HM.out.2; rw [knL_set34 m hm32] at this; exact this⟩
  have hkV : Kept [p, m.b] w V := by rw [hV]; exact ((Kept.refl [p, m.b] w).drew).setCell (p := ⟨m.b, 34, none⟩) (fun _ => by simp) _
  have hAV : Lk V none A (some m.b) := HA.out.kept hkV (fun x hx => by have h1 := HAn.out x hx; have h2 := hAp.out x hx; simp [h1, h2])
  have hcV : KnAt V c (some n.b) (fstP C none) := HC.out.kept hkV (by simp [Ne.symm hmc, hpc])
  have hCV : Lk V (some c.b) C none := HCL.out.kept hkV (fun x hx => by have h1 := HCm.out x hx; have h2 := hCp.out x hx; simp [h1, h2])
  rw [← hV]
  obtain ⟨u0, u1, u2, u3, u4⟩ := ca_cells hcaV
  obtain ⟨v0, v1, v2⟩ := kn_cells hnV.1 hnV.2
  simp only [ptrS, ptrN] at u3 u4 v1 v2
  have y9 := free_row hcaV 4
  have HCAV := hid hcaV; have HNV := hid hnV
  have y7 := free_row hcV.2 33; have y8 : V.cell? ⟨c.b, 33, none⟩ = some (.pointer (some ⟨n.b, 0, none⟩)) := (kn_cells hc32 hcV.2).2.1
  have HMV := hid hmV; have HAV := hid hAV
  have HCV := hid hcV; have HCLV := hid hCV
  have HKV := hid hkV
  clear hcaV hnV hkV hmV hAV hcV hCV
  clear hV
  go_wp2
  have y1 : V.drew.cell? ⟨n.b, 34, none⟩ = some (.pointer (some ⟨c.b, 0, none⟩)) := v2
  have y2 : V.drew.cell? ⟨n.b, 33, none⟩ = some (.pointer (some ⟨m.b, 0, none⟩)) := v1
  refine wp_region_held_drew (S := fun v => v.cell? ⟨n.b, 34, none⟩ = some (.pointer (some ⟨c.b, 0, none⟩)) ∧ v.cell? ⟨n.b, 33, none⟩ = some (.pointer (some ⟨m.b, 0, none⟩))) (by kernel_rfl) ⟨y1, y2⟩ (fun hH => ?_)
  refine takeH 0 (.pointer (some ⟨n.b, 0, none⟩)) rfl (by kernel_rfl) (by kernel_rfl) (by kernel_rfl) (fun _ _ _ h => h) (by rfl) (fun v hv => by go_simp) hH ?_
  simp only [Act.put, List.setIfInBounds_toArray, List.set_cons_succ, List.set_cons_zero]
  refine takeH 1 (.pointer (some ⟨n.b, 0, none⟩)) rfl (by kernel_rfl) (by kernel_rfl) (by kernel_rfl) (fun _ _ _ h => h) (by rfl) (fun v hv => by go_simp) hH ?_
  simp only [Act.put, List.setIfInBounds_toArray, List.set_cons_succ, List.set_cons_zero]
  refine takeH 2 (.pointer (some ⟨n.b, 34, none⟩)) rfl (by kernel_rfl) (by kernel_rfl) (by kernel_rfl) (fun _ _ _ h => h) (by rfl) (fun v hv => by go_simp) hH ?_
  simp only [Act.put, List.setIfInBounds_toArray, List.set_cons_succ, List.set_cons_zero]
  refine takeH 3 (.pointer (some ⟨c.b, 0, none⟩)) rfl (by kernel_rfl) (by kernel_rfl) (by kernel_rfl) (fun _ _ _ h => h) (by rfl) (fun v hv => by have h := hv.1; go_simp) hH ?_
  simp only [Act.put, List.setIfInBounds_toArray, List.set_cons_succ, List.set_cons_zero]
  refine takeH 4 (.pointer (some ⟨n.b, 0, none⟩)) rfl (by kernel_rfl) (by kernel_rfl) (by kernel_rfl) (fun _ _ _ h => h) (by rfl) (fun v hv => by go_simp) hH ?_
  simp only [Act.put, List.setIfInBounds_toArray, List.set_cons_succ, List.set_cons_zero]
  refine takeH 5 (.pointer (some ⟨n.b, 0, none⟩)) rfl (by kernel_rfl) (by kernel_rfl) (by kernel_rfl) (fun _ _ _ h => h) (by rfl) (fun v hv => by go_simp) hH ?_
  simp only [Act.put, List.setIfInBounds_toArray, List.set_cons_succ, List.set_cons_zero]
  refine takeH 6 (.pointer (some ⟨n.b, 33, none⟩)) rfl (by kernel_rfl) (by kernel_rfl) (by kernel_rfl) (fun _ _ _ h => h) (by rfl) (fun v hv => by go_simp) hH ?_
  simp only [Act.put, List.setIfInBounds_toArray, List.set_cons_succ, List.set_cons_zero]
  refine takeH 7 (.pointer (some ⟨m.b, 0, none⟩)) rfl (by kernel_rfl) (by kernel_rfl) (by kernel_rfl) (fun _ _ _ h => h) (by rfl) (fun v hv => by have h := hv.2; go_simp) hH ?_
  simp only [Act.put, List.setIfInBounds_toArray, List.set_cons_succ, List.set_cons_zero]
  refine takeH 8 (.pointer (some ⟨c.b, 0, none⟩)) rfl (by kernel_rfl) (by kernel_rfl) (by kernel_rfl) (fun _ _ _ h => h) (by rfl) (fun v hv => by go_simp) hH ?_
  simp only [Act.put, List.setIfInBounds_toArray, List.set_cons_succ, List.set_cons_zero]
  refine takeH 9 (.pointer (some ⟨c.b, 33, none⟩)) rfl (by kernel_rfl) (by kernel_rfl) (by kernel_rfl) (fun _ _ _ h => h) (by rfl) (fun v hv => by go_simp) hH ?_
  simp only [Act.put, List.setIfInBounds_toArray, List.set_cons_succ, List.set_cons_zero]
  have y3c : V.drew.cell? ⟨c.b, 33, none⟩ = some (.pointer (some ⟨n.b, 0, none⟩)) := y8
  have y4c : V.drew.frozen? ⟨c.b, 33, none⟩ = false := y7
  have ho2 := heap_setCell_other (w := V.drew) (p := ⟨c.b, 33, none⟩) (u := .pointer (some ⟨m.b, 0, none⟩)) HNV.out.2 (Ne.symm hcn)
  refine writeH 10 rfl (by kernel_rfl) (by rfl) (V.drew.setCell ⟨c.b, 33, none⟩ (.pointer (some ⟨m.b, 0, none⟩))) (by go_simp) ((by have := kn_cells HNV.out.1 ho2; exact ⟨this.2.2, this.2.1⟩)) ?_
  simp only [Act.put, List.setIfInBounds_toArray, List.set_cons_succ, List.set_cons_zero]
  refine wpAnyH_done (by kernel_rfl) ?_ _
  go_wp2
  go_end0
  have hk2 : Kept [c.b] V (V.drew.setCell ⟨c.b, 33, none⟩ (.pointer (some ⟨m.b, 0, none⟩))) := ((Kept.refl [c.b] V).drew).setCell (p := ⟨c.b, 33, none⟩) (fun _ => by simp) _
  have hcF : KnAt (V.drew.setCell ⟨c.b, 33, none⟩ (.pointer (some ⟨m.b, 0, none⟩))) c (some m.b) (fstP C none) := ⟨hc32, by have := set_any (W := V.drew) (j := 33) (v := .pointer (some ⟨m.b, 0, none⟩)) HCV.out.2; rw [knL_set33 c hc32] at this; exact this⟩
  have hCF := HCLV.out.kept hk2 (fun x hx => by have h1 := HCn.out x hx; simp [h1])
  refine ⟨rfl, Kept.trans (HKV.out.wider (fun x _ hx => ?_)) (hk2.wider (fun x _ hx => ?_)), hk2.at HCAV.out (by simp [Ne.symm hpc]), ?_⟩
  · simp at hx ⊢; rcases hx with hx | hx <;> simp [hx]
  · simp at hx ⊢; simp [hx]
  · rw [List.append_assoc]
    refine Lk.app.2 ⟨HAV.out.kept hk2 (fun x hx => by have h1 := HAc.out x hx; simp [h1]), ⟨?_, hcF, hCF⟩⟩
    exact HMV.out.kept hk2 (by simp [hmc])
end Go.Proofs.YtmkdjonlfkfnlaaDoor

/- cache: row.remove, wherever the blob stands. -/
namespace Go.Proofs.YtmkdjonlfkfnlaaDoor
open Go.RowKit Go.Lib Go.Maps
theorem row_remove (w : World) (p : Nat) (lim sz : Int) (mv : Value) (A : List Kn) (n : Kn) (C : List Kn) (h : CaAt w p lim sz mv (fstP (A ++ n :: C) none) (lstP none (A ++ n :: C))) (hl : Lk w none (A ++ n :: C) none) (hnd : ((A ++ n :: C).map (·.b)).Nodup) :
    Calls Tryd.prog 34 #[.pointer (some ⟨p, 3, none⟩), .pointer (some ⟨n.b, 0, none⟩)] w fun e w' => e = .returned (.tuple #[]) ∧ Kept (p :: (A ++ C).map (·.b)) w w' ∧ CaAt w' p lim sz mv (fstP (A ++ C) none) (lstP none (A ++ C)) ∧ Lk w' none (A ++ C) none := by
  obtain ⟨hlA, hln, hlC⟩ := Lk.app.1 hl
  obtain ⟨hA, hC⟩ := nd_far hnd
  rw [lst_app] at h
  rcases List.eq_nil_or_concat A with rfl | ⟨A', m, hA'⟩
  · cases C with
    | nil => exact row_rem00 w p lim sz mv n h hln
    | cons c C =>
      have hnc := (List.nodup_cons.1 hnd).2
      refine row_rem01 w p lim sz mv n c C h hln hlC.1 hlC.2 (fun x hx e => ?_) (fun e => hC c (by simp) e.symm)
      exact (List.nodup_cons.1 hnc).1 (by show c.b ∈ _; rw [← e]; exact List.mem_map_of_mem hx)
  · rw [List.concat_eq_append] at hA'
    subst hA'
    have hlst : lstP none (A' ++ [m]) = some m.b := by rw [lst_app]; rfl
    rw [hlst] at hln h
    obtain ⟨hlA', hlm, _⟩ := Lk.app.1 hlA
    have hnd1 : ((A' ++ [m]).map (·.b)).Nodup := by
      rw [List.map_append] at hnd
      exact (List.nodup_append.1 hnd).1
    have hAm : ∀ x ∈ A', x.b ≠ m.b := fun x hx e => by
      rw [List.map_append] at hnd1
      exact (List.nodup_append.1 hnd1).2.2 x.b (List.mem_map_of_mem hx) m.b (by simp) e
    have hfst : ∀ y, fstP ((A' ++ [m]) ++ y) none = fstP (A' ++ [m]) none := fun y => by cases A' <;> rfl
    rw [hfst] at h
    cases C with
    | nil =>
      have h1 := row_rem10 w p lim sz mv A' m n h hln hlm hlA' hAm (hA m (by simp)).1
      rw [hfst, List.append_nil, hlst]
      rw [List.append_nil] at h1
      exact h1
    | cons c C =>
      have hnc : ((n :: c :: C).map (·.b)).Nodup := by
        rw [List.map_append] at hnd
        exact (List.nodup_append.1 hnd).2.1
      have h1 := row_rem11 w p lim sz mv A' m n c C h hln hlm hlA' hAm (hA m (by simp)).1 hlC.1 hlC.2 (fun x hx e => (List.nodup_cons.1 (List.nodup_cons.1 hnc).2).1 (by show c.b ∈ _; rw [← e]; exact List.mem_map_of_mem hx)) (fun e => hC c (by simp) e.symm)
        ((hA m (by simp)).2 c (by simp)) (fun x hx => (hA x (by simp [hx])).2 c (by simp)) (fun x hx e => (hA m (by simp)).2 x (by simp [hx]) e.symm)
      rw [hfst, lst_app, hlst]
      exact h1
end Go.Proofs.YtmkdjonlfkfnlaaDoor
