import Derived.Test.YtmholofhmpplcaaMQ
import Derived.Test.YtmholofhmpplcaaRows
import Derived.ProofKit
import Derived.OpenShut
import Derived.Deep.Slices

/- coldstorelaw06's steps as an argument; few; two stores that hold the same. -/
namespace Go.Proofs.Ytmholofhmpplcaa
open Go.RowKit Go.Lib Go.Maps

/-- A step as it was handed. -/
structure OpO where
  kind : Int
  nm : List UInt8
  ba : Option Addr
  bc : Nat
  bs : List UInt8
/-- A row of steps, three cells each, that was handed. -/
def IsSteps (w : World) (a : Option Addr) (ops : List OpO) : Prop :=
  (a = none → ops = []) ∧ ∀ x, a = some x → ∀ i o, ops[i]? = some o → w.cell? (x.add (i * 3)) = some (.int .i64 o.kind) ∧ w.cell? ⟨(x.add (i * 3)).block, (x.add (i * 3)).off + 1, none⟩ = some (.string (S o.nm)) ∧
    w.cell? ⟨(x.add (i * 3)).block, (x.add (i * 3)).off + 2, none⟩ = some (.slice o.ba o.bs.length o.bc) ∧ SrcB w (.slice o.ba o.bs.length o.bc) o.bs ∧ o.nm.length ≤ 9223372036854775807 ∧ o.bs.length ≤ 9223372036854775807
def Few (ops : List OpO) : Prop := (∀ o ∈ ops, o.nm.length ≤ 100 ∧ o.bs.length ≤ 200) ∧ ops.length ≤ 60
instance (ops : List OpO) : Decidable (Few ops) := by unfold Few; infer_instance

set_option maxHeartbeats 1000000 in
theorem few06 (a : Option Addr) (c : Nat) (ops : List OpO) (w : World) (h : IsSteps w a ops) (hm : ops.length ≤ 9223372036854775807) :
    Calls Try.prog 5 #[.slice a ops.length c] w fun e w' => e = .returned (.bool (decide (Few ops))) ∧ Kept [] w w' := by
  have H := hid h
  clear h
  go_enter Try.func5, Try.ntmps5
  go_wp2_with fail
  go_loopw [7] (fun s wr => ∃ i : Nat, i ≤ ops.length ∧ s = .int .i64 i ∧ Kept [] w wr ∧ ∀ j o, j < i → ops[j]? = some o → o.nm.length ≤ 100 ∧ o.bs.length ≤ 200) (fun s _ => ops.length - (intOf s).toNat)
  case atStart => exact ⟨0, Nat.zero_le _, rfl, Kept.refl _ _, fun j o hj => absurd hj (by omega)⟩
  case round =>
    obtain ⟨i, hi, rfl, hkw, hall⟩ := hrel
    by_cases hlt : i < ops.length
    · cases a with
      | none => exact absurd (H.out.1 rfl) (fun e => by rw [e] at hlt; simp at hlt)
      | some x =>
        obtain ⟨c0, c1, c2, hsrc, hn, hl⟩ := H.out.2 x rfl i ops[i] (by simp [hlt])
        have g0 := (hkw.cell (World.block_lt_of_cell? w _ c0) (by simp)).trans c0
        have g1 := (hkw.cell (World.block_lt_of_cell? w _ c1) (by simp)).trans c1
        have g2 := (hkw.cell (World.block_lt_of_cell? w _ c2) (by simp)).trans c2
        have Hkw := hid hkw
        have Hall := hid hall
        have hsz : (S ops[i].nm).size = ops[i].nm.length := S_size _
        clear c0 c1 c2 hsrc hkw hall
        by_cases hok : ops[i].nm.length ≤ 100 ∧ ops[i].bs.length ≤ 200
        · have e1 : ¬ (100 : Int) < (ops[i].nm.length : Int) := by omega
          have e2 : ¬ (200 : Int) < (ops[i].bs.length : Int) := by omega
          have HOK := hid hok
          clear hok
          go_wp2
          go_roundw
          case rel => exact ⟨i + 1, by omega, by go_num, Hkw.out.alloc _, fun j o hj ho => by
            rcases Nat.lt_or_ge j i with h | h
            · exact Hall.out j o h ho
            · have : j = i := by omega
              subst this
              simp [hlt] at ho
              subst ho
              exact HOK.out⟩
          case measure => simp [intOf]; omega
        · have HB := hid (show decide (Few ops) = false from by
            simp only [decide_eq_false_iff_not]
            exact fun h => hok (h.1 _ (List.getElem_mem hlt)))
          by_cases h100 : ops[i].nm.length ≤ 100
          · have e1 : ¬ (100 : Int) < (ops[i].nm.length : Int) := by omega
            have e2 : (200 : Int) < (ops[i].bs.length : Int) := by omega
            clear hok h100
            go_wp2
            go_ret
            exact ⟨by rw [HB.out]; rfl, Hkw.out.alloc _⟩
          · have e1 : (100 : Int) < (ops[i].nm.length : Int) := by omega
            clear hok h100
            go_wp2
            go_ret
            exact ⟨by rw [HB.out]; rfl, Hkw.out.alloc _⟩
    · have hin : i = ops.length := by omega
      subst hin
      have hgood : decide (Few ops) = decide (ops.length ≤ 60) := by
        unfold Few
        congr 1
        simp only [eq_iff_iff, and_iff_right_iff_imp]
        intro _ o ho
        obtain ⟨j, hj, rfl⟩ := List.getElem_of_mem ho
        exact hall j _ hj (by simp [hj])
      have HB := hid hgood
      clear hgood hall
      go_wp2
      go_ret
      exact ⟨by rw [HB.out]; simp; omega, hkw⟩

/-- Without where the bytes lie. -/
def strip (e : Ent) : Ent := ⟨e.name, undef, e.b⟩
/-- Two stores hold the same. -/
def SameE (es fs : List Ent) : Prop := es.map strip = fs.map strip
theorem find_strip (nm : List UInt8) (es : List Ent) : findE nm (es.map strip) = (findE nm es).map strip := by
  unfold findE
  induction es with
  | nil => rfl
  | cons e r ih =>
    simp only [List.map_cons, List.find?_cons]
    have : (strip e).name = e.name := rfl
    rw [this]
    split
    · rfl
    · exact ih
theorem del_strip (nm : List UInt8) (es : List Ent) : delE nm (es.map strip) = (delE nm es).map strip := by
  unfold delE
  rw [List.filter_map]
  rfl
theorem ins_strip (x : Ent) (es : List Ent) : insE (strip x) (es.map strip) = (insE x es).map strip := by
  induction es with
  | nil => rfl
  | cons e r ih =>
    simp only [List.map_cons, insE]
    have e1 : (strip e).name = e.name := rfl
    have e2 : (strip x).name = x.name := rfl
    rw [e1, e2]
    split
    · rfl
    · rw [List.map_cons, ih]
theorem put_strip (x : Ent) (es : List Ent) : putE (strip x) (es.map strip) = (putE x es).map strip := by
  unfold putE
  rw [show (strip x).name = x.name from rfl, del_strip, ins_strip]
theorem size_strip (es : List Ent) : sizeE (es.map strip) = sizeE es := by
  unfold sizeE
  rw [List.map_map]
  rfl
theorem SameE.size {es fs : List Ent} (h : SameE es fs) : sizeE es = sizeE fs := by rw [← size_strip es, h, size_strip]
theorem SameE.length {es fs : List Ent} (h : SameE es fs) : es.length = fs.length := by have := congrArg List.length h; simpa using this
theorem SameE.find {es fs : List Ent} (h : SameE es fs) (nm : List UInt8) : (findE nm es).isSome = (findE nm fs).isSome ∧ lookB nm es = lookB nm fs := by
  have h1 := find_strip nm es
  rw [h, find_strip nm fs] at h1
  unfold lookB
  cases h2 : findE nm es <;> cases h3 : findE nm fs <;> rw [h2, h3] at h1 <;> simp at h1
  · exact ⟨rfl, rfl⟩
  · unfold strip at h1
    injection h1 with _ _ h4
    exact ⟨rfl, h4.symm⟩
theorem SameE.put {es fs : List Ent} (h : SameE es fs) (nm bs : List UInt8) (v u : Value) : SameE (putE ⟨nm, v, bs⟩ es) (putE ⟨nm, u, bs⟩ fs) := by
  unfold SameE
  rw [← put_strip, ← put_strip, h]
  rfl
theorem SameE.del {es fs : List Ent} (h : SameE es fs) (nm : List UInt8) : SameE (delE nm es) (delE nm fs) := by
  unfold SameE
  rw [← del_strip, ← del_strip, h]
theorem SameE.names {es fs : List Ent} (h : SameE es fs) : es.map nmV = fs.map nmV ∧ es.map szV = fs.map szV := by
  have h1 : ∀ l : List Ent, l.map nmV = (l.map strip).map nmV := fun l => by rw [List.map_map]; rfl
  have h2 : ∀ l : List Ent, l.map szV = (l.map strip).map szV := fun l => by rw [List.map_map]; rfl
  exact ⟨by rw [h1, h, ← h1], by rw [h2, h, ← h2]⟩
theorem size_del_le (nm : List UInt8) (es : List Ent) : sizeE (delE nm es) ≤ sizeE es := by
  unfold sizeE delE
  induction es with
  | nil => simp
  | cons e r ih =>
    rw [List.filter_cons]
    split
    · simp at ih ⊢; omega
    · simp at ih ⊢; omega
theorem size_ins (x : Ent) (es : List Ent) : sizeE (insE x es) = x.b.length + sizeE es := by
  unfold sizeE
  induction es with
  | nil => simp [insE]
  | cons e r ih =>
    unfold insE
    split
    · simp
    · simp at ih ⊢; omega
theorem size_put_le (x : Ent) (es : List Ent) : sizeE (putE x es) ≤ x.b.length + sizeE es := by
  unfold putE
  rw [size_ins]
  have := size_del_le x.name es
  omega
end Go.Proofs.Ytmholofhmpplcaa


/- coldstorelaw06's []Op, []bool as arguments: the handed row, opened to cells. -/
namespace Go.Proofs.Ytmholofhmpplcaa
open Go.ChangeShapes Go.WideShapes Go.ChangeAt Go.RowKit Go.Deep Go.Lib

section
variable {H : Type} {enc : TypeId × Value → H} {w : World} {base : Nat} {held : Bool}

theorem src_of_trod6 {fuel : Nat} {v : Value} {y : DataW H × List MemPlace} (h : DataW.trod enc Try.prog w base (fun _ => true) held fuel 36 [v] = some y) :
    ∃ a c, ∃ bs : List UInt8, v = .slice a bs.length c ∧ SrcB w (.slice a bs.length c) bs ∧ bs.length ≤ 9223372036854775807 := by
  rcases open_ints Try.underlying36 Try.underlying5 (by kernel_rfl) h with ⟨hcs, _⟩ | ⟨x, l, c, zs, hcs, _, hl, hm, hz, _, hcell, hwz⟩
  · simp at hcs
    subst hcs
    exact ⟨none, 0, [], rfl, Or.inl ⟨rfl, rfl, rfl⟩, by simp⟩
  · simp at hcs
    subst hcs
    obtain ⟨bs, hbl, hs, h2⟩ := src_of_args (Or.inr ⟨x, rfl, hl, hm, by simpa using hz, hcell, hwz⟩)
    subst hbl
    exact ⟨some x, c, bs, rfl, hs, h2⟩

theorem list_of6 {α : Type} {p : Nat → α → Prop} : ∀ n, (∀ i, i < n → ∃ o, p i o) → ∃ ops : List α, ops.length = n ∧ ∀ i o, ops[i]? = some o → p i o
  | 0, _ => ⟨[], rfl, fun i o ho => by simp at ho⟩
  | n + 1, h => by
    obtain ⟨ops, hl, hp⟩ := list_of6 n (fun i hi => h i (by omega))
    obtain ⟨o, ho⟩ := h n (by omega)
    refine ⟨ops ++ [o], by simp [hl], fun i o' hi => ?_⟩
    rcases Nat.lt_or_ge i ops.length with h1 | h1
    · rw [List.getElem?_append_left h1] at hi
      exact hp i o' hi
    · rw [List.getElem?_append_right h1] at hi
      have h2 : i - ops.length = 0 := by
        rcases Nat.eq_zero_or_pos (i - ops.length) with h2 | h2
        · exact h2
        · rw [List.getElem?_eq_none (by simp; omega)] at hi; simp at hi
      rw [h2] at hi
      simp at hi
      subst hi
      have : i = n := by omega
      exact this ▸ ho

set_option maxRecDepth 100000 in
theorem open_steps {fuel : Nat} {a : Option Addr} {len cap : Nat} {y : DataW H × List MemPlace} (h : DataW.trod enc Try.prog w base (fun _ => true) held fuel 23 [.slice a len cap] = some y) :
    ∃ ops : List OpO, ops.length = len ∧ IsSteps w a ops ∧ len ≤ 9223372036854775807 := by
  have hC : Try.prog.cellsOf 38 = 3 := by kernel_rfl
  rcases open_slice Try.underlying23 h with ⟨hcs, _⟩ | ⟨x, l, c, m, n, D, Pl, hcs, hb, hl, hm, hmm, _, hi⟩
  · simp at hcs
    obtain ⟨rfl, rfl, rfl⟩ := hcs
    exact ⟨[], rfl, ⟨fun _ => rfl, fun x hx => by simp at hx⟩, by omega⟩
  · simp at hcs
    obtain ⟨rfl, rfl, rfl⟩ := hcs
    obtain ⟨ops, hol, hops⟩ := list_of6 (p := fun i (o : OpO) => w.cell? (x.add (i * 3)) = some (.int .i64 o.kind) ∧ w.cell? ⟨(x.add (i * 3)).block, (x.add (i * 3)).off + 1, none⟩ = some (.string (S o.nm)) ∧
      w.cell? ⟨(x.add (i * 3)).block, (x.add (i * 3)).off + 2, none⟩ = some (.slice o.ba o.bs.length o.bc) ∧ SrcB w (.slice o.ba o.bs.length o.bc) o.bs ∧ o.nm.length ≤ 9223372036854775807 ∧ o.bs.length ≤ 9223372036854775807) len (fun i hil => by
      obtain ⟨cs, hc, ht⟩ := hi i (by simp at hmm; omega)
      rw [hC] at hc
      obtain ⟨_, hcl, hat⟩ := World.cells?_some hc
      obtain ⟨xs, n', _, _, _, hxl, hf⟩ := DataW.trod_struct Try.underlying38 ht
      match cs, hcl with
      | [v0, v1, v2], _ =>
        have c0 := hat 0 (by omega)
        have c1 := hat 1 (by omega)
        have c2 := hat 2 (by omega)
        have k0 : Try.prog.cellsOf 3 = 1 := by kernel_rfl
        have k1 : Try.prog.cellsOf 9 = 1 := by kernel_rfl
        have k2 : Try.prog.cellsOf 36 = 1 := by kernel_rfl
        have f0 := hf 0 _ rfl
        have f1 := hf 1 _ rfl
        have f2 := hf 2 _ rfl
        simp [k0, k1, k2] at f0 f1 f2 hxl c0 c1 c2
        obtain ⟨z0, e0, _, _⟩ := DataW.trod_int Try.underlying3 (f0.trans (List.getElem?_eq_getElem (show 0 < xs.length by omega)))
        obtain ⟨s1, e1, _, hs1⟩ := DataW.trod_string Try.underlying9 (f1.trans (List.getElem?_eq_getElem (show 1 < xs.length by omega)))
        obtain ⟨ba, bc, bs, rfl, hs, hbl⟩ := src_of_trod6 (f2.trans (List.getElem?_eq_getElem (show 2 < xs.length by omega)))
        simp at e0 e1
        subst e0 e1
        have hx0 : x.add (i * 3) = (x.add (i * 3)).add 0 := by unfold Addr.add; simp
        refine ⟨⟨z0, s1.data.toList, ba, bc, bs⟩, by rw [hx0]; exact c0, c1, c2, hs, ?_, hbl⟩
        show s1.data.toList.length ≤ _
        have : s1.data.toList.length = s1.size := by simp
        unfold maxLen at hs1
        omega)
    exact ⟨ops, hol, ⟨fun h => by simp at h, fun y hy i o ho => by simp at hy; subst hy; exact hops i o ho⟩, by unfold maxLen at hm; omega⟩
end
end Go.Proofs.Ytmholofhmpplcaa


/- object: a Put whose fuse blows; Arm over faults that lie anywhere. -/
namespace Go.Proofs.Ytmholofhmpplcaa
open Go.RowKit Go.Lib Go.Maps

theorem o_outcome1_blow (k : Nat) (hk : Enters k) (fs caps : Array Value) (T : TypeId) (v : Value) (b : Nat) (w : World) (hb : w.heap[b]? = some (.cells #[.func (.func k) fs caps] 82 (0, 0))) (R : World → Prop)
    (h : Calls Try.prog k (fs ++ caps) w fun e w' => Thrown T v e ∧ R w') :
    Calls Try.prog 54 #[.pointer (some ⟨b, 0, none⟩)] w fun e w' => Thrown T v e ∧ R w' := by
  have hc := cell_of_one hb
  have H : Hid (Calls Try.prog k (fs ++ caps) w fun e w' => Thrown T v e ∧ R w') := h
  clear h hb
  unfold Enters at hk
  go_enter Try.func54, Try.ntmps54
  go_wp2_with fail
  refine H.out.mono ?_
  rintro e w1 ⟨⟨older, rfl, hcalm⟩, hR⟩
  exact ⟨rfl, ⟨older, rfl, hcalm⟩, hR⟩
theorem o_outcome_blow (k : Nat) (hk : Enters k) (fs caps : Array Value) (T : TypeId) (hT : T ≠ 27) (v : Value) (w : World) (R : World → Prop)
    (h : ∀ W, Kept [] w W → Calls Try.prog k (fs ++ caps) W fun e w' => Thrown T v e ∧ R w') :
    Calls Try.prog 49 #[.func (.func k) fs caps] w fun e w' => Thrown T v e ∧ R w' := by
  have hmf : ∀ (fn : Fn) (first cap : Array Value) (w : World), (Instr.makeFunc fn first cap).run Try.prog w = .ok (.func fn first cap) w := fun _ _ _ _ => rfl
  have hne := func2_eq_nil
  have hrun := run_blown 54 enters_outcome1 #[.pointer (some ⟨w.heap.size, 0, none⟩)] (w.alloc (.cells #[.func (.func k) fs caps] 82)) T hT v R
    (o_outcome1_blow k hk fs caps T v w.heap.size _ (heap_alloc_old (heap_alloc_new' _ _)) _ (h _ (((Kept.refl [] w).alloc _).alloc _)))
  have H := hid hrun
  clear hrun h
  go_enter Try.func49, Try.ntmps49
  go_wp2_with fail
  refine H.out.mono ?_
  rintro e w1 ⟨⟨older, rfl, hcalm⟩, hR⟩
  exact ⟨rfl, ⟨older, rfl, hcalm⟩, hR⟩
theorem o_all_blow (n : Nat) (hn : n ≤ 4611686018427387904) (hn0 : 0 < n) (b off : Nat) (cap : Nat) (k : Nat) (hk : Enters k) (fs caps : Array Value) (T : TypeId) (hT : T ≠ 27) (v : Value) (w : World) (R : World → Prop)
    (hcell : w.cell? ⟨b, off, none⟩ = some (.func (.func k) fs caps)) (h : ∀ W, Kept [] w W → Calls Try.prog k (fs ++ caps) W fun e w' => Thrown T v e ∧ R w') :
    Calls Try.prog 33 #[.slice (some ⟨b, off, none⟩) n cap] w fun e w' => Thrown T v e ∧ R w' := by
  have H := hid (o_outcome_blow k hk fs caps T hT v w R h)
  clear h
  go_enter Try.func33, Try.ntmps33
  go_wp2_with fail
  go_loopw [9] (fun v wr => v = .int .i64 0 ∧ w = wr) (fun _ _ => 0)
  case atStart => exact ⟨rfl, rfl⟩
  case round =>
    obtain ⟨rfl, rfl⟩ := hrel
    have hn1 : (0 : Int) < (n : Int) := by omega
    go_wp2_with fail
    refine H.out.mono ?_
    rintro e w1 ⟨⟨older, rfl, hcalm⟩, hR⟩
    exact ⟨rfl, ⟨older, rfl, hcalm⟩, hR⟩
set_option maxRecDepth 100000 in
set_option maxHeartbeats 4000000 in
theorem put_blow (w : World) (U : List Nat) (p T : Nat) (more : List Value) (q : Int) (es : List Ent) (f : Nat) (fl : List Bool) (k : Nat) (nm : List UInt8) (hnm : nm.length ≤ 1000000000) (h : Ob w U p T more q es (.pointer (some ⟨f, 0, none⟩)) fl k) (hf : FuV w U (.pointer (some ⟨f, 0, none⟩)) 0)
    (a : Option Addr) (c : Nat) (bs : List UInt8) (hz : sizeE es + bs.length ≤ 1099511627776) :
    Calls Try.prog 15 #[.pointer (some ⟨p, 0, none⟩), .string (S nm), .slice a bs.length c] w fun e w' => Thrown 63 (.agg #[.pointer (some ⟨f, 0, none⟩)]) e ∧ Kept [] w w' := by
  obtain ⟨fv, hfv⟩ : ∃ fv, fv = Value.pointer (some ⟨f, 0, none⟩) := ⟨_, rfl⟩
  have HFV := hid hfv
  rw [← hfv] at h hf
  clear hfv
  obtain ⟨n, hn⟩ : ∃ n, n = bs.length := ⟨_, rfl⟩
  obtain ⟨gl, hgl⟩ : ∃ gl, gl = (lookB nm es).length := ⟨_, rfl⟩
  obtain ⟨th, hth0⟩ : ∃ th, th = (findE nm es).isSome := ⟨_, rfl⟩
  obtain ⟨z, hzz⟩ : ∃ z : Int, z = (sizeE es : Int) - (gl : Int) + (n : Int) := ⟨_, rfl⟩
  rw [← hn]
  have H := hid h; have HF := hid hf
  have HN := hid hn; have HGL := hid hgl; have HTH := hid hth0; have HZ := hid hzz
  obtain ⟨⟨mv, flv, R, hR, hrow, hmp, hmpp, hfl, hth⟩, hp, hb, hq, hs⟩ := h
  obtain ⟨_, g1, g2, _⟩ := st_cells hrow
  have hfuU := hid (show ∀ x ∈ fuB fv, x < w.heap.size ∧ x ∉ U from fun x hx => by
    rcases hf with ⟨rfl, _⟩ | ⟨f, rfl, h2, h3, _⟩
    · simp [fuB] at hx
    · simp [fuB] at hx; subst hx; exact ⟨lt_of_block h3, h2⟩)
  have hpl := hid (hb p hp)
  have hszE := hid (show gl ≤ sizeE es ∧ sizeE es ≤ 1099511627776 ∧ sizeE es + n ≤ 1099511627776 from ⟨by
    rw [hgl]; unfold lookB
    cases hf : findE nm es with
    | none => simp
    | some e => exact sizeE_mem (find_mem hf).1, hs.1, by omega⟩)
  have hlk := hid (fun v (hv : Kept [] w v) => mp_look (hmp.kept hv (by simp)) nm hnm)
  obtain ⟨la, lc, hlv⟩ := lookV_slice hth nm
  rw [← hgl] at hlv
  rw [hlv, ← hth0] at hlk
  have hmv : ∃ b, mv = .map b := by
    rcases hmp with ⟨h, _⟩ | ⟨b, h, _⟩
    · exact ⟨_, h⟩
    · exact ⟨_, h⟩
  obtain ⟨mb, rfl⟩ := hmv
  have G1 := hid (fun v (hv : Kept [] w v) => (hv.cell (World.block_lt_of_cell? _ _ g1) (by simp)).trans g1)
  have G2 := hid (fun v (hv : Kept [] w v) => (hv.cell (World.block_lt_of_cell? _ _ g2) (by simp)).trans g2)
  obtain ⟨W0, hW0⟩ : ∃ W0, W0 = ((w.alloc (.cells #[.pointer (some ⟨p, 0, none⟩)] 26)).alloc (.cells #[.string (S nm)] 9)).alloc (.cells #[.slice a n c] 36) := ⟨_, rfl⟩
  have K0 := hid (show Kept [] w W0 from hW0 ▸ (((Kept.refl [] w).alloc _).alloc _).alloc _)
  have Q3 := hid (show W0.heap[w.heap.size]? = some (.cells #[.pointer (some ⟨p, 0, none⟩)] 26 (0, 0)) from hW0 ▸ heap_alloc_old (heap_alloc_old (heap_alloc_at rfl)))
  have Q4 := hid (show W0.heap[w.heap.size + 1]? = some (.cells #[.string (S nm)] 9 (0, 0)) from hW0 ▸ heap_alloc_old (heap_alloc_at (by simp)))
  have Q5 := hid (show W0.heap[w.heap.size + 1 + 1]? = some (.cells #[.slice a n c] 36 (0, 0)) from hW0 ▸ heap_alloc_at (by simp))
  have HW0 := hid hW0
  obtain ⟨sz, hsz⟩ : ∃ sz, sz = sizeE es := ⟨_, rfl⟩
  have HSZ := hid hsz
  rw [← hsz] at G2 hszE HZ
  have hwz1 : IntKind.i64.wrap ((sz : Int) - (gl : Int)) = (sz : Int) - (gl : Int) := by have := hszE.out; rw [IntKind.wrap_i64]; omega
  have hwz2 : IntKind.i64.wrap ((sz : Int) - (gl : Int) + (n : Int)) = z := by have := hszE.out; rw [HZ.out, IntKind.wrap_i64]; omega
  obtain ⟨d, hd⟩ : ∃ d, d = w.heap.size := ⟨_, rfl⟩
  have HD := hid hd
  clear hn hgl hth0 hzz hR hrow hmp hmpp hfl hth hp hb hq hs hf g1 g2 hlv hW0 hz hsz
  go_enter Try.func15, Try.ntmps15
  go_wp2_with fail
  rw [← HW0.out]
  rw [← hd] at Q3 Q4 Q5 ⊢
  clear hd
  go_cut [7, 8] (fun s7 s8 wx => ∃ p8, s7 = .slice la gl lc ∧ s8 = .pointer (some ⟨p8, 0, none⟩) ∧ Hid (Kept [] W0 wx ∧ W0.heap.size ≤ p8 ∧ wx.heap[p8]? = some (.cells #[.bool th] 4 (0, 0))))
  case first =>
    have L3 := hid (fun v (hv : Kept [] W0 v) => cell_of_one (hv.at Q3.out (by simp)))
    have L4 := hid (fun v (hv : Kept [] W0 v) => cell_of_one (hv.at Q4.out (by simp)))
    have LM := hid (fun v (hv : Kept [] W0 v) => G1.out v (K0.out.trans hv))
    have LK := hid (fun v (hv : Kept [] W0 v) => hlk.out v (K0.out.trans hv))
    refine wp_region_held_drew (S := Kept [] W0) (by kernel_rfl) (Kept.refl [] W0).drew (fun hH => ?_)
    refine takeH 0 (.pointer (some ⟨p, 0, none⟩)) rfl (by kernel_rfl) (by kernel_rfl) (by kernel_rfl) (fun _ _ _ h => h) (by rfl) (fun v hv => by have h := L3.out v hv; go_simp) hH ?_
    simp only [Act.put, List.setIfInBounds_toArray, List.set_cons_succ, List.set_cons_zero]
    refine takeH 1 (.pointer (some ⟨p, 0, none⟩)) rfl (by kernel_rfl) (by kernel_rfl) (by kernel_rfl) (fun _ _ _ h => h) (by rfl) (fun v hv => by go_simp) hH ?_
    simp only [Act.put, List.setIfInBounds_toArray, List.set_cons_succ, List.set_cons_zero]
    refine takeH 2 (.pointer (some ⟨p, 1, none⟩)) rfl (by kernel_rfl) (by kernel_rfl) (by kernel_rfl) (fun _ _ _ h => h) (by rfl) (fun v hv => by go_simp) hH ?_
    simp only [Act.put, List.setIfInBounds_toArray, List.set_cons_succ, List.set_cons_zero]
    refine takeH 3 (.map mb) rfl (by kernel_rfl) (by kernel_rfl) (by kernel_rfl) (fun _ _ _ h => h) (by rfl) (fun v hv => by have h := LM.out v hv; go_simp) hH ?_
    simp only [Act.put, List.setIfInBounds_toArray, List.set_cons_succ, List.set_cons_zero]
    refine takeH 4 (.string (S nm)) rfl (by kernel_rfl) (by kernel_rfl) (by kernel_rfl) (fun _ _ _ h => h) (by rfl) (fun v hv => by have h := L4.out v hv; go_simp) hH ?_
    simp only [Act.put, List.setIfInBounds_toArray, List.set_cons_succ, List.set_cons_zero]
    refine takeH 5 (.tuple #[.slice la gl lc, .bool th]) rfl (by kernel_rfl) (by kernel_rfl) (by kernel_rfl) (fun _ _ _ h => h) (by rfl) (fun v hv => by have h := LK.out v hv; go_simp) hH ?_
    simp only [Act.put, List.setIfInBounds_toArray, List.set_cons_succ, List.set_cons_zero]
    refine takeH 6 (.tuple #[.slice la gl lc, .bool th]) rfl (by kernel_rfl) (by kernel_rfl) (by kernel_rfl) (fun _ _ _ h => h) (by rfl) (fun v hv => by go_simp) hH ?_
    simp only [Act.put, List.setIfInBounds_toArray, List.set_cons_succ, List.set_cons_zero]
    refine takeH 7 (.slice la gl lc) rfl (by kernel_rfl) (by kernel_rfl) (by kernel_rfl) (fun _ _ _ h => h) (by rfl) (fun v hv => by go_simp) hH ?_
    simp only [Act.put, List.setIfInBounds_toArray, List.set_cons_succ, List.set_cons_zero]
    refine takeH 8 (.bool th) rfl (by kernel_rfl) (by kernel_rfl) (by kernel_rfl) (fun _ _ _ h => h) (by rfl) (fun v hv => by go_simp) hH ?_
    simp only [Act.put, List.setIfInBounds_toArray, List.set_cons_succ, List.set_cons_zero]
    refine runH 9 rfl (by kernel_rfl) (by rfl) (.pointer (some ⟨W0.heap.size, 0, none⟩)) (W0.drew.alloc (.cells #[.bool false] 4)) (by go_simp) (hH.alloc _) ?_
    simp only [Act.put, List.setIfInBounds_toArray, List.set_cons_succ, List.set_cons_zero]
    have hA := hH.alloc (.cells #[.bool false] 4)
    refine takeH 10 (.slice la gl lc) rfl (by kernel_rfl) (by kernel_rfl) (by kernel_rfl) (fun _ _ _ h => h) (by rfl) (fun v hv => by go_simp) hA ?_
    simp only [Act.put, List.setIfInBounds_toArray, List.set_cons_succ, List.set_cons_zero]
    have hal : (W0.drew.alloc (.cells #[.bool false] 4)).heap[W0.heap.size]? = some (.cells #[.bool false] 4 (0, 0)) := heap_alloc_at rfl
    have hc8 := cell_of_one hal
    have hf8 := free_of_one hal
    refine writeH 11 rfl (by kernel_rfl) (by rfl) ((W0.drew.alloc (.cells #[.bool false] 4)).setCell ⟨W0.heap.size, 0, none⟩ (.bool th)) (by go_simp) (hA.setCell (p := ⟨W0.heap.size, 0, none⟩) (fun h => absurd h (Nat.lt_irrefl _)) _) ?_
    simp only [Act.put, List.setIfInBounds_toArray, List.set_cons_succ, List.set_cons_zero]
    have hfin := hid (hA.setCell (p := ⟨W0.heap.size, 0, none⟩) (fun h => absurd h (Nat.lt_irrefl _)) (.bool th))
    have hone := hid (one_setCell (u := (.bool th)) hal)
    clear hal hc8 hf8 hA
    refine wpAnyH_done (by kernel_rfl) ?_ _
    go_wp2_with fail
    go_meet
    exact ⟨W0.heap.size, rfl, rfl, hid ⟨hfin.out, Nat.le_refl _, hone.out⟩⟩
  case rest =>
    obtain ⟨p8, rfl, rfl, hc1⟩ := hcut
    obtain ⟨k8, z8, q8⟩ := hc1.out
    have K8 := hid k8; have Z8 := hid z8; have Q8 := hid q8
    have K18 := hid (K0.out.trans k8)
    clear hc1 k8 z8 q8
    obtain ⟨w8, hw8⟩ : ∃ x, x = wc := ⟨wc, rfl⟩
    subst hw8
    go_wp2_with fail
    go_cut [9] (fun s9 wx => ∃ p9, s9 = .pointer (some ⟨p9, 0, none⟩) ∧ Hid (Kept [] w8 wx ∧ w8.heap.size ≤ p9 ∧ wx.heap[p9]? = some (.cells #[.int .i64 z] 3 (0, 0))))
    case first =>
      have L3 := hid (fun v (hv : Kept [] w8 v) => cell_of_one ((K8.out.trans hv).at Q3.out (by simp)))
      have L5 := hid (fun v (hv : Kept [] w8 v) => cell_of_one ((K8.out.trans hv).at Q5.out (by simp)))
      have LM := hid (fun v (hv : Kept [] w8 v) => G2.out v (K18.out.trans hv))
      refine wp_region_held_drew (S := Kept [] w8) (by kernel_rfl) (Kept.refl [] w8).drew (fun hH => ?_)
      refine takeH 0 (.pointer (some ⟨p, 0, none⟩)) rfl (by kernel_rfl) (by kernel_rfl) (by kernel_rfl) (fun _ _ _ h => h) (by rfl) (fun v hv => by have h := L3.out v hv; go_simp) hH ?_
      simp only [Act.put, List.setIfInBounds_toArray, List.set_cons_succ, List.set_cons_zero]
      refine takeH 1 (.pointer (some ⟨p, 0, none⟩)) rfl (by kernel_rfl) (by kernel_rfl) (by kernel_rfl) (fun _ _ _ h => h) (by rfl) (fun v hv => by go_simp) hH ?_
      simp only [Act.put, List.setIfInBounds_toArray, List.set_cons_succ, List.set_cons_zero]
      refine takeH 2 (.pointer (some ⟨p, 2, none⟩)) rfl (by kernel_rfl) (by kernel_rfl) (by kernel_rfl) (fun _ _ _ h => h) (by rfl) (fun v hv => by go_simp) hH ?_
      simp only [Act.put, List.setIfInBounds_toArray, List.set_cons_succ, List.set_cons_zero]
      refine takeH 3 (.int .i64 (sz : Int)) rfl (by kernel_rfl) (by kernel_rfl) (by kernel_rfl) (fun _ _ _ h => h) (by rfl) (fun v hv => by have h := LM.out v hv; go_simp) hH ?_
      simp only [Act.put, List.setIfInBounds_toArray, List.set_cons_succ, List.set_cons_zero]
      refine takeH 4 (.slice la gl lc) rfl (by kernel_rfl) (by kernel_rfl) (by kernel_rfl) (fun _ _ _ h => h) (by rfl) (fun v hv => by go_simp) hH ?_
      simp only [Act.put, List.setIfInBounds_toArray, List.set_cons_succ, List.set_cons_zero]
      refine takeH 5 (.int .i64 (gl : Int)) rfl (by kernel_rfl) (by kernel_rfl) (by kernel_rfl) (fun _ _ _ h => h) (by rfl) (fun v hv => by go_simp) hH ?_
      simp only [Act.put, List.setIfInBounds_toArray, List.set_cons_succ, List.set_cons_zero]
      refine takeH 6 (.int .i64 ((sz : Int) - (gl : Int))) rfl (by kernel_rfl) (by kernel_rfl) (by kernel_rfl) (fun _ _ _ h => h) (by rfl) (fun v hv => by go_simp) hH ?_
      simp only [Act.put, List.setIfInBounds_toArray, List.set_cons_succ, List.set_cons_zero]
      refine takeH 7 (.slice a n c) rfl (by kernel_rfl) (by kernel_rfl) (by kernel_rfl) (fun _ _ _ h => h) (by rfl) (fun v hv => by have h := L5.out v hv; go_simp) hH ?_
      simp only [Act.put, List.setIfInBounds_toArray, List.set_cons_succ, List.set_cons_zero]
      refine takeH 8 (.int .i64 (n : Int)) rfl (by kernel_rfl) (by kernel_rfl) (by kernel_rfl) (fun _ _ _ h => h) (by rfl) (fun v hv => by go_simp) hH ?_
      simp only [Act.put, List.setIfInBounds_toArray, List.set_cons_succ, List.set_cons_zero]
      refine takeH 9 (.int .i64 z) rfl (by kernel_rfl) (by kernel_rfl) (by kernel_rfl) (fun _ _ _ h => h) (by rfl) (fun v hv => by go_simp) hH ?_
      simp only [Act.put, List.setIfInBounds_toArray, List.set_cons_succ, List.set_cons_zero]
      refine runH 10 rfl (by kernel_rfl) (by rfl) (.pointer (some ⟨w8.heap.size, 0, none⟩)) (w8.drew.alloc (.cells #[.int .i64 0] 3)) (by go_simp) (hH.alloc _) ?_
      simp only [Act.put, List.setIfInBounds_toArray, List.set_cons_succ, List.set_cons_zero]
      have hA := hH.alloc (.cells #[.int .i64 0] 3)
      have hal : (w8.drew.alloc (.cells #[.int .i64 0] 3)).heap[w8.heap.size]? = some (.cells #[.int .i64 0] 3 (0, 0)) := heap_alloc_at rfl
      have hc8 := cell_of_one hal
      have hf8 := free_of_one hal
      refine writeH 11 rfl (by kernel_rfl) (by rfl) ((w8.drew.alloc (.cells #[.int .i64 0] 3)).setCell ⟨w8.heap.size, 0, none⟩ (.int .i64 z)) (by go_simp) (hA.setCell (p := ⟨w8.heap.size, 0, none⟩) (fun h => absurd h (Nat.lt_irrefl _)) _) ?_
      simp only [Act.put, List.setIfInBounds_toArray, List.set_cons_succ, List.set_cons_zero]
      have hfin := hid (hA.setCell (p := ⟨w8.heap.size, 0, none⟩) (fun h => absurd h (Nat.lt_irrefl _)) (.int .i64 z))
      have hone := hid (one_setCell (u := (.int .i64 z)) hal)
      clear hal hc8 hf8 hA
      refine wpAnyH_done (by kernel_rfl) ?_ _
      go_wp2_with fail
      go_meet
      exact ⟨w8.heap.size, rfl, hid ⟨hfin.out, Nat.le_refl _, hone.out⟩⟩
    case rest =>
      obtain ⟨p9, rfl, hc1⟩ := hcut
      obtain ⟨kc, z9, q9⟩ := hc1.out
      have KC := hid (K18.out.trans kc)
      have Q9 := hid q9
      have C0 := hid (show Caps wc d (d + 1) (d + 1 + 1) p8 p9 p nm (.slice a n c) th z from ⟨kc.at (K8.out.at Q3.out (by simp)) (by simp), kc.at (K8.out.at Q4.out (by simp)) (by simp), kc.at (K8.out.at Q5.out (by simp)) (by simp), kc.at Q8.out (by simp), q9⟩)
      have hsz0 := hid K0.out.size; have hsz8 := hid K8.out.size; have hz8 := hid Z8.out; have hz9 := hid z9; have hq5 := hid (lt_of_block Q5.out)
      have hout := hid (show ∀ x ∈ [d, d + 1, d + 1 + 1, p8, p9], x ∉ p :: fuB fv ∧ x ∉ U ∧ w.heap.size ≤ x from fun x hx => by
        have hxw : w.heap.size ≤ x := by
          have := HD.out; have := hsz0.out; have := hsz8.out; have := hz8.out; have := hz9.out
          simp at hx
          omega
        refine ⟨fun hm => ?_, fun hm => ?_, hxw⟩
        · rcases List.mem_cons.1 hm with h | h
          · have := hpl.out; omega
          · have := (hfuU.out x h).1; omega
        · have := H.out.bound x hm; omega)
      clear hc1 kc q9 z9
      have cd0 := cell_of_one C0.out.hd
      have hmf : ∀ (fn : Fn) (first cap : Array Value) (w : World), (Instr.makeFunc fn first cap).run Try.prog w = .ok (.func fn first cap) w := fun _ _ _ _ => rfl
      go_wp2_with fail
      obtain ⟨WA, hWA⟩ : ∃ WA, WA = wc.alloc (.cells #[.func (.func 34) #[.pointer (some ⟨p, 0, none⟩)] #[], .func (.func 35) #[] #[.pointer (some ⟨d + 1, 0, none⟩)], .func (.func 38) #[] #[.pointer (some ⟨d + 1 + 1, 0, none⟩)], .func (.func 39) #[] #[.pointer (some ⟨p9, 0, none⟩), .pointer (some ⟨d, 0, none⟩)], .func (.func 40) #[] #[.pointer (some ⟨p8, 0, none⟩), .pointer (some ⟨d, 0, none⟩)]] 82) := ⟨_, rfl⟩
      have kA := hid (show Kept [] wc WA from hWA ▸ (Kept.refl [] wc).alloc _)
      have KA := hid (KC.out.trans kA.out)
      have hall := hid (o_all_blow 5 (by decide) (by decide) wc.heap.size 0 5 34 (fun args w => by simp [go_sem]) #[.pointer (some ⟨p, 0, none⟩)] #[] 63 (by decide) (.agg #[.pointer (some ⟨f, 0, none⟩)]) WA (fun w' => Kept [] w w') (by rw [hWA, cell_of_row _ _ 0 _ _ _ (heap_alloc_at rfl)]; rfl) (fun W hW => by
        have h1 := H.out.kept (KA.out.trans hW) (by simp)
        have h2 := HF.out.kept (KA.out.trans hW) (by simp)
        rw [HFV.out] at h1 h2
        exact (operate_blow W U p T more q es f fl k h1 h2).mono fun e w' h => ⟨h.1, h.2 ▸ KA.out.trans hW⟩))
      rw [← hWA]
      clear hWA
      refine hall.out.mono ?_
      rintro e w3 ⟨⟨older, rfl, hcalm⟩, hR⟩
      exact ⟨rfl, ⟨older, rfl, hcalm⟩, hR⟩
set_option maxRecDepth 100000 in
theorem flclone_src (a : Option Addr) (n c : Nat) (fl : List Bool) (w : World) (hn : n = fl.length) (h : Src w (.slice a n c) n (fl.map .bool)) (hl : fl.length ≤ 1000000000) :
    Calls Try.prog 23 #[.slice a n c] w fun e w' => ∃ v', e = .returned v' ∧ Kept [] w w' ∧ NewS w w' v' fl.length (fl.map .bool) := by
  cases a with
  | none =>
    refine (Try.slices_Clone_nil n c w).mono ?_
    rintro e w' ⟨rfl, rfl⟩
    have h0 : fl = [] := by
      rcases h with ⟨_, h2, _⟩ | ⟨x, c', h1, _⟩
      · subst h2; exact List.eq_nil_of_length_eq_zero hn.symm
      · simp at h1
    subst h0
    exact ⟨_, rfl, Kept.refl _ _, NewS.nil _ _⟩
  | some x =>
    obtain ⟨i0, hi0, hz0, hz1, hz2⟩ := info_split info_bool
    have HS := hid h; have HN := hid hn
    have hbu : ∀ W, (Instr.buildSlice 22 0 #[]).run Try.prog W = .ok (.slice (some ⟨W.heap.size, 0, none⟩) 0 0) (W.alloc (.cells #[] 4)) := fun W => by kernel_rfl
    have hka := hid (show Kept [] w (w.alloc (.cells #[] 4)) from (Kept.refl [] w).alloc _)
    have hown0 := hid (show (w.alloc (.cells #[] 4)).ownsRow w.heap.size 4 1 (.slice (some ⟨w.heap.size, 0, none⟩) 0 0) 0 [] from ⟨rfl, Or.inr ⟨w.heap.size, 0, #[], rfl, Nat.le_refl _, heap_alloc_at rfl, by simp, by unfold maxLen; omega, by simp, by simp⟩⟩)
    have hsr0 := hid (show Src (w.alloc (.cells #[] 4)) (.slice (some x) n c) n (fl.map .bool) from by
      rcases h with h | ⟨ad, c', h1, h2⟩
      · exact Or.inl h
      · exact Or.inr ⟨ad, c', h1, fun j u hj => (hka.out.cell (World.block_lt_of_cell? _ _ (h2 j u hj)) (by simp)).trans (h2 j u hj)⟩)
    have hln0 := hid (show (fl.map Value.bool).length = n by simp [hn])
    have hone0 := hid (show ∀ u ∈ fl.map Value.bool, u.oneCell' = true by intro u hu; simp at hu; rcases hu with ⟨_, rfl⟩ | ⟨_, rfl⟩ <;> rfl)
    have hnl : n ≤ 1000000000 := by omega
    have hnil : ∀ w : World, (binOp .eql 22 (.slice (some x) n c) (.slice none 0 0)).run Try.prog w = .ok (.bool false) w := fun w => Lib.run_eql_slice_nil w 22 4 (some x) n c 0 0 Try.underlying22
    clear h hn hl
    go_enter Try.func23, Try.ntmps23
    go_wp2_with (at_builtin; refine halt ?_)
    refine Halt.mk ?_
    refine wpList_append_src _ rfl _ _ _ rfl w.heap.size 4 i0 _ 1 Try.underlying22 hi0 hz0 hz1 hz2 rfl (.slice (some ⟨w.heap.size, 0, none⟩) 0 0) 0 [] rfl hown0.out (.slice (some x) n c) n (fl.map .bool) rfl hsr0.out hln0.out hone0.out ?_ ?_ ?_ ?_
    · unfold maxLen; omega
    · omega
    · simp
    intro v4 w4 hown4 hgr4 _ hf4
    simp only [Nat.zero_add, List.nil_append] at hown4
    have k4 := hid (show Kept [] w w4 from hka.out.trans' (Kept.of_row hgr4) (fun x hx hm => by simp [Value.ownBlock] at hm; omega))
    have HO := hid hown4
    clear hown4 hgr4 hf4
    go_wp2
    go_ret
    exact ⟨_, rfl, k4.out, by rw [← HN.out]; exact srcS_of_row HO.out⟩
section
variable (w : World) (U : List Nat) (p T : Nat) (more : List Value) (q : Int) (es : List Ent) (fv : Value) (fl : List Bool) (k : Nat) (h : Ob w U p T more q es fv fl k)
include h
theorem ob_arm_src (fv' : Value) (ga : Option Addr) (gn gc : Nat) (fl' : List Bool) (hfv : ∃ a, fv' = .pointer a) (hgn : gn = fl'.length) (hfl' : ∀ W, Kept [p] w W → Src W (.slice ga gn gc) gn (fl'.map .bool)) (hl : fl'.length ≤ 1000000) :
    Calls Try.prog 8 #[.pointer (some ⟨p, 0, none⟩), fv', .slice ga gn gc] w fun e w' => e = .returned (.tuple #[]) ∧ Kept [p] w w' ∧ ∃ U', (∀ x ∈ U', x ∈ U ∨ w.heap.size ≤ x) ∧ Ob w' U' p T more q es fv' fl' k := by
  obtain ⟨⟨mv, flv, R, hR, hrow, hmp, hmpp, hfl, hth⟩, hp, hb, hq, hs⟩ := h
  obtain ⟨fa, rfl⟩ := hfv
  have HGN := hid hgn
  clear hgn
  have f3 : w.frozen? ⟨p, 3, none⟩ = false := free_of_row' hrow 3
  obtain ⟨_, _, _, g3, _⟩ := st_cells hrow
  have r1 := (st_set hrow (.pointer fa) 0).2.2.1
  have K1 := hid (show Kept [p] w (w.setCell ⟨p, 3, none⟩ (.pointer fa)) from (Kept.refl [p] w).setCell (p := ⟨p, 3, none⟩) (fun _ => by simp) _)
  obtain ⟨W, hW⟩ : ∃ W, W = w.setCell ⟨p, 3, none⟩ (.pointer fa) := ⟨_, rfl⟩
  have HW := hid hW
  rw [← hW] at r1 K1
  have hcl := hid (flclone_src ga gn gc fl' W HGN.out (hfl' W K1.out) (by omega))
  have hRp := hid (show ∀ x ∈ R, x ∉ [p] from fun x hx hm => (hR x hx).2.1 (by simpa using hm))
  have hpm := hid (show ∀ x ∈ mpB mv, x ∉ [p] from fun x hx hm => by
    rcases hmp with ⟨h1, _⟩ | ⟨b, h1, _⟩
    · rw [h1] at hx; simp [mpB] at hx
    · rw [h1] at hx; simp [mpB] at hx; simp at hm; exact hmpp (by rw [h1, ← hm, hx]))
  have hm1 := hid (show Mp W U mv es from by
    rcases hmp with h | ⟨b, h1, h2, h3⟩
    · exact Or.inl h
    · exact Or.inr ⟨b, h1, h2, K1.out.ownsMap' h3 (fun hm => hmpp (by rw [h1]; simp at hm; rw [hm]))⟩)
  have hth1 := hid (fun e he => (hth e he).kept K1.out hRp.out)
  have R1 := hid r1
  have HR := hid hR; have HMPP := hid hmpp; have HP := hid hp; have HB := hid hb; have HQ := hid hq; have HS := hid hs; have HMP := hid hmp
  clear hW r1 hrow hmp hR hmpp hp hb hq hs hth hfl hfl'
  go_enter Try.func8, Try.ntmps8
  go_wp2_with fail
  rw [← HW.out]
  refine hcl.out.mono ?_
  rintro e W2 ⟨v', rfl, k2, U2, hU2, hs2⟩
  have K2 := hid k2
  have r2 := k2.at R1.out (by simp)
  have f4 : W2.frozen? ⟨p, 4, none⟩ = false := free_of_row' r2 4
  have gg4 := (st_cells r2).2.2.2.2.1
  have Hs2 := hid hs2
  obtain ⟨_, a2, c2, rfl, _⟩ := hs2
  have R3 := hid (st_set r2 (.slice a2 fl'.length c2) 0).2.2.2.1
  have K3 := hid (show Kept [p] W2 (W2.setCell ⟨p, 4, none⟩ (.slice a2 fl'.length c2)) from (Kept.refl [p] W2).setCell (p := ⟨p, 4, none⟩) (fun _ => by simp) _)
  have HU2 := hid hU2
  have hps := hid (lt_of_block R1.out)
  have hz2 := hid K2.out.size; have hz1 := hid K1.out.size; have hz3 := hid K3.out.size
  clear k2 hU2 r2 hcl
  go_wp2
  go_end0
  refine ⟨rfl, (K1.out.trans' K2.out (fun _ _ h => by simp at h)).trans K3.out, U ++ U2, fun x hx => ?_, ?_⟩
  · rcases List.mem_append.1 hx with h | h
    · exact Or.inl h
    · exact Or.inr (by have := (HU2.out x h).1; have := hz1.out; omega)
  · have hR2p : ∀ x ∈ U2, x ∉ [p] := fun x hx hm => by simp at hm; have := (HU2.out x hx).1; have := hps.out; omega
    refine ⟨⟨mv, _, R ++ U2, fun x hx => ?_, R3.out, ?_, HMPP.out, (Hs2.out.kept K3.out hR2p).more (fun x hx => by simp [hx]), fun e he => (((hth1.out e he).kept K2.out (by simp)).kept K3.out hRp.out).more (fun x hx => by simp [hx])⟩, by simp [HP.out], fun x hx => ?_, HQ.out, HS.out⟩
    · rcases List.mem_append.1 hx with h | h
      · exact ⟨by simp [(HR.out x h).1], (HR.out x h).2⟩
      · refine ⟨by simp [h], fun e => hR2p x h (by simp [e]), fun e => ?_⟩
        rcases HMP.out with ⟨h1, _⟩ | ⟨b, h1, _, h3⟩
        · rw [h1] at e; simp at e
        · rw [h1] at e; simp at e
          have := h3.lt; have := (HU2.out x h).1; have := hz1.out; omega
    · rcases hm1.out with h | ⟨b, h1, h2, h3⟩
      · exact Or.inl h
      · exact Or.inr ⟨b, h1, by simp [h2], K3.out.ownsMap' (K2.out.ownsMap' h3 (by simp)) (hpm.out b (by rw [h1]; simp [mpB]))⟩
    · rcases List.mem_append.1 hx with h | h
      · have := HB.out x h; have := hz1.out; have := hz2.out; have := hz3.out; omega
      · have := (HU2.out x h).2; have := hz3.out; omega
end
end Go.Proofs.Ytmholofhmpplcaa
