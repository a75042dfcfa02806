
/- coldstorelaw06's steps as an argument; few; two stores that hold the same. -/
import Derived.Test.YtnegpggikllopaaOH
namespace Go.Proofs.Ytnegpggikllopaa
open Go.RowKit Go.Lib Go.Maps

/-- A step as it was handed. -/
structure OpO where
  kind : Int
  nm : List UInt8
  ba : Option Addr
  bc : Nat
  bs : List UInt8
/-- A row of steps, three cells each, that was handed. -/
def IsSteps (w : World) (a : Option Addr) (ops : List OpO) : Prop :=
  (a = none → ops = []) ∧ ∀ x, a = some x → ∀ i o, ops[i]? = some o → w.cell? (x.add (i * 3)) = some (.int .i64 o.kind) ∧ w.cell? ⟨(x.add (i * 3)).block, (x.add (i * 3)).off + 1, none⟩ = some (.string (S o.nm)) ∧
    w.cell? ⟨(x.add (i * 3)).block, (x.add (i * 3)).off + 2, none⟩ = some (.slice o.ba o.bs.length o.bc) ∧ SrcB w (.slice o.ba o.bs.length o.bc) o.bs ∧ o.nm.length ≤ 9223372036854775807 ∧ o.bs.length ≤ 9223372036854775807
def Few (ops : List OpO) : Prop := (∀ o ∈ ops, o.nm.length ≤ 100 ∧ o.bs.length ≤ 200) ∧ ops.length ≤ 60
instance (ops : List OpO) : Decidable (Few ops) := by unfold Few; infer_instance

set_option maxHeartbeats 1000000 in
theorem few06 (a : Option Addr) (c : Nat) (ops : List OpO) (w : World) (h : IsSteps w a ops) (hm : ops.length ≤ 9223372036854775807) :
    Calls Try.prog 9 #[.slice a ops.length c] w fun e w' => e = .returned (.bool (decide (Few ops))) ∧ Kept [] w w' := by
  have H := hid h
  clear h
  go_enter Try.func9, Try.ntmps9
  go_wp2_with fail
  go_loopw [7] (fun s wr => ∃ i : Nat, i ≤ ops.length ∧ s = .int .i64 i ∧ Kept [] w wr ∧ ∀ j o, j < i → ops[j]? = some o → o.nm.length ≤ 100 ∧ o.bs.length ≤ 200) (fun s _ => ops.length - (intOf s).toNat)
  case atStart => exact ⟨0, Nat.zero_le _, rfl, Kept.refl _ _, fun j o hj => absurd hj (by omega)⟩
  case round =>
    obtain ⟨i, hi, rfl, hkw, hall⟩ := hrel
    by_cases hlt : i < ops.length
    · cases a with
      | none => exact absurd (H.out.1 rfl) (fun e => by rw [e] at hlt; simp at hlt)
      | some x =>
        obtain ⟨c0, c1, c2, hsrc, hn, hl⟩ := H.out.2 x rfl i ops[i] (by simp [hlt])
        have g0 := (hkw.cell (World.block_lt_of_cell? w _ c0) (by simp)).trans c0
        have g1 := (hkw.cell (World.block_lt_of_cell? w _ c1) (by simp)).trans c1
        have g2 := (hkw.cell (World.block_lt_of_cell? w _ c2) (by simp)).trans c2
        have Hkw := hid hkw
        have Hall := hid hall
        have hsz : (S ops[i].nm).size = ops[i].nm.length := S_size _
        clear c0 c1 c2 hsrc hkw hall
        by_cases hok : ops[i].nm.length ≤ 100 ∧ ops[i].bs.length ≤ 200
        · have e1 : ¬ (100 : Int) < (ops[i].nm.length : Int) := by omega
          have e2 : ¬ (200 : Int) < (ops[i].bs.length : Int) := by omega
          have HOK := hid hok
          clear hok
          go_wp2
          go_roundw
          case rel => exact ⟨i + 1, by omega, by go_num, Hkw.out.alloc _, fun j o hj ho => by
            rcases Nat.lt_or_ge j i with h | h
            · exact Hall.out j o h ho
            · have : j = i := by omega
              subst this
              simp [hlt] at ho
              subst ho
              exact HOK.out⟩
          case measure => simp [intOf]; omega
        · have HB := hid (show decide (Few ops) = false from by
            simp only [decide_eq_false_iff_not]
            exact fun h => hok (h.1 _ (List.getElem_mem hlt)))
          by_cases h100 : ops[i].nm.length ≤ 100
          · have e1 : ¬ (100 : Int) < (ops[i].nm.length : Int) := by omega
            have e2 : (200 : Int) < (ops[i].bs.length : Int) := by omega
            clear hok h100
            go_wp2
            go_ret
            exact ⟨by rw [HB.out]; rfl, Hkw.out.alloc _⟩
          · have e1 : (100 : Int) < (ops[i].nm.length : Int) := by omega
            clear hok h100
            go_wp2
            go_ret
            exact ⟨by rw [HB.out]; rfl, Hkw.out.alloc _⟩
    · have hin : i = ops.length := by omega
      subst hin
      have hgood : decide (Few ops) = decide (ops.length ≤ 60) := by
        unfold Few
        congr 1
        simp only [eq_iff_iff, and_iff_right_iff_imp]
        intro _ o ho
        obtain ⟨j, hj, rfl⟩ := List.getElem_of_mem ho
        exact hall j _ hj (by simp [hj])
      have HB := hid hgood
      clear hgood hall
      go_wp2
      go_ret
      exact ⟨by rw [HB.out]; simp; omega, hkw⟩

/-- Without where the bytes lie. -/
def strip (e : Ent) : Ent := ⟨e.name, undef, e.b⟩
/-- Two stores hold the same. -/
def SameE (es fs : List Ent) : Prop := es.map strip = fs.map strip
theorem find_strip (nm : List UInt8) (es : List Ent) : findE nm (es.map strip) = (findE nm es).map strip := by
  unfold findE
  induction es with
  | nil => rfl
  | cons e r ih =>
    simp only [List.map_cons, List.find?_cons]
    have : (strip e).name = e.name := rfl
    rw [this]
    split
    · rfl
    · exact ih
theorem del_strip (nm : List UInt8) (es : List Ent) : delE nm (es.map strip) = (delE nm es).map strip := by
  unfold delE
  rw [List.filter_map]
  rfl
theorem ins_strip (x : Ent) (es : List Ent) : insE (strip x) (es.map strip) = (insE x es).map strip := by
  induction es with
  | nil => rfl
  | cons e r ih =>
    simp only [List.map_cons, insE]
    have e1 : (strip e).name = e.name := rfl
    have e2 : (strip x).name = x.name := rfl
    rw [e1, e2]
    split
    · rfl
    · rw [List.map_cons, ih]
theorem put_strip (x : Ent) (es : List Ent) : putE (strip x) (es.map strip) = (putE x es).map strip := by
  unfold putE
  rw [show (strip x).name = x.name from rfl, del_strip, ins_strip]
theorem size_strip (es : List Ent) : sizeE (es.map strip) = sizeE es := by
  unfold sizeE
  rw [List.map_map]
  rfl
theorem SameE.size {es fs : List Ent} (h : SameE es fs) : sizeE es = sizeE fs := by rw [← size_strip es, h, size_strip]
theorem SameE.length {es fs : List Ent} (h : SameE es fs) : es.length = fs.length := by have := congrArg List.length h; simpa using this
theorem SameE.find {es fs : List Ent} (h : SameE es fs) (nm : List UInt8) : (findE nm es).isSome = (findE nm fs).isSome ∧ lookB nm es = lookB nm fs := by
  have h1 := find_strip nm es
  rw [h, find_strip nm fs] at h1
  unfold lookB
  cases h2 : findE nm es <;> cases h3 : findE nm fs <;> rw [h2, h3] at h1 <;> simp at h1
  · exact ⟨rfl, rfl⟩
  · unfold strip at h1
    injection h1 with _ _ h4
    exact ⟨rfl, h4.symm⟩
theorem SameE.put {es fs : List Ent} (h : SameE es fs) (nm bs : List UInt8) (v u : Value) : SameE (putE ⟨nm, v, bs⟩ es) (putE ⟨nm, u, bs⟩ fs) := by
  unfold SameE
  rw [← put_strip, ← put_strip, h]
  rfl
theorem SameE.del {es fs : List Ent} (h : SameE es fs) (nm : List UInt8) : SameE (delE nm es) (delE nm fs) := by
  unfold SameE
  rw [← del_strip, ← del_strip, h]
theorem SameE.names {es fs : List Ent} (h : SameE es fs) : es.map nmV = fs.map nmV ∧ es.map szV = fs.map szV := by
  have h1 : ∀ l : List Ent, l.map nmV = (l.map strip).map nmV := fun l => by rw [List.map_map]; rfl
  have h2 : ∀ l : List Ent, l.map szV = (l.map strip).map szV := fun l => by rw [List.map_map]; rfl
  exact ⟨by rw [h1, h, ← h1], by rw [h2, h, ← h2]⟩
theorem size_del_le (nm : List UInt8) (es : List Ent) : sizeE (delE nm es) ≤ sizeE es := by
  unfold sizeE delE
  induction es with
  | nil => simp
  | cons e r ih =>
    rw [List.filter_cons]
    split
    · simp at ih ⊢; omega
    · simp at ih ⊢; omega
theorem size_ins (x : Ent) (es : List Ent) : sizeE (insE x es) = x.b.length + sizeE es := by
  unfold sizeE
  induction es with
  | nil => simp [insE]
  | cons e r ih =>
    unfold insE
    split
    · simp
    · simp at ih ⊢; omega
theorem size_put_le (x : Ent) (es : List Ent) : sizeE (putE x es) ≤ x.b.length + sizeE es := by
  unfold putE
  rw [size_ins]
  have := size_del_le x.name es
  omega
end Go.Proofs.Ytnegpggikllopaa
