
/- coldstorelaw07's steps; few; ref07.Right; a map of texts; how many are pending, as mathematics. -/
import Derived.Test.YtnkolgamnakegaaYB
namespace Go.Proofs.Ytnkolgamnakegaa
open Go.RowKit Go.Lib Go.Maps

/-- A step as it was handed. -/
structure OpC where
  kind : Int
  nm : List UInt8
  ba : Option Addr
  bc : Nat
  bs : List UInt8
  now : Int
  wait : Int
  force : Bool
/-- A row of steps, six cells each, that was handed. -/
def IsStepsC (w : World) (a : Option Addr) (ops : List OpC) : Prop :=
  (a = none → ops = []) ∧ ∀ x, a = some x → ∀ i o, ops[i]? = some o → w.cell? (x.add (i * 6)) = some (.int .i64 o.kind) ∧ w.cell? ⟨(x.add (i * 6)).block, (x.add (i * 6)).off + 1, none⟩ = some (.string (S o.nm)) ∧
    w.cell? ⟨(x.add (i * 6)).block, (x.add (i * 6)).off + 2, none⟩ = some (.slice o.ba o.bs.length o.bc) ∧ w.cell? ⟨(x.add (i * 6)).block, (x.add (i * 6)).off + 3, none⟩ = some (.int .i64 o.now) ∧
    w.cell? ⟨(x.add (i * 6)).block, (x.add (i * 6)).off + 4, none⟩ = some (.int .i64 o.wait) ∧ w.cell? ⟨(x.add (i * 6)).block, (x.add (i * 6)).off + 5, none⟩ = some (.bool o.force) ∧
    SrcB w (.slice o.ba o.bs.length o.bc) o.bs ∧ o.nm.length ≤ 9223372036854775807 ∧ o.bs.length ≤ 9223372036854775807 ∧
    (-9223372036854775808 ≤ o.now ∧ o.now ≤ 9223372036854775807) ∧ (-9223372036854775808 ≤ o.wait ∧ o.wait ≤ 9223372036854775807)
def FewC (ops : List OpC) : Prop := (∀ o ∈ ops, o.nm.length ≤ 100 ∧ o.bs.length ≤ 100) ∧ ops.length ≤ 50
instance (ops : List OpC) : Decidable (FewC ops) := by unfold FewC; infer_instance

set_option maxHeartbeats 1000000 in
theorem few07 (a : Option Addr) (c : Nat) (ops : List OpC) (w : World) (h : IsStepsC w a ops) (hm : ops.length ≤ 9223372036854775807) :
    Calls Try.prog 19 #[.slice a ops.length c] w fun e w' => e = .returned (.bool (decide (FewC ops))) ∧ Kept [] w w' := by
  have H := hid h
  clear h
  go_enter Try.func19, Try.ntmps19
  go_wp2_with fail
  go_loopw [7] (fun s wr => ∃ i : Nat, i ≤ ops.length ∧ s = .int .i64 i ∧ Kept [] w wr ∧ ∀ j o, j < i → ops[j]? = some o → o.nm.length ≤ 100 ∧ o.bs.length ≤ 100) (fun s _ => ops.length - (intOf s).toNat)
  case atStart => exact ⟨0, Nat.zero_le _, rfl, Kept.refl _ _, fun j o hj => absurd hj (by omega)⟩
  case round =>
    obtain ⟨i, hi, rfl, hkw, hall⟩ := hrel
    by_cases hlt : i < ops.length
    · cases a with
      | none => exact absurd (H.out.1 rfl) (fun e => by rw [e] at hlt; simp at hlt)
      | some x =>
        obtain ⟨c0, c1, c2, c3, c4, c5, hsrc, hn, hl, _⟩ := H.out.2 x rfl i ops[i] (by simp [hlt])
        have g0 := (hkw.cell (World.block_lt_of_cell? w _ c0) (by simp)).trans c0
        have g1 := (hkw.cell (World.block_lt_of_cell? w _ c1) (by simp)).trans c1
        have g2 := (hkw.cell (World.block_lt_of_cell? w _ c2) (by simp)).trans c2
        have g3 := (hkw.cell (World.block_lt_of_cell? w _ c3) (by simp)).trans c3
        have g4 := (hkw.cell (World.block_lt_of_cell? w _ c4) (by simp)).trans c4
        have g5 := (hkw.cell (World.block_lt_of_cell? w _ c5) (by simp)).trans c5
        have Hkw := hid hkw
        have Hall := hid hall
        have hsz : (S ops[i].nm).size = ops[i].nm.length := S_size _
        clear c0 c1 c2 c3 c4 c5 hsrc hkw hall
        by_cases hok : ops[i].nm.length ≤ 100 ∧ ops[i].bs.length ≤ 100
        · have e1 : ¬ (100 : Int) < (ops[i].nm.length : Int) := by omega
          have e2 : ¬ (100 : Int) < (ops[i].bs.length : Int) := by omega
          have HOK := hid hok
          clear hok
          go_wp2
          go_roundw
          case rel => exact ⟨i + 1, by omega, by go_num, Hkw.out.alloc _, fun j o hj ho => by
            rcases Nat.lt_or_ge j i with h | h
            · exact Hall.out j o h ho
            · have : j = i := by omega
              subst this
              simp [hlt] at ho
              subst ho
              exact HOK.out⟩
          case measure => simp [intOf]; omega
        · have HB := hid (show decide (FewC ops) = false from by
            simp only [decide_eq_false_iff_not]
            exact fun h => hok (h.1 _ (List.getElem_mem hlt)))
          by_cases h100 : ops[i].nm.length ≤ 100
          · have e1 : ¬ (100 : Int) < (ops[i].nm.length : Int) := by omega
            have e2 : (100 : Int) < (ops[i].bs.length : Int) := by omega
            clear hok h100
            go_wp2
            go_ret
            exact ⟨by rw [HB.out]; rfl, Hkw.out.alloc _⟩
          · have e1 : (100 : Int) < (ops[i].nm.length : Int) := by omega
            clear hok h100
            go_wp2
            go_ret
            exact ⟨by rw [HB.out]; rfl, Hkw.out.alloc _⟩
    · have hin : i = ops.length := by omega
      subst hin
      have hgood : decide (FewC ops) = decide (ops.length ≤ 50) := by
        unfold FewC
        congr 1
        simp only [eq_iff_iff, and_iff_right_iff_imp]
        intro _ o ho
        obtain ⟨j, hj, rfl⟩ := List.getElem_of_mem ho
        exact hall j _ hj (by simp [hj])
      have HB := hid hgood
      clear hgood hall
      go_wp2
      go_ret
      exact ⟨by rw [HB.out]; simp; omega, hkw⟩


def RightC (q jobs life least : Int) : Prop := 0 ≤ q ∧ 1 ≤ jobs ∧ jobs ≤ 64 ∧ 1 ≤ life ∧ life ≤ 1125899906842624 ∧ 0 ≤ least ∧ least ≤ 1125899906842624
instance (q jobs life least : Int) : Decidable (RightC q jobs life least) := by unfold RightC; infer_instance
theorem right07 (q jobs life least : Int) (w : World) :
    Calls Try.prog 20 #[.int .i64 q, .int .i64 jobs, .int .i64 life, .int .i64 least] w fun e w' => e = .returned (.bool (decide (RightC q jobs life least))) ∧ w = w' := by
  by_cases h : RightC q jobs life least
  · rw [decide_eq_true h]
    obtain ⟨h1, h2, h3, h4, h5, h6, h7⟩ := h
    go_enter Try.func20, Try.ntmps20
    go_wp2
    go_ret
    exact ⟨rfl, rfl⟩
  · rw [decide_eq_false h]
    rcases (show q < 0 ∨ (0 ≤ q ∧ jobs < 1) ∨ (0 ≤ q ∧ 1 ≤ jobs ∧ 64 < jobs) ∨ (0 ≤ q ∧ 1 ≤ jobs ∧ jobs ≤ 64 ∧ life < 1) ∨ (0 ≤ q ∧ 1 ≤ jobs ∧ jobs ≤ 64 ∧ 1 ≤ life ∧ 1125899906842624 < life) ∨ (0 ≤ q ∧ 1 ≤ jobs ∧ jobs ≤ 64 ∧ 1 ≤ life ∧ life ≤ 1125899906842624 ∧ least < 0) ∨ (0 ≤ q ∧ 1 ≤ jobs ∧ jobs ≤ 64 ∧ 1 ≤ life ∧ life ≤ 1125899906842624 ∧ 0 ≤ least ∧ 1125899906842624 < least) by unfold RightC at h; omega) with h1 | ⟨h1, h2⟩ | ⟨h1, h2, h3⟩ | ⟨h1, h2, h3, h4⟩ | ⟨h1, h2, h3, h4, h5⟩ | ⟨h1, h2, h3, h4, h5, h6⟩ | ⟨h1, h2, h3, h4, h5, h6, h7⟩
    all_goals
      clear h
      go_enter Try.func20, Try.ntmps20
      go_wp2
      go_ret
      first
        | exact ⟨rfl, rfl⟩
        | (have e7 : decide (least ≤ 1125899906842624) = false := decide_eq_false (by omega)
           exact ⟨by show Ending.returned (.bool (decide (least ≤ 1125899906842624))) = _; rw [e7], rfl⟩)

theorem zero_t_c (w : World) : (zeroValue 9).run Try.prog w = .ok (.string ByteArray.empty) w := by kernel_rfl
def lookT_c (nm : List UInt8) (es : List Ent) : Value := match findE nm es with | some e => e.v | none => .string ByteArray.empty
theorem mt_look_c {w : World} {U : List Nat} {mv : Value} {es : List Ent} (h : Mp w U mv es) (nm : List UInt8) (hn : nm.length ≤ 1000000000) :
    (Instr.lookup 63 mv (.string (S nm)) true).run Try.prog w = .ok (.tuple #[lookT_c nm es, .bool (findE nm es).isSome]) w := by
  rcases h with ⟨rfl, rfl⟩ | ⟨b, rfl, _, h⟩
  · exact Maps.look_nil true str_law Try.underlying63 (zero_t_c w) (str_key nm hn)
  · obtain ⟨v, ps, h1, h2⟩ := h.look_ok str_law Try.underlying63 (zero_t_c w) (zd := .held (.string ByteArray.empty)) (zp := []) rfl (str_key nm hn)
    rw [DM_has] at h1
    rw [DM_at] at h2
    have hv : v = lookT_c nm es := by
      unfold heldR at h2
      unfold lookT_c
      cases hf : findE nm es <;> rw [hf] at h2 <;> simp at h2 <;> exact h2.1
    rw [← hv]
    exact h1
theorem mt_look1_c {w : World} {U : List Nat} {mv : Value} {es : List Ent} (h : Mp w U mv es) (nm : List UInt8) (hn : nm.length ≤ 1000000000) :
    (Instr.lookup 63 mv (.string (S nm)) false).run Try.prog w = .ok (lookT_c nm es) w := by
  rcases h with ⟨rfl, rfl⟩ | ⟨b, rfl, _, h⟩
  · exact Maps.look_nil false str_law Try.underlying63 (zero_t_c w) (str_key nm hn)
  · obtain ⟨v, ps, h1, h2⟩ := h.lookup str_law Try.underlying63 (zero_t_c w) (zd := .held (.string ByteArray.empty)) (zp := []) rfl (str_key nm hn)
    rw [DM_at] at h2
    have hv : v = lookT_c nm es := by
      unfold heldR at h2
      unfold lookT_c
      cases hf : findE nm es <;> rw [hf] at h2 <;> simp at h2 <;> exact h2.1
    rw [← hv]
    exact h1
theorem mt_len_c {w : World} {U : List Nat} {mv : Value} {es : List Ent} (h : Mp w U mv es) (ty : TypeId) : (Builtin.len_ #[63] ty #[mv]).run Try.prog w = .ok (.int .i64 es.length) w := by
  rcases h with ⟨rfl, rfl⟩ | ⟨b, rfl, _, h⟩
  · exact Maps.len_nil Try.underlying63 ty
  · have h1 := h.len Try.underlying63 ty
    rw [DM_size] at h1
    exact h1
theorem mt_drop_c {w : World} {U : List Nat} {mv : Value} {es : List Ent} (h : Mp w U mv es) (nm : List UInt8) (hn : nm.length ≤ 1000000000) :
    ∃ w', (∀ ty, (Builtin.delete_ #[63, 9] ty #[mv, .string (S nm)]).run Try.prog w = .ok (.tuple #[]) w') ∧ Kept (mpB mv) w w' ∧ Mp w' U mv (delE nm es) := by
  rcases h with ⟨rfl, rfl⟩ | ⟨b, rfl, hb, h⟩
  · exact ⟨w, fun ty => Maps.drop_nil str_law Try.underlying63 (str_key nm hn) ty, Kept.refl _ _, Or.inl ⟨rfl, rfl⟩⟩
  · obtain ⟨w', h1, h2, h3⟩ := h.drop str_law Try.underlying63 (str_key nm hn) 9
    refine ⟨w', fun ty => ?_, turned_kept h3, Or.inr ⟨b, rfl, hb, ?_⟩⟩
    · exact h1
    · rw [DM_del] at h2
      exact owns_tight h2
theorem mt_put_c {w : World} {U : List Nat} {b : Nat} {es : List Ent} (h : Mp w U (.map (some b)) es) (x : Ent) (hn : x.name.length ≤ 1000000000) (hl : es.length ≤ 1000000000) :
    ∃ w', (Instr.mapUpdate 63 (.map (some b)) (.string (S x.name)) x.v).run Try.prog w = .ok () w' ∧ Kept [b] w w' ∧ Mp w' U (.map (some b)) (putE x es) := by
  rcases h with ⟨h, _⟩ | ⟨b', hb', hb, h⟩
  · cases h
  · cases hb'
    obtain ⟨w', h1, h2, h3⟩ := h.store (val := x.v) (d := .held x.v) (ps := []) str_law Try.underlying63 (by unfold maxLen; omega) (str_key x.name hn) rfl
    refine ⟨w', h1, turned_kept h3, Or.inr ⟨b, rfl, hb, ?_⟩⟩
    rw [DM_put] at h2
    exact owns_tight h2

/-- With its text as its value. -/
def texted_c (e : Ent) : Ent := ⟨e.name, .string (S e.b), e.b⟩
theorem find_texted_c (nm : List UInt8) (es : List Ent) : findE nm (es.map texted_c) = (findE nm es).map texted_c := by
  unfold findE
  induction es with
  | nil => rfl
  | cons e r ih =>
    simp only [List.map_cons, List.find?_cons]
    have : (texted_c e).name = e.name := rfl
    rw [this]
    split
    · rfl
    · exact ih
theorem del_texted_c (nm : List UInt8) (es : List Ent) : delE nm (es.map texted_c) = (delE nm es).map texted_c := by
  unfold delE
  rw [List.filter_map]
  rfl
theorem ins_texted_c (x : Ent) (es : List Ent) : insE (texted_c x) (es.map texted_c) = (insE x es).map texted_c := by
  induction es with
  | nil => rfl
  | cons e r ih =>
    simp only [List.map_cons, insE]
    have e1 : (texted_c e).name = e.name := rfl
    have e2 : (texted_c x).name = x.name := rfl
    rw [e1, e2]
    split
    · rfl
    · rw [List.map_cons, ih]
theorem put_texted_c (x : Ent) (es : List Ent) : putE (texted_c x) (es.map texted_c) = (putE x es).map texted_c := by
  unfold putE
  rw [show (texted_c x).name = x.name from rfl, del_texted_c, ins_texted_c]
theorem names_texted_c (es : List Ent) : (es.map texted_c).map (·.name) = es.map (·.name) := by rw [List.map_map]; rfl


/-- How many are pending, by what is there. -/
def pendQ (now life : Int) (e : Ent) : Bool := decide (stT (syOf e.v) (momT now) life = 1)
def pendE (ss : List Ent) (now life : Int) : Nat := ss.countP (pendQ now life)
theorem pend_eq {ss : List Ent} (h : Rising ss) (now life : Int) : pendT ss now life = pendE ss now life := by
  have key : ∀ (l : List Ent), (∀ e ∈ l, e ∈ ss) → ((l.map (·.name)).filter (isPend ss now life)).length = l.countP (pendQ now life) := by
    intro l
    induction l with
    | nil => intro _; rfl
    | cons e r ih =>
      intro hl
      have he := find_unique h (hl e (by simp))
      have e1 : isPend ss now life e.name = pendQ now life e := by
        have e0 : stateT ss e.name now life = stT (syOf e.v) (momT now) life := by unfold stateT; rw [he]
        unfold isPend pendQ
        rw [e0]
      rw [List.map_cons, List.filter_cons, List.countP_cons, ← ih (fun x hx => hl x (by simp [hx])), e1]
      cases pendQ now life e <;> simp
  exact key ss (fun e he => he)
theorem stT_pend {s : Sy} {m life : Int} : stT s m life = 1 ↔ s.asked = true ∧ m < s.ready := by
  unfold stT
  by_cases h1 : s.asked = false
  · rw [if_pos h1]; simp [h1]
  · rw [if_neg h1]
    have h1' : s.asked = true := by simpa using h1
    by_cases h2 : m < s.ready
    · rw [if_pos h2]; simp [h1', h2]
    · rw [if_neg h2]
      split <;> simp [h2]
theorem momT_mono {a b : Int} (h : a ≤ b) : momT a ≤ momT b := by unfold momT; omega
theorem pend_mono (ss : List Ent) {a b life : Int} (h : a ≤ b) : pendE ss b life ≤ pendE ss a life := by
  unfold pendE
  refine List.countP_mono_left (fun e _ he => ?_)
  unfold pendQ at he ⊢
  have h2 := stT_pend.1 (of_decide_eq_true he)
  exact decide_eq_true (stT_pend.2 ⟨h2.1, by have := momT_mono h; omega⟩)
theorem pend_del (ss : List Ent) (nm : List UInt8) (now life : Int) : pendE (delE nm ss) now life ≤ pendE ss now life := by
  unfold pendE delE
  exact List.Sublist.countP_le (List.filter_sublist)
theorem pend_ins (x : Ent) (ss : List Ent) (now life : Int) : pendE (insE x ss) now life = pendE ss now life + (if pendQ now life x then 1 else 0) := by
  unfold pendE
  induction ss with
  | nil => simp [insE, List.countP_cons]
  | cons e r ih =>
    unfold insE
    split
    · simp [List.countP_cons]
    · rw [List.countP_cons, ih, List.countP_cons]; omega
theorem pend_put (x : Ent) (ss : List Ent) (now life : Int) : pendE (putE x ss) now life ≤ pendE ss now life + (if pendQ now life x then 1 else 0) := by
  unfold putE
  rw [pend_ins]
  have := pend_del ss x.name now life
  omega
theorem gotE_range (fl : List Bool) (es : List Ent) (nm : List UInt8) : gotE fl es nm = 0 ∨ gotE fl es nm = 4 ∨ gotE fl es nm = 30 := by
  unfold gotE opE
  by_cases h : fl.head? = some true
  · simp [h]
  · simp [h]
    cases findE nm es <;> simp
end Go.Proofs.Ytnkolgamnakegaa
