import Derived.Test.YtmholofhmpplcaaMQ4

/- ObjectPlays' helpers: a Get, a List whose fuse blows. -/
namespace Go.Proofs.Ytmholofhmpplcaa
open Go.RowKit Go.Lib Go.Maps

theorem get_blow (w : World) (U : List Nat) (p T : Nat) (more : List Value) (q : Int) (es : List Ent) (f : Nat) (fl : List Bool) (k : Nat) (nm : List UInt8) (h : Ob w U p T more q es (.pointer (some ⟨f, 0, none⟩)) fl k) (hf : FuV w U (.pointer (some ⟨f, 0, none⟩)) 0) :
    Calls Try.prog 16 #[.pointer (some ⟨p, 0, none⟩), .string (S nm)] w fun e w' => Thrown 63 (.agg #[.pointer (some ⟨f, 0, none⟩)]) e ∧ w = w' := by
  have hop := hid (operate_blow w U p T more q es f fl k h hf)
  clear h hf
  go_enter Try.func16, Try.ntmps16
  go_wp2_with fail
  refine hop.out.mono ?_
  rintro e w1 ⟨⟨older, rfl, hcalm⟩, rfl⟩
  exact ⟨rfl, ⟨older, rfl, hcalm⟩, rfl⟩
theorem list_blow (w : World) (U : List Nat) (p T : Nat) (more : List Value) (q : Int) (es : List Ent) (f : Nat) (fl : List Bool) (k : Nat) (nm : List UInt8) (h : Ob w U p T more q es (.pointer (some ⟨f, 0, none⟩)) fl k) (hf : FuV w U (.pointer (some ⟨f, 0, none⟩)) 0) :
    Calls Try.prog 17 #[.pointer (some ⟨p, 0, none⟩), .string (S nm)] w fun e w' => Thrown 63 (.agg #[.pointer (some ⟨f, 0, none⟩)]) e ∧ w = w' := by
  have hop := hid (operate_blow w U p T more q es f fl k h hf)
  clear h hf
  go_enter Try.func17, Try.ntmps17
  go_wp2_with fail
  refine hop.out.mono ?_
  rintro e w1 ⟨⟨older, rfl, hcalm⟩, rfl⟩
  exact ⟨rfl, ⟨older, rfl, hcalm⟩, rfl⟩
end Go.Proofs.Ytmholofhmpplcaa


/- ref06: a store as a value; Blows, Size. -/
namespace Go.Proofs.Ytmholofhmpplcaa
open Go.RowKit Go.Lib Go.Maps

/-- A reference's store by value: its row, quota, operations, what the fuse has left, faults. -/
def stR (row : Value) (q k left : Int) (flv : Value) : Value := .agg #[row, .int .i64 q, .int .i64 k, .int .i64 left, flv]
/-- The row of a reference's store: two cells a thing. -/
def RowT (w : World) (ra : Option Addr) (es : List Ent) : Prop :=
  (ra = none → es = []) ∧ ∀ x, ra = some x → ∀ i e, es[i]? = some e → w.cell? (x.add (i * 2)) = some (.string (S e.name)) ∧ w.cell? ⟨(x.add (i * 2)).block, (x.add (i * 2)).off + 1, none⟩ = some e.v ∧ ∃ a c, e.v = .slice a e.b.length c ∧ Src w e.v e.b.length (e.b.map B)
theorem ref_blows (row : Value) (q k left : Int) (flv : Value) (w : World) :
    Calls Try.prog 9 #[stR row q k left flv] w fun e w' => e = .returned (.bool (left == 0)) ∧ Kept [] w w' := by
  have hk := hid (show Kept [] w (w.alloc (.cells #[row, .int .i64 q, .int .i64 k, .int .i64 left, flv] 35)) from (Kept.refl [] w).alloc _)
  unfold stR
  go_enter Try.func9, Try.ntmps9
  go_wp2
  go_ret
  exact ⟨rfl, hk.out⟩
theorem ref_size (ra : Option Addr) (rc : Nat) (es : List Ent) (q k left : Int) (flv : Value) (w : World) (h : RowT w ra es) (hl : es.length ≤ 5000) (hs : sizeE es ≤ 1000000000) :
    Calls Try.prog 31 #[stR (.slice ra es.length rc) q k left flv] w fun e w' => e = .returned (.int .i64 (sizeE es : Int)) ∧ Kept [] w w' := by
  have H := hid h
  obtain ⟨n, hn⟩ : ∃ n, n = es.length := ⟨_, rfl⟩
  have HN := hid hn
  rw [← hn] at hl ⊢
  obtain ⟨W, hW⟩ : ∃ W, W = w.alloc (.cells #[.slice ra n rc, .int .i64 q, .int .i64 k, .int .i64 left, flv] 35) := ⟨_, rfl⟩
  have HW := hid hW
  have hk := hid (show Kept [] w W from hW ▸ (Kept.refl [] w).alloc _)
  have hb := hid (show W.heap[w.heap.size]? = some (.cells #[.slice ra n rc, .int .i64 q, .int .i64 k, .int .i64 left, flv] 35 (0, 0)) from hW ▸ heap_alloc_at rfl)
  have HS := hid hs
  clear h hn hW hs
  unfold stR
  go_enter Try.func31, Try.ntmps31
  go_wp2_with fail
  rw [← HW.out]
  go_loopw [3, 4] (fun s3 s4 wr => ∃ i : Nat, i ≤ n ∧ s4 = .int .i64 i ∧ s3 = .int .i64 (sizeE (es.take i) : Int) ∧ W = wr) (fun _ s4 _ => n - (intOf s4).toNat)
  case atStart => exact ⟨0, Nat.zero_le _, rfl, rfl, rfl⟩
  case round =>
    obtain ⟨i, hi, rfl, rfl, rfl⟩ := hrel
    have c0 : W.cell? ⟨w.heap.size, 0, none⟩ = some (.slice ra n rc) := by rw [cell_of_row _ _ 0 _ _ _ hb.out]; rfl
    by_cases hlt : i < n
    · have hlt' : i < es.length := by have := HN.out; omega
      obtain ⟨en, hen⟩ : ∃ e, es[i]? = some e := ⟨es[i], by simp⟩
      obtain ⟨x, rfl⟩ : ∃ x, ra = some x := by
        cases ra with
        | none => exact absurd (H.out.1 rfl) (fun e => by rw [e] at hlt'; simp at hlt')
        | some x => exact ⟨x, rfl⟩
      obtain ⟨q0, q1, a, c, hv, hsrc⟩ := H.out.2 x rfl i en hen
      rw [hv] at q1
      have g1 := (hk.out.cell (World.block_lt_of_cell? w _ q1) (by simp)).trans q1
      have hst := hid (show sizeE (es.take (i + 1)) = sizeE (es.take i) + en.b.length from by rw [List.take_add_one, hen]; unfold sizeE; simp)
      have hle := hid (show sizeE (es.take (i + 1)) ≤ sizeE es from by
        have h1 : sizeE es = sizeE (es.take (i + 1)) + sizeE (es.drop (i + 1)) := by
          unfold sizeE
          rw [← List.sum_append, ← List.map_append, List.take_append_drop]
        omega)
      obtain ⟨el, hel⟩ : ∃ el, el = en.b.length := ⟨_, rfl⟩
      rw [← hel] at g1 hst
      obtain ⟨sm, hsm⟩ : ∃ sm, sm = sizeE (es.take i) := ⟨_, rfl⟩
      rw [← hsm] at hst ⊢
      have hb1 : sm + el ≤ 1000000000 := by have := hst.out; have := hle.out; have := HS.out; omega
      have HLT := hid hlt
      clear q0 q1 hv hsrc hen hlt' hel hsm
      go_wp2
      go_roundw
      case rel => exact ⟨i + 1, HLT.out, by go_num, by rw [hst.out]; go_num, trivial⟩
      case measure => simp [intOf]; omega
    · obtain rfl : i = n := by omega
      have hfin := hid (show sizeE (es.take i) = sizeE es from by rw [HN.out, List.take_length])
      rw [hfin.out]
      clear hlt
      go_wp2
      go_ret
      exact ⟨rfl, hk.out⟩
end Go.Proofs.Ytmholofhmpplcaa


/- ref06.Find. -/
namespace Go.Proofs.Ytmholofhmpplcaa
open Go.RowKit Go.Lib Go.Maps

/-- The place of a name, or where it would be. -/
def atE (nm : List UInt8) : List Ent → Nat
  | [] => 0
  | e :: r => if bytesBefore e.name nm then atE nm r + 1 else 0
def thereE (nm : List UInt8) (es : List Ent) : Bool := match es[atE nm es]? with | some e => decide (e.name = nm) | none => false
theorem atE_eq (nm : List UInt8) (es : List Ent) (i : Nat) (h1 : ∀ j e, j < i → es[j]? = some e → bytesBefore e.name nm = true) (h2 : i ≤ es.length) (h3 : ∀ e, es[i]? = some e → bytesBefore e.name nm = false) : atE nm es = i := by
  induction es generalizing i with
  | nil => simp at h2; subst h2; rfl
  | cons e r ih =>
    cases i with
    | zero => unfold atE; rw [h3 e rfl]; rfl
    | succ i =>
      unfold atE
      rw [h1 0 e (by omega) rfl, if_pos rfl, ih i (fun j e' hj he => h1 (j + 1) e' (by omega) (by simpa using he)) (by simpa using h2) (fun e' he => h3 e' (by simpa using he))]
theorem less_S' (x y : List UInt8) : Op.bytesLess (S x).toList (S y).toList = bytesBefore x y := by
  rw [S_toList, S_toList, Go.Proofs.bytesLess_eq]
  cases h : bytesBefore x y
  · exact decide_eq_false (fun hlt => by rw [(before_lt x y).2 hlt] at h; cases h)
  · exact decide_eq_true ((before_lt x y).1 h)
set_option maxHeartbeats 1000000 in
theorem ref_find (ra : Option Addr) (rc : Nat) (es : List Ent) (q k left : Int) (flv : Value) (nm : List UInt8) (w : World) (h : RowT w ra es) (hl : es.length ≤ 5000) :
    Calls Try.prog 45 #[stR (.slice ra es.length rc) q k left flv, .string (S nm)] w fun e w' => e = .returned (.tuple #[.int .i64 (atE nm es : Int), .bool (thereE nm es)]) ∧ Kept [] w w' := by
  have H := hid h
  obtain ⟨n, hn⟩ : ∃ n, n = es.length := ⟨_, rfl⟩
  have HN := hid hn
  rw [← hn] at hl ⊢
  obtain ⟨W, hW⟩ : ∃ W, W = w.alloc (.cells #[.slice ra n rc, .int .i64 q, .int .i64 k, .int .i64 left, flv] 35) := ⟨_, rfl⟩
  have HW := hid hW
  have hk := hid (show Kept [] w W from hW ▸ (Kept.refl [] w).alloc _)
  have hb := hid (show W.heap[w.heap.size]? = some (.cells #[.slice ra n rc, .int .i64 q, .int .i64 k, .int .i64 left, flv] 35 (0, 0)) from hW ▸ heap_alloc_at rfl)
  clear h hn hW
  unfold stR
  go_enter Try.func45, Try.ntmps45
  go_wp2_with fail
  rw [← HW.out]
  go_loopw [6] (fun s wr => ∃ i : Nat, i ≤ n ∧ s = .int .i64 i ∧ Hid (∀ j e, j < i → es[j]? = some e → bytesBefore e.name nm = true) ∧ W = wr) (fun s _ => n - (intOf s).toNat)
  case atStart => exact ⟨0, Nat.zero_le _, rfl, hid (fun j e hj => by omega), rfl⟩
  case round =>
    obtain ⟨i, hi, rfl, hall, rfl⟩ := hrel
    have c0 : W.cell? ⟨w.heap.size, 0, none⟩ = some (.slice ra n rc) := by rw [cell_of_row _ _ 0 _ _ _ hb.out]; rfl
    by_cases hlt : i < n
    · have hlt' : i < es.length := by have := HN.out; omega
      obtain ⟨en, hen⟩ : ∃ e, es[i]? = some e := ⟨es[i], by simp⟩
      obtain ⟨x, rfl⟩ : ∃ x, ra = some x := by
        cases ra with
        | none => exact absurd (H.out.1 rfl) (fun e => by rw [e] at hlt'; simp at hlt')
        | some x => exact ⟨x, rfl⟩
      obtain ⟨q0, _⟩ := H.out.2 x rfl i en hen
      have g0 := (hk.out.cell (World.block_lt_of_cell? w _ q0) (by simp)).trans q0
      have hls := less_S' en.name nm
      have HEN := hid hen
      have HLT := hid hlt
      by_cases hbf : bytesBefore en.name nm = true
      · rw [hbf] at hls
        have hnext := hid (show ∀ j e, j < i + 1 → es[j]? = some e → bytesBefore e.name nm = true from fun j e hj he => by
          rcases Nat.lt_or_ge j i with h | h
          · exact hall.out j e h he
          · have : j = i := by omega
            subst this
            rw [hen] at he
            simp at he
            subst he
            exact hbf)
        clear q0 hen hlt' hbf
        go_wp2
        go_roundw
        case rel => exact ⟨i + 1, HLT.out, by go_num, hnext, trivial⟩
        case measure => simp [intOf]; omega
      · have hbf' : bytesBefore en.name nm = false := by simpa using hbf
        rw [hbf'] at hls
        have hat := hid (atE_eq nm es i hall.out (by omega) (fun e he => by rw [hen] at he; simp at he; subst he; exact hbf'))
        have hth := hid (show thereE nm es = decide (en.name = nm) from by unfold thereE; rw [hat.out, hen])
        have hbe := S_beq en.name nm
        obtain ⟨d, hd⟩ : ∃ d, d = decide (en.name = nm) := ⟨_, rfl⟩
        have HD := hid hd
        rw [← hd] at hbe
        have hkd := hid (fun n => hk.out.drewN n)
        clear q0 hen hlt' hbf hbf' hd hall
        go_wp2_with fail
        go_quiet (fail)
        have hk2 := hid (hkd.out nq)
        generalize W.drewN nq = W3 at *
        go_wp2
        go_ret2
        exact ⟨by rw [hat.out, hth.out, HD.out]; rfl, hk2.out⟩
    · obtain rfl : i = n := by omega
      have hat := hid (atE_eq nm es i hall.out (by have := HN.out; omega) (fun e he => by have := (List.getElem?_eq_some_iff.1 he).1; have := HN.out; omega))
      have hth := hid (show thereE nm es = false from by unfold thereE; rw [hat.out, HN.out]; simp)
      have hkd := hid (fun n => hk.out.drewN n)
      clear hlt hall
      go_wp2_with fail
      go_quiet (fail)
      have hk2 := hid (hkd.out nq)
      generalize W.drewN nq = W3 at *
      go_wp2
      go_ret2
      exact ⟨by rw [hat.out, hth.out]; rfl, hk2.out⟩
end Go.Proofs.Ytmholofhmpplcaa


/- Rising rows: a name's place, what is there, what is put there. No program is named here. -/
namespace Go.Proofs.Ytmholofhmpplcaa
open Go.RowKit Go.Lib Go.Maps

theorem before_irrefl (x : List UInt8) : bytesBefore x x = false := by
  cases h : bytesBefore x x
  · rfl
  · exact absurd ((before_lt x x).1 h) (List.lt_irrefl x)
theorem before_asymm {x y : List UInt8} (h : bytesBefore x y = true) : bytesBefore y x = false := by
  cases h2 : bytesBefore y x
  · rfl
  · exact absurd (List.lt_trans ((before_lt x y).1 h) ((before_lt y x).1 h2)) (List.lt_irrefl x)
theorem rising_cons {e : Ent} {r : List Ent} : Rising (e :: r) ↔ (∀ x ∈ r, bytesBefore e.name x.name = true) ∧ Rising r := by
  unfold Rising
  simp [List.pairwise_cons]
/-- In a rising row a name is at its place, or nowhere. -/
theorem there_find {es : List Ent} (h : Rising es) (nm : List UInt8) : thereE nm es = (findE nm es).isSome ∧ (∀ e, findE nm es = some e → es[atE nm es]? = some e) := by
  induction es with
  | nil => exact ⟨rfl, fun e he => by simp [findE] at he⟩
  | cons y r ih =>
    obtain ⟨h1, h2⟩ := rising_cons.1 h
    by_cases hb : bytesBefore y.name nm = true
    · have hne : (y.name == nm) = false := by
        cases hq : (y.name == nm)
        · rfl
        · have : y.name = nm := by simpa using hq
          rw [this, before_irrefl] at hb
          cases hb
      have e1 : atE nm (y :: r) = atE nm r + 1 := by show (if _ then _ else _) = _; rw [if_pos hb]
      have e2 : findE nm (y :: r) = findE nm r := by unfold findE; rw [List.find?_cons, hne]
      have e3 : thereE nm (y :: r) = thereE nm r := by unfold thereE; rw [e1]; rfl
      rw [e2, e3, e1]
      exact ⟨(ih h2).1, fun e he => by simpa using (ih h2).2 e he⟩
    · have hb' : bytesBefore y.name nm = false := by simpa using hb
      have e1 : atE nm (y :: r) = 0 := by show (if _ then _ else _) = _; rw [if_neg (by rw [hb']; decide)]
      have e3 : thereE nm (y :: r) = decide (y.name = nm) := by unfold thereE; rw [e1]; rfl
      rw [e3, e1]
      by_cases hq : y.name = nm
      · have e2 : findE nm (y :: r) = some y := by unfold findE; rw [List.find?_cons]; simp [hq]
        rw [e2]
        exact ⟨by simp [hq], fun e he => by simpa using he⟩
      · have e2 : findE nm (y :: r) = none := by
          rw [find_none]
          intro e he hen
          rcases List.mem_cons.1 he with rfl | he
          · exact hq hen
          · have := h1 e he
            rw [hen, hb'] at this
            cases this
        rw [e2]
        exact ⟨by simp [hq], fun e he => by cases he⟩
/-- What has no name there comes in at its place. -/
theorem ins_at {es : List Ent} (x : Ent) (hn : findE x.name es = none) : insE x es = es.take (atE x.name es) ++ x :: es.drop (atE x.name es) := by
  induction es with
  | nil => rfl
  | cons y r ih =>
    have hy : y.name ≠ x.name := find_none.1 hn y (by simp)
    have hr : findE x.name r = none := find_none.2 (fun e he => find_none.1 hn e (by simp [he]))
    cases hb : bytesBefore y.name x.name
    · have e1 : atE x.name (y :: r) = 0 := by show (if _ then _ else _) = _; rw [if_neg (by rw [hb]; decide)]
      have hb2 : bytesBefore x.name y.name = true := by
        rcases Go.WideAt.bytes_total x.name y.name (Ne.symm hy) with h | h
        · exact h
        · rw [hb] at h; cases h
      unfold insE
      rw [hb2, if_pos rfl, e1]
      rfl
    · have e1 : atE x.name (y :: r) = atE x.name r + 1 := by show (if _ then _ else _) = _; rw [if_pos hb]
      unfold insE
      rw [before_asymm hb, if_neg (by decide), e1, ih hr]
      rfl
/-- What is there goes out of its place. -/
theorem del_at {es : List Ent} (h : Rising es) (nm : List UInt8) {e : Ent} (hf : findE nm es = some e) : delE nm es = es.take (atE nm es) ++ es.drop (atE nm es + 1) := by
  induction es with
  | nil => simp [findE] at hf
  | cons y r ih =>
    obtain ⟨h1, h2⟩ := rising_cons.1 h
    by_cases hq : y.name = nm
    · have e1 : atE nm (y :: r) = 0 := by show (if _ then _ else _) = _; rw [hq, before_irrefl]; rfl
      have e2 : delE nm r = r := by
        unfold delE
        rw [List.filter_eq_self]
        intro z hz
        have := h1 z hz
        simp
        intro hzn
        rw [hq, hzn, before_irrefl] at this
        cases this
      rw [e1]
      unfold delE at e2 ⊢
      rw [List.filter_cons]
      simp [hq, e2]
    · have e2 : findE nm r = some e := by
        unfold findE at hf ⊢
        rw [List.find?_cons, show (y.name == nm) = false by simpa using hq] at hf
        exact hf
      have hb : bytesBefore y.name nm = true := by
        have h3 := h1 e (find_mem e2).1
        rw [(find_mem e2).2] at h3
        exact h3
      have e1 : atE nm (y :: r) = atE nm r + 1 := by show (if _ then _ else _) = _; rw [if_pos hb]
      rw [e1]
      have := ih h2 e2
      unfold delE at this ⊢
      rw [List.filter_cons]
      simp [hq, this]
end Go.Proofs.Ytmholofhmpplcaa


/- ref06.Right, Op. -/
namespace Go.Proofs.Ytmholofhmpplcaa
open Go.RowKit Go.Lib Go.Maps

set_option maxHeartbeats 1000000 in
theorem ref_right (s : List UInt8) (hs : s.length ≤ 1000000000) (w : World) :
    Calls Try.prog 44 #[.string (S s)] w fun e w' => e = .returned (.bool (okName s)) ∧ w = w' := by
  have ss := S_size s
  go_enter Try.func44, Try.ntmps44
  go_wp2_with fail
  go_loopw [3] (fun v wr => ∃ i : Nat, i ≤ s.length ∧ v = .int .i64 i ∧ Hid (∀ j, j < i → okN (s.getD j 0) = true) ∧ w = wr) (fun v _ => s.length - (intOf v).toNat)
  case atStart => exact ⟨0, Nat.zero_le _, rfl, hid (fun j hj => absurd hj (by omega)), rfl⟩
  case round =>
    obtain ⟨i, hi, rfl, hall, rfl⟩ := hrel
    by_cases hlt : i < s.length
    · have hx1 := fun W => str_index s i hlt W
      have hpb := (s.getD i 0).toNat_lt
      obtain ⟨p, hpe⟩ : ∃ p : Nat, p = (s.getD i 0).toNat := ⟨_, rfl⟩
      rw [← hpe] at hx1 hpb
      by_cases hb : okN (s.getD i 0) = true
      · have hall' := hid (show ∀ j, j < i + 1 → okN (s.getD j 0) = true from fun j hj => by
          rcases Nat.lt_or_ge j i with h | h
          · exact hall.out j h
          · rw [show j = i by omega]; exact hb)
        have hb2 : 33 ≤ p ∧ p ≤ 126 := by unfold okN at hb; rw [← hpe] at hb; exact of_decide_eq_true hb
        obtain ⟨b1, b2⟩ := hb2
        clear hpe hall hb
        go_wp2
        go_roundw
        case rel => exact ⟨i + 1, by omega, by go_num, hall', by first | rfl | trivial⟩
        case measure => simp [intOf]; omega
      · have hf := hid (show okName s = false by
          unfold okName
          rw [show s.all okN = false by rw [List.all_eq_false]; exact ⟨s.getD i 0, by simp [List.getD, hlt], hb⟩]
          simp)
        have hb2 : p < 33 ∨ 126 < p := by
          unfold okN at hb; rw [← hpe] at hb
          simp at hb; omega
        clear hpe hall hb
        rcases hb2 with b1 | b1
        · go_wp2
          go_ret
          exact ⟨by rw [hf.out]; rfl, rfl⟩
        · have b2 : 33 ≤ p := by omega
          go_wp2
          go_ret
          exact ⟨by rw [hf.out]; rfl, rfl⟩
    · obtain rfl : s.length = i := by omega
      have hf := hid (show okName s = decide (1 ≤ s.length ∧ s.length ≤ 80) by
        unfold okName
        rw [show s.all okN = true by
          rw [List.all_eq_true]
          intro c hc
          obtain ⟨j, hj, rfl⟩ := List.getElem_of_mem hc
          have := hall.out j hj
          simpa [List.getD, hj] using this]
        simp)
      clear hall hlt
      by_cases h1 : 1 ≤ s.length
      · by_cases h2 : s.length ≤ 80
        · have h3 : (s.length : Int) ≤ 80 := by omega
          have h4 : (1 : Int) ≤ (s.length : Int) := by omega
          go_wp2
          go_ret
          exact ⟨by rw [hf.out, decide_eq_true ⟨h1, h2⟩]; rfl, rfl⟩
        · have h3 : ¬ (s.length : Int) ≤ 80 := by omega
          have h4 : (1 : Int) ≤ (s.length : Int) := by omega
          go_wp2
          go_ret
          exact ⟨by rw [hf.out, decide_eq_false (fun h => h2 h.2)]; rfl, rfl⟩
      · have h4 : ¬ (1 : Int) ≤ (s.length : Int) := by omega
        go_wp2
        go_ret
        exact ⟨by rw [hf.out, decide_eq_false (fun h => h1 h.1)]; rfl, rfl⟩
end Go.Proofs.Ytmholofhmpplcaa
