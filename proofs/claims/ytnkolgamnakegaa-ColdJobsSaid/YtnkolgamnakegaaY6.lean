
/- cold: Request, Fail. -/
import Derived.Test.YtnkolgamnakegaaY5
namespace Go.Proofs.Ytnkolgamnakegaa
open Go.RowKit Go.Lib Go.Maps

theorem cbefore_irrefl (x : List UInt8) : bytesBefore x x = false := by
  cases h : bytesBefore x x
  · rfl
  · exact absurd ((before_lt x x).1 h) (List.lt_irrefl x)
theorem cbefore_asymm {x y : List UInt8} (h : bytesBefore x y = true) : bytesBefore y x = false := by
  cases h2 : bytesBefore y x
  · rfl
  · exact absurd (List.lt_trans ((before_lt x y).1 h) ((before_lt y x).1 h2)) (List.lt_irrefl x)
/-- What is there, put again, is what was there. -/
theorem put_self {es : List Ent} (h : Rising es) {nm : List UInt8} {e : Ent} (hf : findE nm es = some e) : putE e es = es := by
  induction es with
  | nil => simp [findE] at hf
  | cons y r ih =>
    have h' : (∀ x ∈ r, bytesBefore y.name x.name = true) ∧ Rising r := by
      have := h
      unfold Rising at this ⊢
      simpa [List.pairwise_cons] using this
    obtain ⟨h1, h2⟩ := h'
    have hen := (find_mem hf).2
    unfold findE at hf
    rw [List.find?_cons] at hf
    by_cases hq : (y.name == nm) = true
    · rw [hq] at hf
      simp at hf
      subst hf
      have hno : delE y.name r = r := del_none (find_none.2 (fun z hz hzn => by
        have := h1 z hz
        rw [hzn, cbefore_irrefl] at this
        cases this))
      unfold putE
      have e1 : delE y.name (y :: r) = r := by
        unfold delE at hno ⊢
        rw [List.filter_cons]
        simp [hno]
      rw [e1]
      cases r with
      | nil => rfl
      | cons z r2 =>
        unfold insE
        rw [h1 z (by simp), if_pos rfl]
    · have hq' : (y.name == nm) = false := by simpa using hq
      rw [hq'] at hf
      have hr := ih h2 hf
      have hb : bytesBefore y.name e.name = true := h1 e (find_mem (show findE nm r = some e from hf)).1
      have hyn : y.name ≠ e.name := fun h => by rw [h, cbefore_irrefl] at hb; cases hb
      unfold putE at hr ⊢
      have e1 : delE e.name (y :: r) = y :: delE e.name r := by
        unfold delE
        rw [List.filter_cons]
        simp [hyn]
      rw [e1]
      unfold insE
      rw [cbefore_asymm hb, if_neg (by decide), hr]
/-- A name that is there, put again: the names stay. -/
theorem names_again {x : Ent} {es ss : List Ent} (hr : Rising es) (hn : ss.map (·.name) = es.map (·.name)) (hs : (findE x.name ss).isSome = true) : (putE x ss).map (·.name) = es.map (·.name) := by
  rw [names_find hn] at hs
  obtain ⟨e, he⟩ := Option.isSome_iff_exists.1 hs
  rw [names_put (y := e) (find_mem he).2.symm hn, put_self hr he]
/-- Stays behind a request. -/
def reqS (ss : List Ent) (nm : List UInt8) (now wait : Int) : List Ent := putE (stE nm ⟨(syOf (lookY nm ss)).since, true, latT now wait⟩) ss
def failS (ss : List Ent) (nm : List UInt8) : List Ent := putE (stE nm ⟨(syOf (lookY nm ss)).since, false, 0⟩) ss
/-- What a Request tells, and leaves. -/
def ReqC (g st wait pend jobs : Int) (ss rs : List Ent) (er : Int) (ss' : List Ent) : Prop :=
  (g ≠ 0 ∧ er = g ∧ ss' = ss) ∨ (g = 0 ∧ st ≠ 0 ∧ er = 0 ∧ ss' = ss) ∨ (g = 0 ∧ st = 0 ∧ wait < 0 ∧ er = 1 ∧ ss' = ss) ∨ (g = 0 ∧ st = 0 ∧ 0 ≤ wait ∧ jobs ≤ pend ∧ er = 33 ∧ ss' = ss) ∨ (g = 0 ∧ st = 0 ∧ 0 ≤ wait ∧ pend < jobs ∧ er = 0 ∧ ss' = rs)
theorem state_none {ss : List Ent} {nm : List UInt8} {now life : Int} (h : stateT ss nm now life ≠ -1) : ∃ e, findE nm ss = some e := by
  unfold stateT at h
  cases hf : findE nm ss with
  | none => rw [hf] at h; simp at h
  | some e => exact ⟨e, rfl⟩
/-- Behind a turn of the stays. -/
theorem co_turn {W W5 : World} {U V : List Nat} {p : Nat} {q : Int} {es ss ss' : List Ent} {fv : Value} {fl : List Bool} {k : Nat} {jobs life least lost left : Int} {b : Nat} (h : Co W U V p q es ss fv fl k jobs life least lost) (hf : FuV W (U ++ V) fv left) (hb : b ∈ V) (k5 : Kept [b] W W5)
    (mv : Value) (ho : Ob W U p 62 (cmore jobs life least mv lost) q es fv fl k) (m5 : Mp W5 V mv ss') (hn : ss'.map (·.name) = es.map (·.name)) (hst : IsSt ss') :
    Kept (U ++ V ++ fuB fv) W W5 ∧ Co W5 U V p q es ss' fv fl k jobs life least lost ∧ FuV W5 (U ++ V) fv left := by
  obtain ⟨_, h3, h4, h5, h6, h7⟩ := h
  exact ⟨k5.wider (fun x _ hx => by simp at hx; subst hx; simp [hb]), ⟨⟨mv, ho.kept k5 (fun x hx hm => by simp at hm; subst hm; exact h3 _ hb hx), m5⟩, h3, fun x hx => Nat.lt_of_lt_of_le (h4 x hx) k5.size, hn, hst, h7⟩, hf.kept k5 (fun x hx hm => by simp at hm; subst hm; exact (hf.out _ hx).2 (by simp [hb]))⟩
set_option maxRecDepth 100000 in
set_option maxHeartbeats 4000000 in
theorem co_request (w : World) (U V : List Nat) (p : Nat) (q : Int) (es ss : List Ent) (fv : Value) (fl : List Bool) (k : Nat) (jobs life least lost left : Int) (h : Co w U V p q es ss fv fl k jobs life least lost) (hk : k ≤ 1099511627776) (hf : FuV w (U ++ V) fv left) (h0 : left ≠ 0)
    (nm : List UInt8) (hnm : nm.length ≤ 1000000000) (now wait : Int) (n1 : -9223372036854775808 ≤ now) (n2 : now ≤ 9223372036854775807) (n3 : -9223372036854775808 ≤ wait) (n4 : wait ≤ 9223372036854775807) :
    Calls Try.prog 24 #[.pointer (some ⟨p, 0, none⟩), .string (S nm), .int .i64 now, .int .i64 wait] w fun e w' => ∃ er ss', e = .returned (.int .i64 er) ∧ ReqC (gotE fl es nm) (stateT ss nm now life) wait (pendT ss now life) jobs ss (reqS ss nm now wait) er ss' ∧ Kept (U ++ V ++ fuB fv) w w' ∧
      Co w' U V p q es ss' fv (fl.drop 1) (k + 1) jobs life least lost ∧ FuV w' (U ++ V) fv (decL left) := by
  have HC := hid h; have HF := hid hf
  obtain ⟨⟨mv, h1, h2⟩, h3, h4, h5, h6, h7⟩ := h
  have hfu : FuV w U fv left := hf.set (fun x hx hm => (hf.out x hx).2 (by simp [hm]))
  have hak := hid (ob_ask w U p q es fv fl k 62 (cmore jobs life least mv lost) left nm hnm h1 hk hfu h0)
  have hT := hid (ob_tail h1).2.2.2.1
  have hpU := hid h1.hp
  have hris := hid h1.rising
  have H5 := hid h5; have H6 := hid h6
  have hsl := hid (show ss.length ≤ 4096 from by have e1 := congrArg List.length h5; simp at e1; have := h1.small.2.1; omega)
  have hjb := hid h7.1; have hjb2 := hid h7.2.1
  obtain ⟨g, hgg⟩ : ∃ g, g = gotE fl es nm := ⟨_, rfl⟩
  have HG := hid hgg
  rw [← hgg] at hak ⊢
  obtain ⟨st, hst⟩ : ∃ st, st = stateT ss nm now life := ⟨_, rfl⟩
  have HST := hid hst
  rw [← hst]
  obtain ⟨pn, hpn⟩ : ∃ pn, pn = pendT ss now life := ⟨_, rfl⟩
  have HPN := hid hpn
  rw [← hpn]
  have hpb := hid (show pn ≤ 4096 from by
    rw [hpn]; unfold pendT
    have := List.length_filter_le (isPend ss now life) (ss.map (·.name))
    simp at this
    have := hsl.out
    omega)
  obtain ⟨rs, hrs⟩ : ∃ rs, rs = reqS ss nm now wait := ⟨_, rfl⟩
  have HRS := hid hrs
  rw [← hrs]
  have hlat := hid (fun X => later_any now wait X n1 n2 n3 n4)
  have hli := hid (latT_in now wait)
  obtain ⟨r, hr⟩ : ∃ r, r = latT now wait := ⟨_, rfl⟩
  have HR := hid hr
  rw [← hr] at hlat hli
  clear h1 h2 h3 h4 h5 h6 h7 hf h0 hk hfu hgg hst hpn hrs hr
  go_enter Try.func24, Try.ntmps24
  go_wp2_with fail
  refine hak.out.mono ?_
  rintro e w1 ⟨rfl, k1, ob1, fu1⟩
  have hs := co_same HC.out HF.out (k1.wider (fun x _ hx => by
        rcases List.mem_cons.1 hx with g | g
        · subst g; simp [hpU.out]
        · simp [g])) (fl' := fl.drop 1) (k' := k + 1) (fun mv' ho => by
          have e : mv' = mv := by
            have e1 := (ob_tail ho).2.2.2.1
            have e2 := hT.out
            rw [e1] at e2; simpa using e2
          subst e; exact ob1) fu1
  have HS := hid hs
  by_cases hg0 : g = 0
  · subst hg0
    have hsc := hid (co_state w1 U V p q es ss fv (fl.drop 1) (k + 1) jobs life least lost hs.2.1 nm hnm now n1 n2)
    rw [← HST.out] at hsc
    clear hs k1 ob1 fu1 hak
    go_wp2_with fail
    refine hsc.out.mono ?_
    rintro e w2 ⟨rfl, k2⟩
    have K2 := hid k2
    clear k2 hsc
    by_cases hs0 : st = 0
    · subst hs0
      have hsome := hid (state_none (ss := ss) (nm := nm) (now := now) (life := life) (by rw [← HST.out]; decide))
      by_cases hw0 : wait < 0
      · have HW0 := hid hw0
        go_wp2
        go_ret
        exact ⟨1, ss, rfl, Or.inr (Or.inr (Or.inl ⟨rfl, rfl, HW0.out, rfl, rfl⟩)), HS.out.1.trans' K2.out (fun x hx => by simp), HS.out.2.1.kept K2.out (by simp), HS.out.2.2.kept K2.out (by simp)⟩
      · have hw1 : 0 ≤ wait := by omega
        have HW1 := hid hw1
        have C2 := hid (HS.out.2.1.kept K2.out (by simp))
        have hkd := hid (show Kept [] w2 w2.drew from (Kept.refl [] w2).drew)
        have hpc := hid (co_pending w2.drew U V p q es ss fv (fl.drop 1) (k + 1) jobs life least lost (C2.out.kept hkd.out (by simp)) now n1 n2)
        rw [← HPN.out] at hpc
        have hcj := hid (fun X (hX : Kept [] w2 X) => by
          obtain ⟨⟨mvx, ox, _⟩, _⟩ := C2.out.kept hX (by simp)
          exact (ob_tail ox).1)
        go_wp2_with fail
        have hH0 : Kept [] w2 w2.drew := hkd.out
        refine wp_region_held_drew (S := fun v => Kept [] w2 v) (by kernel_rfl) hH0 (fun hH => ?_)
        refine takeH 0 (.pointer (some ⟨p, 0, none⟩)) rfl (by kernel_rfl) (by kernel_rfl) (by kernel_rfl) (fun _ _ _ h => h) (by rfl) (fun v hv => by go_simp) hH ?_
        simp only [Act.put, List.setIfInBounds_toArray, List.set_cons_succ, List.set_cons_zero]
        refine takeH 1 (.int .i64 now) rfl (by kernel_rfl) (by kernel_rfl) (by kernel_rfl) (fun _ _ _ h => h) (by rfl) (fun v hv => by go_simp) hH ?_
        simp only [Act.put, List.setIfInBounds_toArray, List.set_cons_succ, List.set_cons_zero]
        refine takeH 3 (.pointer (some ⟨p, 0, none⟩)) rfl (by kernel_rfl) (by kernel_rfl) (by kernel_rfl) (fun _ _ _ h => h) (by rfl) (fun v hv => by go_simp) hH ?_
        simp only [Act.put, List.setIfInBounds_toArray, List.set_cons_succ, List.set_cons_zero]
        refine takeH 4 (.pointer (some ⟨p, 0, none⟩)) rfl (by kernel_rfl) (by kernel_rfl) (by kernel_rfl) (fun _ _ _ h => h) (by rfl) (fun v hv => by go_simp) hH ?_
        simp only [Act.put, List.setIfInBounds_toArray, List.set_cons_succ, List.set_cons_zero]
        refine takeH 5 (.pointer (some ⟨p, 6, none⟩)) rfl (by kernel_rfl) (by kernel_rfl) (by kernel_rfl) (fun _ _ _ h => h) (by rfl) (fun v hv => by go_simp) hH ?_
        simp only [Act.put, List.setIfInBounds_toArray, List.set_cons_succ, List.set_cons_zero]
        refine takeH 6 (.int .i64 jobs) rfl (by kernel_rfl) (by kernel_rfl) (by kernel_rfl) (fun _ _ _ h => h) (by rfl) (fun v hv => by have h := hcj.out v hv; go_simp) hH ?_
        simp only [Act.put, List.setIfInBounds_toArray, List.set_cons_succ, List.set_cons_zero]
        refine callR 2 rfl (by kernel_rfl) (by rfl) 28 #[.pointer (some ⟨p, 0, none⟩), .int .i64 now] (by go_simp) (.int .i64 (pn : Int)) (fun v => Kept [] w2.drew v) (fun v h => hkd.out.trans h) (hpc.out) ?_
        rintro v2 hv2
        simp only [Act.put, List.setIfInBounds_toArray, List.set_cons_succ, List.set_cons_zero]
        have KV := hid (K2.out.trans (hkd.out.trans hv2))
        by_cases hjp : jobs ≤ (pn : Int)
        · have HJP := hid hjp
          have hbt : decide (jobs ≤ (pn : Int)) = true := decide_eq_true hjp
          refine takeH 7 (.bool true) rfl (by kernel_rfl) (by kernel_rfl) (by kernel_rfl) (fun _ _ _ h => h) (by rfl) (fun v hv => by have h := hjp; go_simp) (hkd.out.trans hv2) ?_
          simp only [Act.put, List.setIfInBounds_toArray, List.set_cons_succ, List.set_cons_zero]
          refine takeH 8 (.bool true) rfl (by kernel_rfl) (by kernel_rfl) (by kernel_rfl) (fun _ _ _ h => h) (by rfl) (fun v hv => by go_simp) (hkd.out.trans hv2) ?_
          simp only [Act.put, List.setIfInBounds_toArray, List.set_cons_succ, List.set_cons_zero]
          refine wpAnyH_done (by kernel_rfl) ?_ _
          clear hv2 hH hH0 hjp hbt hw0 hw1 hpc hcj hkd hlat
          go_wp2
          go_ret
          exact ⟨33, ss, rfl, Or.inr (Or.inr (Or.inr (Or.inl ⟨rfl, rfl, HW1.out, HJP.out, rfl, rfl⟩))), HS.out.1.trans' KV.out (fun x hx => by simp), HS.out.2.1.kept KV.out (by simp), HS.out.2.2.kept KV.out (by simp)⟩
        · have HJP := hid (show (pn : Int) < jobs by omega)
          refine takeH 7 (.bool false) rfl (by kernel_rfl) (by kernel_rfl) (by kernel_rfl) (fun _ _ _ h => h) (by rfl) (fun v hv => by have h := hjp; go_simp) (hkd.out.trans hv2) ?_
          simp only [Act.put, List.setIfInBounds_toArray, List.set_cons_succ, List.set_cons_zero]
          refine takeH 8 (.bool false) rfl (by kernel_rfl) (by kernel_rfl) (by kernel_rfl) (fun _ _ _ h => h) (by rfl) (fun v hv => by go_simp) (hkd.out.trans hv2) ?_
          simp only [Act.put, List.setIfInBounds_toArray, List.set_cons_succ, List.set_cons_zero]
          refine wpAnyH_done (by kernel_rfl) ?_ _
          clear hv2 hH hH0 hjp hw0 hw1 hpc hcj hkd
          obtain ⟨en, hen⟩ := hsome.out
          obtain ⟨s, es1, es2, so⟩ := H6.out.find hen
          have hlkv : lookY nm ss = stV s := by unfold lookY; rw [hen]; exact es1
          have hrsv := hid (show rs = putE (stE nm ⟨s.since, true, r⟩) ss from by rw [HRS.out, HR.out]; unfold reqS; rw [hlkv, syOf_stV])
          have hSO := hid so
          have CV := hid (HS.out.2.1.kept KV.out (by simp))
          have FV := hid (HS.out.2.2.kept KV.out (by simp))
          have HEN := hid hen
          have hkd2 := hid (show Kept [] v2 v2.drew from (Kept.refl [] v2).drew)
          obtain ⟨⟨mv2, oV, mV⟩, _⟩ := id CV.out
          obtain ⟨b, rfl, hbV, hown⟩ : ∃ b, mv2 = .map (some b) ∧ b ∈ V ∧ True := by
            rcases mV with ⟨_, hnil⟩ | ⟨b, rfl, hbV, _⟩
            · rw [hnil] at hen; simp [findE] at hen
            · exact ⟨b, rfl, hbV, trivial⟩
          have OV := hid oV; have MV := hid mV
          have hc9 := hid (fun X (hX : Kept [] v2 X) => (ob_tail (OV.out.kept hX (by simp))).2.2.2.1)
          have hlk := my_look1 (mV.kept hkd2.out (by simp)) nm hnm
          rw [hlkv] at hlk
          have hrq := hid (fun X => requested_any s r X)
          clear oV mV hown hlkv hen es1 es2 so hsome
          go_wp2_with fail
          have hHH : v2.drew.cell? ⟨p, 9, none⟩ = some (.map (some b)) := hc9.out _ hkd2.out
          refine wp_region_held_drew (S := fun v => v.cell? ⟨p, 9, none⟩ = some (.map (some b))) (by kernel_rfl) hHH (fun hH2 => ?_)
          refine takeH 0 (.pointer (some ⟨p, 0, none⟩)) rfl (by kernel_rfl) (by kernel_rfl) (by kernel_rfl) (fun _ _ _ h => h) (by rfl) (fun v hv => by go_simp) hH2 ?_
          simp only [Act.put, List.setIfInBounds_toArray, List.set_cons_succ, List.set_cons_zero]
          refine takeH 1 (.pointer (some ⟨p, 0, none⟩)) rfl (by kernel_rfl) (by kernel_rfl) (by kernel_rfl) (fun _ _ _ h => h) (by rfl) (fun v hv => by go_simp) hH2 ?_
          simp only [Act.put, List.setIfInBounds_toArray, List.set_cons_succ, List.set_cons_zero]
          refine takeH 2 (.pointer (some ⟨p, 9, none⟩)) rfl (by kernel_rfl) (by kernel_rfl) (by kernel_rfl) (fun _ _ _ h => h) (by rfl) (fun v hv => by go_simp) hH2 ?_
          simp only [Act.put, List.setIfInBounds_toArray, List.set_cons_succ, List.set_cons_zero]
          refine takeH 3 (.map (some b)) rfl (by kernel_rfl) (by kernel_rfl) (by kernel_rfl) (fun _ _ _ h => h) (by rfl) (fun v hv => by have h := hv; go_simp) hH2 ?_
          simp only [Act.put, List.setIfInBounds_toArray, List.set_cons_succ, List.set_cons_zero]
          refine takeH 4 (.string (S nm)) rfl (by kernel_rfl) (by kernel_rfl) (by kernel_rfl) (fun _ _ _ h => h) (by rfl) (fun v hv => by go_simp) hH2 ?_
          simp only [Act.put, List.setIfInBounds_toArray, List.set_cons_succ, List.set_cons_zero]
          refine takeH 5 (.pointer (some ⟨p, 0, none⟩)) rfl (by kernel_rfl) (by kernel_rfl) (by kernel_rfl) (fun _ _ _ h => h) (by rfl) (fun v hv => by go_simp) hH2 ?_
          simp only [Act.put, List.setIfInBounds_toArray, List.set_cons_succ, List.set_cons_zero]
          refine takeH 6 (.pointer (some ⟨p, 0, none⟩)) rfl (by kernel_rfl) (by kernel_rfl) (by kernel_rfl) (fun _ _ _ h => h) (by rfl) (fun v hv => by go_simp) hH2 ?_
          simp only [Act.put, List.setIfInBounds_toArray, List.set_cons_succ, List.set_cons_zero]
          refine takeH 7 (.pointer (some ⟨p, 9, none⟩)) rfl (by kernel_rfl) (by kernel_rfl) (by kernel_rfl) (fun _ _ _ h => h) (by rfl) (fun v hv => by go_simp) hH2 ?_
          simp only [Act.put, List.setIfInBounds_toArray, List.set_cons_succ, List.set_cons_zero]
          refine takeH 8 (.map (some b)) rfl (by kernel_rfl) (by kernel_rfl) (by kernel_rfl) (fun _ _ _ h => h) (by rfl) (fun v hv => by have h := hv; go_simp) hH2 ?_
          simp only [Act.put, List.setIfInBounds_toArray, List.set_cons_succ, List.set_cons_zero]
          refine takeH 9 (.string (S nm)) rfl (by kernel_rfl) (by kernel_rfl) (by kernel_rfl) (fun _ _ _ h => h) (by rfl) (fun v hv => by go_simp) hH2 ?_
          simp only [Act.put, List.setIfInBounds_toArray, List.set_cons_succ, List.set_cons_zero]
          refine takeH 11 (.int .i64 now) rfl (by kernel_rfl) (by kernel_rfl) (by kernel_rfl) (fun _ _ _ h => h) (by rfl) (fun v hv => by go_simp) hH2 ?_
          simp only [Act.put, List.setIfInBounds_toArray, List.set_cons_succ, List.set_cons_zero]
          refine takeH 12 (.int .i64 wait) rfl (by kernel_rfl) (by kernel_rfl) (by kernel_rfl) (fun _ _ _ h => h) (by rfl) (fun v hv => by go_simp) hH2 ?_
          simp only [Act.put, List.setIfInBounds_toArray, List.set_cons_succ, List.set_cons_zero]
          refine callOrL 13 10 rfl rfl (by kernel_rfl) (by rfl) (by rfl) 54 #[.int .i64 now, .int .i64 wait] (by go_simp) (.int .i64 r) (fun v => v2.drew = v) (fun v h => h ▸ hH2) (hlat.out _) (stV s) v2.drew (by go_simp) hH2 ?_ ?_
          · rintro v3 rfl
            simp only [Act.put, List.setIfInBounds_toArray, List.set_cons_succ, List.set_cons_zero]
            refine runH 10 rfl (by kernel_rfl) (by rfl) (stV s) (v2.drew) (by go_simp) (hH2) ?_
            simp only [Act.put, List.setIfInBounds_toArray, List.set_cons_succ, List.set_cons_zero]
            refine callR 14 rfl (by kernel_rfl) (by rfl) 53 #[stV s, .int .i64 r] (by go_simp) (stV ⟨s.since, true, r⟩) (fun v => Kept [] v2.drew v) (fun v h => hc9.out _ (hkd2.out.trans h)) (hrq.out _) ?_
            rintro v4 hv4
            simp only [Act.put, List.setIfInBounds_toArray, List.set_cons_succ, List.set_cons_zero]
            have KV4 := hid (hkd2.out.trans hv4)
            obtain ⟨W5, hrun, k5, m5⟩ := my_put (MV.out.kept KV4.out (by simp)) (stE nm ⟨s.since, true, r⟩) hnm (by have := hsl.out; omega)
            have hh := hid hrun
            have hct := co_turn (CV.out.kept KV4.out (by simp)) (FV.out.kept KV4.out (by simp)) hbV k5 _ (OV.out.kept KV4.out (by simp)) m5 (names_again hris.out H5.out (by show (findE nm ss).isSome = true; rw [HEN.out]; rfl)) (H6.out.put nm _ (⟨hSO.out.1, hSO.out.2.1, hli.out.1, hli.out.2⟩))
            have HCT := hid hct
            have hc5 := hid (show W5.cell? ⟨p, 9, none⟩ = some (.map (some b)) from by
              have hp5 : p ∉ [b] := fun hm => by
                simp at hm; subst hm
                exact CV.out.apart _ hbV OV.out.hp
              have e1 := hc9.out _ KV4.out
              exact (k5.cell (World.block_lt_of_cell? _ _ e1) hp5).trans e1)
            refine writeH 15 rfl (by kernel_rfl) (by rfl) (W5) (by have h := hh.out; unfold stE at h; unfold execOp; simp [Act.eval, Sem.run_bind, Sem.run_pure, Result.andThen_ok]; simp [h, Result.andThen_ok]) (hc5.out) ?_
            simp only [Act.put, List.setIfInBounds_toArray, List.set_cons_succ, List.set_cons_zero]
            refine wpAnyH_done (by kernel_rfl) ?_ _
            clear hrun k5 m5 hct hh hv4 hH2 hHH hlk hrq
            go_wp2
            go_ret
            exact ⟨0, rs, rfl, Or.inr (Or.inr (Or.inr (Or.inr ⟨rfl, rfl, HW1.out, HJP.out, rfl, rfl⟩))), (HS.out.1.trans' (KV.out.trans KV4.out) (fun x hx => by simp)).trans HCT.out.1, hrsv.out ▸ HCT.out.2.1, HCT.out.2.2⟩
          · simp only [Act.put, List.setIfInBounds_toArray, List.set_cons_succ, List.set_cons_zero]
            refine callR 13 rfl (by kernel_rfl) (by rfl) 54 #[.int .i64 now, .int .i64 wait] (by go_simp) (.int .i64 r) (fun v => v2.drew = v) (fun v h => h ▸ hH2) (hlat.out _) ?_
            rintro v3 rfl
            simp only [Act.put, List.setIfInBounds_toArray, List.set_cons_succ, List.set_cons_zero]
            refine callR 14 rfl (by kernel_rfl) (by rfl) 53 #[stV s, .int .i64 r] (by go_simp) (stV ⟨s.since, true, r⟩) (fun v => Kept [] v2.drew v) (fun v h => hc9.out _ (hkd2.out.trans h)) (hrq.out _) ?_
            rintro v4 hv4
            simp only [Act.put, List.setIfInBounds_toArray, List.set_cons_succ, List.set_cons_zero]
            have KV4 := hid (hkd2.out.trans hv4)
            obtain ⟨W5, hrun, k5, m5⟩ := my_put (MV.out.kept KV4.out (by simp)) (stE nm ⟨s.since, true, r⟩) hnm (by have := hsl.out; omega)
            have hh := hid hrun
            have hct := co_turn (CV.out.kept KV4.out (by simp)) (FV.out.kept KV4.out (by simp)) hbV k5 _ (OV.out.kept KV4.out (by simp)) m5 (names_again hris.out H5.out (by show (findE nm ss).isSome = true; rw [HEN.out]; rfl)) (H6.out.put nm _ (⟨hSO.out.1, hSO.out.2.1, hli.out.1, hli.out.2⟩))
            have HCT := hid hct
            have hc5 := hid (show W5.cell? ⟨p, 9, none⟩ = some (.map (some b)) from by
              have hp5 : p ∉ [b] := fun hm => by
                simp at hm; subst hm
                exact CV.out.apart _ hbV OV.out.hp
              have e1 := hc9.out _ KV4.out
              exact (k5.cell (World.block_lt_of_cell? _ _ e1) hp5).trans e1)
            refine writeH 15 rfl (by kernel_rfl) (by rfl) (W5) (by have h := hh.out; unfold stE at h; unfold execOp; simp [Act.eval, Sem.run_bind, Sem.run_pure, Result.andThen_ok]; simp [h, Result.andThen_ok]) (hc5.out) ?_
            simp only [Act.put, List.setIfInBounds_toArray, List.set_cons_succ, List.set_cons_zero]
            refine wpAnyH_done (by kernel_rfl) ?_ _
            clear hrun k5 m5 hct hh hv4 hH2 hHH hlk hrq
            go_wp2
            go_ret
            exact ⟨0, rs, rfl, Or.inr (Or.inr (Or.inr (Or.inr ⟨rfl, rfl, HW1.out, HJP.out, rfl, rfl⟩))), (HS.out.1.trans' (KV.out.trans KV4.out) (fun x hx => by simp)).trans HCT.out.1, hrsv.out ▸ HCT.out.2.1, HCT.out.2.2⟩
    · have HS0 := hid hs0
      have hne : (st == 0) = false := by simpa using hs0
      clear hs0
      go_wp2
      go_ret
      exact ⟨0, ss, rfl, Or.inr (Or.inl ⟨rfl, HS0.out, rfl, rfl⟩), HS.out.1.trans' K2.out (fun x hx => by simp), HS.out.2.1.kept K2.out (by simp), HS.out.2.2.kept K2.out (by simp)⟩
  · have hne : (g == 0) = false := by simpa using hg0
    have HG0 := hid hg0
    clear hs k1 ob1 fu1 hak hg0
    go_wp2
    go_ret
    exact ⟨g, ss, rfl, Or.inl ⟨HG0.out, rfl, rfl⟩, HS.out.1, HS.out.2.1, HS.out.2.2⟩
set_option maxRecDepth 100000 in
set_option maxHeartbeats 4000000 in
theorem co_fail (w : World) (U V : List Nat) (p : Nat) (q : Int) (es ss : List Ent) (fv : Value) (fl : List Bool) (k : Nat) (jobs life least lost left : Int) (h : Co w U V p q es ss fv fl k jobs life least lost) (hf : FuV w (U ++ V) fv left)
    (nm : List UInt8) (hnm : nm.length ≤ 1000000000) (now : Int) (n1 : -9223372036854775808 ≤ now) (n2 : now ≤ 9223372036854775807) :
    Calls Try.prog 27 #[.pointer (some ⟨p, 0, none⟩), .string (S nm), .int .i64 now] w fun e w' => e = .returned (.bool (decide (stateT ss nm now life = 1))) ∧ Kept (U ++ V ++ fuB fv) w w' ∧
      Co w' U V p q es (if stateT ss nm now life = 1 then failS ss nm else ss) fv fl k jobs life least lost ∧ FuV w' (U ++ V) fv left := by
  have HC := hid h; have HF := hid hf
  have hsc := hid (co_state w U V p q es ss fv fl k jobs life least lost h nm hnm now n1 n2)
  have hris := hid (by obtain ⟨⟨mv, h1, h2⟩, _⟩ := h; exact h1.rising)
  have H5 := hid h.names; have H6 := hid h.st
  have hsl := hid (show ss.length ≤ 4096 from by obtain ⟨⟨mv, h1, h2⟩, _, _, h5, _⟩ := h; have e1 := congrArg List.length h5; simp at e1; have := h1.small.2.1; omega)
  obtain ⟨st, hst⟩ : ∃ st, st = stateT ss nm now life := ⟨_, rfl⟩
  have HST := hid hst
  rw [← hst] at hsc ⊢
  obtain ⟨fs, hfs⟩ : ∃ fs, fs = failS ss nm := ⟨_, rfl⟩
  have HFS := hid hfs
  rw [← hfs]
  clear h hf hst hfs
  by_cases hs1 : st = 1
  · subst hs1
    rw [if_pos rfl]
    have hsome := hid (state_none (ss := ss) (nm := nm) (now := now) (life := life) (by rw [← HST.out]; decide))
    go_enter Try.func27, Try.ntmps27
    go_wp2_with fail
    refine hsc.out.mono ?_
    rintro e v2 ⟨rfl, k2⟩
    have KV := hid k2
    clear k2 hsc
    obtain ⟨en, hen⟩ := hsome.out
    obtain ⟨s, es1, es2, so⟩ := H6.out.find hen
    have hlkv : lookY nm ss = stV s := by unfold lookY; rw [hen]; exact es1
    have hrsv := hid (show fs = putE (stE nm ⟨s.since, false, 0⟩) ss from by rw [HFS.out]; unfold failS; rw [hlkv, syOf_stV])
    have hSO := hid so
    have CV := hid (HC.out.kept KV.out (by simp))
    have FV := hid (HF.out.kept KV.out (by simp))
    have HEN := hid hen
    have hkd2 := hid (show Kept [] v2 v2.drew from (Kept.refl [] v2).drew)
    obtain ⟨⟨mv2, oV, mV⟩, _⟩ := id CV.out
    obtain ⟨b, rfl, hbV, hown⟩ : ∃ b, mv2 = .map (some b) ∧ b ∈ V ∧ True := by
      rcases mV with ⟨_, hnil⟩ | ⟨b, rfl, hbV, _⟩
      · rw [hnil] at hen; simp [findE] at hen
      · exact ⟨b, rfl, hbV, trivial⟩
    have OV := hid oV; have MV := hid mV
    have hc9 := hid (fun X (hX : Kept [] v2 X) => (ob_tail (OV.out.kept hX (by simp))).2.2.2.1)
    have hlk := my_look1 (mV.kept hkd2.out (by simp)) nm hnm
    rw [hlkv] at hlk
    have hrq := hid (fun X => failed_any s X)
    clear oV mV hown hlkv hen es1 es2 so hsome
    go_wp2_with fail
    have hHH : v2.drew.cell? ⟨p, 9, none⟩ = some (.map (some b)) := hc9.out _ hkd2.out
    refine wp_region_held_drew (S := fun v => v.cell? ⟨p, 9, none⟩ = some (.map (some b))) (by kernel_rfl) hHH (fun hH2 => ?_)
    refine takeH 0 (.pointer (some ⟨p, 0, none⟩)) rfl (by kernel_rfl) (by kernel_rfl) (by kernel_rfl) (fun _ _ _ h => h) (by rfl) (fun v hv => by go_simp) hH2 ?_
    simp only [Act.put, List.setIfInBounds_toArray, List.set_cons_succ, List.set_cons_zero]
    refine takeH 1 (.pointer (some ⟨p, 0, none⟩)) rfl (by kernel_rfl) (by kernel_rfl) (by kernel_rfl) (fun _ _ _ h => h) (by rfl) (fun v hv => by go_simp) hH2 ?_
    simp only [Act.put, List.setIfInBounds_toArray, List.set_cons_succ, List.set_cons_zero]
    refine takeH 2 (.pointer (some ⟨p, 9, none⟩)) rfl (by kernel_rfl) (by kernel_rfl) (by kernel_rfl) (fun _ _ _ h => h) (by rfl) (fun v hv => by go_simp) hH2 ?_
    simp only [Act.put, List.setIfInBounds_toArray, List.set_cons_succ, List.set_cons_zero]
    refine takeH 3 (.map (some b)) rfl (by kernel_rfl) (by kernel_rfl) (by kernel_rfl) (fun _ _ _ h => h) (by rfl) (fun v hv => by have h := hv; go_simp) hH2 ?_
    simp only [Act.put, List.setIfInBounds_toArray, List.set_cons_succ, List.set_cons_zero]
    refine takeH 4 (.string (S nm)) rfl (by kernel_rfl) (by kernel_rfl) (by kernel_rfl) (fun _ _ _ h => h) (by rfl) (fun v hv => by go_simp) hH2 ?_
    simp only [Act.put, List.setIfInBounds_toArray, List.set_cons_succ, List.set_cons_zero]
    refine takeH 5 (.pointer (some ⟨p, 0, none⟩)) rfl (by kernel_rfl) (by kernel_rfl) (by kernel_rfl) (fun _ _ _ h => h) (by rfl) (fun v hv => by go_simp) hH2 ?_
    simp only [Act.put, List.setIfInBounds_toArray, List.set_cons_succ, List.set_cons_zero]
    refine takeH 6 (.pointer (some ⟨p, 0, none⟩)) rfl (by kernel_rfl) (by kernel_rfl) (by kernel_rfl) (fun _ _ _ h => h) (by rfl) (fun v hv => by go_simp) hH2 ?_
    simp only [Act.put, List.setIfInBounds_toArray, List.set_cons_succ, List.set_cons_zero]
    refine takeH 7 (.pointer (some ⟨p, 9, none⟩)) rfl (by kernel_rfl) (by kernel_rfl) (by kernel_rfl) (fun _ _ _ h => h) (by rfl) (fun v hv => by go_simp) hH2 ?_
    simp only [Act.put, List.setIfInBounds_toArray, List.set_cons_succ, List.set_cons_zero]
    refine takeH 8 (.map (some b)) rfl (by kernel_rfl) (by kernel_rfl) (by kernel_rfl) (fun _ _ _ h => h) (by rfl) (fun v hv => by have h := hv; go_simp) hH2 ?_
    simp only [Act.put, List.setIfInBounds_toArray, List.set_cons_succ, List.set_cons_zero]
    refine takeH 9 (.string (S nm)) rfl (by kernel_rfl) (by kernel_rfl) (by kernel_rfl) (fun _ _ _ h => h) (by rfl) (fun v hv => by go_simp) hH2 ?_
    simp only [Act.put, List.setIfInBounds_toArray, List.set_cons_succ, List.set_cons_zero]
    refine runH 10 rfl (by kernel_rfl) (by rfl) (stV s) (v2.drew) (by go_simp) (hH2) ?_
    simp only [Act.put, List.setIfInBounds_toArray, List.set_cons_succ, List.set_cons_zero]
    refine callR 11 rfl (by kernel_rfl) (by rfl) 56 #[stV s] (by go_simp) (stV ⟨s.since, false, 0⟩) (fun v => Kept [] v2.drew v) (fun v h => hc9.out _ (hkd2.out.trans h)) (hrq.out _) ?_
    rintro v4 hv4
    simp only [Act.put, List.setIfInBounds_toArray, List.set_cons_succ, List.set_cons_zero]
    have KV4 := hid (hkd2.out.trans hv4)
    obtain ⟨W5, hrun, k5, m5⟩ := my_put (MV.out.kept KV4.out (by simp)) (stE nm ⟨s.since, false, 0⟩) hnm (by have := hsl.out; omega)
    have hh := hid hrun
    have hct := co_turn (CV.out.kept KV4.out (by simp)) (FV.out.kept KV4.out (by simp)) hbV k5 _ (OV.out.kept KV4.out (by simp)) m5 (names_again hris.out H5.out (by show (findE nm ss).isSome = true; rw [HEN.out]; rfl)) (H6.out.put nm _ (⟨hSO.out.1, hSO.out.2.1, by show (0:Int) ≤ 0; omega, by show (0:Int) ≤ _; omega⟩))
    have HCT := hid hct
    have hc5 := hid (show W5.cell? ⟨p, 9, none⟩ = some (.map (some b)) from by
      have hp5 : p ∉ [b] := fun hm => by
        simp at hm; subst hm
        exact CV.out.apart _ hbV OV.out.hp
      have e1 := hc9.out _ KV4.out
      exact (k5.cell (World.block_lt_of_cell? _ _ e1) hp5).trans e1)
    refine writeH 12 rfl (by kernel_rfl) (by rfl) (W5) (by have h := hh.out; unfold stE at h; unfold execOp; simp [Act.eval, Sem.run_bind, Sem.run_pure, Result.andThen_ok]; simp [h, Result.andThen_ok]) (hc5.out) ?_
    simp only [Act.put, List.setIfInBounds_toArray, List.set_cons_succ, List.set_cons_zero]
    refine wpAnyH_done (by kernel_rfl) ?_ _
    clear hrun k5 m5 hct hh hv4 hH2 hHH hlk hrq
    go_wp2
    go_ret
    exact ⟨rfl, ((KV.out.trans KV4.out).wider (by simp)).trans HCT.out.1, hrsv.out ▸ HCT.out.2.1, HCT.out.2.2⟩
  · rw [if_neg hs1]
    have hd : decide (st = 1) = false := decide_eq_false hs1
    have hne : (st == 1) = false := by simpa using hs1
    have hne2 : (st != 1) = true := by simpa using hs1
    rw [hd]
    clear hs1 hd
    go_enter Try.func27, Try.ntmps27
    go_wp2_with fail
    refine hsc.out.mono ?_
    rintro e v2 ⟨rfl, k2⟩
    have KV := hid k2
    clear k2 hsc
    go_wp2
    go_ret
    exact ⟨rfl, KV.out.wider (by simp), HC.out.kept KV.out (by simp), HF.out.kept KV.out (by simp)⟩
end Go.Proofs.Ytnkolgamnakegaa
