import Derived.Test.YtmholofhmpplcaaMV

/- ref06.Put. -/
namespace Go.Proofs.Ytmholofhmpplcaa
open Go.RowKit Go.Lib Go.Maps

theorem putErr_op {fl : List Bool} {nm : List UInt8} {n m : Nat} {q z : Int} {th : Bool} (h0 : opE fl ≠ 0) : putErr fl nm n q z th m = opE fl := by simp [putErr, firstFrom, putAsk, h0]
theorem putErr_name {fl : List Bool} {nm : List UInt8} {n m : Nat} {q z : Int} {th : Bool} (h0 : opE fl = 0) (h1 : okName nm = false) : putErr fl nm n q z th m = 37 := by simp [putErr, firstFrom, putAsk, h0, h1]
theorem putErr_long {fl : List Bool} {nm : List UInt8} {n m : Nat} {q z : Int} {th : Bool} (h0 : opE fl = 0) (h1 : okName nm = true) (h2 : (1048576 : Int) < (n : Int)) : putErr fl nm n q z th m = 2 := by simp [putErr, firstFrom, putAsk, h0, h1, h2]
theorem before_trans {x y z : List UInt8} (h : bytesBefore x y = true) (h2 : bytesBefore y z = true) : bytesBefore x z = true := (before_lt _ _).2 (List.lt_trans ((before_lt x y).1 h) ((before_lt y z).1 h2))
/-- A name's place stays when it goes. -/
theorem at_del {es : List Ent} (h : Rising es) (nm : List UInt8) : atE nm (delE nm es) = atE nm es := by
  induction es with
  | nil => rfl
  | cons y r ih =>
    obtain ⟨h1, h2⟩ := rising_cons.1 h
    by_cases hq : y.name = nm
    · have e2 : delE nm (y :: r) = r := by
        unfold delE
        rw [List.filter_cons]
        simp [hq]
        intro z hz hzn
        have := h1 z hz
        rw [hq, hzn, before_irrefl] at this
        cases this
      have e1 : atE nm (y :: r) = 0 := by show (if _ then _ else _) = _; rw [hq, before_irrefl]; rfl
      rw [e2, e1]
      cases r with
      | nil => rfl
      | cons z s =>
        show (if bytesBefore z.name nm then _ else _) = _
        have := h1 z (by simp)
        rw [hq] at this
        rw [before_asymm this]
        rfl
    · have e2 : delE nm (y :: r) = y :: delE nm r := by
        unfold delE
        rw [List.filter_cons]
        simp [hq]
      rw [e2]
      show (if bytesBefore y.name nm then atE nm (delE nm r) + 1 else 0) = (if bytesBefore y.name nm then atE nm r + 1 else 0)
      rw [ih h2]
theorem at_le (nm : List UInt8) (es : List Ent) : atE nm es ≤ es.length := by
  induction es with
  | nil => exact Nat.le_refl _
  | cons y r ih =>
    show (if bytesBefore y.name nm then atE nm r + 1 else 0) ≤ _
    split
    · simp; exact ih
    · exact Nat.zero_le _
/-- What a Put of the reference leaves. -/
theorem put_there {es : List Ent} (h : Rising es) (x : Ent) {e : Ent} (hf : findE x.name es = some e) : putE x es = (es.take (atE x.name es) ++ es.drop (atE x.name es + 1)).take (atE x.name es) ++ x :: (es.take (atE x.name es) ++ es.drop (atE x.name es + 1)).drop (atE x.name es) := by
  unfold putE
  rw [ins_at x (by rw [find_del h, if_pos rfl]), at_del h, del_at h x.name hf]
theorem put_new {es : List Ent} (x : Ent) (hf : findE x.name es = none) : putE x es = es.take (atE x.name es) ++ x :: es.drop (atE x.name es) := by
  unfold putE
  rw [del_none hf, ins_at x hf]
def ifOKL (er : Int) (a b : List Ent) : List Ent := if er = 0 then a else b
/-- What a reference's function tells. -/
def RefR (w : World) (q k' l' : Int) (rv : Value) (T : List Nat) (fl : List Bool) (es' : List Ent) (er : Int) (e : Ending) (w' : World) : Prop :=
  ∃ rv' flv', e = .returned (.tuple #[stR rv' q k' l' flv', .int .i64 er]) ∧ Kept [] w w' ∧ (∃ base', Rf w' base' rv' es') ∧ (∀ g, rv'.ownBlock = some g → rv.ownBlock = some g ∨ w.heap.size ≤ g) ∧ SrcS w' T flv' (fl.drop 1).length ((fl.drop 1).map .bool)
set_option maxRecDepth 100000 in
set_option maxHeartbeats 8000000 in
theorem ref_put (ra : Option Addr) (n rc : Nat) (es : List Ent) (q k left : Int) (flv : Value) (fl : List Bool) (T : List Nat) (base : Nat) (w : World) (h : Rf w base (.slice ra n rc) es) (hn : n = es.length) (hris : Rising es) (hm : n ≤ 4000) (hsz : sizeE es ≤ 1000000000)
    (hf : SrcS w T flv fl.length (fl.map .bool)) (h0 : left ≠ 0) (hl : -1 ≤ left ∧ left ≤ 9223372036854775807) (hk : 0 ≤ k ∧ k ≤ 1099511627776) (hT : ∀ x ∈ T, x < w.heap.size) (hfl : fl.length ≤ 1000000)
    (nm : List UInt8) (hnm : nm.length ≤ 1000000000) (ba : Option Addr) (nb bc : Nat) (bs : List UInt8) (hnb : nb = bs.length) (hb : ∀ W, Kept [] w W → Src W (.slice ba nb bc) nb (bs.map B)) (hbl : nb ≤ 1000000000)
    (er : Int) (her : er = putErr fl nm nb q ((sizeE es : Int) - (lookB nm es).length + nb) (findE nm es).isSome es.length) :
    Calls Try.prog 25 #[stR (.slice ra n rc) q k left flv, .string (S nm), .slice ba nb bc] w (RefR w q (k + 1) (decL left) (.slice ra n rc) T fl (ifOKL er (putE ⟨nm, .slice ba nb bc, bs⟩ es) es) er) := by
  obtain ⟨i0, hi0, hz0, hz1, hz2⟩ := info_split info_thing
  have H := hid h; have HN := hid hn; have HNB := hid hnb; have HBS := hid hb; have hER := hid her; have HRIS := hid hris
  have HTH := hid (fun e (he : e ∈ es) W (hk : Kept [] w W) => (show ∃ a c, e.v = .slice a e.b.length c ∧ Src W e.v e.b.length (e.b.map B) from by obtain ⟨a, c, h1, h2⟩ := h.th e he; exact ⟨a, c, h1, h2.keep hk⟩))
  obtain ⟨b0, hb0⟩ : ∃ b0, b0 = w.heap.size := ⟨_, rfl⟩
  obtain ⟨b1, hb1⟩ : ∃ b1, b1 = w.heap.size + 1 := ⟨_, rfl⟩
  have HB0 := hid hb0; have HB1 := hid hb1
  have HTB := hid hT
  obtain ⟨k2, hk2⟩ : ∃ k2, k2 = k + 1 := ⟨_, rfl⟩
  obtain ⟨l2, hl2⟩ : ∃ l2, l2 = decL left := ⟨_, rfl⟩
  obtain ⟨W0, hW0⟩ : ∃ W0, W0 = (w.alloc (.cells #[.slice ra n rc, .int .i64 q, .int .i64 k, .int .i64 left, flv] 35)).alloc (.cells #[.slice none 0 0, .int .i64 0, .int .i64 0, .int .i64 0, .slice none 0 0] 35) := ⟨_, rfl⟩
  have HW0 := hid hW0
  have k0 := hid (show Kept [] w W0 from hW0 ▸ ((Kept.refl [] w).alloc _).alloc _)
  have hx0 := hid (show W0.heap[b0]? = some (.cells [.slice ra n rc, .int .i64 q, .int .i64 k, .int .i64 left, flv].toArray 35 (0, 0)) from by rw [hW0, hb0]; exact heap_alloc_old (heap_alloc_at rfl))
  have hx1 := hid (show W0.heap[b1]? = some (.cells [.slice none 0 0, .int .i64 0, .int .i64 0, .int .i64 0, .slice none 0 0].toArray 35 (0, 0)) from by rw [hW0, hb1]; exact heap_alloc_at (by simp))
  have hop := hid (ref_op ra n rc q k left flv fl T W0 (hf.kept k0.out (by simp)) h0 hl hk (fun x hx => Nat.lt_of_lt_of_le (hT x hx) k0.out.size) hfl)
  rw [← hk2, ← hl2] at hop ⊢
  have HPT := hid (fun e (he : findE nm es = some e) => put_there hris ⟨nm, .slice ba nb bc, bs⟩ he)
  have HPN := hid (fun (he : findE nm es = none) => put_new ⟨nm, .slice ba nb bc, bs⟩ he)
  have HTF := hid (there_find hris nm)
  have HSZ := hid hsz
  unfold stR at hop ⊢
  clear hb0 hb1 h hn hnb hb her hris hT hk2 hl2 hW0 hf h0 hl hk hfl hsz
  go_enter Try.func25, Try.ntmps25
  go_wp2_with fail
  rw [← HW0.out, ← HB1.out, ← HB0.out]
  refine hop.out.mono ?_
  rintro e w1 ⟨flv2, rfl, k1, hf2⟩
  have hflv2 : ∃ a n c, flv2 = .slice a n c := by obtain ⟨_, a, c, e, _⟩ := hf2; exact ⟨a, _, c, e⟩
  have kw1 := hid (k0.out.trans k1)
  have hx01 := hid (k1.at hx0.out (by simp))
  have hx11 := hid (k1.at hx1.out (by simp))
  obtain ⟨V1, hV1⟩ : ∃ V1, V1 = w1.setRow b0 (splice [.slice ra n rc, .int .i64 q, .int .i64 k, .int .i64 left, flv] 0 [.slice ra n rc, .int .i64 q, .int .i64 k2, .int .i64 l2, flv2]).toArray := ⟨_, rfl⟩
  have HV1 := hid hV1
  have HB := hid (show V1.heap[b0]? = some (.cells [.slice ra n rc, .int .i64 q, .int .i64 k2, .int .i64 l2, flv2].toArray 35 (0, 0)) from by rw [hV1]; exact setRow_heap _ _ _ _ _ _ hx01.out)
  have kr := hid (show Kept [b0] w1 V1 from hV1 ▸ (Kept.refl _ _).setRow (fun _ => by simp) _)
  have HZ := hid (kr.out.at hx11.out (by simp; have := HB0.out; have := HB1.out; omega))
  have KW := hid (show Kept [] w V1 from kw1.out.trans' kr.out (fun x hx hm => by simp at hm; subst hm; have := HB0.out; omega))
  have HF2 := hid (hf2.kept kr.out (fun x hx hm => by simp at hm; subst hm; have := HTB.out x hx; have := HB0.out; omega))
  have hx01' := hx01.out
  clear k1 hf2 hV1 hop
  go_wp2_with (refine wpList_store_at rfl 35 (.tmp 3) (.tmp 16) rfl b0 0 [.slice ra n rc, .int .i64 q, .int .i64 k2, .int .i64 l2, flv2] rfl rfl 35 [.slice ra n rc, .int .i64 q, .int .i64 k, .int .i64 left, flv] hx01' (by kernel_rfl) (by simp) (one5 hflv2 _ _ _ _ _ _) ?_; refine halt ?_)
  refine Halt.mk ?_
  rw [← HV1.out]
  clear hx01'
  have c0 : V1.cell? ⟨b0, 0, none⟩ = some (.slice ra n rc) := by rw [cell_of_row _ _ 0 _ _ _ HB.out]; rfl
  have c1 : V1.cell? ⟨b0, 1, none⟩ = some (.int .i64 q) := by rw [cell_of_row _ _ 1 _ _ _ HB.out]; rfl
  have c2 : V1.cell? ⟨b0, 2, none⟩ = some (.int .i64 k2) := by rw [cell_of_row _ _ 2 _ _ _ HB.out]; rfl
  have c3 : V1.cell? ⟨b0, 3, none⟩ = some (.int .i64 l2) := by rw [cell_of_row _ _ 3 _ _ _ HB.out]; rfl
  have c4 : V1.cell? ⟨b0, 4, none⟩ = some (flv2) := by rw [cell_of_row _ _ 4 _ _ _ HB.out]; rfl
  by_cases ho : opE fl = 0
  · have HO := hid ho
    obtain ⟨oe, hoe⟩ : ∃ oe, oe = opE fl := ⟨_, rfl⟩
    rw [← hoe] at ho ⊢
    subst ho
    clear hoe
    have hrt := hid (fun X => ref_right nm hnm X)
    cases hok : okName nm
    · have HER := hid (show er = 37 from by rw [hER.out]; exact putErr_name HO.out hok)
      rw [hok] at hrt
      clear hok
      go_wp2_with fail
      refine (hrt.out _).mono ?_
      rintro e y ⟨rfl, rfl⟩
      clear hrt
      have kz := hid (show Kept [b1] V1 (V1.setRow b1 (splice [.slice none 0 0, .int .i64 0, .int .i64 0, .int .i64 0, .slice none 0 0] 0 [.slice ra n rc, .int .i64 q, .int .i64 k2, .int .i64 l2, flv2]).toArray) from (Kept.refl _ _).setRow (fun _ => by simp) _)
      have hld := hid (ref_st (V1.setRow b1 (splice [.slice none 0 0, .int .i64 0, .int .i64 0, .int .i64 0, .slice none 0 0] 0 [.slice ra n rc, .int .i64 q, .int .i64 k2, .int .i64 l2, flv2]).toArray) b1 (.slice ra n rc) q k2 l2 flv2 (setRow_heap _ _ _ _ _ _ HZ.out))
      go_wp2_with (refine wpList_store_at rfl 35 (.tmp 6) (.tmp 25) rfl b1 0 [.slice ra n rc, .int .i64 q, .int .i64 k2, .int .i64 l2, flv2] rfl rfl 35 [.slice none 0 0, .int .i64 0, .int .i64 0, .int .i64 0, .slice none 0 0] HZ.out (by kernel_rfl) (by simp) (one5 hflv2 _ _ _ _ _ _) ?_; refine halt ?_)
      refine Halt.mk ?_
      go_wp2_with fail
      refine bodyPost_ret (v := .tuple #[stR (.slice ra n rc) q k2 l2 flv2, .int .i64 37]) (results_cell2 Try.results25 rfl rfl hld.out) rfl ?_
      have kf := KW.out.trans' kz.out (fun x hx hm => by simp at hm; subst hm; have := HB1.out; omega)
      exact ⟨_, flv2, by first | (rw [HER.out]; done) | (rw [HER.out]; rfl), kf, ⟨base, by have h1 := H.out.keep kf; unfold ifOKL; rw [if_neg (by have := HER.out; omega)]; exact h1⟩, fun g hg => Or.inl hg, HF2.out.kept kz.out (fun x hx hm => by simp at hm; subst hm; have := HTB.out x hx; have := HB1.out; omega)⟩
    · have HOK := hid hok
      rw [hok] at hrt
      clear hok
      go_wp2_with fail
      refine (hrt.out _).mono ?_
      rintro e y ⟨rfl, rfl⟩
      clear hrt
      by_cases hlong : (1048576 : Int) < (nb : Int)
      · have HER := hid (show er = 2 from by rw [hER.out]; exact putErr_long HO.out HOK.out hlong)
        have kz := hid (show Kept [b1] V1 (V1.setRow b1 (splice [.slice none 0 0, .int .i64 0, .int .i64 0, .int .i64 0, .slice none 0 0] 0 [.slice ra n rc, .int .i64 q, .int .i64 k2, .int .i64 l2, flv2]).toArray) from (Kept.refl _ _).setRow (fun _ => by simp) _)
        have hld := hid (ref_st (V1.setRow b1 (splice [.slice none 0 0, .int .i64 0, .int .i64 0, .int .i64 0, .slice none 0 0] 0 [.slice ra n rc, .int .i64 q, .int .i64 k2, .int .i64 l2, flv2]).toArray) b1 (.slice ra n rc) q k2 l2 flv2 (setRow_heap _ _ _ _ _ _ HZ.out))
        go_wp2_with (refine wpList_store_at rfl 35 (.tmp 6) (.tmp 29) rfl b1 0 [.slice ra n rc, .int .i64 q, .int .i64 k2, .int .i64 l2, flv2] rfl rfl 35 [.slice none 0 0, .int .i64 0, .int .i64 0, .int .i64 0, .slice none 0 0] HZ.out (by kernel_rfl) (by simp) (one5 hflv2 _ _ _ _ _ _) ?_; refine halt ?_)
        refine Halt.mk ?_
        go_wp2_with fail
        refine bodyPost_ret (v := .tuple #[stR (.slice ra n rc) q k2 l2 flv2, .int .i64 2]) (results_cell2 Try.results25 rfl rfl hld.out) rfl ?_
        have kf := KW.out.trans' kz.out (fun x hx hm => by simp at hm; subst hm; have := HB1.out; omega)
        exact ⟨_, flv2, by first | (rw [HER.out]; done) | (rw [HER.out]; rfl), kf, ⟨base, by have h1 := H.out.keep kf; unfold ifOKL; rw [if_neg (by have := HER.out; omega)]; exact h1⟩, fun g hg => Or.inl hg, HF2.out.kept kz.out (fun x hx hm => by simp at hm; subst hm; have := HTB.out x hx; have := HB1.out; omega)⟩
      · have HLG := hid (show nb ≤ 1048576 from by omega)
        have hrT := hid (show RowT V1 ra es from by
          have h1 := H.out.keep KW.out
          rw [HN.out] at h1
          exact h1.rowT)
        have hfi := hid (by
          have h1 := ref_find ra rc es q k2 l2 flv2 nm V1 hrT.out (by have := HN.out; omega)
          rw [← HN.out] at h1
          unfold stR at h1
          exact h1)
        obtain ⟨at0, hat⟩ : ∃ at0, at0 = atE nm es := ⟨_, rfl⟩
        have HAT := hid hat
        obtain ⟨th, hth⟩ : ∃ th, th = thereE nm es := ⟨_, rfl⟩
        have HTH2 := hid hth
        rw [← hat, ← hth] at hfi
        clear hat hth
        go_wp2_with fail
        refine hfi.out.mono ?_
        rintro e V2 ⟨rfl, k2x⟩
        have K2x := hid k2x
        have HB2 := hid (k2x.at HB.out (by simp))
        have d0 : V2.cell? ⟨b0, 0, none⟩ = some (.slice ra n rc) := by rw [cell_of_row _ _ 0 _ _ _ HB2.out]; rfl
        have d1 : V2.cell? ⟨b0, 1, none⟩ = some (.int .i64 q) := by rw [cell_of_row _ _ 1 _ _ _ HB2.out]; rfl
        have d2 : V2.cell? ⟨b0, 2, none⟩ = some (.int .i64 k2) := by rw [cell_of_row _ _ 2 _ _ _ HB2.out]; rfl
        have d3 : V2.cell? ⟨b0, 3, none⟩ = some (.int .i64 l2) := by rw [cell_of_row _ _ 3 _ _ _ HB2.out]; rfl
        have d4 : V2.cell? ⟨b0, 4, none⟩ = some (flv2) := by rw [cell_of_row _ _ 4 _ _ _ HB2.out]; rfl
        have hrT2 := hid (show RowT V2 ra es from by
          have h1 := H.out.keep (KW.out.trans k2x)
          rw [HN.out] at h1
          exact h1.rowT)
        have hsi := hid (by
          have h1 := ref_size ra rc es q k2 l2 flv2 V2 hrT2.out (by have := HN.out; omega) HSZ.out
          rw [← HN.out] at h1
          unfold stR at h1
          exact h1)
        obtain ⟨sz, hsz⟩ : ∃ sz, sz = sizeE es := ⟨_, rfl⟩
        have HSZE := hid hsz
        rw [← hsz] at hsi
        have hszb : sz ≤ 1000000000 := by rw [hsz]; exact HSZ.out
        clear hsz hfi k2x c0 c1 c2 c3 c4
        go_wp2_with fail
        refine hsi.out.mono ?_
        rintro e V3 ⟨rfl, k3x⟩
        have K3x := hid (K2x.out.trans k3x)
        have HB3 := hid (k3x.at HB2.out (by simp))
        have HZ3 := hid (K3x.out.at HZ.out (by simp))
        have KW3 := hid (KW.out.trans K3x.out)
        have HF3 := hid (HF2.out.kept K3x.out (by simp))
        replace HB := HB3; replace HZ := HZ3; replace KW := KW3; replace HF2 := HF3
        have HR3 := hid (show Rf V3 base (.slice ra n rc) es from H.out.keep KW.out)
        have hrT3 := hid (show RowT V3 ra es from by
          have h1 := HR3.out
          rw [HN.out] at h1
          exact h1.rowT)
        clear hsi k3x d0 d1 d2 d3 d4
        have c0 : V3.cell? ⟨b0, 0, none⟩ = some (.slice ra n rc) := by rw [cell_of_row _ _ 0 _ _ _ HB.out]; rfl
        have c1 : V3.cell? ⟨b0, 1, none⟩ = some (.int .i64 q) := by rw [cell_of_row _ _ 1 _ _ _ HB.out]; rfl
        have c2 : V3.cell? ⟨b0, 2, none⟩ = some (.int .i64 k2) := by rw [cell_of_row _ _ 2 _ _ _ HB.out]; rfl
        have c3 : V3.cell? ⟨b0, 3, none⟩ = some (.int .i64 l2) := by rw [cell_of_row _ _ 3 _ _ _ HB.out]; rfl
        have c4 : V3.cell? ⟨b0, 4, none⟩ = some (flv2) := by rw [cell_of_row _ _ 4 _ _ _ HB.out]; rfl
        have hw1 : IntKind.i64.wrap ((sz : Int) + (nb : Int)) = (sz : Int) + (nb : Int) := by rw [IntKind.wrap_i64]; omega
        cases th
        · have hfn : findE nm es = none := by
            have h1 := HTF.out.1
            rw [← HTH2.out] at h1
            simpa using h1.symm
          have hlb : lookB nm es = [] := by unfold lookB; rw [hfn]
          by_cases hqq : q < (sz : Int) + (nb : Int)
          · have HER := hid (show er = 31 from by rw [hER.out]; exact putErr_room HO.out HOK.out HLG.out (by rw [hlb, ← HSZE.out]; simp; omega))
            clear hfn hlb
            have kz := hid (show Kept [b1] V3 (V3.setRow b1 (splice [.slice none 0 0, .int .i64 0, .int .i64 0, .int .i64 0, .slice none 0 0] 0 [.slice ra n rc, .int .i64 q, .int .i64 k2, .int .i64 l2, flv2]).toArray) from (Kept.refl _ _).setRow (fun _ => by simp) _)
            have hld := hid (ref_st (V3.setRow b1 (splice [.slice none 0 0, .int .i64 0, .int .i64 0, .int .i64 0, .slice none 0 0] 0 [.slice ra n rc, .int .i64 q, .int .i64 k2, .int .i64 l2, flv2]).toArray) b1 (.slice ra n rc) q k2 l2 flv2 (setRow_heap _ _ _ _ _ _ HZ.out))
            go_wp2_with (refine wpList_store_at rfl 35 (.tmp 6) (.tmp 55) rfl b1 0 [.slice ra n rc, .int .i64 q, .int .i64 k2, .int .i64 l2, flv2] rfl rfl 35 [.slice none 0 0, .int .i64 0, .int .i64 0, .int .i64 0, .slice none 0 0] HZ.out (by kernel_rfl) (by simp) (one5 hflv2 _ _ _ _ _ _) ?_; refine halt ?_)
            refine Halt.mk ?_
            go_wp2_with fail
            refine bodyPost_ret (v := .tuple #[stR (.slice ra n rc) q k2 l2 flv2, .int .i64 31]) (results_cell2 Try.results25 rfl rfl hld.out) rfl ?_
            have kf := KW.out.trans' kz.out (fun x hx hm => by simp at hm; subst hm; have := HB1.out; omega)
            exact ⟨_, flv2, by first | (rw [HER.out]; done) | (rw [HER.out]; rfl), kf, ⟨base, by have h1 := H.out.keep kf; unfold ifOKL; rw [if_neg (by have := HER.out; omega)]; exact h1⟩, fun g hg => Or.inl hg, HF2.out.kept kz.out (fun x hx hm => by simp at hm; subst hm; have := HTB.out x hx; have := HB1.out; omega)⟩
          · have HER := hid (show er = 0 from by rw [hER.out]; exact putErr_ok HO.out HOK.out HLG.out (by rw [hlb, ← HSZE.out]; simp; omega) (Or.inr (by have := HN.out; omega)))
            have HPUT := hid (show putE ⟨nm, .slice ba nb bc, bs⟩ es = es.take at0 ++ ⟨nm, .slice ba nb bc, bs⟩ :: es.drop at0 from by rw [HAT.out]; exact HPN.out hfn)
            have hat1 := hid (show at0 ≤ es.length from by rw [HAT.out]; exact at_le nm es)
            have hm4 := hid (show es.length ≤ 4000 from by have := HN.out; omega)
            have HSUB := hid (fun e (he : e ∈ es) => he)
            clear hfn hlb
            have htk := hid (th_take (.slice ra n rc) es V3 base HR3.out.row at0 hat1.out)
            have htd := hid (th_drop (.slice ra n rc) es V3 base HR3.out.row at0 hat1.out)
            obtain ⟨a1, d1, hs1, hv1⟩ := htk.out
            obtain ⟨a2, d2, hs2, hv2⟩ := htd.out
            obtain ⟨n1, hn1⟩ : ∃ n1, n1 = (es).length := ⟨_, rfl⟩
            have HN1 := hid hn1
            rw [← hn1] at hs2
            have HV1 := hid hv1; have HV2 := hid hv2
            obtain ⟨W, hW⟩ : ∃ W, W = V3.alloc (.cells #[] 75) := ⟨_, rfl⟩
            have HW := hid hW
            have kW := hid (show Kept [] V3 W from hW ▸ (Kept.refl [] V3).alloc _)
            have hb2 := hid (show W.heap[V3.heap.size]? = some (.cells #[] 75 (0, 0)) from hW ▸ heap_alloc_at rfl)
            have hszV := hid (show w.heap.size + 2 ≤ V3.heap.size from by have := KW.out.size; have h3 := lt_of_block HZ.out; have := HB1.out; omega)
            have hbW := hid (kW.out.at HB.out (by simp))
            have hzW := hid (kW.out.at HZ.out (by simp))
            have g0 : (V3.alloc (.cells #[] 75)).cell? ⟨b0, 0, none⟩ = some ((.slice ra n rc)) := by rw [← HW.out, cell_of_row _ _ 0 _ _ _ hbW.out]; rfl
            have hat9 : at0 ≤ 5000 := by have := hat1.out; have := hm4.out; omega
            have hn19 : n1 ≤ 5000 := by rw [hn1]; exact Nat.le_trans hm4.out (by decide)
            have hown0 : W.ownsRow V3.heap.size 75 2 (.slice (some ⟨V3.heap.size, 0, none⟩) 0 0) 0 [] := ⟨by simp, Or.inr ⟨V3.heap.size, 0, #[], rfl, Nat.le_refl _, hb2.out, by simp, by unfold maxLen; omega, by simp, by simp⟩⟩
            have hone1 := one_of (es := (es).take at0) (w := V3) (fun e he => HR3.out.th e (List.mem_of_mem_take he))
            have hone2 := hid (one_of (es := (es).drop at0) (w := V3) (fun e he => HR3.out.th e (List.mem_of_mem_drop he)))
            clear hW hv1 hv2 hn1
            go_wp2_with (at_builtin; refine halt ?_)
            refine Halt.mk ?_
            rw [← HW.out]
            refine wpList_append_k _ rfl _ _ _ rfl V3.heap.size 75 i0 _ 2 40 Try.underlying33 hi0 hz0 hz1 hz2 rfl (by decide) (.slice (some ⟨V3.heap.size, 0, none⟩) 0 0) 0 [] rfl hown0 (.slice a1 at0 d1) at0 (thC ((es).take at0)) rfl (HV1.out W (kW.out.owns HR3.out.row (by simp))) (by rw [thC_len, List.length_take]; have := hat1.out; omega) hone1 (by unfold maxLen; omega) (by omega) (by have := kW.out.size; omega) ?_
            intro v4 w4 hown4 hgr4 _ hf4
            obtain ⟨a4, d4, hv4⟩ := owns_slice hown4
            rw [Nat.zero_add] at hv4
            subst hv4
            have k4 := hid (show Kept [V3.heap.size] W w4 from Kept.of_row hgr4)
            have hown4' := hid (show w4.ownsRow V3.heap.size 75 2 (.slice a4 at0 d4) at0 (thC ((es).take at0)) from by simpa using hown4)
            have kV4 := hid (show Kept [] V3 w4 from kW.out.trans' k4.out (fun x hx hm => by simp at hm; omega))
            have hblk : ∀ {v : Value} {n : Nat} {xs : List Value} {u : World}, u.ownsRow V3.heap.size 75 2 v n xs → ∀ g, v.ownBlock = some g → g ≠ b0 ∧ g ≠ b1 := fun ho g hg => by
              have h1 := (ho.lt g hg).1
              have := HB0.out; have := HB1.out; have := hszV.out
              omega
            have hb04 := hid (kV4.out.at HB.out (by simp))
            have hb14 := hid (kV4.out.at HZ.out (by simp))
            clear hown4 hgr4 hf4 hown0 hone1 g0
            obtain ⟨W5, hW5⟩ : ∃ W5, W5 = w4.alloc (.cells #[.string (S nm), .slice ba nb bc] 75) := ⟨_, rfl⟩
            have HW5 := hid hW5
            have k45 := hid (show Kept [] w4 W5 from hW5 ▸ (Kept.refl [] w4).alloc _)
            have hb5 := hid (show W5.heap[w4.heap.size]? = some (.cells [.string (S nm), .slice ba nb bc].toArray 75 (0, 0)) from hW5 ▸ heap_alloc_at rfl)
            clear hW5
            go_wp2_with (at_builtin; refine halt ?_)
            refine Halt.mk ?_
            rw [← HW5.out]
            refine wpList_append_k _ rfl _ _ _ rfl V3.heap.size 75 i0 _ 2 40 Try.underlying33 hi0 hz0 hz1 hz2 rfl (by decide) (.slice a4 at0 d4) at0 (thC ((es).take at0)) rfl (k45.out.owns hown4'.out (by simp)) (.slice (some ⟨w4.heap.size, 0, none⟩) 1 1) 1 [.string (S nm), .slice ba nb bc] rfl (Or.inr ⟨_, _, rfl, cells_of hb5.out⟩) rfl (by intro u hu; simp at hu; rcases hu with rfl | rfl <;> rfl) (by unfold maxLen; omega) (by omega) (by have := kV4.out.size; have := k45.out.size; omega) ?_
            intro v6 w6 hown6 hgr6 _ hf6
            obtain ⟨a6, d6, hv6⟩ := owns_slice hown6
            subst hv6
            have OW6 := hid hown6
            have k6 := hid (show Kept (Value.slice a4 at0 d4).ownBlock.toList W5 w6 from Kept.of_row hgr6)
            have hnb4 := hid (fun x (hx : x ∈ (Value.slice a4 at0 d4).ownBlock.toList) => hblk hown4'.out x (by simpa using hx))
            have kV6 := hid (show Kept [] V3 w6 from (kV4.out.trans k45.out).trans' k6.out (fun x hx hm => by
              exfalso
              have hm' : (Value.slice a4 at0 d4).ownBlock = some x := by simpa using hm
              have := (hown4'.out.lt x hm').1
              omega))
            have hb06 := hid (kV6.out.at HB.out (by simp))
            have hb16 := hid (kV6.out.at HZ.out (by simp))
            have g0 : w6.cell? ⟨b0, 0, none⟩ = some ((.slice ra n rc)) := by rw [cell_of_row _ _ 0 _ _ _ hb06.out]; rfl
            clear hown6 hgr6 hf6
            go_wp2_with (at_builtin; refine halt ?_)
            refine Halt.mk ?_
            refine wpList_append_k _ rfl _ _ _ rfl V3.heap.size 75 i0 _ 2 40 Try.underlying33 hi0 hz0 hz1 hz2 rfl (by decide) (.slice a6 (at0 + 1) d6) (at0 + 1) (thC ((es).take at0) ++ [.string (S nm), .slice ba nb bc]) rfl OW6.out (.slice a2 (n1 - at0) d2) (n1 - at0) (thC ((es).drop at0)) rfl (by have := HV2.out w6 (kV6.out.owns HR3.out.row (by simp)); rw [← HN1.out] at this; exact this) (by rw [thC_len, List.length_drop, HN1.out]) hone2.out (by unfold maxLen; omega) (by omega) (by have := kV6.out.size; omega) ?_
            intro v7 w7 hown7 hgr7 _ hf7
            obtain ⟨m, hmm⟩ : ∃ m, m = at0 + 1 + (n1 - at0) := ⟨_, rfl⟩
            rw [← hmm] at hown7
            obtain ⟨a7, d7, hv7⟩ := owns_slice hown7
            subst hv7
            have HMM := hid hmm
            have OW7 := hid hown7
            have k7 := hid (show Kept (Value.slice a6 (at0 + 1) d6).ownBlock.toList w6 w7 from Kept.of_row hgr7)
            have kV7 := hid (show Kept [] V3 w7 from kV6.out.trans' k7.out (fun x hx hm => by
              exfalso
              have hm' : (Value.slice a6 (at0 + 1) d6).ownBlock = some x := by simpa using hm
              have := (OW6.out.lt x hm').1
              omega))
            have hb07 := hid (kV7.out.at HB.out (by simp))
            have hb17 := hid (kV7.out.at HZ.out (by simp))
            have g7 : w7.cell? ⟨b0, 0, none⟩ = some ((.slice ra n rc)) := by rw [cell_of_row _ _ 0 _ _ _ hb07.out]; rfl
            have f7 : w7.frozen? ⟨b0, 0, none⟩ = false := free_of_row' hb07.out 0
            obtain ⟨W8, hW8⟩ : ∃ W8, W8 = w7.setCell ⟨b0, 0, none⟩ (.slice a7 m d7) := ⟨_, rfl⟩
            have HW8 := hid hW8
            have k8 := hid (show Kept [b0] w7 W8 from hW8 ▸ (Kept.refl _ _).setCell (p := ⟨b0, 0, none⟩) (fun _ => by simp) _)
            have HB8 := hid (show W8.heap[b0]? = some (.cells [.slice a7 m d7, .int .i64 q, .int .i64 k2, .int .i64 l2, flv2].toArray 35 (0, 0)) from by rw [hW8, Go.heap_setCell_same w7 b0 0 _ _ _ hb07.out]; rfl)
            have hnb := hid (hblk OW7.out)
            have KW8 := hid (show Kept [] w W8 from (KW.out.trans kV7.out).trans' k8.out (fun x hx hm => by simp at hm; subst hm; have := HB0.out; omega))
            have HZ8 := hid (k8.out.at hb17.out (by simp; have := HB0.out; have := HB1.out; omega))
            have OW8 := hid (k8.out.owns OW7.out (fun g hg hm => by simp at hm; exact (hnb.out g hg).1 hm))
            have HF8 := hid ((HF2.out.kept kV7.out (by simp)).kept k8.out (fun x hx hm => by simp at hm; subst hm; have := HTB.out x hx; have := HB0.out; omega))
            clear hown7 hgr7 hf7 hmm g0 hblk hW8 hs1 hs2 hone2
            replace HB := HB8; replace HZ := HZ8; replace KW := KW8; replace HF2 := HF8
            have hb8L : (w7.setCell ⟨b0, 0, none⟩ (.slice a7 m d7)).heap[b0]? = some (.cells [.slice a7 m d7, .int .i64 q, .int .i64 k2, .int .i64 l2, flv2].toArray 35 (0, 0)) := by rw [← HW8.out]; exact HB.out
            go_wp2_with (refine wpList_load_cells rfl 35 (.tmp 3) rfl ⟨b0, 0, none⟩ rfl [.slice a7 m d7, .int .i64 q, .int .i64 k2, .int .i64 l2, flv2] _ Try.underlying35 rfl (by kernel_rfl) (cells_of hb8L) ?_; refine halt ?_)
            refine Halt.mk ?_
            rw [← HW8.out]
            have kz := hid (show Kept [b1] W8 (W8.setRow b1 (splice [.slice none 0 0, .int .i64 0, .int .i64 0, .int .i64 0, .slice none 0 0] 0 [.slice a7 m d7, .int .i64 q, .int .i64 k2, .int .i64 l2, flv2]).toArray) from (Kept.refl _ _).setRow (fun _ => by simp) _)
            have hld := hid (ref_st (W8.setRow b1 (splice [.slice none 0 0, .int .i64 0, .int .i64 0, .int .i64 0, .slice none 0 0] 0 [.slice a7 m d7, .int .i64 q, .int .i64 k2, .int .i64 l2, flv2]).toArray) b1 (.slice a7 m d7) q k2 l2 flv2 (setRow_heap _ _ _ _ _ _ HZ.out))
            go_wp2_with (refine wpList_store_at rfl 35 (.tmp 6) (.tmp 88) rfl b1 0 [.slice a7 m d7, .int .i64 q, .int .i64 k2, .int .i64 l2, flv2] rfl rfl 35 [.slice none 0 0, .int .i64 0, .int .i64 0, .int .i64 0, .slice none 0 0] HZ.out (by kernel_rfl) (by simp) (one5 hflv2 _ _ _ _ _ _) ?_; refine halt ?_)
            refine Halt.mk ?_
            go_wp2_with fail
            refine bodyPost_ret (v := .tuple #[stR (.slice a7 m d7) q k2 l2 flv2, .int .i64 0]) (results_cell2 Try.results25 rfl rfl hld.out) rfl ?_
            have kf := KW.out.trans' kz.out (fun x hx hm => by simp at hm; subst hm; have := HB1.out; omega)
            refine ⟨_, flv2, by first | (rw [HER.out]; done) | (rw [HER.out]; rfl), kf, ⟨w.heap.size, ?_⟩, fun g hg => Or.inr ?_, HF2.out.kept kz.out (fun x hx hm => by simp at hm; subst hm; have := HTB.out x hx; have := HB1.out; omega)⟩
            · have e3 : ifOKL er (putE ⟨nm, .slice ba nb bc, bs⟩ es) es = (es).take at0 ++ ⟨nm, .slice ba nb bc, bs⟩ :: (es).drop at0 := by unfold ifOKL; rw [if_pos HER.out]; exact HPUT.out
              rw [e3]
              have e1 : thC ((es).take at0 ++ ⟨nm, .slice ba nb bc, bs⟩ :: (es).drop at0) = thC ((es).take at0) ++ [.string (S nm), .slice ba nb bc] ++ thC ((es).drop at0) := by
                unfold thC
                rw [List.flatMap_append, List.flatMap_cons]
                simp [thE]
              have e2 : ((es).take at0 ++ ⟨nm, .slice ba nb bc, bs⟩ :: (es).drop at0).length = m := by
                rw [List.length_append, List.length_take, List.length_cons, List.length_drop, HMM.out]
                have := hat1.out; have := HN1.out
                omega
              have ho := kz.out.owns OW8.out (fun g hg hm => by simp at hm; exact (hnb.out g hg).2 hm)
              refine ⟨?_, fun e he => ?_, kf.size⟩
              · rw [e1, e2]
                exact owns_low ho (by have := hszV.out; omega)
              · rcases List.mem_append.1 he with g | g
                · exact HTH.out e (HSUB.out e (List.mem_of_mem_take g)) _ kf
                · rcases List.mem_cons.1 g with rfl | g
                  · exact ⟨ba, bc, by rw [HNB.out], by rw [← HNB.out]; exact HBS.out _ kf⟩
                  · exact HTH.out e (HSUB.out e (List.mem_of_mem_drop g)) _ kf
            · have h1 := (OW8.out.lt g hg).1
              have := hszV.out
              omega
        · obtain ⟨en, hen⟩ : ∃ en, findE nm es = some en := by
            have h1 := HTF.out.1
            rw [← HTH2.out] at h1
            exact Option.isSome_iff_exists.1 h1.symm
          have hlb : lookB nm es = en.b := by unfold lookB; rw [hen]
          have hget : es[at0]? = some en := by rw [HAT.out]; exact HTF.out.2 en hen
          have hatl := (List.getElem?_eq_some_iff.1 hget).1
          obtain ⟨x, rfl⟩ : ∃ x, ra = some x := by
            cases ra with
            | none => exact absurd (hrT3.out.1 rfl) (fun e => by rw [e] at hatl; simp at hatl)
            | some x => exact ⟨x, rfl⟩
          obtain ⟨q0, q1, ea, ec, hev, -⟩ := hrT3.out.2 x rfl at0 en hget
          rw [hev] at q1
          have hatn : at0 < n := by rw [HN.out]; exact hatl
          obtain ⟨el, hel⟩ : ∃ el, el = en.b.length := ⟨_, rfl⟩
          rw [← hel] at q1
          have hels : el ≤ sz := by rw [hel, HSZE.out]; exact sizeE_mem (List.mem_of_getElem? hget)
          have hw2 : IntKind.i64.wrap ((sz : Int) + (nb : Int) - (el : Int)) = (sz : Int) + (nb : Int) - (el : Int) := by rw [IntKind.wrap_i64]; omega
          have HEL := hid hel
          by_cases hqq : q < (sz : Int) + (nb : Int) - (el : Int)
          · have HER := hid (show er = 31 from by rw [hER.out]; exact putErr_room HO.out HOK.out HLG.out (by rw [hlb, ← HSZE.out, ← hel]; omega))
            clear hlb hget hatl q0 hev hel
            have kz := hid (show Kept [b1] V3 (V3.setRow b1 (splice [.slice none 0 0, .int .i64 0, .int .i64 0, .int .i64 0, .slice none 0 0] 0 [.slice (some x) n rc, .int .i64 q, .int .i64 k2, .int .i64 l2, flv2]).toArray) from (Kept.refl _ _).setRow (fun _ => by simp) _)
            have hld := hid (ref_st (V3.setRow b1 (splice [.slice none 0 0, .int .i64 0, .int .i64 0, .int .i64 0, .slice none 0 0] 0 [.slice (some x) n rc, .int .i64 q, .int .i64 k2, .int .i64 l2, flv2]).toArray) b1 (.slice (some x) n rc) q k2 l2 flv2 (setRow_heap _ _ _ _ _ _ HZ.out))
            go_wp2_with (refine wpList_store_at rfl 35 (.tmp 6) (.tmp 55) rfl b1 0 [.slice (some x) n rc, .int .i64 q, .int .i64 k2, .int .i64 l2, flv2] rfl rfl 35 [.slice none 0 0, .int .i64 0, .int .i64 0, .int .i64 0, .slice none 0 0] HZ.out (by kernel_rfl) (by simp) (one5 hflv2 _ _ _ _ _ _) ?_; refine halt ?_)
            refine Halt.mk ?_
            go_wp2_with fail
            refine bodyPost_ret (v := .tuple #[stR (.slice (some x) n rc) q k2 l2 flv2, .int .i64 31]) (results_cell2 Try.results25 rfl rfl hld.out) rfl ?_
            have kf := KW.out.trans' kz.out (fun x hx hm => by simp at hm; subst hm; have := HB1.out; omega)
            exact ⟨_, flv2, by first | (rw [HER.out]; done) | (rw [HER.out]; rfl), kf, ⟨base, by have h1 := H.out.keep kf; unfold ifOKL; rw [if_neg (by have := HER.out; omega)]; exact h1⟩, fun g hg => Or.inl hg, HF2.out.kept kz.out (fun x hx hm => by simp at hm; subst hm; have := HTB.out x hx; have := HB1.out; omega)⟩
          · have HER := hid (show er = 0 from by rw [hER.out]; exact putErr_ok HO.out HOK.out HLG.out (by rw [hlb, ← HSZE.out, ← hel]; omega) (Or.inl (by rw [hen]; rfl)))
            have hwo := hid (by
              have h1 := ref_without (.slice (some x) n rc) es q k2 l2 flv2 base V3 HR3.out at0 (by rw [← HN.out]; exact hatn) (by have := HN.out; omega) hflv2
              unfold stR at h1
              exact h1)
            have HPUT := hid (show putE ⟨nm, .slice ba nb bc, bs⟩ es = (es.take at0 ++ es.drop (at0 + 1)).take at0 ++ ⟨nm, .slice ba nb bc, bs⟩ :: (es.take at0 ++ es.drop (at0 + 1)).drop at0 from by rw [HAT.out]; exact HPT.out en hen)
            have hat1 := hid (show at0 ≤ (es.take at0 ++ es.drop (at0 + 1)).length from by rw [List.length_append, List.length_take, List.length_drop]; omega)
            have hm4 := hid (show (es.take at0 ++ es.drop (at0 + 1)).length ≤ 4000 from by rw [List.length_append, List.length_take, List.length_drop]; have := HN.out; omega)
            have HSUB := hid (show ∀ e, e ∈ es.take at0 ++ es.drop (at0 + 1) → e ∈ es from fun e he => by
              rcases List.mem_append.1 he with g | g
              · exact List.mem_of_mem_take g
              · exact List.mem_of_mem_drop g)
            obtain ⟨es1, hes1⟩ : ∃ es1, es1 = es.take at0 ++ es.drop (at0 + 1) := ⟨_, rfl⟩
            rw [← hes1] at hwo HPUT hat1 hm4 HSUB
            clear hlb hget hatl q0 hev hel hes1 hen
            go_wp2_with fail
            refine hwo.out.mono ?_
            rintro e w4 ⟨rv4, rfl, k4x, rf4⟩
            obtain ⟨ra4, rc4, hrv4⟩ := rf4.slice
            obtain ⟨n4, hn4⟩ : ∃ n4, n4 = es1.length := ⟨_, rfl⟩
            rw [← hn4] at hrv4
            subst hrv4
            have HN4 := hid hn4
            have RF4 := hid rf4
            have hx4 := k4x.at HB.out (by simp)
            obtain ⟨V5, hV5⟩ : ∃ V5, V5 = w4.setRow b0 (splice [.slice (some x) n rc, .int .i64 q, .int .i64 k2, .int .i64 l2, flv2] 0 [.slice ra4 n4 rc4, .int .i64 q, .int .i64 k2, .int .i64 l2, flv2]).toArray := ⟨_, rfl⟩
            have HV5 := hid hV5
            have kr5 := hid (show Kept [b0] w4 V5 from hV5 ▸ (Kept.refl _ _).setRow (fun _ => by simp) _)
            have HB5 := hid (show V5.heap[b0]? = some (.cells [.slice ra4 n4 rc4, .int .i64 q, .int .i64 k2, .int .i64 l2, flv2].toArray 35 (0, 0)) from by rw [hV5]; exact setRow_heap _ _ _ _ _ _ hx4)
            have HZ5 := hid (kr5.out.at (k4x.at HZ.out (by simp)) (by simp; have := HB0.out; have := HB1.out; omega))
            have KW5 := hid (show Kept [] w V5 from (KW.out.trans k4x).trans' kr5.out (fun x hx hm => by simp at hm; subst hm; have := HB0.out; omega))
            have HF5 := hid ((HF2.out.kept k4x (by simp)).kept kr5.out (fun x hx hm => by simp at hm; subst hm; have := HTB.out x hx; have := HB0.out; omega))
            have hb0V := hid (show b0 < V3.heap.size from lt_of_block HB.out)
            have RF5 := hid (show Rf V5 V3.heap.size (.slice ra4 n4 rc4) es1 from ⟨kr5.out.owns rf4.row (fun g hg hm => by simp at hm; have := (rf4.row.lt g hg).1; have := hb0V.out; omega), fun e he => HTH.out e (HSUB.out e he) _ KW5.out, Nat.le_trans rf4.low kr5.out.size⟩)
            clear hn4 hwo k4x rf4 hV5 c0 c1 c2 c3 c4
            go_wp2_with (refine wpList_store_at rfl 35 (.tmp 3) (.tmp 68) rfl b0 0 [.slice ra4 n4 rc4, .int .i64 q, .int .i64 k2, .int .i64 l2, flv2] rfl rfl 35 [.slice (some x) n rc, .int .i64 q, .int .i64 k2, .int .i64 l2, flv2] hx4 (by kernel_rfl) (by simp) (one5 hflv2 _ _ _ _ _ _) ?_; refine halt ?_)
            refine Halt.mk ?_
            rw [← HV5.out]
            clear hx4
            replace HB := HB5; replace HZ := HZ5; replace KW := KW5; replace HF2 := HF5
            have c0 : V5.cell? ⟨b0, 0, none⟩ = some (.slice ra4 n4 rc4) := by rw [cell_of_row _ _ 0 _ _ _ HB.out]; rfl
            have c1 : V5.cell? ⟨b0, 1, none⟩ = some (.int .i64 q) := by rw [cell_of_row _ _ 1 _ _ _ HB.out]; rfl
            have c2 : V5.cell? ⟨b0, 2, none⟩ = some (.int .i64 k2) := by rw [cell_of_row _ _ 2 _ _ _ HB.out]; rfl
            have c3 : V5.cell? ⟨b0, 3, none⟩ = some (.int .i64 l2) := by rw [cell_of_row _ _ 3 _ _ _ HB.out]; rfl
            have c4 : V5.cell? ⟨b0, 4, none⟩ = some (flv2) := by rw [cell_of_row _ _ 4 _ _ _ HB.out]; rfl
            have htk := hid (th_take (.slice ra4 n4 rc4) es1 V5 V3.heap.size RF5.out.row at0 hat1.out)
            have htd := hid (th_drop (.slice ra4 n4 rc4) es1 V5 V3.heap.size RF5.out.row at0 hat1.out)
            obtain ⟨a1, d1, hs1, hv1⟩ := htk.out
            obtain ⟨a2, d2, hs2, hv2⟩ := htd.out
            obtain ⟨n1, hn1⟩ : ∃ n1, n1 = (es1).length := ⟨_, rfl⟩
            have HN1 := hid hn1
            rw [← hn1] at hs2
            have HV1 := hid hv1; have HV2 := hid hv2
            obtain ⟨W, hW⟩ : ∃ W, W = V5.alloc (.cells #[] 75) := ⟨_, rfl⟩
            have HW := hid hW
            have kW := hid (show Kept [] V5 W from hW ▸ (Kept.refl [] V5).alloc _)
            have hb2 := hid (show W.heap[V5.heap.size]? = some (.cells #[] 75 (0, 0)) from hW ▸ heap_alloc_at rfl)
            have hszV := hid (show w.heap.size + 2 ≤ V5.heap.size from by have := KW.out.size; have h3 := lt_of_block HZ.out; have := HB1.out; omega)
            have hbW := hid (kW.out.at HB.out (by simp))
            have hzW := hid (kW.out.at HZ.out (by simp))
            have g0 : (V5.alloc (.cells #[] 75)).cell? ⟨b0, 0, none⟩ = some ((.slice ra4 n4 rc4)) := by rw [← HW.out, cell_of_row _ _ 0 _ _ _ hbW.out]; rfl
            have hat9 : at0 ≤ 5000 := by have := hat1.out; have := hm4.out; omega
            have hn19 : n1 ≤ 5000 := by rw [hn1]; exact Nat.le_trans hm4.out (by decide)
            have hown0 : W.ownsRow V5.heap.size 75 2 (.slice (some ⟨V5.heap.size, 0, none⟩) 0 0) 0 [] := ⟨by simp, Or.inr ⟨V5.heap.size, 0, #[], rfl, Nat.le_refl _, hb2.out, by simp, by unfold maxLen; omega, by simp, by simp⟩⟩
            have hone1 := one_of (es := (es1).take at0) (w := V5) (fun e he => RF5.out.th e (List.mem_of_mem_take he))
            have hone2 := hid (one_of (es := (es1).drop at0) (w := V5) (fun e he => RF5.out.th e (List.mem_of_mem_drop he)))
            clear hW hv1 hv2 hn1
            go_wp2_with (at_builtin; refine halt ?_)
            refine Halt.mk ?_
            rw [← HW.out]
            refine wpList_append_k _ rfl _ _ _ rfl V5.heap.size 75 i0 _ 2 40 Try.underlying33 hi0 hz0 hz1 hz2 rfl (by decide) (.slice (some ⟨V5.heap.size, 0, none⟩) 0 0) 0 [] rfl hown0 (.slice a1 at0 d1) at0 (thC ((es1).take at0)) rfl (HV1.out W (kW.out.owns RF5.out.row (by simp))) (by rw [thC_len, List.length_take]; have := hat1.out; omega) hone1 (by unfold maxLen; omega) (by omega) (by have := kW.out.size; omega) ?_
            intro v4 w4 hown4 hgr4 _ hf4
            obtain ⟨a4, d4, hv4⟩ := owns_slice hown4
            rw [Nat.zero_add] at hv4
            subst hv4
            have k4 := hid (show Kept [V5.heap.size] W w4 from Kept.of_row hgr4)
            have hown4' := hid (show w4.ownsRow V5.heap.size 75 2 (.slice a4 at0 d4) at0 (thC ((es1).take at0)) from by simpa using hown4)
            have kV4 := hid (show Kept [] V5 w4 from kW.out.trans' k4.out (fun x hx hm => by simp at hm; omega))
            have hblk : ∀ {v : Value} {n : Nat} {xs : List Value} {u : World}, u.ownsRow V5.heap.size 75 2 v n xs → ∀ g, v.ownBlock = some g → g ≠ b0 ∧ g ≠ b1 := fun ho g hg => by
              have h1 := (ho.lt g hg).1
              have := HB0.out; have := HB1.out; have := hszV.out
              omega
            have hb04 := hid (kV4.out.at HB.out (by simp))
            have hb14 := hid (kV4.out.at HZ.out (by simp))
            clear hown4 hgr4 hf4 hown0 hone1 g0
            obtain ⟨W5, hW5⟩ : ∃ W5, W5 = w4.alloc (.cells #[.string (S nm), .slice ba nb bc] 75) := ⟨_, rfl⟩
            have HW5 := hid hW5
            have k45 := hid (show Kept [] w4 W5 from hW5 ▸ (Kept.refl [] w4).alloc _)
            have hb5 := hid (show W5.heap[w4.heap.size]? = some (.cells [.string (S nm), .slice ba nb bc].toArray 75 (0, 0)) from hW5 ▸ heap_alloc_at rfl)
            clear hW5
            go_wp2_with (at_builtin; refine halt ?_)
            refine Halt.mk ?_
            rw [← HW5.out]
            refine wpList_append_k _ rfl _ _ _ rfl V5.heap.size 75 i0 _ 2 40 Try.underlying33 hi0 hz0 hz1 hz2 rfl (by decide) (.slice a4 at0 d4) at0 (thC ((es1).take at0)) rfl (k45.out.owns hown4'.out (by simp)) (.slice (some ⟨w4.heap.size, 0, none⟩) 1 1) 1 [.string (S nm), .slice ba nb bc] rfl (Or.inr ⟨_, _, rfl, cells_of hb5.out⟩) rfl (by intro u hu; simp at hu; rcases hu with rfl | rfl <;> rfl) (by unfold maxLen; omega) (by omega) (by have := kV4.out.size; have := k45.out.size; omega) ?_
            intro v6 w6 hown6 hgr6 _ hf6
            obtain ⟨a6, d6, hv6⟩ := owns_slice hown6
            subst hv6
            have OW6 := hid hown6
            have k6 := hid (show Kept (Value.slice a4 at0 d4).ownBlock.toList W5 w6 from Kept.of_row hgr6)
            have hnb4 := hid (fun x (hx : x ∈ (Value.slice a4 at0 d4).ownBlock.toList) => hblk hown4'.out x (by simpa using hx))
            have kV6 := hid (show Kept [] V5 w6 from (kV4.out.trans k45.out).trans' k6.out (fun x hx hm => by
              exfalso
              have hm' : (Value.slice a4 at0 d4).ownBlock = some x := by simpa using hm
              have := (hown4'.out.lt x hm').1
              omega))
            have hb06 := hid (kV6.out.at HB.out (by simp))
            have hb16 := hid (kV6.out.at HZ.out (by simp))
            have g0 : w6.cell? ⟨b0, 0, none⟩ = some ((.slice ra4 n4 rc4)) := by rw [cell_of_row _ _ 0 _ _ _ hb06.out]; rfl
            clear hown6 hgr6 hf6
            go_wp2_with (at_builtin; refine halt ?_)
            refine Halt.mk ?_
            refine wpList_append_k _ rfl _ _ _ rfl V5.heap.size 75 i0 _ 2 40 Try.underlying33 hi0 hz0 hz1 hz2 rfl (by decide) (.slice a6 (at0 + 1) d6) (at0 + 1) (thC ((es1).take at0) ++ [.string (S nm), .slice ba nb bc]) rfl OW6.out (.slice a2 (n1 - at0) d2) (n1 - at0) (thC ((es1).drop at0)) rfl (by have := HV2.out w6 (kV6.out.owns RF5.out.row (by simp)); rw [← HN1.out] at this; exact this) (by rw [thC_len, List.length_drop, HN1.out]) hone2.out (by unfold maxLen; omega) (by omega) (by have := kV6.out.size; omega) ?_
            intro v7 w7 hown7 hgr7 _ hf7
            obtain ⟨m, hmm⟩ : ∃ m, m = at0 + 1 + (n1 - at0) := ⟨_, rfl⟩
            rw [← hmm] at hown7
            obtain ⟨a7, d7, hv7⟩ := owns_slice hown7
            subst hv7
            have HMM := hid hmm
            have OW7 := hid hown7
            have k7 := hid (show Kept (Value.slice a6 (at0 + 1) d6).ownBlock.toList w6 w7 from Kept.of_row hgr7)
            have kV7 := hid (show Kept [] V5 w7 from kV6.out.trans' k7.out (fun x hx hm => by
              exfalso
              have hm' : (Value.slice a6 (at0 + 1) d6).ownBlock = some x := by simpa using hm
              have := (OW6.out.lt x hm').1
              omega))
            have hb07 := hid (kV7.out.at HB.out (by simp))
            have hb17 := hid (kV7.out.at HZ.out (by simp))
            have g7 : w7.cell? ⟨b0, 0, none⟩ = some ((.slice ra4 n4 rc4)) := by rw [cell_of_row _ _ 0 _ _ _ hb07.out]; rfl
            have f7 : w7.frozen? ⟨b0, 0, none⟩ = false := free_of_row' hb07.out 0
            obtain ⟨W8, hW8⟩ : ∃ W8, W8 = w7.setCell ⟨b0, 0, none⟩ (.slice a7 m d7) := ⟨_, rfl⟩
            have HW8 := hid hW8
            have k8 := hid (show Kept [b0] w7 W8 from hW8 ▸ (Kept.refl _ _).setCell (p := ⟨b0, 0, none⟩) (fun _ => by simp) _)
            have HB8 := hid (show W8.heap[b0]? = some (.cells [.slice a7 m d7, .int .i64 q, .int .i64 k2, .int .i64 l2, flv2].toArray 35 (0, 0)) from by rw [hW8, Go.heap_setCell_same w7 b0 0 _ _ _ hb07.out]; rfl)
            have hnb := hid (hblk OW7.out)
            have KW8 := hid (show Kept [] w W8 from (KW.out.trans kV7.out).trans' k8.out (fun x hx hm => by simp at hm; subst hm; have := HB0.out; omega))
            have HZ8 := hid (k8.out.at hb17.out (by simp; have := HB0.out; have := HB1.out; omega))
            have OW8 := hid (k8.out.owns OW7.out (fun g hg hm => by simp at hm; exact (hnb.out g hg).1 hm))
            have HF8 := hid ((HF2.out.kept kV7.out (by simp)).kept k8.out (fun x hx hm => by simp at hm; subst hm; have := HTB.out x hx; have := HB0.out; omega))
            clear hown7 hgr7 hf7 hmm g0 hblk hW8 hs1 hs2 hone2
            replace HB := HB8; replace HZ := HZ8; replace KW := KW8; replace HF2 := HF8
            have hb8L : (w7.setCell ⟨b0, 0, none⟩ (.slice a7 m d7)).heap[b0]? = some (.cells [.slice a7 m d7, .int .i64 q, .int .i64 k2, .int .i64 l2, flv2].toArray 35 (0, 0)) := by rw [← HW8.out]; exact HB.out
            go_wp2_with (refine wpList_load_cells rfl 35 (.tmp 3) rfl ⟨b0, 0, none⟩ rfl [.slice a7 m d7, .int .i64 q, .int .i64 k2, .int .i64 l2, flv2] _ Try.underlying35 rfl (by kernel_rfl) (cells_of hb8L) ?_; refine halt ?_)
            refine Halt.mk ?_
            rw [← HW8.out]
            have kz := hid (show Kept [b1] W8 (W8.setRow b1 (splice [.slice none 0 0, .int .i64 0, .int .i64 0, .int .i64 0, .slice none 0 0] 0 [.slice a7 m d7, .int .i64 q, .int .i64 k2, .int .i64 l2, flv2]).toArray) from (Kept.refl _ _).setRow (fun _ => by simp) _)
            have hld := hid (ref_st (W8.setRow b1 (splice [.slice none 0 0, .int .i64 0, .int .i64 0, .int .i64 0, .slice none 0 0] 0 [.slice a7 m d7, .int .i64 q, .int .i64 k2, .int .i64 l2, flv2]).toArray) b1 (.slice a7 m d7) q k2 l2 flv2 (setRow_heap _ _ _ _ _ _ HZ.out))
            go_wp2_with (refine wpList_store_at rfl 35 (.tmp 6) (.tmp 88) rfl b1 0 [.slice a7 m d7, .int .i64 q, .int .i64 k2, .int .i64 l2, flv2] rfl rfl 35 [.slice none 0 0, .int .i64 0, .int .i64 0, .int .i64 0, .slice none 0 0] HZ.out (by kernel_rfl) (by simp) (one5 hflv2 _ _ _ _ _ _) ?_; refine halt ?_)
            refine Halt.mk ?_
            go_wp2_with fail
            refine bodyPost_ret (v := .tuple #[stR (.slice a7 m d7) q k2 l2 flv2, .int .i64 0]) (results_cell2 Try.results25 rfl rfl hld.out) rfl ?_
            have kf := KW.out.trans' kz.out (fun x hx hm => by simp at hm; subst hm; have := HB1.out; omega)
            refine ⟨_, flv2, by first | (rw [HER.out]; done) | (rw [HER.out]; rfl), kf, ⟨w.heap.size, ?_⟩, fun g hg => Or.inr ?_, HF2.out.kept kz.out (fun x hx hm => by simp at hm; subst hm; have := HTB.out x hx; have := HB1.out; omega)⟩
            · have e3 : ifOKL er (putE ⟨nm, .slice ba nb bc, bs⟩ es) es = (es1).take at0 ++ ⟨nm, .slice ba nb bc, bs⟩ :: (es1).drop at0 := by unfold ifOKL; rw [if_pos HER.out]; exact HPUT.out
              rw [e3]
              have e1 : thC ((es1).take at0 ++ ⟨nm, .slice ba nb bc, bs⟩ :: (es1).drop at0) = thC ((es1).take at0) ++ [.string (S nm), .slice ba nb bc] ++ thC ((es1).drop at0) := by
                unfold thC
                rw [List.flatMap_append, List.flatMap_cons]
                simp [thE]
              have e2 : ((es1).take at0 ++ ⟨nm, .slice ba nb bc, bs⟩ :: (es1).drop at0).length = m := by
                rw [List.length_append, List.length_take, List.length_cons, List.length_drop, HMM.out]
                have := hat1.out; have := HN1.out
                omega
              have ho := kz.out.owns OW8.out (fun g hg hm => by simp at hm; exact (hnb.out g hg).2 hm)
              refine ⟨?_, fun e he => ?_, kf.size⟩
              · rw [e1, e2]
                exact owns_low ho (by have := hszV.out; omega)
              · rcases List.mem_append.1 he with g | g
                · exact HTH.out e (HSUB.out e (List.mem_of_mem_take g)) _ kf
                · rcases List.mem_cons.1 g with rfl | g
                  · exact ⟨ba, bc, by rw [HNB.out], by rw [← HNB.out]; exact HBS.out _ kf⟩
                  · exact HTH.out e (HSUB.out e (List.mem_of_mem_drop g)) _ kf
            · have h1 := (OW8.out.lt g hg).1
              have := hszV.out
              omega
  · have HER := hid (show er = opE fl from by rw [hER.out]; exact putErr_op ho)
    obtain ⟨oe, hoe⟩ : ∃ oe, oe = opE fl := ⟨_, rfl⟩
    have hob : (oe == 0) = false := by rw [hoe]; simpa using ho
    have HOE := hid (show oe ≠ 0 from by rw [hoe]; exact ho)
    rw [← hoe] at HER ⊢
    clear hoe ho
    have kz := hid (show Kept [b1] V1 (V1.setRow b1 (splice [.slice none 0 0, .int .i64 0, .int .i64 0, .int .i64 0, .slice none 0 0] 0 [.slice ra n rc, .int .i64 q, .int .i64 k2, .int .i64 l2, flv2]).toArray) from (Kept.refl _ _).setRow (fun _ => by simp) _)
    have hld := hid (ref_st (V1.setRow b1 (splice [.slice none 0 0, .int .i64 0, .int .i64 0, .int .i64 0, .slice none 0 0] 0 [.slice ra n rc, .int .i64 q, .int .i64 k2, .int .i64 l2, flv2]).toArray) b1 (.slice ra n rc) q k2 l2 flv2 (setRow_heap _ _ _ _ _ _ HZ.out))
    go_wp2_with (refine wpList_store_at rfl 35 (.tmp 6) (.tmp 20) rfl b1 0 [.slice ra n rc, .int .i64 q, .int .i64 k2, .int .i64 l2, flv2] rfl rfl 35 [.slice none 0 0, .int .i64 0, .int .i64 0, .int .i64 0, .slice none 0 0] HZ.out (by kernel_rfl) (by simp) (one5 hflv2 _ _ _ _ _ _) ?_; refine halt ?_)
    refine Halt.mk ?_
    go_wp2_with fail
    refine bodyPost_ret (v := .tuple #[stR (.slice ra n rc) q k2 l2 flv2, .int .i64 oe]) (results_cell2 Try.results25 rfl rfl hld.out) rfl ?_
    have kf := KW.out.trans' kz.out (fun x hx hm => by simp at hm; subst hm; have := HB1.out; omega)
    exact ⟨_, flv2, by first | (rw [HER.out]; done) | (rw [HER.out]; rfl), kf, ⟨base, by have h1 := H.out.keep kf; unfold ifOKL; rw [if_neg (by have := HER.out; have := HOE.out; omega)]; exact h1⟩, fun g hg => Or.inl hg, HF2.out.kept kz.out (fun x hx hm => by simp at hm; subst hm; have := HTB.out x hx; have := HB1.out; omega)⟩
end Go.Proofs.Ytmholofhmpplcaa
