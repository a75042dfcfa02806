
/- cold: Drop, Get. -/
import Derived.Test.YtnkolgamnakegaaY4
namespace Go.Proofs.Ytnkolgamnakegaa
open Go.RowKit Go.Lib Go.Maps

theorem gone_del {fl : List Bool} {es : List Ent} {nm : List UInt8} (h : gotE fl es nm = 0) : dropE fl es nm = delE nm es ∧ (findE nm es).isSome = true := by
  unfold gotE at h
  unfold dropE
  by_cases ho : opE fl = 0
  · rw [if_pos ho] at h ⊢
    refine ⟨rfl, ?_⟩
    cases hq : (findE nm es).isSome
    · rw [hq] at h; simp at h
    · rfl
  · rw [if_neg ho] at h
    exact absurd h ho
theorem gone_same {fl : List Bool} {es : List Ent} {nm : List UInt8} (h : gotE fl es nm ≠ 0) : dropE fl es nm = es := by
  unfold gotE at h
  unfold dropE
  by_cases ho : opE fl = 0
  · rw [if_pos ho] at h ⊢
    cases hq : (findE nm es).isSome
    · exact del_none (by simpa using hq)
    · rw [hq] at h; simp at h
  · rw [if_neg ho]
/-- The error of a Drop. -/
def dropC (es ss : List Ent) (fl : List Bool) (nm : List UInt8) (now least : Int) (force : Bool) : Int :=
  if force = false ∧ 0 < leftT ss nm now least then (if gotE fl es nm = 0 then 40 else gotE fl es nm) else gotE fl es nm
/-- What stays of a cold store when its operation turned it not. -/
theorem co_same {w w' : World} {U V : List Nat} {p : Nat} {q : Int} {es ss : List Ent} {fv : Value} {fl fl' : List Bool} {k k' : Nat} {jobs life least lost left left' : Int} (h : Co w U V p q es ss fv fl k jobs life least lost) (hf : FuV w (U ++ V) fv left)
    (kk : Kept (U ++ fuB fv) w w') (ho : ∀ mv, Ob w U p 62 (cmore jobs life least mv lost) q es fv fl k → Ob w' U p 62 (cmore jobs life least mv lost) q es fv fl' k') (hf' : FuV w' U fv left') :
    Kept (U ++ V ++ fuB fv) w w' ∧ Co w' U V p q es ss fv fl' k' jobs life least lost ∧ FuV w' (U ++ V) fv left' := by
  obtain ⟨⟨mv, h1, h2⟩, h3, h4, h5, h6, h7⟩ := h
  have hV : ∀ x ∈ V, x ∉ U ++ fuB fv := fun x hx hm => by
    rcases List.mem_append.1 hm with g | g
    · exact h3 x hx g
    · exact (hf.out x g).2 (by simp [hx])
  exact ⟨kk.wider (fun x _ hx => by simp at hx ⊢; rcases hx with g | g <;> simp [g]), ⟨⟨mv, ho mv h1, h2.kept kk hV⟩, h3, fun x hx => Nat.lt_of_lt_of_le (h4 x hx) kk.size, h5, h6, h7⟩, hf'.set (fun x hx hm => (hf.out x hx).2 hm)⟩
set_option maxRecDepth 100000 in
set_option maxHeartbeats 4000000 in
theorem co_drop (w : World) (U V : List Nat) (p : Nat) (q : Int) (es ss : List Ent) (fv : Value) (fl : List Bool) (k : Nat) (jobs life least lost left : Int) (h : Co w U V p q es ss fv fl k jobs life least lost) (hk : k ≤ 1099511627776) (hf : FuV w (U ++ V) fv left) (h0 : left ≠ 0)
    (nm : List UInt8) (hnm : nm.length ≤ 1000000000) (now : Int) (n1 : -9223372036854775808 ≤ now) (n2 : now ≤ 9223372036854775807) (force : Bool) (er : Int) (her : er = dropC es ss fl nm now least force) :
    Calls Try.prog 23 #[.pointer (some ⟨p, 0, none⟩), .string (S nm), .int .i64 now, .bool force] w fun e w' => e = .returned (.int .i64 er) ∧ Kept (U ++ V ++ fuB fv) w w' ∧
      Co w' U V p q (ifOK er (delE nm es) es) (ifOK er (delE nm ss) ss) fv (fl.drop 1) (k + 1) jobs life least (ifOK er (addT lost (leftT ss nm now least)) lost) ∧ FuV w' (U ++ V) fv (decL left) := by
  have HC := hid h; have HF := hid hf
  obtain ⟨⟨mv, h1, h2⟩, h3, h4, h5, h6, ⟨j1, j2, f1, f2, l1, l2, o1, o2⟩⟩ := h
  have hlf := hid (ob_left w U V p q es ss fv fl k jobs life least lost mv h1 h2 h6 l1 l2 nm hnm now n1 n2)
  have hfu : FuV w U fv left := hf.set (fun x hx hm => (hf.out x hx).2 (by simp [hm]))
  have hob := hid (fun X (hX : Kept [] w X) => h1.kept hX (by simp))
  have hm := hid (fun X (hX : Kept [] w X) => h2.kept hX (by simp))
  have hfx := hid (fun X (hX : Kept [] w X) => hfu.kept hX (by simp))
  have hdr := hid (fun X (hX : Kept [] w X) => ob_drop X U p 62 (cmore jobs life least mv lost) q es fv fl k left nm hnm (h1.kept hX (by simp)) hk (hfu.kept hX (by simp)) h0)
  have hak := hid (fun X (hX : Kept [] w X) => ob_ask X U p q es fv fl k 62 (cmore jobs life least mv lost) left nm hnm (h1.kept hX (by simp)) hk (hfu.kept hX (by simp)) h0)
  have i1 := addT_in o1 o2 (leftT_in ss nm now least).1
  have i2 := leftT_in ss nm now least
  obtain ⟨g, hg⟩ : ∃ g, g = gotE fl es nm := ⟨_, rfl⟩
  have HG := hid hg
  have HER : Hid (er = if force = false ∧ 0 < leftT ss nm now least then (if g = 0 then 40 else g) else g) := by rw [hg]; exact her
  have HMV : Hid (Mp w V mv ss) := h2
  obtain ⟨lo, hlo⟩ : ∃ lo, lo = addT lost (leftT ss nm now least) := ⟨_, rfl⟩
  have HLO := hid hlo
  rw [← hg] at hdr hak
  rw [← hlo] at i1 ⊢
  have H3 := hid h3; have H4 := hid h4; have H5 := hid h5; have H6 := hid h6
  have hpU := hid h1.hp
  have hlet := hid (fun X (hX : Kept [] w X) (W : World) (k1 : Kept (U ++ fuB fv) X W) (ob1 : Ob W U p 62 (cmore jobs life least mv lost) q (delE nm es) fv (fl.drop 1) (k + 1)) =>
    have hV : ∀ x ∈ V, x ∉ U ++ fuB fv := fun x hx hm => by
      rcases List.mem_append.1 hm with g | g
      · exact H3.out x hx g
      · exact (HF.out.out x g).2 (by simp [hx])
    ob_letgo W U V p q (delE nm es) ss fv (fl.drop 1) (k + 1) jobs life least lost mv ob1 ((h2.kept hX (by simp)).kept k1 hV) h6 h3 l1 l2 o1 o2 nm hnm now n1 n2)
  rw [← hlo] at hlet
  obtain ⟨l, hl⟩ : ∃ l, l = leftT ss nm now least := ⟨_, rfl⟩
  rw [← hl] at hlf HER i2
  clear h1 h2 h3 h4 h5 h6 hf h0 hk hfu her hg hlo hl
  cases force
  · by_cases hl : 0 < l
    · have hA := hid (show er = if g = 0 then 40 else g from by rw [HER.out, if_pos ⟨rfl, hl⟩])
      clear HER hdr hlet
      go_enter Try.func23, Try.ntmps23
      go_wp2_with fail
      refine hlf.out.mono ?_
      rintro e w1 ⟨rfl, k1⟩
      have K1 := hid k1
      have hak2 := hid (hak.out w1 k1)
      clear k1 hak hlf
      go_wp2_with fail
      refine hak2.out.mono ?_
      rintro e w2 ⟨rfl, k2, ob2, fu2⟩
      have hs := co_same (HC.out.kept K1.out (by simp)) (HF.out.kept K1.out (by simp)) (k2.wider (fun x _ hx => by
        rcases List.mem_cons.1 hx with g | g
        · subst g; simp [hpU.out]
        · simp [g])) (fl' := fl.drop 1) (k' := k + 1) (fun mv' ho => by
          have e : mv' = mv := by
            have e1 := (ob_tail ho).2.2.2.1
            have e2 := (ob_tail (hob.out w1 K1.out)).2.2.2.1
            rw [e1] at e2; simpa using e2
          subst e; exact ob2) fu2
      have hfin := hid (And.intro ((K1.out.wider (fun x _ hx => by simp at hx)).trans hs.1) hs.2)
      have her0 : er ≠ 0 := by rw [hA.out]; split <;> omega
      have hres := hid (show Kept (U ++ V ++ fuB fv) w w2 ∧ Co w2 U V p q (ifOK er (delE nm es) es) (ifOK er (delE nm ss) ss) fv (fl.drop 1) (k + 1) jobs life least (ifOK er lo lost) ∧ FuV w2 (U ++ V) fv (decL left) from by
        unfold ifOK; simp only [if_neg her0]; exact hfin.out)
      clear hs hfin k2 ob2 fu2 her0 hak2
      by_cases hg0 : g = 0
      · have e1 : er = 40 := by rw [hA.out, if_pos hg0]
        have E1 := hid e1
        subst hg0
        clear e1
        go_wp2
        go_ret
        exact ⟨by rw [E1.out]; rfl, hres.out⟩
      · have e1 : er = g := by rw [hA.out, if_neg hg0]
        have E1 := hid e1
        have hgn : (g == 0) = false := by simpa using hg0
        clear e1 hg0
        go_wp2
        go_ret
        exact ⟨by rw [E1.out]; rfl, hres.out⟩
    · have hA := hid (show er = g from by rw [HER.out, if_neg (fun h => hl h.2)])
      have hl0 : l = 0 := by omega
      subst hl0
      clear HER hak hl
      go_enter Try.func23, Try.ntmps23
      go_wp2_with fail
      refine hlf.out.mono ?_
      rintro e w1 ⟨rfl, k1⟩
      have K1 := hid k1
      clear k1
      have hdr2 := hid (hdr.out w1 K1.out)
      have hlet2 := hid (hlet.out w1 K1.out)
      clear hdr hlet hlf
      go_wp2_with fail
      refine hdr2.out.mono ?_
      rintro e w2 ⟨rfl, k2, ob2, fu2⟩
      have K2 := hid k2; have F2 := hid fu2
      by_cases hg0 : g = 0
      · subst hg0
        have hgd := gone_del HG.out.symm
        rw [hgd.1] at ob2
        have HSOME := hid hgd.2
        have hl3 := hid (hlet2.out w2 k2 ob2)
        clear k2 ob2 fu2 hlet2 hgd hdr2
        go_wp2_with fail
        refine hl3.out.mono ?_
        rintro e w3 ⟨rfl, k3, ob3, m3⟩
        have hw : Kept (U ++ V ++ fuB fv) w w3 := ((K1.out.wider (fun x _ hx => by simp at hx)).trans (K2.out.wider (fun x _ hx => by simp at hx ⊢; rcases hx with g | g <;> simp [g]))).trans (k3.wider (fun x _ hx => by
          rcases List.mem_cons.1 hx with g | g
          · subst g; simp [hpU.out]
          · simp [g]))
        have hfin := hid (show Kept (U ++ V ++ fuB fv) w w3 ∧ Co w3 U V p q (ifOK 0 (delE nm es) es) (ifOK 0 (delE nm ss) ss) fv (fl.drop 1) (k + 1) jobs life least (ifOK 0 lo lost) ∧ FuV w3 (U ++ V) fv (decL left) from
          ⟨hw, ⟨⟨mv, ob3, m3⟩, H3.out, fun x hx => Nat.lt_of_lt_of_le (H4.out x hx) hw.size, names_del nm H5.out, H6.out.del nm, ⟨j1, j2, f1, f2, l1, l2, i1.1, i1.2⟩⟩, (F2.out.kept k3 (fun x hx hm => by
            rcases List.mem_cons.1 hm with g | g
            · exact (HF.out.out x hx).2 (by subst g; simp [hpU.out])
            · exact (HF.out.out x hx).2 (by simp [g]))).set (fun x hx hm => (HF.out.out x hx).2 hm)⟩)
        have hA2 := hA.out
        subst hA2
        clear k3 ob3 m3 hw hl3
        go_wp2
        go_ret
        exact ⟨rfl, hfin.out⟩
      · have hgs := gone_same (fl := fl) (es := es) (nm := nm) (by rw [← HG.out]; exact hg0)
        rw [hgs] at ob2
        have hs := co_same (HC.out.kept K1.out (by simp)) (HF.out.kept K1.out (by simp)) k2 (fl' := fl.drop 1) (k' := k + 1) (fun mv' ho => by
            have e : mv' = mv := by
              have e1 := (ob_tail ho).2.2.2.1
              have e2 := (ob_tail (hob.out w1 K1.out)).2.2.2.1
              rw [e1] at e2; simpa using e2
            subst e; exact ob2) fu2
        have hfin := hid (And.intro ((K1.out.wider (fun x _ hx => by simp at hx)).trans hs.1) hs.2)
        have hgn : (g == 0) = false := by simpa using hg0
        have hA2 := hA.out
        subst hA2
        have hres := hid (show Kept (U ++ V ++ fuB fv) w w2 ∧ Co w2 U V p q (ifOK er (delE nm es) es) (ifOK er (delE nm ss) ss) fv (fl.drop 1) (k + 1) jobs life least (ifOK er lo lost) ∧ FuV w2 (U ++ V) fv (decL left) from by
          unfold ifOK; simp only [if_neg hg0]; exact hfin.out)
        clear hs hfin k2 ob2 fu2 hgs hg0 hdr2
        go_wp2
        go_ret
        exact ⟨rfl, hres.out⟩
  · have hA := hid (show er = g from by rw [HER.out, if_neg (fun h => by cases h.1)])
    have K1 := hid (show Kept [] w w from Kept.refl _ _)
    clear HER hak
    go_enter Try.func23, Try.ntmps23
    have hdr2 := hid (hdr.out w K1.out)
    have hlet2 := hid (hlet.out w K1.out)
    clear hdr hlet hlf
    go_wp2_with fail
    refine hdr2.out.mono ?_
    rintro e w2 ⟨rfl, k2, ob2, fu2⟩
    have K2 := hid k2; have F2 := hid fu2
    by_cases hg0 : g = 0
    · subst hg0
      have hgd := gone_del HG.out.symm
      rw [hgd.1] at ob2
      have HSOME := hid hgd.2
      have hl3 := hid (hlet2.out w2 k2 ob2)
      clear k2 ob2 fu2 hlet2 hgd hdr2
      go_wp2_with fail
      refine hl3.out.mono ?_
      rintro e w3 ⟨rfl, k3, ob3, m3⟩
      have hw : Kept (U ++ V ++ fuB fv) w w3 := ((K1.out.wider (fun x _ hx => by simp at hx)).trans (K2.out.wider (fun x _ hx => by simp at hx ⊢; rcases hx with g | g <;> simp [g]))).trans (k3.wider (fun x _ hx => by
        rcases List.mem_cons.1 hx with g | g
        · subst g; simp [hpU.out]
        · simp [g]))
      have hfin := hid (show Kept (U ++ V ++ fuB fv) w w3 ∧ Co w3 U V p q (ifOK 0 (delE nm es) es) (ifOK 0 (delE nm ss) ss) fv (fl.drop 1) (k + 1) jobs life least (ifOK 0 lo lost) ∧ FuV w3 (U ++ V) fv (decL left) from
        ⟨hw, ⟨⟨mv, ob3, m3⟩, H3.out, fun x hx => Nat.lt_of_lt_of_le (H4.out x hx) hw.size, names_del nm H5.out, H6.out.del nm, ⟨j1, j2, f1, f2, l1, l2, i1.1, i1.2⟩⟩, (F2.out.kept k3 (fun x hx hm => by
          rcases List.mem_cons.1 hm with g | g
          · exact (HF.out.out x hx).2 (by subst g; simp [hpU.out])
          · exact (HF.out.out x hx).2 (by simp [g]))).set (fun x hx hm => (HF.out.out x hx).2 hm)⟩)
      have hA2 := hA.out
      subst hA2
      clear k3 ob3 m3 hw hl3
      go_wp2
      go_ret
      exact ⟨rfl, hfin.out⟩
    · have hgs := gone_same (fl := fl) (es := es) (nm := nm) (by rw [← HG.out]; exact hg0)
      rw [hgs] at ob2
      have hs := co_same (HC.out.kept K1.out (by simp)) (HF.out.kept K1.out (by simp)) k2 (fl' := fl.drop 1) (k' := k + 1) (fun mv' ho => by
          have e : mv' = mv := by
            have e1 := (ob_tail ho).2.2.2.1
            have e2 := (ob_tail (hob.out w K1.out)).2.2.2.1
            rw [e1] at e2; simpa using e2
          subst e; exact ob2) fu2
      have hfin := hid (And.intro ((K1.out.wider (fun x _ hx => by simp at hx)).trans hs.1) hs.2)
      have hgn : (g == 0) = false := by simpa using hg0
      have hA2 := hA.out
      subst hA2
      have hres := hid (show Kept (U ++ V ++ fuB fv) w w2 ∧ Co w2 U V p q (ifOK er (delE nm es) es) (ifOK er (delE nm ss) ss) fv (fl.drop 1) (k + 1) jobs life least (ifOK er lo lost) ∧ FuV w2 (U ++ V) fv (decL left) from by
        unfold ifOK; simp only [if_neg hg0]; exact hfin.out)
      clear hs hfin k2 ob2 fu2 hgs hg0 hdr2
      go_wp2
      go_ret
      exact ⟨rfl, hres.out⟩
theorem NewS.later {w w1 w2 : World} {v : Value} {n : Nat} {xs : List Value} (h : NewS w w1 v n xs) (hk : Kept [] w1 w2) : NewS w w2 v n xs := by
  obtain ⟨U, h1, h2⟩ := h
  exact ⟨U, fun x hx => ⟨(h1 x hx).1, Nat.lt_of_lt_of_le (h1 x hx).2 hk.size⟩, h2.kept hk (by simp)⟩
/-- What a Get tells, the error and the bytes. -/
def GetC (g st : Int) (lb : List UInt8) (er : Int) (bs : List UInt8) : Prop := (g ≠ 0 ∧ er = g ∧ bs = []) ∨ (g = 0 ∧ st ≠ 2 ∧ er = 32 ∧ bs = []) ∨ (g = 0 ∧ st = 2 ∧ er = 0 ∧ bs = lb)
set_option maxHeartbeats 1000000 in
theorem co_get (w : World) (U V : List Nat) (p : Nat) (q : Int) (es ss : List Ent) (fv : Value) (fl : List Bool) (k : Nat) (jobs life least lost left : Int) (h : Co w U V p q es ss fv fl k jobs life least lost) (hk : k ≤ 1099511627776) (hf : FuV w (U ++ V) fv left) (h0 : left ≠ 0)
    (nm : List UInt8) (hnm : nm.length ≤ 1000000000) (now : Int) (n1 : -9223372036854775808 ≤ now) (n2 : now ≤ 9223372036854775807) :
    Calls Try.prog 26 #[.pointer (some ⟨p, 0, none⟩), .string (S nm), .int .i64 now] w fun e w' => ∃ v er bs, e = .returned (.tuple #[v, .int .i64 er]) ∧ Kept (U ++ V ++ fuB fv) w w' ∧
      Co w' U V p q es ss fv (fl.drop 1) (k + 1) jobs life least lost ∧ FuV w' (U ++ V) fv (decL left) ∧ NewS w w' v bs.length (bs.map B) ∧
      GetC (gotE fl es nm) (stateT ss nm now life) (lookB nm es) er bs := by
  have HC := hid h; have HF := hid hf
  obtain ⟨⟨mv, h1, h2⟩, h3, h4, h5, h6, h7⟩ := h
  have hfu : FuV w U fv left := hf.set (fun x hx hm => (hf.out x hx).2 (by simp [hm]))
  have hg := hid (ob_get w U p 62 (cmore jobs life least mv lost) q es fv fl k left nm hnm h1 hk hfu h0)
  have hT := hid (ob_tail h1).2.2.2.1
  have hpU := hid h1.hp
  obtain ⟨g, hgg⟩ : ∃ g, g = gotE fl es nm := ⟨_, rfl⟩
  have HG := hid hgg
  rw [← hgg] at hg ⊢
  obtain ⟨st, hst⟩ : ∃ st, st = stateT ss nm now life := ⟨_, rfl⟩
  have HST := hid hst
  rw [← hst]
  obtain ⟨bb, hbb⟩ : ∃ bb, bb = gotB fl es nm := ⟨_, rfl⟩
  rw [← hbb] at hg
  have HBB := hid hbb
  clear h1 h2 h3 h4 h5 h6 h7 hf h0 hk hfu hgg hst hbb
  go_enter Try.func26, Try.ntmps26
  go_wp2_with fail
  refine hg.out.mono ?_
  rintro e w1 ⟨v', rfl, k1, ob1, fu1, ns1⟩
  have hs := co_same HC.out HF.out (k1.wider (fun x _ hx => by
        rcases List.mem_cons.1 hx with g | g
        · subst g; simp [hpU.out]
        · simp [g])) (fl' := fl.drop 1) (k' := k + 1) (fun mv' ho => by
          have e : mv' = mv := by
            have e1 := (ob_tail ho).2.2.2.1
            have e2 := hT.out
            rw [e1] at e2; simpa using e2
          subst e; exact ob1) fu1
  have HS := hid hs
  have NS := hid ns1
  by_cases hg0 : g = 0
  · subst hg0
    have hsc := hid (co_state w1 U V p q es ss fv (fl.drop 1) (k + 1) jobs life least lost hs.2.1 nm hnm now n1 n2)
    rw [← HST.out] at hsc
    clear hs ns1 k1 ob1 fu1 hg
    go_wp2_with fail
    refine hsc.out.mono ?_
    rintro e w2 ⟨rfl, k2⟩
    have K2 := hid k2
    clear k2 hsc
    by_cases hs2 : st = 2
    · subst hs2
      go_wp2
      go_ret2
      refine ⟨v', 0, bb, rfl, HS.out.1.trans' K2.out (fun x hx => by simp), HS.out.2.1.kept K2.out (by simp), HS.out.2.2.kept K2.out (by simp), NS.out.later K2.out, Or.inr (Or.inr ⟨rfl, rfl, rfl, ?_⟩)⟩
      rw [HBB.out]
      unfold gotB
      have : opE fl = 0 := by
        have := HG.out
        unfold gotE at this
        by_cases ho : opE fl = 0
        · exact ho
        · rw [if_neg ho] at this; exact absurd this.symm ho
      rw [if_pos this]
    · have hne : (st == 2) = false := by simpa using hs2
      have HS2 := hid hs2
      clear hs2
      go_wp2
      go_ret2
      exact ⟨_, 32, [], rfl, HS.out.1.trans' K2.out (fun x hx => by simp), HS.out.2.1.kept K2.out (by simp), HS.out.2.2.kept K2.out (by simp), NewS.nil _ _, Or.inr (Or.inl ⟨rfl, HS2.out, rfl, rfl⟩)⟩
  · have hne : (g == 0) = false := by simpa using hg0
    have HG0 := hid hg0
    clear hs ns1 k1 ob1 fu1 hg hg0
    go_wp2
    go_ret2
    exact ⟨_, g, [], rfl, HS.out.1, HS.out.2.1, HS.out.2.2, NewS.nil _ _, Or.inl ⟨HG0.out, rfl, rfl⟩⟩
end Go.Proofs.Ytnkolgamnakegaa
