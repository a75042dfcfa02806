
/- cold: New, Put. -/
import Derived.Test.YtnkolgamnakegaaY3
namespace Go.Proofs.Ytnkolgamnakegaa
open Go.RowKit Go.Lib Go.Maps

theorem ob_new_row (q : Int) (hq : 0 ≤ q) (hq2 : q ≤ 9223372036854775807) (w : World) :
    Calls Try.prog 9 #[.int .i64 q] w fun e w' => e = .returned (.tuple #[.pointer (some ⟨w.heap.size, 0, none⟩), .int .i64 0]) ∧ Kept [] w w' ∧ w'.heap[w.heap.size]? = some (.cells #[.int .i64 q, .map none, .int .i64 0, .pointer none, .slice none 0 0, .int .i64 0] 59 (0, 0)) := by
  have hk := hid (show Kept [] w (w.alloc (.cells #[.int .i64 q, .map none, .int .i64 0, .pointer none, .slice none 0 0, .int .i64 0] 59)) from (Kept.refl [] w).alloc _)
  have hob := hid (show (w.alloc (.cells #[.int .i64 q, .map none, .int .i64 0, .pointer none, .slice none 0 0, .int .i64 0] 59)).heap[w.heap.size]? = some (.cells #[.int .i64 q, .map none, .int .i64 0, .pointer none, .slice none 0 0, .int .i64 0] 59 (0, 0)) from heap_alloc_at rfl)
  go_enter Try.func9, Try.ntmps9
  go_wp2
  go_ret2
  exact ⟨rfl, hk.out, hob.out⟩
theorem co_new (q jobs life least : Int) (w : World) (hq : 0 ≤ q) (hq2 : q ≤ 9223372036854775807) (j1 : 1 ≤ jobs) (j2 : jobs ≤ 64) (f1 : 1 ≤ life) (f2 : life ≤ 1125899906842624) (l1 : 0 ≤ least) (l2 : least ≤ 1125899906842624) :
    Calls Try.prog 21 #[.int .i64 q, .int .i64 jobs, .int .i64 life, .int .i64 least] w fun e w' => ∃ p, e = .returned (.tuple #[.pointer (some ⟨p, 0, none⟩), .int .i64 0]) ∧ Kept [] w w' ∧ w.heap.size ≤ p ∧ Co w' [p] [] p q [] [] (.pointer none) [] 0 jobs life least 0 := by
  have hn := hid (ob_new_row q hq hq2 w)
  go_enter Try.func21, Try.ntmps21
  go_wp2_with fail
  refine hn.out.mono ?_
  rintro e w1 ⟨rfl, k1, h1⟩
  have c0 : w1.cell? ⟨w.heap.size, 0, none⟩ = some (.int .i64 q) := by rw [cell_of_row _ _ 0 _ _ _ h1]; rfl
  have c1 : w1.cell? ⟨w.heap.size, 1, none⟩ = some (.map none) := by rw [cell_of_row _ _ 1 _ _ _ h1]; rfl
  have c2 : w1.cell? ⟨w.heap.size, 2, none⟩ = some (.int .i64 0) := by rw [cell_of_row _ _ 2 _ _ _ h1]; rfl
  have c3 : w1.cell? ⟨w.heap.size, 3, none⟩ = some (.pointer none) := by rw [cell_of_row _ _ 3 _ _ _ h1]; rfl
  have c4 : w1.cell? ⟨w.heap.size, 4, none⟩ = some (.slice none 0 0) := by rw [cell_of_row _ _ 4 _ _ _ h1]; rfl
  have c5 : w1.cell? ⟨w.heap.size, 5, none⟩ = some (.int .i64 0) := by rw [cell_of_row _ _ 5 _ _ _ h1]; rfl
  have hz := hid (show w.heap.size < w1.heap.size from lt_of_block h1)
  have hk := hid (show Kept [] w (w1.alloc (.cells #[.int .i64 q, .map none, .int .i64 0, .pointer none, .slice none 0 0, .int .i64 0, .int .i64 jobs, .int .i64 life, .int .i64 least, .map none, .int .i64 0] 62)) from k1.alloc _)
  have hco := hid (show Co (w1.alloc (.cells #[.int .i64 q, .map none, .int .i64 0, .pointer none, .slice none 0 0, .int .i64 0, .int .i64 jobs, .int .i64 life, .int .i64 least, .map none, .int .i64 0] 62)) [w1.heap.size] [] w1.heap.size q [] [] (.pointer none) [] 0 jobs life least 0 from
    ⟨⟨.map none, ⟨⟨.map none, .slice none 0 0, [], by simp, heap_alloc_at rfl, Or.inl ⟨rfl, rfl⟩, by simp, SrcS.nil _ _, by simp⟩, by simp, by simp, ⟨hq, hq2⟩, by simp [sizeE]⟩, Or.inl ⟨rfl, rfl⟩⟩, by simp, by simp, rfl, fun e he => by simp at he, ⟨j1, j2, f1, f2, l1, l2, by omega, by omega⟩⟩)
  clear k1 h1 hn
  go_wp2
  go_ret2
  exact ⟨_, rfl, hk.out, Nat.le_of_lt hz.out, hco.out⟩
theorem co_new_bad (q jobs life least : Int) (w : World) (hq1 : -9223372036854775808 ≤ q) (hq2 : q ≤ 9223372036854775807)
    (hbad : ¬ (0 ≤ q ∧ 1 ≤ jobs ∧ jobs ≤ 64 ∧ 1 ≤ life ∧ life ≤ 1125899906842624 ∧ 0 ≤ least ∧ least ≤ 1125899906842624)) :
    Calls Try.prog 21 #[.int .i64 q, .int .i64 jobs, .int .i64 life, .int .i64 least] w fun e w' => e = .returned (.tuple #[.pointer none, .int .i64 1]) ∧ Kept [] w w' := by
  by_cases hq : q < 0
  · have hn := hid (ob_new_bad q hq hq1 w)
    clear hbad
    go_enter Try.func21, Try.ntmps21
    go_wp2_with fail
    refine hn.out.mono ?_
    rintro e w1 ⟨rfl, rfl⟩
    go_wp2
    go_ret2
    exact ⟨rfl, Kept.refl _ _⟩
  · have hn := hid (ob_new_row q (by omega) hq2 w)
    rcases (show jobs < 1 ∨ (1 ≤ jobs ∧ 64 < jobs) ∨ (1 ≤ jobs ∧ jobs ≤ 64 ∧ life < 1) ∨ (1 ≤ jobs ∧ jobs ≤ 64 ∧ 1 ≤ life ∧ 1125899906842624 < life) ∨ (1 ≤ jobs ∧ jobs ≤ 64 ∧ 1 ≤ life ∧ life ≤ 1125899906842624 ∧ least < 0) ∨ (1 ≤ jobs ∧ jobs ≤ 64 ∧ 1 ≤ life ∧ life ≤ 1125899906842624 ∧ 0 ≤ least ∧ 1125899906842624 < least) by omega) with h1 | ⟨h1, h2⟩ | ⟨h1, h2, h3⟩ | ⟨h1, h2, h3, h4⟩ | ⟨h1, h2, h3, h4, h5⟩ | ⟨h1, h2, h3, h4, h5, h6⟩
    all_goals
      clear hbad hq
      go_enter Try.func21, Try.ntmps21
      go_wp2_with fail
      refine hn.out.mono ?_
      rintro e w1 ⟨rfl, k1, -⟩
      have K1 := hid k1
      clear k1 hn
      go_wp2
      go_ret2
      exact ⟨rfl, K1.out⟩
theorem put_del_c (x : Ent) (es : List Ent) : putE x (delE x.name es) = putE x es := by
  unfold putE delE
  rw [List.filter_filter]
  simp
/-- If there is no error, one, else the other. -/
def ifOK {α : Type} (er : Int) (a b : α) : α := if er = 0 then a else b
theorem FuV.out {w : World} {S : List Nat} {fv : Value} {left : Int} (h : FuV w S fv left) : ∀ x ∈ fuB fv, x < w.heap.size ∧ x ∉ S := by
  rcases h with ⟨rfl, _⟩ | ⟨f, rfl, h2, h3, _⟩
  · simp [fuB]
  · intro x hx; simp [fuB] at hx; subst hx; exact ⟨lt_of_block h3, h2⟩
theorem FuV.set {w : World} {S T : List Nat} {fv : Value} {left : Int} (h : FuV w S fv left) (hT : ∀ x ∈ fuB fv, x ∉ T) : FuV w T fv left := by
  rcases h with h | ⟨f, rfl, h2, h3, h4⟩
  · exact Or.inl h
  · exact Or.inr ⟨f, rfl, hT f (by simp [fuB]), h3, h4⟩
theorem ymap_none (W : World) : (binOp .eql 60 (.map none) (.map none)).run Try.prog W = .ok (.bool true) W := by kernel_rfl
theorem ymap_some (b : Nat) (W : World) : (binOp .eql 60 (.map (some b)) (.map none)).run Try.prog W = .ok (.bool false) W := by kernel_rfl
/-- The error of a Put. -/
def putC (q : Int) (es : List Ent) (fl : List Bool) (nm bs : List UInt8) : Int := putErr fl nm bs.length q ((sizeE es : Int) - (lookB nm es).length + bs.length) (findE nm es).isSome es.length
set_option maxRecDepth 100000 in
set_option maxHeartbeats 4000000 in
theorem co_put (w : World) (U V : List Nat) (p : Nat) (q : Int) (es ss : List Ent) (fv : Value) (fl : List Bool) (k : Nat) (jobs life least lost left : Int) (h : Co w U V p q es ss fv fl k jobs life least lost) (hk : k ≤ 1099511627776) (hf : FuV w (U ++ V) fv left) (h0 : left ≠ 0)
    (nm : List UInt8) (hnm : nm.length ≤ 1000000000) (a : Option Addr) (n c : Nat) (bs : List UInt8) (hn : n = bs.length) (hbs : ∀ W, Kept (p :: fuB fv) w W → Src W (.slice a n c) n (bs.map B)) (hz : sizeE es + bs.length ≤ 1099511627776) (now : Int) (n1 : -9223372036854775808 ≤ now) (n2 : now ≤ 9223372036854775807)
    (er : Int) (her : er = putC q es fl nm bs) :
    Calls Try.prog 22 #[.pointer (some ⟨p, 0, none⟩), .string (S nm), .slice a n c, .int .i64 now] w fun e w' => ∃ v' U' V', e = .returned (.int .i64 er) ∧ Kept (U ++ V ++ fuB fv) w w' ∧ (∀ x ∈ U', x ∈ U ∨ w.heap.size ≤ x) ∧ (∀ x ∈ V', x ∈ V ∨ w.heap.size ≤ x) ∧
      Co w' U' V' p q (ifOK er (putE ⟨nm, v', bs⟩ es) es) (ifOK er (putE (stE nm ⟨momT now, false, 0⟩) ss) ss) fv (fl.drop 1) (k + 1) jobs life least (ifOK er (addT lost (leftT ss nm now least)) lost) ∧ FuV w' (U' ++ V') fv (decL left) := by
  subst hn
  have HF := hid hf.out
  obtain ⟨⟨mv, h1, h2⟩, h3, h4, h5, h6, ⟨j1, j2, f1, f2, l1, l2, o1, o2⟩⟩ := h
  have hpu := hid (ob_put w U p 62 (cmore jobs life least mv lost) q es fv fl k left nm hnm h1 hk (hf.set (fun x hx hm => (hf.out x hx).2 (by simp [hm]))) h0 a c bs hbs hz)
  have H2 := hid h2; have H3 := hid h3; have H4 := hid h4; have H5 := hid h5; have H6 := hid h6
  have HU := hid h1.bound
  have hpU := hid h1.hp
  have hpu2 : Hid (Calls Try.prog 34 #[.pointer (some ⟨p, 0, none⟩), .string (S nm), .slice a bs.length c] w (PutR w U p 62 (cmore jobs life least mv lost) q es fv fl k left nm bs er)) := by rw [her]; exact hpu
  have i1 := addT_in o1 o2 (leftT_in ss nm now least).1
  have him := momT_in now
  have hmo := hid (fun X => moment_any now X n1 n2)
  obtain ⟨lo, hlo⟩ : ∃ lo, lo = addT lost (leftT ss nm now least) := ⟨_, rfl⟩
  have HLO := hid hlo
  obtain ⟨mn, hmn⟩ : ∃ mn, mn = momT now := ⟨_, rfl⟩
  rw [← hlo] at i1 ⊢
  rw [← hmn] at him hmo ⊢
  have I1 := hid i1
  have HSY := hid (show SyOk ⟨mn, false, 0⟩ from ⟨him.1, him.2, by show (0:Int) ≤ 0; omega, by show (0:Int) ≤ _; omega⟩)
  clear hpu h1 h2 h3 h4 h5 h6 hf h0 hk hz hbs her hlo hmn i1 him
  obtain ⟨ln, hln⟩ : ∃ ln, ln = bs.length := ⟨_, rfl⟩
  rw [← hln] at hpu2 ⊢
  clear hln
  go_enter Try.func22, Try.ntmps22
  go_wp2_with fail
  refine hpu2.out.mono ?_
  rintro e w1 ⟨v', U', rfl, k1, hU', ob1, fu1⟩
  have hV' : ∀ x ∈ V, x ∉ U' := fun x hx hm => by
    rcases hU' x hm with g | g
    · exact H3.out x hx g
    · have := H4.out x hx; omega
  have m1 := H2.out.kept k1 (fun x hx hm => by
    rcases List.mem_append.1 hm with g | g
    · exact H3.out x hx g
    · exact (HF.out x g).2 (by simp [hx]))
  by_cases her0 : er = 0
  · subst her0
    rw [if_pos rfl] at ob1
    have K1 := hid k1; have F1 := hid fu1; have HU' := hid hU'; have HV' := hid hV'
    have hlg := hid (ob_letgo w1 U' V p q _ ss fv (fl.drop 1) (k + 1) jobs life least lost mv ob1 m1 H6.out hV' l1 l2 o1 o2 nm hnm now n1 n2)
    clear k1 fu1 hU' hV' m1 ob1 hpu2
    go_wp2_with fail
    refine hlg.out.mono ?_
    rintro e w2 ⟨rfl, k2, ob2, m2⟩
    rw [← HLO.out] at ob2
    have K2 := hid k2; have O2 := hid ob2; have M2 := hid m2
    have hssl := hid (show (delE nm ss).length ≤ 4096 from by
      have e1 := congrArg List.length (names_del nm H5.out)
      simp at e1
      have e2 := ob2.small.2.1
      have e4 : (delE nm es).length ≤ (putE ⟨nm, v', bs⟩ es).length := by unfold putE; rw [ins_len]; exact Nat.le_succ _
      omega)
    have hend := hid (fun (w5 : World) (V' : List Nat) (nb : Nat) (hnb : nb ∈ V') (hV2 : ∀ x ∈ V', x ∈ V ∨ w2.heap.size ≤ x) (hb5 : ∀ x ∈ V', x < w5.heap.size) (k5 : Kept (U ++ V ++ fuB fv) w w5) (k25 : Kept V' w2 w5 ∨ Kept (p :: V') w2 w5)
        (ob5 : Ob w5 U' p 62 (cmore jobs life least (.map (some nb)) lo) q (putE ⟨nm, v', bs⟩ es) fv (fl.drop 1) (k + 1)) (m5 : Mp w5 V' (.map (some nb)) (putE (stE nm ⟨mn, false, 0⟩) ss)) =>
        (show ∃ v' U' V', Kept (U ++ V ++ fuB fv) w w5 ∧ (∀ x ∈ U', x ∈ U ∨ w.heap.size ≤ x) ∧ (∀ x ∈ V', x ∈ V ∨ w.heap.size ≤ x) ∧
          Co w5 U' V' p q (ifOK 0 (putE ⟨nm, v', bs⟩ es) es) (ifOK 0 (putE (stE nm ⟨mn, false, 0⟩) ss) ss) fv (fl.drop 1) (k + 1) jobs life least (ifOK 0 lo lost) ∧ FuV w5 (U' ++ V') fv (decL left) from by
        have hw12 : w.heap.size ≤ w2.heap.size := Nat.le_trans K1.out.size K2.out.size
        have hfu : ∀ x ∈ fuB fv, x ∉ U' ∧ x ∉ V' := fun x hx => ⟨fun hm => by
            rcases HU'.out x hm with g | g
            · exact (HF.out x hx).2 (by simp [g])
            · have := (HF.out x hx).1; omega, fun hm => by
            rcases hV2 x hm with g | g
            · exact (HF.out x hx).2 (by simp [g])
            · have := (HF.out x hx).1; omega⟩
        have hpf : ∀ x ∈ fuB fv, x ≠ p := fun x hx e => (HF.out x hx).2 (by subst e; simp [hpU.out])
        have hpV : p ∉ V := fun hm => H3.out p hm hpU.out
        have hU1 : ∀ x ∈ U', x < w2.heap.size := O2.out.bound
        refine ⟨v', U', V', k5, HU'.out, fun x hx => (hV2 x hx).imp id (fun g => Nat.le_trans hw12 g), ⟨⟨_, ob5, m5⟩, fun x hx hm => ?_, hb5, ?_, ?_, ⟨j1, j2, f1, f2, l1, l2, I1.out.1, I1.out.2⟩⟩, ?_⟩
        · rcases hV2 x hx with g | g
          · exact HV'.out x g hm
          · have := hU1 x hm; omega
        · exact names_put rfl H5.out
        · exact H6.out.put nm _ HSY.out
        · have f2 := (F1.out.kept K2.out (fun x hx hm => by
            rcases List.mem_cons.1 hm with g | g
            · exact hpf x hx g
            · exact (HF.out x hx).2 (by simp [g]))).set (T := U' ++ V') (fun x hx hm => by
              rcases List.mem_append.1 hm with g | g
              · exact (hfu x hx).1 g
              · exact (hfu x hx).2 g)
          rcases k25 with g | g
          · exact f2.kept g (fun x hx hm => (hfu x hx).2 hm)
          · exact f2.kept g (fun x hx hm => by
              rcases List.mem_cons.1 hm with g2 | g2
              · exact hpf x hx g2
              · exact (hfu x hx).2 g2)))
    have kk2 := hid (show Kept (U ++ V ++ fuB fv) w w2 from (K1.out.wider (fun x _ hx => by simp at hx ⊢; rcases hx with g | g <;> simp [g])).trans' K2.out (fun x _ hx => by
      rcases List.mem_cons.1 hx with g | g
      · subst g; simp [hpU.out]
      · simp [g]))
    clear hlg k2 ob2 m2
    rcases M2.out with ⟨rfl, hnil⟩ | ⟨b, rfl, hbV, hown⟩
    · have g9 := (ob_tail O2.out).2.2.2.1
      have hmn := ymap_none
      have ka := hid (show Kept [] w2 (w2.alloc (.map #[] 0)) from (Kept.refl [] w2).alloc _)
      have ob3 := (O2.out.kept ka.out (by simp))
      have ff := ob_free ob3 9
      have g9' := (ob_tail ob3).2.2.2.1
      obtain ⟨ob4, k4⟩ := ob_set ob3 3 (.map (some w2.heap.size))
      have k4' : Kept [p] (w2.alloc (.map #[] 0)) ((w2.alloc (.map #[] 0)).setCell ⟨p, 9, none⟩ (.map (some w2.heap.size))) := k4
      have ob4' : Ob ((w2.alloc (.map #[] 0)).setCell ⟨p, 9, none⟩ (.map (some w2.heap.size))) U' p 62 (cmore jobs life least (.map (some w2.heap.size)) lo) q (putE ⟨nm, v', bs⟩ es) fv (fl.drop 1) (k + 1) := ob4
      have hpz : p < w2.heap.size := O2.out.bound p O2.out.hp
      have m4 : Mp ((w2.alloc (.map #[] 0)).setCell ⟨p, 9, none⟩ (.map (some w2.heap.size))) [w2.heap.size] (.map (some w2.heap.size)) (delE nm ss) := by
        rw [hnil]
        exact (mp_made w2 [w2.heap.size] (by simp)).free (by simp; omega) _ k4'
      generalize hW4 : (w2.alloc (.map #[] 0)).setCell ⟨p, 9, none⟩ (.map (some w2.heap.size)) = W4 at *
      have HW4 := hid hW4
      have hkd := hid (show Kept [] W4 W4.drew from (Kept.refl [] W4).drew)
      have hc9 := hid (fun X (hX : Kept [] W4 X) => (ob_tail (ob4'.kept hX (by simp))).2.2.2.1)
      obtain ⟨W5, hrun, k5, m5⟩ := my_put (m4.kept hkd.out (by simp)) (stE nm ⟨mn, false, 0⟩) hnm (by have := hssl.out; omega)
      have hpd : putE (stE nm ⟨mn, false, 0⟩) (delE nm ss) = putE (stE nm ⟨mn, false, 0⟩) ss := put_del_c (stE nm ⟨mn, false, 0⟩) ss
      rw [hpd] at m5
      have k25 := hid (show Kept (p :: [w2.heap.size]) w2 W5 from (((ka.out.wider (fun x _ hx => by simp at hx)).trans' k4' (fun x _ hx => by simp at hx; simp [hx])).trans' hkd.out (fun x _ hx => by simp at hx)).trans' k5 (fun x _ hx => by simp at hx; simp [hx]))
      have ob5 := hid ((ob4'.kept hkd.out (by simp)).kept k5 (fun x hx hm => by simp at hm; have := O2.out.bound x hx; omega))
      have hfin := hid (hend.out W5 [w2.heap.size] w2.heap.size (by simp) (fun x hx => by simp at hx; subst hx; exact Or.inr (Nat.le_refl _)) (fun x hx => by simp at hx; subst hx; have := k25.out.size; have := ka.out.size; have e : (w2.alloc (.map #[] 0)).heap.size = w2.heap.size + 1 := (by simp); have := k4'.size; have := hkd.out.size; have := k5.size; omega)
        (kk2.out.trans' k25.out (fun x hx hm => by
          simp at hm
          rcases hm with g | g
          · subst g; simp [hpU.out]
          · have := Nat.le_trans K1.out.size K2.out.size; omega)) (Or.inr k25.out) ob5.out m5)
      have hc5 := hid (ob_tail ob5.out).2.2.2.1
      have HR := hid hrun
      clear ob3 ob4 k4 k4' ob4' m4 hrun k5 m5 k25 hend kk2 H2 H3 H4 H5 H6 O2 M2 hpd HU' HV' K1 K2 F1 hpz hW4
      have hmk : ∀ W : World, (Instr.makeMap 60 none).run Try.prog W = .ok (.map (some W.heap.size)) (W.alloc (.map #[] 0)) := fun _ => rfl
      go_wp2_with fail
      rw [HW4.out]
      clear hmk
      have hH0 : W4.cell? ⟨p, 9, none⟩ = some (.map (some w2.heap.size)) := by
        have := hc9.out _ hkd.out
        simpa using this
      refine wp_region_held_drew (S := fun v => v.cell? ⟨p, 9, none⟩ = some (.map (some w2.heap.size))) (by kernel_rfl) (hc9.out _ hkd.out) (fun hH => ?_)
      refine takeH 0 (.pointer (some ⟨p, 0, none⟩)) rfl (by kernel_rfl) (by kernel_rfl) (by kernel_rfl) (fun _ _ _ h => h) (by rfl) (fun v hv => by go_simp) hH ?_
      simp only [Act.put, List.setIfInBounds_toArray, List.set_cons_succ, List.set_cons_zero]
      refine takeH 1 (.pointer (some ⟨p, 0, none⟩)) rfl (by kernel_rfl) (by kernel_rfl) (by kernel_rfl) (fun _ _ _ h => h) (by rfl) (fun v hv => by go_simp) hH ?_
      simp only [Act.put, List.setIfInBounds_toArray, List.set_cons_succ, List.set_cons_zero]
      refine takeH 2 (.pointer (some ⟨p, 9, none⟩)) rfl (by kernel_rfl) (by kernel_rfl) (by kernel_rfl) (fun _ _ _ h => h) (by rfl) (fun v hv => by go_simp) hH ?_
      simp only [Act.put, List.setIfInBounds_toArray, List.set_cons_succ, List.set_cons_zero]
      refine takeH 3 (.map (some w2.heap.size)) rfl (by kernel_rfl) (by kernel_rfl) (by kernel_rfl) (fun _ _ _ h => h) (by rfl) (fun v hv => by have h := hv; go_simp) hH ?_
      simp only [Act.put, List.setIfInBounds_toArray, List.set_cons_succ, List.set_cons_zero]
      refine takeH 4 (.string (S nm)) rfl (by kernel_rfl) (by kernel_rfl) (by kernel_rfl) (fun _ _ _ h => h) (by rfl) (fun v hv => by go_simp) hH ?_
      simp only [Act.put, List.setIfInBounds_toArray, List.set_cons_succ, List.set_cons_zero]
      refine takeH 5 (.int .i64 now) rfl (by kernel_rfl) (by kernel_rfl) (by kernel_rfl) (fun _ _ _ h => h) (by rfl) (fun v hv => by go_simp) hH ?_
      simp only [Act.put, List.setIfInBounds_toArray, List.set_cons_succ, List.set_cons_zero]
      refine callR 6 rfl (by kernel_rfl) (by rfl) 51 #[.int .i64 now] (by go_simp) (.int .i64 mn) (fun v => W4.drew = v) (fun v h => h ▸ hH) (hmo.out _) ?_
      rintro v1 rfl
      simp only [Act.put, List.setIfInBounds_toArray, List.set_cons_succ, List.set_cons_zero]
      refine takeH 7 (.agg #[.int .i64 mn, .bool false, .int .i64 0]) rfl (by kernel_rfl) (by kernel_rfl) (by kernel_rfl) (fun _ _ _ h => h) (by rfl) (fun v hv => by go_simp) hH ?_
      simp only [Act.put, List.setIfInBounds_toArray, List.set_cons_succ, List.set_cons_zero]
      have hh := HR.out
      refine writeH 8 rfl (by kernel_rfl) (by rfl) (W5) (by unfold execOp; simp [Act.eval, Sem.run_bind, Sem.run_pure, Result.andThen_ok]; exact (by have h := hh; unfold stE stV at h; simp [h, Result.andThen_ok])) (hc5.out) ?_
      simp only [Act.put, List.setIfInBounds_toArray, List.set_cons_succ, List.set_cons_zero]
      refine wpAnyH_done (by kernel_rfl) ?_ _
      clear hH0 hH hh HR hc9 hkd
      go_wp2
      go_ret
      obtain ⟨v9, U9, V9, g9⟩ := hfin.out
      exact ⟨v9, U9, V9, rfl, g9⟩
    · have g9 := (ob_tail O2.out).2.2.2.1
      have hmn := ymap_some b
      obtain ⟨W4, hW4⟩ : ∃ W4, W4 = w2 := ⟨_, rfl⟩
      have hkd := hid (show Kept [] w2 w2.drew from (Kept.refl [] w2).drew)
      have hc9 := hid (fun X (hX : Kept [] w2 X) => (ob_tail (O2.out.kept hX (by simp))).2.2.2.1)
      obtain ⟨W5, hrun, k5, m5⟩ := my_put (M2.out.kept hkd.out (by simp)) (stE nm ⟨mn, false, 0⟩) hnm (by have := hssl.out; omega)
      have hpd : putE (stE nm ⟨mn, false, 0⟩) (delE nm ss) = putE (stE nm ⟨mn, false, 0⟩) ss := put_del_c (stE nm ⟨mn, false, 0⟩) ss
      rw [hpd] at m5
      have k25 := hid (show Kept V w2 W5 from (hkd.out.wider (fun x _ hx => by simp at hx)).trans' k5 (fun x _ hx => by simp at hx; subst hx; exact hbV))
      have ob5 := hid ((O2.out.kept hkd.out (by simp)).kept k5 (fun x hx hm => by simp at hm; subst hm; exact HV'.out _ hbV hx))
      have hfin := hid (hend.out W5 V b hbV (fun x hx => Or.inl hx) (fun x hx => by have := H4.out x hx; have := K1.out.size; have := K2.out.size; have := k25.out.size; omega)
        (kk2.out.trans' k25.out (fun x hx hm => by simp [hm])) (Or.inl k25.out) ob5.out m5)
      have hc5 := hid (ob_tail ob5.out).2.2.2.1
      have HR := hid hrun
      clear hrun k5 m5 k25 hend kk2 H2 H3 H4 H5 H6 O2 M2 hpd HU' HV' K1 K2 F1 hW4 hown W4
      go_wp2_with fail
      have hH0 : w2.cell? ⟨p, 9, none⟩ = some (.map (some b)) := by
        have := hc9.out _ hkd.out
        simpa using this
      refine wp_region_held_drew (S := fun v => v.cell? ⟨p, 9, none⟩ = some (.map (some b))) (by kernel_rfl) (hc9.out _ hkd.out) (fun hH => ?_)
      refine takeH 0 (.pointer (some ⟨p, 0, none⟩)) rfl (by kernel_rfl) (by kernel_rfl) (by kernel_rfl) (fun _ _ _ h => h) (by rfl) (fun v hv => by go_simp) hH ?_
      simp only [Act.put, List.setIfInBounds_toArray, List.set_cons_succ, List.set_cons_zero]
      refine takeH 1 (.pointer (some ⟨p, 0, none⟩)) rfl (by kernel_rfl) (by kernel_rfl) (by kernel_rfl) (fun _ _ _ h => h) (by rfl) (fun v hv => by go_simp) hH ?_
      simp only [Act.put, List.setIfInBounds_toArray, List.set_cons_succ, List.set_cons_zero]
      refine takeH 2 (.pointer (some ⟨p, 9, none⟩)) rfl (by kernel_rfl) (by kernel_rfl) (by kernel_rfl) (fun _ _ _ h => h) (by rfl) (fun v hv => by go_simp) hH ?_
      simp only [Act.put, List.setIfInBounds_toArray, List.set_cons_succ, List.set_cons_zero]
      refine takeH 3 (.map (some b)) rfl (by kernel_rfl) (by kernel_rfl) (by kernel_rfl) (fun _ _ _ h => h) (by rfl) (fun v hv => by have h := hv; go_simp) hH ?_
      simp only [Act.put, List.setIfInBounds_toArray, List.set_cons_succ, List.set_cons_zero]
      refine takeH 4 (.string (S nm)) rfl (by kernel_rfl) (by kernel_rfl) (by kernel_rfl) (fun _ _ _ h => h) (by rfl) (fun v hv => by go_simp) hH ?_
      simp only [Act.put, List.setIfInBounds_toArray, List.set_cons_succ, List.set_cons_zero]
      refine takeH 5 (.int .i64 now) rfl (by kernel_rfl) (by kernel_rfl) (by kernel_rfl) (fun _ _ _ h => h) (by rfl) (fun v hv => by go_simp) hH ?_
      simp only [Act.put, List.setIfInBounds_toArray, List.set_cons_succ, List.set_cons_zero]
      refine callR 6 rfl (by kernel_rfl) (by rfl) 51 #[.int .i64 now] (by go_simp) (.int .i64 mn) (fun v => w2.drew = v) (fun v h => h ▸ hH) (hmo.out _) ?_
      rintro v1 rfl
      simp only [Act.put, List.setIfInBounds_toArray, List.set_cons_succ, List.set_cons_zero]
      refine takeH 7 (.agg #[.int .i64 mn, .bool false, .int .i64 0]) rfl (by kernel_rfl) (by kernel_rfl) (by kernel_rfl) (fun _ _ _ h => h) (by rfl) (fun v hv => by go_simp) hH ?_
      simp only [Act.put, List.setIfInBounds_toArray, List.set_cons_succ, List.set_cons_zero]
      have hh := HR.out
      refine writeH 8 rfl (by kernel_rfl) (by rfl) (W5) (by unfold execOp; simp [Act.eval, Sem.run_bind, Sem.run_pure, Result.andThen_ok]; exact (by have h := hh; unfold stE stV at h; simp [h, Result.andThen_ok])) (hc5.out) ?_
      simp only [Act.put, List.setIfInBounds_toArray, List.set_cons_succ, List.set_cons_zero]
      refine wpAnyH_done (by kernel_rfl) ?_ _
      clear hH0 hH hh HR hc9 hkd
      go_wp2
      go_ret
      obtain ⟨v9, U9, V9, g9⟩ := hfin.out
      exact ⟨v9, U9, V9, rfl, g9⟩
  · rw [if_neg her0] at ob1
    have hne : (er == 0) = false := by simpa using her0
    have hfin := hid (show ∃ v' U' V', Kept (U ++ V ++ fuB fv) w w1 ∧ (∀ x ∈ U', x ∈ U ∨ w.heap.size ≤ x) ∧ (∀ x ∈ V', x ∈ V ∨ w.heap.size ≤ x) ∧
      Co w1 U' V' p q (ifOK er (putE ⟨nm, v', bs⟩ es) es) (ifOK er (putE (stE nm ⟨mn, false, 0⟩) ss) ss) fv (fl.drop 1) (k + 1) jobs life least (ifOK er lo lost) ∧ FuV w1 (U' ++ V') fv (decL left) from by
      unfold ifOK
      simp only [if_neg her0]
      refine ⟨v', U', V, k1.wider (fun x _ hx => by simp at hx ⊢; rcases hx with g | g <;> simp [g]), hU', fun x hx => Or.inl hx, ⟨⟨mv, ob1, m1⟩, hV', fun x hx => Nat.lt_of_lt_of_le (H4.out x hx) k1.size, H5.out, H6.out, ⟨j1, j2, f1, f2, l1, l2, o1, o2⟩⟩, fu1.set (fun x hx hm => ?_)⟩
      rcases List.mem_append.1 hm with g | g
      · exact (fu1.out x hx).2 g
      · exact (HF.out x hx).2 (by simp [g]))
    clear hpu2 k1 hU' ob1 fu1 hV' m1 her0
    go_wp2
    go_ret
    obtain ⟨v9, U9, V9, g9⟩ := hfin.out
    exact ⟨v9, U9, V9, rfl, g9⟩
end Go.Proofs.Ytnkolgamnakegaa
