import Derived.Test.YtkabfdclecbnpaaML
import Derived.Deep.DeepCutAuto
import Derived.Deep.CutBlock

/- Two runs of more than one merged in place. -/
namespace Go.Proofs.Ytkabfdclecbnpaa
open Go.RowKit Go.Lib Go.Sort Go.Shelf
variable {α : Type} [Inhabited α] {enc : α → Value}

theorem AG.same {lt : α → α → Bool} {cf : α → α → Int} {d d' : Array α} {a m b : Nat} (h : AG lt cf d a m b) (hs : ∀ x, a ≤ x → x < b → d'[x]! = d[x]!) : AG lt cf d' a m b := fun x y hx hxm hy hyb => by
  rw [hs x hx (by omega), hs y (by omega) hyb]; exact h x y hx hxm hy hyb
theorem AG.halves {lt : α → α → Bool} {cf : α → α → Int} {d d' : Array α} {a m b s e : Nat} (h : AG lt cf d a m b) (hsm : s ≤ m) (has : a ≤ s) (hme : m ≤ e) (heb : e ≤ b) (hr : ∀ x, d'[x]! = rotF (fun y => d[y]!) s m e x) :
    AG lt cf d' a s (s + (e - m)) ∧ AG lt cf d' (s + (e - m)) e b := by
  have f1 : ∀ x, x < s → d'[x]! = d[x]! := fun x hx => by rw [hr]; unfold rotF; rw [if_pos (by omega)]
  have f2 : ∀ x, s ≤ x → x < s + (e - m) → d'[x]! = d[x + m - s]! := fun x hx hy => by rw [hr]; unfold rotF; rw [if_neg (by omega), if_pos (by omega)]
  have f3 : ∀ x, s + (e - m) ≤ x → x < e → d'[x]! = d[x - (e - m)]! := fun x hx hy => by rw [hr]; unfold rotF; rw [if_neg (by omega), if_neg (by omega)]
  have f4 : ∀ x, e ≤ x → d'[x]! = d[x]! := fun x hx => by rw [hr]; unfold rotF; rw [if_pos (by omega)]
  refine ⟨fun x y hx hxm hy hyb => ?_, fun x y hx hxm hy hyb => ?_⟩
  · rw [f1 x hxm, f2 y hy hyb]; exact h _ _ hx (by omega) (by omega) (by omega)
  · rw [f3 x hx hxm, f4 y hy]; exact h _ _ (by omega) (by omega) (by omega) hyb

set_option maxRecDepth 100000 in
set_option maxHeartbeats 4000000 in
theorem sym_mid (lt : α → α → Bool) (cf : α → α → Int) (hO : SWO lt) (g : Nat) (cb : Array Value) (eg : ∀ args w, (callFunc g args).run Try.prog w = .ok (.enter g args) w) (blk off cap sz a m b : Nat) (w0 W : World) (d0 dk : Array α)
    (hcmp : CmpLays1 Try.prog g cb enc cf blk off sz w0) (R : Row1 enc w0 blk off d0) (hs0 : d0.size = sz) (hs : dk.size = sz) (h : SW enc w0 blk off dk W) (ham : a + 1 < m) (hmb : m + 1 < b) (hb : b ≤ sz) (hsz : sz < 4611686018427387904) (hso : SortedIn lt a m dk) (hso2 : SortedIn lt m b dk) (hag : AG lt cf dk a m b)
    (hRot : ∀ W dt, dt.size = sz → SW enc w0 blk off dt W → ∀ p q r, p < q → q < r → r ≤ sz →
      Calls Try.prog 77 #[.slice (some ⟨blk, off, none⟩) sz cap, .int .i64 (p : Int), .int .i64 (q : Int), .int .i64 (r : Int), .func (.func g) #[] cb] W fun e w' =>
        e = .returned (.tuple #[]) ∧ ∃ d', d'.size = sz ∧ SW enc w0 blk off d' w' ∧ (∀ x, d'[x]! = rotF (fun y => dt[y]!) p q r x) ∧ PermIn p r dt d')
    (hRec : ∀ W dt, dt.size = sz → SW enc w0 blk off dt W → ∀ p q r, p < q → q < r → r ≤ sz → r - p < b - a → SortedIn lt p q dt → SortedIn lt q r dt → AG lt cf dt p q r →
      Calls Try.prog 69 #[.slice (some ⟨blk, off, none⟩) sz cap, .int .i64 (p : Int), .int .i64 (q : Int), .int .i64 (r : Int), .func (.func g) #[] cb] W fun e w' =>
        e = .returned (.tuple #[]) ∧ ∃ d', d'.size = sz ∧ SW enc w0 blk off d' w' ∧ PermIn p r dt d' ∧ SortedIn lt p r d') :
    Calls Try.prog 69 #[.slice (some ⟨blk, off, none⟩) sz cap, .int .i64 (a : Int), .int .i64 (m : Int), .int .i64 (b : Int), .func (.func g) #[] cb] W fun e w' =>
      e = .returned (.tuple #[]) ∧ ∃ d', d'.size = sz ∧ SW enc w0 blk off d' w' ∧ PermIn a b dk d' ∧ SortedIn lt a b d' := by
  have hcl0 := R.hO.cells
  simp only [Value.cells] at hcl0
  have hst := R.hO.store Try.prog
  have HAG := hid hag
  have hR := hid R; have hS := hid h; have Hs := hid hs; have Hs0 := hid hs0; have HC := hid hcmp; have HSO := hid hso; have HSO2 := hid hso2; have HRot := hid hRot; have HRec := hid hRec
  clear R h hs hs0 hcmp hso hso2 hRot hRec hag
  have mixed : Try.prog.follows Departure.mixedOrders = true := by kernel_rfl
  have e1 : IntKind.i64.wrap ((m : Int) - (a : Int)) = (m : Int) - (a : Int) := by rw [IntKind.wrap_i64]; omega
  have e2 : ¬ (m : Int) - (a : Int) = 1 := by omega
  have e2b : ((m : Int) - (a : Int) == 1) = false := beq_false_of_ne e2
  have e3 : IntKind.i64.wrap ((b : Int) - (m : Int)) = (b : Int) - (m : Int) := by rw [IntKind.wrap_i64]; omega
  have e4 : ¬ (b : Int) - (m : Int) = 1 := by omega
  have e4b : ((b : Int) - (m : Int) == 1) = false := beq_false_of_ne e4
  obtain ⟨mid, hmid⟩ : ∃ mid, mid = (a + b) / 2 := ⟨_, rfl⟩
  have hmz : ((a : Int) + (b : Int)) / 2 = (mid : Int) := by omega
  have ham2 : a < mid := by omega
  have hmb2 : mid < b := by omega
  obtain ⟨n, hn⟩ : ∃ n, n = mid + m := ⟨_, rfl⟩
  have wn : IntKind.i64.wrap ((mid : Int) + (m : Int)) = (n : Int) := by rw [IntKind.wrap_i64]; omega
  have HM := hid (And.intro hmid hn)
  clear hmid hn
  go_enter Try.func69, Try.ntmps69
  go_upto_if 140 with fail
  go_cut [20, 21] (fun s20 s21 wx => ∃ lo hi : Nat, s20 = .int .i64 (lo : Int) ∧ s21 = .int .i64 (hi : Int) ∧ wx = W ∧ Hid ((m ≤ mid ∧ lo = a ∧ hi = m) ∨ (mid < m ∧ lo = n - b ∧ hi = mid)))
  case first =>
    as_aux_lemma =>
      by_cases hmm : mid < m
      · have hmmz : (mid : Int) < (m : Int) := by omega
        obtain ⟨lo, hlo⟩ : ∃ lo, lo = n - b := ⟨_, rfl⟩
        have wl : IntKind.i64.wrap ((n : Int) - (b : Int)) = (lo : Int) := by have := HM.out; rw [IntKind.wrap_i64]; omega
        have Hlo := hid hlo
        clear hlo
        go_wp2_with fail
        go_meet
        exact ⟨lo, mid, rfl, rfl, rfl, hid (Or.inr ⟨hmm, Hlo.out, rfl⟩)⟩
      · have hmmz : ¬ (mid : Int) < (m : Int) := by omega
        go_wp2_with fail
        go_meet
        exact ⟨a, m, rfl, rfl, rfl, hid (Or.inl ⟨by omega, rfl, rfl⟩)⟩
  case rest =>
    as_aux_lemma =>
      obtain ⟨lo, hi, rfl, rfl, rfl, HB⟩ := hcut
      obtain ⟨p, hp⟩ : ∃ p, p = n - 1 := ⟨_, rfl⟩
      have wp0 : IntKind.i64.wrap ((n : Int) - 1) = (p : Int) := by have := HM.out; rw [IntKind.wrap_i64]; omega
      have hal : a ≤ lo := by have := HM.out; have := HB.out; omega
      have hlh : lo ≤ hi := by have := HM.out; have := HB.out; omega
      have hhm : hi ≤ m := by have := HM.out; have := HB.out; omega
      have hpb : lo < hi → p - lo < b ∧ m + hi ≤ p + 1 := by have := HM.out; have := HB.out; omega
      have hmono := hid (mono_mid (lt := lt) (d := dk) (p := p) hO HSO.out HSO2.out hal hhm hpb)
      have Hp := hid hp
      clear hp
      go_wp2_with fail
      go_loopg [20, 21] (hi - lo) (fun gk vi vj wr => ∃ (i j : Nat), vi = .int .i64 (i : Int) ∧ vj = .int .i64 (j : Int) ∧ lo ≤ i ∧ i ≤ j ∧ j ≤ hi ∧ j - i ≤ gk ∧ Hid (Srch (fun x => !lt dk[p - x]! dk[x]!) lo hi i j) ∧ Hid (SW enc w0 blk off dk wr))
      case atStart => exact ⟨lo, hi, rfl, rfl, Nat.le_refl _, hlh, Nat.le_refl _, Nat.le_refl _, hid (Srch.start _ hlh), hS⟩
      case round =>
        as_aux_lemma =>
          obtain ⟨i, j, rfl, rfl, hmi, hij, hjb, hg, HSr, HSt⟩ := hrel
          by_cases hlt : i < j
          · have hltz : (i : Int) < (j : Int) := by omega
            obtain ⟨h, hh⟩ : ∃ h, h = (i + j) / 2 := ⟨_, rfl⟩
            have hhz : ((i : Int) + (j : Int)) / 2 = (h : Int) := by omega
            have hih : i ≤ h := by omega
            have hhj : h < j := by omega
            clear hh
            have hz : (h : Int) < (sz : Int) := by omega
            obtain ⟨q, hq⟩ : ∃ q, q = p - h := ⟨_, rfl⟩
            have hqp : h ≤ p ∧ p - lo < b := by have := hpb (by omega); omega
            have wq_ : IntKind.i64.wrap ((p : Int) - (h : Int)) = (q : Int) := by have := HM.out; have := Hp.out; rw [IntKind.wrap_i64]; omega
            have qz : (q : Int) < (sz : Int) := by omega
            have hqs : q < sz := by omega
            have Hq := hid hq
            clear hq hqp
            have hss : dk.size = d0.size := by rw [Hs.out, Hs0.out]
            obtain ⟨xh, hxh⟩ : ∃ x, dk[h]! = x := ⟨_, rfl⟩
            obtain ⟨xa, hxa⟩ : ∃ x, dk[q]! = x := ⟨_, rfl⟩
            have lh : ∀ n os, (grow (wr.drewN n) os).cell? ⟨blk, off + h, none⟩ = some (enc xh) := fun n os => by rw [← hxh]; exact HSt.out.cl hR.out hss h (by rw [Hs.out]; omega) n os
            have la : ∀ n os, (grow (wr.drewN n) os).cell? ⟨blk, off + q, none⟩ = some (enc xa) := fun n os => by rw [← hxa]; exact HSt.out.cl hR.out hss q (by rw [Hs.out]; omega) n os
            have hcg : ∀ n os, Calls Try.prog g (#[enc xa, enc xh] ++ cb) (grow (wr.drewN n) os) fun e w' => e = .returned (.int .i64 (cf xa xh)) ∧ ∃ q os', w' = grow ((grow (wr.drewN n) os).drewN q) os' := fun n os => HSt.out.cmp HC.out Hs.out xa xh n os
            have HX := hid (And.intro hxh hxa)
            clear hxh hxa hss
            by_cases hlv : cf xa xh < 0
            · as_aux_lemma =>
                have hlc : (!decide (cf xa xh < 0)) = false := by simpa using hlv
                go_wp2_with fail
                go_quiet_grown (first | (go_at_fn g; refine Calls.grown_of (hcg _ _)))
                go_wp2
                go_roundg (h - i)
                case measure => omega
                case rel =>
                  refine ⟨i, h, rfl, by go_num, hmi, hih, by omega, Nat.le_refl _, hid ?_, hid (HSt.out.grown nq osq)⟩
                  exact HSr.out.left hmono.out hih hhj (by show (!lt dk[p - h]! dk[h]!) = false; rw [HAG.out h (p - h) (by omega) (by omega) (by have := hpb (by omega); omega) (by have := hpb (by omega); omega), ← Hq.out, HX.out.1, HX.out.2, decide_eq_true hlv]; rfl)
            · as_aux_lemma =>
                have hlc : (!decide (cf xa xh < 0)) = true := by simpa using hlv
                go_wp2_with fail
                go_quiet_grown (first | (go_at_fn g; refine Calls.grown_of (hcg _ _)))
                go_wp2
                go_roundg (j - (h + 1))
                case measure => omega
                case rel =>
                  refine ⟨h + 1, j, by go_num, rfl, by omega, by omega, hjb, Nat.le_refl _, hid ?_, hid (HSt.out.grown nq osq)⟩
                  exact HSr.out.right hmono.out hih hhj (by show (!lt dk[p - h]! dk[h]!) = true; rw [HAG.out h (p - h) (by omega) (by omega) (by have := hpb (by omega); omega) (by have := hpb (by omega); omega), ← Hq.out, HX.out.1, HX.out.2, decide_eq_false (by omega : ¬ cf xa xh < 0)]; rfl)
          · have hltz : ¬ (i : Int) < (j : Int) := by omega
            have e : j = i := by omega
            subst e
            obtain ⟨e, he⟩ : ∃ e, e = n - j := ⟨_, rfl⟩
            have we : IntKind.i64.wrap ((n : Int) - (j : Int)) = (e : Int) := by have := HM.out; rw [IntKind.wrap_i64]; omega
            have hCut := cut_mid (n := n) (mid := mid) (s := j) hO HSO.out HSO2.out (by omega) (by omega) HM.out.1 HM.out.2 HB.out (by have := HSr.out; rw [Hp.out] at this; exact this)
            rw [← he] at hCut
            obtain ⟨hC1, hC2⟩ := hCut
            have hjm := hC1.sm; have haj := hC1.as; have hme := hC1.me; have heb := hC1.eb
            have HC1 := hid hC1; have HC2 := hid hC2
            have hjmid : j ≤ mid := by omega
            have hmide : mid ≤ e := by omega
            clear hC1 hC2 he hpb
            go_upto_region 39 with fail
            go_cut [185] (fun s wx => ∃ c : Bool, s = .bool c ∧ wx = wr ∧ Hid (c = decide (j < m ∧ m < e)))
            case first =>
              as_aux_lemma =>
                by_cases c1 : j < m
                · as_aux_lemma =>
                    have c1z : (j : Int) < (m : Int) := by omega
                    by_cases c2 : m < e
                    · have c2z : (m : Int) < (e : Int) := by omega
                      go_wp2_with fail
                      go_meet
                      exact ⟨_, rfl, rfl, hid (by simp [c1, c2])⟩
                    · have c2z : ¬ (m : Int) < (e : Int) := by omega
                      go_wp2_with fail
                      go_meet
                      exact ⟨_, rfl, rfl, hid (by simp [c1, c2])⟩
                · as_aux_lemma =>
                    have c1z : ¬ (j : Int) < (m : Int) := by omega
                    go_wp2_with fail
                    go_meet
                    exact ⟨_, rfl, rfl, hid (by simp [c1])⟩
            case rest =>
            obtain ⟨c, rfl, rfl, Hc⟩ := hcut
            go_upto_if 185 with fail
            go_cut [] (fun wx => ∃ d1 : Array α, Hid (d1.size = sz) ∧ Hid (SW enc w0 blk off d1 wx) ∧ Hid (∀ x, d1[x]! = rotF (fun y => dk[y]!) j m e x) ∧ Hid (PermIn a b dk d1))
            case first =>
              as_aux_lemma =>
                cases c
                rotate_left 1
                · have c := of_decide_eq_true Hc.out.symm
                  have hc := hid (HRot.out _ dk Hs.out HSt.out j m e c.1 c.2 (by omega))
                  clear c
                  go_wp2_with fail
                  refine hc.out.mono ?_
                  rintro e0 w1' ⟨rfl, d1, hz1, hs1, hf1, hp1⟩
                  have hz1 := hid hz1; have hs1 := hid hs1; have hf1 := hid hf1; have hp1 := hid hp1
                  clear hc
                  go_wp2_with fail
                  go_meet
                  exact ⟨d1, hz1, hs1, hf1, hid (permIn_mono _ _ _ _ a b haj heb (by rw [Hs.out]; exact hb) hp1.out)⟩
                · have c := hid (of_decide_eq_false Hc.out.symm)
                  go_wp2_with fail
                  go_meet
                  exact ⟨dk, Hs, HSt, hid (fun x => (rotF_none _ _ _ _ _ (by have := c.out; omega) hjm hme).symm), hid (permIn_refl _ _ _)⟩
            case rest =>
              as_aux_lemma =>
                obtain ⟨d1, Hz1, Hs1, Hf1, Hp1⟩ := hcut
                have hh := HC1.out.halves hO HSO.out HSO2.out Hf1.out
                rw [HC2.out] at hh
                have HH := hid hh
                have ha := HAG.out.halves hjm haj hme heb Hf1.out
                rw [HC2.out] at ha
                have HA := hid ha
                clear hh ha
                go_upto_region 41 with fail
                go_cut [199] (fun s wx => ∃ c : Bool, s = .bool c ∧ wx = wc ∧ Hid (c = decide (a < j ∧ j < mid)))
                case first =>
                  as_aux_lemma =>
                    by_cases c1 : a < j
                    · as_aux_lemma =>
                        have c1z : (a : Int) < (j : Int) := by omega
                        by_cases c2 : j < mid
                        · have c2z : (j : Int) < (mid : Int) := by omega
                          go_wp2_with fail
                          go_meet
                          exact ⟨_, rfl, rfl, hid (by simp [c1, c2])⟩
                        · have c2z : ¬ (j : Int) < (mid : Int) := by omega
                          go_wp2_with fail
                          go_meet
                          exact ⟨_, rfl, rfl, hid (by simp [c1, c2])⟩
                    · as_aux_lemma =>
                        have c1z : ¬ (a : Int) < (j : Int) := by omega
                        go_wp2_with fail
                        go_meet
                        exact ⟨_, rfl, rfl, hid (by simp [c1])⟩
                case rest =>
                obtain ⟨c, rfl, rfl, Hc⟩ := hcut
                go_upto_if 199 with fail
                go_cut [] (fun wx => ∃ d2 : Array α, Hid (d2.size = sz) ∧ Hid (SW enc w0 blk off d2 wx) ∧ Hid (PermIn a mid d1 d2) ∧ Hid (SortedIn lt a mid d2))
                case first =>
                  as_aux_lemma =>
                    cases c
                    rotate_left 1
                    · have c := of_decide_eq_true Hc.out.symm
                      have hc := hid (HRec.out _ d1 Hz1.out Hs1.out a j mid c.1 c.2 (by omega) (by omega) HH.out.1 HH.out.2.1 HA.out.1)
                      clear c
                      go_wp2_with fail
                      refine hc.out.mono ?_
                      rintro e0 w1' ⟨rfl, d2, hz1, hs1, hp1, hq1⟩
                      have hz1 := hid hz1; have hs1 := hid hs1; have hp1 := hid hp1; have hq1 := hid hq1
                      clear hc
                      go_wp2_with fail
                      go_meet
                      exact ⟨d2, hz1, hs1, hp1, hq1⟩
                    · have c := hid (of_decide_eq_false Hc.out.symm)
                      go_wp2_with fail
                      go_meet
                      refine ⟨d1, Hz1, Hs1, hid (permIn_refl _ _ _), hid ?_⟩
                      have c := c.out
                      by_cases e1 : j = mid
                      · have := HH.out.1; rwa [e1] at this
                      · have := HH.out.2.1; rwa [show j = a by omega] at this
                case rest =>
                  as_aux_lemma =>
                    obtain ⟨d2, Hz2, Hs2, Hp2, Hq2⟩ := hcut
                    have k3 : SortedIn lt mid e d2 := fun x y hx hxy hy => by
                      rw [Hp2.out.2.1 x (Or.inr hx), Hp2.out.2.1 y (Or.inr (by omega))]; exact HH.out.2.2.1 x y hx hxy hy
                    have k4 : SortedIn lt e b d2 := fun x y hx hxy hy => by
                      rw [Hp2.out.2.1 x (Or.inr (by omega)), Hp2.out.2.1 y (Or.inr (by omega))]; exact HH.out.2.2.2.1 x y hx hxy hy
                    have K3 := hid k3; have K4 := hid k4
                    clear k3 k4
                    have fin := hid (show ∀ d3 : Array α, PermIn mid b d2 d3 → SortedIn lt mid b d3 → PermIn a b dk d3 ∧ SortedIn lt a b d3 from fun d3 p3 s3 =>
                      ⟨permIn_trans _ _ _ _ _ Hp1.out (permIn_trans _ _ _ _ _ (permIn_mono _ _ _ _ a b (Nat.le_refl _) (by omega) (by rw [Hz1.out]; exact hb) Hp2.out) (permIn_mono _ _ _ _ a b (by omega) (Nat.le_refl _) (by rw [Hz2.out]; exact hb) p3)),
                        halves_sorted (by omega) (by omega) (by rw [Hz1.out]; exact hb) HH.out.2.2.2.2 Hp2.out Hq2.out p3 s3⟩)
                    by_cases c1 : mid < e
                    · as_aux_lemma =>
                        have c1z : (mid : Int) < (e : Int) := by omega
                        by_cases c2 : e < b
                        · have c2z : (e : Int) < (b : Int) := by omega
                          have hc := hid (HRec.out _ d2 Hz2.out Hs2.out mid e b c1 c2 (by omega) (by omega) K3.out K4.out (HA.out.2.same fun x hx hx2 => Hp2.out.2.1 x (Or.inr hx)))
                          go_wp2_with fail
                          refine hc.out.mono ?_
                          rintro e0 w1' ⟨rfl, d3, hz1, hs1, hp1, hq1⟩
                          have hz1 := hid hz1; have hs1 := hid hs1; have hp1 := hid hp1; have hq1 := hid hq1
                          clear hc
                          go_wp2
                          go_end0
                          exact ⟨rfl, d3, hz1.out, hs1.out, fin.out d3 hp1.out hq1.out⟩
                        · have c2z : ¬ (e : Int) < (b : Int) := by omega
                          go_wp2
                          go_end0
                          exact ⟨rfl, d2, Hz2.out, Hs2.out, fin.out d2 (permIn_refl _ _ _) (by have := K3.out; rwa [show e = b by omega] at this)⟩
                    · as_aux_lemma =>
                        have c1z : ¬ (mid : Int) < (e : Int) := by omega
                        go_wp2
                        go_end0
                        exact ⟨rfl, d2, Hz2.out, Hs2.out, fin.out d2 (permIn_refl _ _ _) (by have := K4.out; rwa [show e = mid by omega] at this)⟩

end Go.Proofs.Ytkabfdclecbnpaa
