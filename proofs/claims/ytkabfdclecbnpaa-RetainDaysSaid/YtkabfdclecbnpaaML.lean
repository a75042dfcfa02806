import Derived.Test.YtkabfdclecbnpaaZ0
import Derived.Test.YtkabfdclecbnpaaProg
import Derived.Shelf.SlSortCmp.Kit1
import Derived.Sort.WalkA
import Derived.Sort.WalkB2
import Derived.Sort.WalkB12
import Derived.Deep.LoopGhost
import Derived.Test.YtkabfdclecbnpaaLib

/- Two parts of a row of one-cell elements changed for each other. -/
namespace Go.Proofs.Ytkabfdclecbnpaa
open Go.RowKit Go.Lib Go.Sort Go.Shelf
variable {α : Type} [Inhabited α] {enc : α → Value}

theorem permIn_swp (d dk : Array α) (a b i j : Nat) (h : PermIn a b d dk) (hi : a ≤ i) (hib : i < b) (hj : a ≤ j) (hjb : j < b) (hb : b ≤ dk.size) : PermIn a b d (swp dk i j) :=
  permIn_trans _ _ _ _ _ h (swp_permIn dk a b i j hi hib hj hjb hb)

set_option maxRecDepth 100000 in
set_option maxHeartbeats 4000000 in
theorem swap_range1 (g : Nat) (cb : Array Value) (blk off cap sz a b n : Nat) (w0 W : World) (d0 dk : Array α) (R : Row1 enc w0 blk off d0) (hs0 : d0.size = sz) (hs : dk.size = sz) (h : SW enc w0 blk off dk W) (hab : a + n ≤ b) (hb : b + n ≤ sz) (hsz : sz < 4611686018427387904) :
    Calls Try.prog 80 #[.slice (some ⟨blk, off, none⟩) sz cap, .int .i64 (a : Int), .int .i64 (b : Int), .int .i64 (n : Int), .func (.func g) #[] cb] W fun e w' =>
      e = .returned (.tuple #[]) ∧ ∃ d', d'.size = sz ∧ SW enc w0 blk off d' w' ∧ (∀ x, d'[x]! = swpF (fun y => dk[y]!) a b n x) ∧ PermIn a (b + n) dk d' := by
  have mixed : Try.prog.follows Departure.mixedOrders = true := by kernel_rfl
  have hcl0 := R.hO.cells
  simp only [Value.cells] at hcl0
  have hst := R.hO.store Try.prog
  have hR := hid R; have hS := hid h; have Hs := hid hs; have Hs0 := hid hs0
  clear R h hs hs0
  go_enter Try.func80, Try.ntmps80
  go_wp2_with fail
  go_loopg [10] n (fun g vi wr => ∃ (t : Nat) (dt : Array α), vi = .int .i64 (t : Int) ∧ t ≤ n ∧ n - t ≤ g ∧ Hid (dt.size = sz) ∧ Hid (SW enc w0 blk off dt wr) ∧ Hid (∀ x, dt[x]! = swpF (fun y => dk[y]!) a b t x) ∧ Hid (PermIn a (b + n) dk dt))
  case atStart => exact ⟨0, dk, rfl, by omega, by omega, Hs, hS, hid (fun x => (swpF_zero _ _ _ _).symm), hid (permIn_refl _ _ _)⟩
  case round =>
    obtain ⟨t, dt, rfl, htn, htg, Hst, HSt, HF, HP⟩ := hrel
    by_cases hlt : t < n
    · have hltz : (t : Int) < (n : Int) := by omega
      go_wp2_with fail
      obtain ⟨p, hp⟩ : ∃ p, p = a + t := ⟨_, rfl⟩
      obtain ⟨q, hq⟩ : ∃ q, q = b + t := ⟨_, rfl⟩
      have wp_ : IntKind.i64.wrap ((a : Int) + (t : Int)) = (p : Int) := by rw [IntKind.wrap_i64]; omega
      have wq_ : IntKind.i64.wrap ((b : Int) + (t : Int)) = (q : Int) := by rw [IntKind.wrap_i64]; omega
      have pz : (p : Int) < (sz : Int) := by omega
      have qz : (q : Int) < (sz : Int) := by omega
      have hpd : p < dt.size := by have := Hst.out; omega
      have hqd : q < dt.size := by have := Hst.out; omega
      have hss : dt.size = d0.size := by rw [Hst.out, Hs0.out]
      obtain ⟨xp, hxp⟩ : ∃ x, dt[p]! = x := ⟨_, rfl⟩
      obtain ⟨xq, hxq⟩ : ∃ x, dt[q]! = x := ⟨_, rfl⟩
      have c1 := HSt.out.c1 hR.out hss p hpd
      have c2 := HSt.out.c1 hR.out hss q hqd
      have f1 := HSt.out.f1 hR.out hss p hpd
      have f2 := HSt.out.f1 hR.out hss q hqd
      obtain ⟨u, c3⟩ := HSt.out.c2 hR.out hss p q hpd hqd (enc xq)
      have hE := HSt.out.swapped hR.out p q hpd hqd
      rw [hxp] at c1
      rw [hxq] at c2
      rw [hxp, hxq] at hE
      have HE := hid hE
      have HX := hid (And.intro hxp hxq)
      clear hE hxp hxq hss hpd hqd
      have HPQ := hid (And.intro hp hq)
      clear hp hq
      go_big_region_o
      all_goals go_wp2
      go_roundg (n - (t + 1))
      case measure => omega
      case rel =>
        have hp := HPQ.out.1; have hq := HPQ.out.2
        subst hp; subst hq
        refine ⟨t + 1, swp dt (a + t) (b + t), by go_num, by omega, by omega, hid (by rw [size_swp]; exact Hst.out), HE, hid ?_, hid ?_⟩
        · exact swpF_step dk dt a b t n hab (by rw [Hst.out]; exact hb) hlt HF.out
        · exact permIn_swp dk dt a (b + n) _ _ HP.out (by omega) (by omega) (by omega) (by omega) (by rw [Hst.out]; exact hb)
    · have hltz : ¬ (t : Int) < (n : Int) := by omega
      have e : t = n := by omega
      subst e
      go_wp2
      go_end0
      exact ⟨rfl, dt, Hst.out, HSt.out, HF.out, HP.out⟩
end Go.Proofs.Ytkabfdclecbnpaa


/- A part of a row of one-cell elements turned about a place. -/
namespace Go.Proofs.Ytkabfdclecbnpaa
open Go.RowKit Go.Lib Go.Sort Go.Shelf
variable {α : Type} [Inhabited α] {enc : α → Value}

set_option maxRecDepth 100000 in
set_option maxHeartbeats 4000000 in
theorem rotate1 (g : Nat) (cb : Array Value) (blk off cap sz a m b : Nat) (w0 W : World) (d0 dk : Array α) (R : Row1 enc w0 blk off d0) (hs0 : d0.size = sz) (hs : dk.size = sz) (h : SW enc w0 blk off dk W) (ham : a < m) (hmb : m < b) (hb : b ≤ sz) (hsz : sz < 4611686018427387904) :
    Calls Try.prog 77 #[.slice (some ⟨blk, off, none⟩) sz cap, .int .i64 (a : Int), .int .i64 (m : Int), .int .i64 (b : Int), .func (.func g) #[] cb] W fun e w' =>
      e = .returned (.tuple #[]) ∧ ∃ d', d'.size = sz ∧ SW enc w0 blk off d' w' ∧ (∀ x, d'[x]! = rotF (fun y => dk[y]!) a m b x) ∧ PermIn a b dk d' := by
  have hC := hid (fun W dt (hs : dt.size = sz) (h : SW enc w0 blk off dt W) p q n h1 h2 => swap_range1 g cb blk off cap sz p q n w0 W d0 dt R hs0 hs h h1 h2 hsz)
  have hS := hid h; have Hs := hid hs
  clear R h hs hs0
  have i1 : IntKind.i64.wrap ((m : Int) - (a : Int)) = ((m - a : Nat) : Int) := by rw [IntKind.wrap_i64]; omega
  have j1 : IntKind.i64.wrap ((b : Int) - (m : Int)) = ((b - m : Nat) : Int) := by rw [IntKind.wrap_i64]; omega
  obtain ⟨i0, hi0⟩ : ∃ i, i = m - a := ⟨_, rfl⟩
  obtain ⟨j0, hj0⟩ : ∃ j, j = b - m := ⟨_, rfl⟩
  rw [← hi0] at i1
  rw [← hj0] at j1
  have HIJ := hid (And.intro hi0 hj0)
  clear hi0 hj0
  go_enter Try.func77, Try.ntmps77
  go_wp2_with fail
  go_loopg [10, 11] (i0 + j0) (fun g vi vj wr => ∃ (i j : Nat) (dt : Array α), vi = .int .i64 (i : Int) ∧ vj = .int .i64 (j : Int) ∧ 0 < i ∧ 0 < j ∧ i ≤ i0 ∧ j ≤ j0 ∧ i + j ≤ g ∧ Hid (dt.size = sz) ∧ Hid (SW enc w0 blk off dt wr) ∧ Hid (∀ x, rotF (fun y => dt[y]!) (m - i) m (m + j) x = rotF (fun y => dk[y]!) a m b x) ∧ Hid (PermIn a b dk dt))
  case atStart =>
    have h1 := HIJ.out.1; have h2 := HIJ.out.2
    exact ⟨i0, j0, dk, rfl, rfl, by omega, by omega, by omega, by omega, by omega, Hs, hS, hid (fun x => by rw [show m - i0 = a by omega, show m + j0 = b by omega]), hid (permIn_refl _ _ _)⟩
  case round =>
    obtain ⟨i, j, dt, rfl, rfl, hi, hj, hii, hjj, hg, Hst, HSt, HF, HP⟩ := hrel
    have h1 := HIJ.out.1; have h2 := HIJ.out.2
    obtain ⟨p, hp⟩ : ∃ p, p = m - i := ⟨_, rfl⟩
    have wp_ : IntKind.i64.wrap ((m : Int) - (i : Int)) = (p : Int) := by rw [IntKind.wrap_i64]; omega
    rcases Nat.lt_trichotomy i j with hlt | heq | hgt
    · have n1 : ¬ ((i : Int) = (j : Int)) := by omega
      have n2 : ¬ ((j : Int) < (i : Int)) := by omega
      have w1 : IntKind.i64.wrap ((m : Int) + (j : Int)) = ((m + j : Nat) : Int) := by rw [IntKind.wrap_i64]; omega
      obtain ⟨q, hq⟩ : ∃ q, q = m + j - i := ⟨_, rfl⟩
      obtain ⟨mj, hmj⟩ : ∃ q, q = m + j := ⟨_, rfl⟩
      rw [← hmj] at w1
      have w2 : IntKind.i64.wrap ((mj : Int) - (i : Int)) = (q : Int) := by rw [IntKind.wrap_i64]; omega
      have w3 : IntKind.i64.wrap ((j : Int) - (i : Int)) = ((j - i : Nat) : Int) := by rw [IntKind.wrap_i64]; omega
      obtain ⟨j', hj'⟩ : ∃ q, q = j - i := ⟨_, rfl⟩
      rw [← hj'] at w3
      have hc := hid (hC.out wr dt Hst.out HSt.out p q i (by omega) (by omega))
      have HQ := hid (show p = m - i ∧ q = m + j - i ∧ j' = j - i ∧ i0 = m - a ∧ j0 = b - m from ⟨hp, hq, hj', h1, h2⟩)
      clear hp hq hmj hj' h1 h2
      go_wp2_with fail
      refine hc.out.mono ?_
      rintro e w1' ⟨rfl, d1, hz1, hs1, hf1, hp1⟩
      have hz1 := hid hz1; have hs1 := hid hs1; have hf1 := hid hf1; have hp1 := hid hp1
      clear hc
      go_wp2_with fail
      go_roundg (i + j')
      case measure => have := HQ.out; omega
      case rel =>
        obtain ⟨q1, q2, q3, q4, q5⟩ := HQ.out
        refine ⟨i, j', d1, rfl, rfl, hi, by omega, hii, by omega, Nat.le_refl _, hz1, hs1, hid (fun x => ?_), hid (permIn_trans _ _ _ _ _ HP.out (permIn_mono _ _ _ _ a b (by omega) (by omega) (by rw [Hst.out]; exact hb) hp1.out))⟩
        rw [← HF.out x, ← rot_small _ m i j x (by omega) hlt]
        rw [show m + j' = m + j - i by omega]
        exact rotF_at (fun y => by rw [hf1.out, q1, q2]) _ _ _ x
    · subst heq
      have hc := hid (hC.out wr dt Hst.out HSt.out p m i (by omega) (by omega))
      have HQ := hid (show p = m - i ∧ i0 = m - a ∧ j0 = b - m from ⟨hp, h1, h2⟩)
      clear hp h1 h2
      go_wp2_with fail
      refine hc.out.mono ?_
      rintro e w1' ⟨rfl, d1, hz1, hs1, hf1, hp1⟩
      have hz1 := hid hz1; have hs1 := hid hs1; have hf1 := hid hf1; have hp1 := hid hp1
      clear hc
      go_wp2
      go_end0
      obtain ⟨q1, q2, q3⟩ := HQ.out
      refine ⟨rfl, d1, hz1.out, hs1.out, fun x => ?_, permIn_trans _ _ _ _ _ HP.out (permIn_mono _ _ _ _ a b (by omega) (by omega) (by rw [Hst.out]; exact hb) hp1.out)⟩
      rw [← HF.out x, hf1.out x, q1]
      exact rot_eq _ m i x (by omega)
    · have n1 : ¬ ((i : Int) = (j : Int)) := by omega
      have n2 : ((j : Int) < (i : Int)) := by omega
      have w3 : IntKind.i64.wrap ((i : Int) - (j : Int)) = ((i - j : Nat) : Int) := by rw [IntKind.wrap_i64]; omega
      obtain ⟨i', hi'⟩ : ∃ q, q = i - j := ⟨_, rfl⟩
      rw [← hi'] at w3
      have hc := hid (hC.out wr dt Hst.out HSt.out p m j (by omega) (by omega))
      have HQ := hid (show p = m - i ∧ i' = i - j ∧ i0 = m - a ∧ j0 = b - m from ⟨hp, hi', h1, h2⟩)
      clear hp hi' h1 h2
      go_wp2_with fail
      refine hc.out.mono ?_
      rintro e w1' ⟨rfl, d1, hz1, hs1, hf1, hp1⟩
      have hz1 := hid hz1; have hs1 := hid hs1; have hf1 := hid hf1; have hp1 := hid hp1
      clear hc
      go_wp2_with fail
      go_roundg (i' + j)
      case measure => have := HQ.out; omega
      case rel =>
        obtain ⟨q1, q2, q4, q5⟩ := HQ.out
        refine ⟨i', j, d1, rfl, rfl, by omega, hj, by omega, hjj, Nat.le_refl _, hz1, hs1, hid (fun x => ?_), hid (permIn_trans _ _ _ _ _ HP.out (permIn_mono _ _ _ _ a b (by omega) (by omega) (by rw [Hst.out]; exact hb) hp1.out))⟩
        rw [← HF.out x, ← rot_big _ m i j x (by omega) hgt]
        rw [show m - i' = m - i + j by omega]
        exact rotF_at (fun y => by rw [hf1.out, q1]) _ _ _ x

end Go.Proofs.Ytkabfdclecbnpaa


/- One merged into a run: behind it, ahead of it. -/
namespace Go.Proofs.Ytkabfdclecbnpaa
open Go.RowKit Go.Lib Go.Sort Go.Shelf
variable {α : Type} [Inhabited α] {enc : α → Value}

/-- Where one of a later run is held against one of an earlier one, the finer order says what the comparison says. -/
def AG (lt : α → α → Bool) (cf : α → α → Int) (d : Array α) (a m b : Nat) : Prop := ∀ x y, a ≤ x → x < m → m ≤ y → y < b → lt d[y]! d[x]! = decide (cf d[y]! d[x]! < 0)


set_option maxRecDepth 100000 in
set_option maxHeartbeats 4000000 in
theorem sym_up (lt : α → α → Bool) (cf : α → α → Int) (hO : SWO lt) (g : Nat) (cb : Array Value) (eg : ∀ args w, (callFunc g args).run Try.prog w = .ok (.enter g args) w) (blk off cap sz a m b : Nat) (w0 W : World) (d0 dk : Array α)
    (hcmp : CmpLays1 Try.prog g cb enc cf blk off sz w0) (R : Row1 enc w0 blk off d0) (hs0 : d0.size = sz) (hs : dk.size = sz) (h : SW enc w0 blk off dk W) (hm : m = a + 1) (hmb : m < b) (hb : b ≤ sz) (hsz : sz < 4611686018427387904) (hso : SortedIn lt m b dk) (hag : AG lt cf dk a m b) :
    Calls Try.prog 69 #[.slice (some ⟨blk, off, none⟩) sz cap, .int .i64 (a : Int), .int .i64 (m : Int), .int .i64 (b : Int), .func (.func g) #[] cb] W fun e w' =>
      e = .returned (.tuple #[]) ∧ ∃ d', d'.size = sz ∧ SW enc w0 blk off d' w' ∧ PermIn a b dk d' ∧ SortedIn lt a b d' := by
  have hcl0 := R.hO.cells
  simp only [Value.cells] at hcl0
  have hst := R.hO.store Try.prog
  have HAG := hid hag
  have hR := hid R; have hS := hid h; have Hs := hid hs; have Hs0 := hid hs0; have HC := hid hcmp; have HSO := hid hso
  have hmono := hid (mono_up (lt := lt) (d := dk) (m := m) (b := b) dk[a]! hO hso)
  clear R h hs hs0 hcmp hso hag
  have mixed : Try.prog.follows Departure.mixedOrders = true := by kernel_rfl
  have e1 : IntKind.i64.wrap ((m : Int) - (a : Int)) = 1 := by rw [IntKind.wrap_i64]; omega
  have e2 : (m : Int) - (a : Int) = 1 := by omega
  have Hm := hid hm
  have ham : a < m := by omega
  clear hm
  go_enter Try.func69, Try.ntmps69
  go_wp2_with fail
  go_loopg [10, 11] (b - m) (fun gk vi vj wr => ∃ (i j : Nat), vi = .int .i64 (i : Int) ∧ vj = .int .i64 (j : Int) ∧ m ≤ i ∧ i ≤ j ∧ j ≤ b ∧ j - i ≤ gk ∧ Hid (Srch (fun x => lt dk[x]! dk[a]!) m b i j) ∧ Hid (SW enc w0 blk off dk wr))
  case atStart => exact ⟨m, b, rfl, rfl, Nat.le_refl _, by omega, Nat.le_refl _, Nat.le_refl _, hid (Srch.start _ (by omega)), hS⟩
  case round =>
    obtain ⟨i, j, rfl, rfl, hmi, hij, hjb, hg, HSr, HSt⟩ := hrel
    by_cases hlt : i < j
    · have hltz : (i : Int) < (j : Int) := by omega
      obtain ⟨h, hh⟩ : ∃ h, h = (i + j) / 2 := ⟨_, rfl⟩
      have hhz : ((i : Int) + (j : Int)) / 2 = (h : Int) := by omega
      have hih : i ≤ h := by omega
      have hhj : h < j := by omega
      clear hh
      have hz : (h : Int) < (sz : Int) := by omega
      have az : (a : Int) < (sz : Int) := by omega
      have hss : dk.size = d0.size := by rw [Hs.out, Hs0.out]
      obtain ⟨xh, hxh⟩ : ∃ x, dk[h]! = x := ⟨_, rfl⟩
      obtain ⟨xa, hxa⟩ : ∃ x, dk[a]! = x := ⟨_, rfl⟩
      have lh : ∀ n os, (grow (wr.drewN n) os).cell? ⟨blk, off + h, none⟩ = some (enc xh) := fun n os => by rw [← hxh]; exact HSt.out.cl hR.out hss h (by rw [Hs.out]; omega) n os
      have la : ∀ n os, (grow (wr.drewN n) os).cell? ⟨blk, off + a, none⟩ = some (enc xa) := fun n os => by rw [← hxa]; exact HSt.out.cl hR.out hss a (by rw [Hs.out]; omega) n os
      have hcg : ∀ n os, Calls Try.prog g (#[enc xh, enc xa] ++ cb) (grow (wr.drewN n) os) fun e w' => e = .returned (.int .i64 (cf xh xa)) ∧ ∃ q os', w' = grow ((grow (wr.drewN n) os).drewN q) os' := fun n os => HSt.out.cmp HC.out Hs.out xh xa n os
      have HX := hid (And.intro hxh hxa)
      clear hxh hxa hss
      by_cases hlv : cf xh xa < 0
      · go_wp2_with fail
        go_quiet_grown (first | (go_at_fn g; refine Calls.grown_of (hcg _ _)))
        go_wp2
        go_roundg (j - (h + 1))
        case measure => omega
        case rel =>
          refine ⟨h + 1, j, by go_num, rfl, by omega, by omega, hjb, Nat.le_refl _, hid ?_, hid (HSt.out.grown nq osq)⟩
          exact HSr.out.right hmono.out hih hhj (by show lt dk[h]! dk[a]! = true; rw [HAG.out a h (Nat.le_refl _) (by omega) (by omega) (by omega), HX.out.1, HX.out.2]; exact decide_eq_true hlv)
      · go_wp2_with fail
        go_quiet_grown (first | (go_at_fn g; refine Calls.grown_of (hcg _ _)))
        go_wp2
        go_roundg (h - i)
        case measure => omega
        case rel =>
          refine ⟨i, h, rfl, by go_num, hmi, hih, by omega, Nat.le_refl _, hid ?_, hid (HSt.out.grown nq osq)⟩
          exact HSr.out.left hmono.out hih hhj (by show lt dk[h]! dk[a]! = false; rw [HAG.out a h (Nat.le_refl _) (by omega) (by omega) (by omega), HX.out.1, HX.out.2]; exact decide_eq_false (by omega))
    · have hltz : ¬ (i : Int) < (j : Int) := by omega
      have e : j = i := by omega
      subst e
      obtain ⟨i', hi'⟩ : ∃ i', j = i' + 1 := ⟨j - 1, by omega⟩
      have hai' : a ≤ i' := by omega
      have hib' : i' < b := by omega
      have hz0 : (j : Int) - 1 = (i' : Int) := by omega
      have wi : IntKind.i64.wrap ((j : Int) - 1) = (i' : Int) := by rw [IntKind.wrap_i64]; omega
      have HSw := HSt
      have Hi := hid hi'
      clear hi'
      go_wp2_with fail
      go_loopg [13] (i' - a) (fun gk vt wq => ∃ (t : Nat) (dt : Array α), vt = .int .i64 (t : Int) ∧ a ≤ t ∧ t ≤ i' ∧ i' - t ≤ gk ∧ Hid (dt.size = sz) ∧ Hid (SW enc w0 blk off dt wq) ∧ Hid (∀ x, dt[x]! = rotF (fun y => dk[y]!) a (a + 1) (t + 1) x) ∧ Hid (PermIn a b dk dt))
      case atStart => exact ⟨a, dk, rfl, Nat.le_refl _, by omega, Nat.le_refl _, Hs, HSw, hid (fun x => (rotF_none _ _ _ _ _ (Or.inr rfl) (by omega) (by omega)).symm), hid (permIn_refl _ _ _)⟩
      case round =>
        obtain ⟨t, dt, rfl, hat, hti, hg2, Hst, HSd, HF, HP⟩ := hrel
        by_cases hlt2 : t < i'
        · have hz1 : (t : Int) < (i' : Int) := by omega
          go_wp2_with fail
          obtain ⟨q, hq⟩ : ∃ q, q = t + 1 := ⟨_, rfl⟩
          have wq_ : IntKind.i64.wrap ((t : Int) + 1) = (q : Int) := by rw [IntKind.wrap_i64]; omega
          have pz : (t : Int) < (sz : Int) := by omega
          have qz : (q : Int) < (sz : Int) := by omega
          have hpd : t < dt.size := by have := Hst.out; omega
          have hqd : q < dt.size := by have := Hst.out; omega
          have hss : dt.size = d0.size := by rw [Hst.out, Hs0.out]
          obtain ⟨xp, hxp⟩ : ∃ x, dt[t]! = x := ⟨_, rfl⟩
          obtain ⟨xq, hxq⟩ : ∃ x, dt[q]! = x := ⟨_, rfl⟩
          have c1 := HSd.out.c1 hR.out hss t hpd
          have c2 := HSd.out.c1 hR.out hss q hqd
          have f1 := HSd.out.f1 hR.out hss t hpd
          have f2 := HSd.out.f1 hR.out hss q hqd
          obtain ⟨u, c3⟩ := HSd.out.c2 hR.out hss t q hpd hqd (enc xq)
          have hE := HSd.out.swapped hR.out t q hpd hqd
          rw [hxp] at c1
          rw [hxq] at c2
          rw [hxp, hxq] at hE
          have HE := hid hE
          clear hE hxp hxq hss hpd hqd
          have HQ := hid hq
          clear hq
          go_big_region_o
          all_goals go_wp2
          go_roundg (i' - (t + 1))
          case measure => omega
          case rel =>
            have hq := HQ.out
            subst hq
            refine ⟨t + 1, swp dt t (t + 1), by go_num, by omega, by omega, Nat.le_refl _, hid (by rw [size_swp]; exact Hst.out), HE, hid ?_, hid ?_⟩
            · exact rot_up dk dt a t hat (by rw [Hst.out]; omega) HF.out
            · exact permIn_swp dk dt a b _ _ HP.out (by omega) (by omega) (by omega) (by omega) (by rw [Hst.out]; exact hb)
        · have hz1 : ¬ (t : Int) < (i' : Int) := by omega
          have et : t = i' := by omega
          subst et
          go_wp2
          refine bodyPost_ret (v := .tuple #[]) (results_none rfl _ _ _) rfl ?_
          refine ⟨rfl, dt, Hst.out, HSd.out, HP.out, ?_⟩
          have hS1 := HSr.out; have hO1 := HSO.out
          rw [Hm.out] at hS1 hO1
          rw [Hi.out] at hS1
          exact one_up hO hO1 hS1 HF.out
set_option maxRecDepth 100000 in
set_option maxHeartbeats 4000000 in
theorem sym_down (lt : α → α → Bool) (cf : α → α → Int) (hO : SWO lt) (g : Nat) (cb : Array Value) (eg : ∀ args w, (callFunc g args).run Try.prog w = .ok (.enter g args) w) (blk off cap sz a m b : Nat) (w0 W : World) (d0 dk : Array α)
    (hcmp : CmpLays1 Try.prog g cb enc cf blk off sz w0) (R : Row1 enc w0 blk off d0) (hs0 : d0.size = sz) (hs : dk.size = sz) (h : SW enc w0 blk off dk W) (ham : a + 1 < m) (hm : b = m + 1) (hb : b ≤ sz) (hsz : sz < 4611686018427387904) (hso : SortedIn lt a m dk) (hag : AG lt cf dk a m b) :
    Calls Try.prog 69 #[.slice (some ⟨blk, off, none⟩) sz cap, .int .i64 (a : Int), .int .i64 (m : Int), .int .i64 (b : Int), .func (.func g) #[] cb] W fun e w' =>
      e = .returned (.tuple #[]) ∧ ∃ d', d'.size = sz ∧ SW enc w0 blk off d' w' ∧ PermIn a b dk d' ∧ SortedIn lt a b d' := by
  have hcl0 := R.hO.cells
  simp only [Value.cells] at hcl0
  have hst := R.hO.store Try.prog
  have HAG := hid hag
  have hR := hid R; have hS := hid h; have Hs := hid hs; have Hs0 := hid hs0; have HC := hid hcmp; have HSO := hid hso
  have hmono := hid (mono_down (lt := lt) (d := dk) (a := a) (m := m) dk[m]! hO hso)
  clear R h hs hs0 hcmp hso hag
  have mixed : Try.prog.follows Departure.mixedOrders = true := by kernel_rfl
  have e1 : IntKind.i64.wrap ((m : Int) - (a : Int)) = (m : Int) - (a : Int) := by rw [IntKind.wrap_i64]; omega
  have e2 : ¬ (m : Int) - (a : Int) = 1 := by omega
  have e2b : ((m : Int) - (a : Int) == 1) = false := beq_false_of_ne e2
  have e3 : IntKind.i64.wrap ((b : Int) - (m : Int)) = 1 := by rw [IntKind.wrap_i64]; omega
  have e4 : (b : Int) - (m : Int) = 1 := by omega
  have Hm := hid hm
  have hmb : m < b := by omega
  clear hm
  go_enter Try.func69, Try.ntmps69
  go_wp2_with fail
  go_loopg [14, 15] (m - a) (fun gk vi vj wr => ∃ (i j : Nat), vi = .int .i64 (i : Int) ∧ vj = .int .i64 (j : Int) ∧ a ≤ i ∧ i ≤ j ∧ j ≤ m ∧ j - i ≤ gk ∧ Hid (Srch (fun x => !lt dk[m]! dk[x]!) a m i j) ∧ Hid (SW enc w0 blk off dk wr))
  case atStart => exact ⟨a, m, rfl, rfl, Nat.le_refl _, by omega, Nat.le_refl _, Nat.le_refl _, hid (Srch.start _ (by omega)), hS⟩
  case round =>
    obtain ⟨i, j, rfl, rfl, hmi, hij, hjb, hg, HSr, HSt⟩ := hrel
    by_cases hlt : i < j
    · have hltz : (i : Int) < (j : Int) := by omega
      obtain ⟨h, hh⟩ : ∃ h, h = (i + j) / 2 := ⟨_, rfl⟩
      have hhz : ((i : Int) + (j : Int)) / 2 = (h : Int) := by omega
      have hih : i ≤ h := by omega
      have hhj : h < j := by omega
      clear hh
      have hz : (h : Int) < (sz : Int) := by omega
      have az : (m : Int) < (sz : Int) := by omega
      have hss : dk.size = d0.size := by rw [Hs.out, Hs0.out]
      obtain ⟨xh, hxh⟩ : ∃ x, dk[h]! = x := ⟨_, rfl⟩
      obtain ⟨xa, hxa⟩ : ∃ x, dk[m]! = x := ⟨_, rfl⟩
      have lh : ∀ n os, (grow (wr.drewN n) os).cell? ⟨blk, off + h, none⟩ = some (enc xh) := fun n os => by rw [← hxh]; exact HSt.out.cl hR.out hss h (by rw [Hs.out]; omega) n os
      have la : ∀ n os, (grow (wr.drewN n) os).cell? ⟨blk, off + m, none⟩ = some (enc xa) := fun n os => by rw [← hxa]; exact HSt.out.cl hR.out hss m (by rw [Hs.out]; omega) n os
      have hcg : ∀ n os, Calls Try.prog g (#[enc xa, enc xh] ++ cb) (grow (wr.drewN n) os) fun e w' => e = .returned (.int .i64 (cf xa xh)) ∧ ∃ q os', w' = grow ((grow (wr.drewN n) os).drewN q) os' := fun n os => HSt.out.cmp HC.out Hs.out xa xh n os
      have HX := hid (And.intro hxh hxa)
      clear hxh hxa hss
      by_cases hlv : cf xa xh < 0
      · have hlc : (!decide (cf xa xh < 0)) = false := by simpa using hlv
        go_wp2_with fail
        go_quiet_grown (first | (go_at_fn g; refine Calls.grown_of (hcg _ _)))
        go_wp2
        go_roundg (h - i)
        case measure => omega
        case rel =>
          refine ⟨i, h, rfl, by go_num, hmi, hih, by omega, Nat.le_refl _, hid ?_, hid (HSt.out.grown nq osq)⟩
          exact HSr.out.left hmono.out hih hhj (by show (!lt dk[m]! dk[h]!) = false; rw [HAG.out h m (by omega) (by omega) (by omega) (by omega), HX.out.1, HX.out.2, decide_eq_true hlv]; rfl)
      · have hlc : (!decide (cf xa xh < 0)) = true := by simpa using hlv
        go_wp2_with fail
        go_quiet_grown (first | (go_at_fn g; refine Calls.grown_of (hcg _ _)))
        go_wp2
        go_roundg (j - (h + 1))
        case measure => omega
        case rel =>
          refine ⟨h + 1, j, by go_num, rfl, by omega, by omega, hjb, Nat.le_refl _, hid ?_, hid (HSt.out.grown nq osq)⟩
          exact HSr.out.right hmono.out hih hhj (by show (!lt dk[m]! dk[h]!) = true; rw [HAG.out h m (by omega) (by omega) (by omega) (by omega), HX.out.1, HX.out.2, decide_eq_false (by omega : ¬ cf xa xh < 0)]; rfl)
    · have hltz : ¬ (i : Int) < (j : Int) := by omega
      have e : j = i := by omega
      subst e
      have HSw := HSt
      go_wp2_with fail
      go_loopg [17] (m - j) (fun gk vt wq => ∃ (t : Nat) (dt : Array α), vt = .int .i64 (t : Int) ∧ j ≤ t ∧ t ≤ m ∧ t - j ≤ gk ∧ Hid (dt.size = sz) ∧ Hid (SW enc w0 blk off dt wq) ∧ Hid (∀ x, dt[x]! = rotF (fun y => dk[y]!) t m (m + 1) x) ∧ Hid (PermIn a b dk dt))
      case atStart => exact ⟨m, dk, rfl, by omega, Nat.le_refl _, Nat.le_refl _, Hs, HSw, hid (fun x => (rotF_none _ _ _ _ _ (Or.inl rfl) (by omega) (by omega)).symm), hid (permIn_refl _ _ _)⟩
      case round =>
        obtain ⟨t, dt, rfl, hat, hti, hg2, Hst, HSd, HF, HP⟩ := hrel
        by_cases hlt2 : j < t
        · have hz1 : (j : Int) < (t : Int) := by omega
          go_wp2_with fail
          obtain ⟨q, hq⟩ : ∃ q, t = q + 1 := ⟨t - 1, by omega⟩
          have wq_ : IntKind.i64.wrap ((t : Int) - 1) = (q : Int) := by rw [IntKind.wrap_i64]; omega
          have pz : (t : Int) < (sz : Int) := by omega
          have qz : (q : Int) < (sz : Int) := by omega
          have hpd : t < dt.size := by have := Hst.out; omega
          have hqd : q < dt.size := by have := Hst.out; omega
          have hss : dt.size = d0.size := by rw [Hst.out, Hs0.out]
          obtain ⟨xp, hxp⟩ : ∃ x, dt[t]! = x := ⟨_, rfl⟩
          obtain ⟨xq, hxq⟩ : ∃ x, dt[q]! = x := ⟨_, rfl⟩
          have c1 := HSd.out.c1 hR.out hss t hpd
          have c2 := HSd.out.c1 hR.out hss q hqd
          have f1 := HSd.out.f1 hR.out hss t hpd
          have f2 := HSd.out.f1 hR.out hss q hqd
          obtain ⟨u, c3⟩ := HSd.out.c2 hR.out hss t q hpd hqd (enc xq)
          have hE := HSd.out.swapped hR.out t q hpd hqd
          rw [hxp] at c1
          rw [hxq] at c2
          rw [hxp, hxq] at hE
          have HE := hid hE
          clear hE hxp hxq hss hpd hqd
          have HQ := hid hq
          clear hq
          go_big_region_o
          all_goals go_wp2
          go_roundg (q - j)
          case measure => have := HQ.out; omega
          case rel =>
            have hq := HQ.out
            subst hq
            refine ⟨q, swp dt (q + 1) q, by go_num, by omega, by omega, Nat.le_refl _, hid (by rw [size_swp]; exact Hst.out), HE, hid ?_, hid ?_⟩
            · exact rot_down dk dt m q (by omega) (by rw [Hst.out]; omega) HF.out
            · exact permIn_swp dk dt a b _ _ HP.out (by omega) (by omega) (by omega) (by omega) (by rw [Hst.out]; exact hb)
        · have hz1 : ¬ (j : Int) < (t : Int) := by omega
          have et : t = j := by omega
          subst et
          go_wp2
          refine bodyPost_ret (v := .tuple #[]) (results_none rfl _ _ _) rfl ?_
          refine ⟨rfl, dt, Hst.out, HSd.out, HP.out, ?_⟩
          rw [Hm.out]
          exact one_down hO HSO.out HSr.out HF.out

end Go.Proofs.Ytkabfdclecbnpaa
