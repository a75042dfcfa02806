import Derived.Test.YtmfjfahlgcdehaaDoorZ0
import Derived.Test.YtmfjfahlgcdehaaDoorJ9
import Derived.Shelf.SlSortCmp.KitK
import Derived.Test.YtmfjfahlgcdehaaDoorJB

/- Two parts of a row of snapshots changed for each other. -/
namespace Go.Proofs.YtmfjfahlgcdehaaDoor
open Go.RowKit Go.Lib Go.Sort Go.Shelf

theorem permIn_step (d dk : Array Sq) (a b i j : Nat) (h : PermIn a b d dk) (hi : a ≤ i) (hib : i < b) (hj : a ≤ j) (hjb : j < b) (hb : b ≤ dk.size) : PermIn a b d (swp dk i j) :=
  permIn_trans _ _ _ _ _ h (swp_permIn dk a b i j hi hib hj hjb hb)

section
attribute [-simp] Tryd.sizeOf28
set_option maxRecDepth 100000 in
set_option maxHeartbeats 4000000 in
theorem swap_range_k (k : Nat) (zE : ∀ w, (Go.sizeOf 28).run Tryd.prog w = .ok k w) (blk off cap sz a b n : Nat) (w0 W : World) (d0 dk : Array Sq) (R : RowK encQ k w0 blk off d0) (hs0 : d0.size = sz) (hs : dk.size = sz) (h : SWK encQ k w0 blk off dk W) (hab : a + n ≤ b) (hb : b + n ≤ sz) (hsz : sz < 4611686018427387904) :
    Calls Tryd.prog 122 #[.slice (some ⟨blk, off, none⟩) sz cap, .int .i64 (a : Int), .int .i64 (b : Int), .int .i64 (n : Int), .func (.func 38) #[] #[]] W fun e w' =>
      e = .returned (.tuple #[]) ∧ ∃ d', d'.size = sz ∧ SWK encQ k w0 blk off d' w' ∧ (∀ x, d'[x]! = swpF (fun y => dk[y]!) a b n x) ∧ PermIn a (b + n) dk d' := by
  have hR := hid R; have hS := hid h; have Hs := hid hs; have Hs0 := hid hs0
  clear R h hs hs0
  go_enter Tryd.func122, Tryd.ntmps122
  go_wp2_with fail
  go_loopg [10] n (fun g vi wr => ∃ (t : Nat) (dt : Array Sq), vi = .int .i64 (t : Int) ∧ t ≤ n ∧ n - t ≤ g ∧ Hid (dt.size = sz) ∧ Hid (SWK encQ k w0 blk off dt wr) ∧ Hid (∀ x, dt[x]! = swpF (fun y => dk[y]!) a b t x) ∧ Hid (PermIn a (b + n) dk dt))
  case atStart => exact ⟨0, dk, rfl, by omega, by omega, Hs, hS, hid (fun x => (swpF_zero _ _ _ _).symm), hid (permIn_refl _ _ _)⟩
  case round =>
    obtain ⟨t, dt, rfl, htn, htg, Hst, HSt, HF, HP⟩ := hrel
    by_cases hlt : t < n
    · have hltz : (t : Int) < (n : Int) := by omega
      go_wp2_with fail
      obtain ⟨p, hp⟩ : ∃ p, p = a + t := ⟨_, rfl⟩
      obtain ⟨q, hq⟩ : ∃ q, q = b + t := ⟨_, rfl⟩
      have wp_ : IntKind.i64.wrap ((a : Int) + (t : Int)) = (p : Int) := by rw [IntKind.wrap_i64]; omega
      have wq_ : IntKind.i64.wrap ((b : Int) + (t : Int)) = (q : Int) := by rw [IntKind.wrap_i64]; omega
      have pz : (p : Int) < (sz : Int) := by omega
      have qz : (q : Int) < (sz : Int) := by omega
      have hpd : p < dt.size := by have := Hst.out; omega
      have hqd : q < dt.size := by have := Hst.out; omega
      have hss : dt.size = d0.size := by rw [Hst.out, Hs0.out]
      obtain ⟨xp, hxp⟩ : ∃ x, dt[p]! = x := ⟨_, rfl⟩
      obtain ⟨xq, hxq⟩ : ∃ x, dt[q]! = x := ⟨_, rfl⟩
      have lp : Sem.run Tryd.prog (loadCellsFrom ⟨blk, off + p * k, none⟩ 0 k #[]) wr.drew = .ok (encQ xp).toArray wr.drew := by rw [← hxp]; exact HSt.out.ld1 hR.out hss _ p hpd
      have lq : Sem.run Tryd.prog (loadCellsFrom ⟨blk, off + q * k, none⟩ 0 k #[]) wr.drew = .ok (encQ xq).toArray wr.drew := by rw [← hxq]; exact HSt.out.ld1 hR.out hss _ q hqd
      have s1 : Sem.run Tryd.prog (storeCells ⟨blk, off + p * k, none⟩ (encQ xq) 0) wr.drew = .ok () (wr.drew.setCells blk (off + p * k) (encQ xq)) := HSt.out.st1 hR.out hss _ p hpd xq
      have s2 : Sem.run Tryd.prog (storeCells ⟨blk, off + q * k, none⟩ (encQ xp) 0) (wr.drew.setCells blk (off + p * k) (encQ xq)) = .ok () ((wr.drew.setCells blk (off + p * k) (encQ xq)).setCells blk (off + q * k) (encQ xp)) := HSt.out.st2 hR.out hss _ p q hpd hqd xq xp
      have hE := HSt.out.swapped hR.out p q hpd hqd
      rw [hxp, hxq] at hE
      have HE := hid hE
      have HX := hid (And.intro hxp hxq)
      have hlP : (encQ xp).length = k := hR.out.hk _
      have hlQ : (encQ xq).length = k := hR.out.hk _
      clear hE hxp hxq hss hpd hqd
      obtain ⟨cP, hcP⟩ : ∃ c, c = encQ xp := ⟨_, rfl⟩
      obtain ⟨cQ, hcQ⟩ : ∃ c, c = encQ xq := ⟨_, rfl⟩
      rw [← hcP] at lp s2 hlP HE
      rw [← hcQ] at lq s1 hlQ HE
      rw [← hcQ] at s2
      clear hcP hcQ
      have HPQ := hid (And.intro hp hq)
      clear hp hq
      have mixed := YtmfjfahlgcdehaaDoorlaysF20.mixed
      go_big_region_o
      all_goals go_wp2
      go_roundg (n - (t + 1))
      case measure => omega
      case rel =>
        have hp := HPQ.out.1; have hq := HPQ.out.2
        subst hp; subst hq
        refine ⟨t + 1, swp dt (a + t) (b + t), by go_num, by omega, by omega, hid (by rw [size_swp]; exact Hst.out), HE, hid ?_, hid ?_⟩
        · exact swpF_step dk dt a b t n hab (by rw [Hst.out]; exact hb) hlt HF.out
        · exact permIn_step dk dt a (b + n) _ _ HP.out (by omega) (by omega) (by omega) (by omega) (by rw [Hst.out]; exact hb)
    · have hltz : ¬ (t : Int) < (n : Int) := by omega
      have e : t = n := by omega
      subst e
      go_wp2
      go_end0
      exact ⟨rfl, dt, Hst.out, HSt.out, HF.out, HP.out⟩
end
theorem swap_range (blk off cap sz a b n : Nat) (w0 W : World) (d0 dk : Array Sq) (R : RowK encQ 37 w0 blk off d0) (hs0 : d0.size = sz) (hs : dk.size = sz) (h : SWK encQ 37 w0 blk off dk W) (hab : a + n ≤ b) (hb : b + n ≤ sz) (hsz : sz < 4611686018427387904) :
    Calls Tryd.prog 122 #[.slice (some ⟨blk, off, none⟩) sz cap, .int .i64 (a : Int), .int .i64 (b : Int), .int .i64 (n : Int), .func (.func 38) #[] #[]] W fun e w' =>
      e = .returned (.tuple #[]) ∧ ∃ d', d'.size = sz ∧ SWK encQ 37 w0 blk off d' w' ∧ (∀ x, d'[x]! = swpF (fun y => dk[y]!) a b n x) ∧ PermIn a (b + n) dk d' :=
  swap_range_k 37 Tryd.sizeOf28 blk off cap sz a b n w0 W d0 dk R hs0 hs h hab hb hsz
end Go.Proofs.YtmfjfahlgcdehaaDoor


/- A part of a row of snapshots turned about a place. -/
namespace Go.Proofs.YtmfjfahlgcdehaaDoor
open Go.RowKit Go.Lib Go.Sort Go.Shelf

set_option maxRecDepth 100000 in
set_option maxHeartbeats 4000000 in
theorem rotate_any (blk off cap sz a m b : Nat) (w0 W : World) (d0 dk : Array Sq) (R : RowK encQ 37 w0 blk off d0) (hs0 : d0.size = sz) (hs : dk.size = sz) (h : SWK encQ 37 w0 blk off dk W) (ham : a < m) (hmb : m < b) (hb : b ≤ sz) (hsz : sz < 4611686018427387904) :
    Calls Tryd.prog 114 #[.slice (some ⟨blk, off, none⟩) sz cap, .int .i64 (a : Int), .int .i64 (m : Int), .int .i64 (b : Int), .func (.func 38) #[] #[]] W fun e w' =>
      e = .returned (.tuple #[]) ∧ ∃ d', d'.size = sz ∧ SWK encQ 37 w0 blk off d' w' ∧ (∀ x, d'[x]! = rotF (fun y => dk[y]!) a m b x) ∧ PermIn a b dk d' := by
  have hC := hid (fun W dt (hs : dt.size = sz) (h : SWK encQ 37 w0 blk off dt W) p q n h1 h2 => swap_range blk off cap sz p q n w0 W d0 dt R hs0 hs h h1 h2 hsz)
  have hS := hid h; have Hs := hid hs
  clear R h hs hs0
  have i1 : IntKind.i64.wrap ((m : Int) - (a : Int)) = ((m - a : Nat) : Int) := by rw [IntKind.wrap_i64]; omega
  have j1 : IntKind.i64.wrap ((b : Int) - (m : Int)) = ((b - m : Nat) : Int) := by rw [IntKind.wrap_i64]; omega
  obtain ⟨i0, hi0⟩ : ∃ i, i = m - a := ⟨_, rfl⟩
  obtain ⟨j0, hj0⟩ : ∃ j, j = b - m := ⟨_, rfl⟩
  rw [← hi0] at i1
  rw [← hj0] at j1
  have HIJ := hid (And.intro hi0 hj0)
  clear hi0 hj0
  go_enter Tryd.func114, Tryd.ntmps114
  go_wp2_with fail
  go_loopg [10, 11] (i0 + j0) (fun g vi vj wr => ∃ (i j : Nat) (dt : Array Sq), vi = .int .i64 (i : Int) ∧ vj = .int .i64 (j : Int) ∧ 0 < i ∧ 0 < j ∧ i ≤ i0 ∧ j ≤ j0 ∧ i + j ≤ g ∧ Hid (dt.size = sz) ∧ Hid (SWK encQ 37 w0 blk off dt wr) ∧ Hid (∀ x, rotF (fun y => dt[y]!) (m - i) m (m + j) x = rotF (fun y => dk[y]!) a m b x) ∧ Hid (PermIn a b dk dt))
  case atStart =>
    have h1 := HIJ.out.1; have h2 := HIJ.out.2
    exact ⟨i0, j0, dk, rfl, rfl, by omega, by omega, by omega, by omega, by omega, Hs, hS, hid (fun x => by rw [show m - i0 = a by omega, show m + j0 = b by omega]), hid (permIn_refl _ _ _)⟩
  case round =>
    obtain ⟨i, j, dt, rfl, rfl, hi, hj, hii, hjj, hg, Hst, HSt, HF, HP⟩ := hrel
    have h1 := HIJ.out.1; have h2 := HIJ.out.2
    obtain ⟨p, hp⟩ : ∃ p, p = m - i := ⟨_, rfl⟩
    have wp_ : IntKind.i64.wrap ((m : Int) - (i : Int)) = (p : Int) := by rw [IntKind.wrap_i64]; omega
    rcases Nat.lt_trichotomy i j with hlt | heq | hgt
    · have n1 : ¬ ((i : Int) = (j : Int)) := by omega
      have n2 : ¬ ((j : Int) < (i : Int)) := by omega
      have w1 : IntKind.i64.wrap ((m : Int) + (j : Int)) = ((m + j : Nat) : Int) := by rw [IntKind.wrap_i64]; omega
      obtain ⟨q, hq⟩ : ∃ q, q = m + j - i := ⟨_, rfl⟩
      obtain ⟨mj, hmj⟩ : ∃ q, q = m + j := ⟨_, rfl⟩
      rw [← hmj] at w1
      have w2 : IntKind.i64.wrap ((mj : Int) - (i : Int)) = (q : Int) := by rw [IntKind.wrap_i64]; omega
      have w3 : IntKind.i64.wrap ((j : Int) - (i : Int)) = ((j - i : Nat) : Int) := by rw [IntKind.wrap_i64]; omega
      obtain ⟨j', hj'⟩ : ∃ q, q = j - i := ⟨_, rfl⟩
      rw [← hj'] at w3
      have hc := hid (hC.out wr dt Hst.out HSt.out p q i (by omega) (by omega))
      have HQ := hid (show p = m - i ∧ q = m + j - i ∧ j' = j - i ∧ i0 = m - a ∧ j0 = b - m from ⟨hp, hq, hj', h1, h2⟩)
      clear hp hq hmj hj' h1 h2
      go_wp2_with fail
      refine hc.out.mono ?_
      rintro e w1' ⟨rfl, d1, hz1, hs1, hf1, hp1⟩
      have hz1 := hid hz1; have hs1 := hid hs1; have hf1 := hid hf1; have hp1 := hid hp1
      clear hc
      go_wp2_with fail
      go_roundg (i + j')
      case measure => have := HQ.out; omega
      case rel =>
        obtain ⟨q1, q2, q3, q4, q5⟩ := HQ.out
        refine ⟨i, j', d1, rfl, rfl, hi, by omega, hii, by omega, Nat.le_refl _, hz1, hs1, hid (fun x => ?_), hid (permIn_trans _ _ _ _ _ HP.out (permIn_mono _ _ _ _ a b (by omega) (by omega) (by rw [Hst.out]; exact hb) hp1.out))⟩
        rw [← HF.out x, ← rot_small _ m i j x (by omega) hlt]
        rw [show m + j' = m + j - i by omega]
        exact rotF_at (fun y => by rw [hf1.out, q1, q2]) _ _ _ x
    · subst heq
      have hc := hid (hC.out wr dt Hst.out HSt.out p m i (by omega) (by omega))
      have HQ := hid (show p = m - i ∧ i0 = m - a ∧ j0 = b - m from ⟨hp, h1, h2⟩)
      clear hp h1 h2
      go_wp2_with fail
      refine hc.out.mono ?_
      rintro e w1' ⟨rfl, d1, hz1, hs1, hf1, hp1⟩
      have hz1 := hid hz1; have hs1 := hid hs1; have hf1 := hid hf1; have hp1 := hid hp1
      clear hc
      go_wp2
      go_end0
      obtain ⟨q1, q2, q3⟩ := HQ.out
      refine ⟨rfl, d1, hz1.out, hs1.out, fun x => ?_, permIn_trans _ _ _ _ _ HP.out (permIn_mono _ _ _ _ a b (by omega) (by omega) (by rw [Hst.out]; exact hb) hp1.out)⟩
      rw [← HF.out x, hf1.out x, q1]
      exact rot_eq _ m i x (by omega)
    · have n1 : ¬ ((i : Int) = (j : Int)) := by omega
      have n2 : ((j : Int) < (i : Int)) := by omega
      have w3 : IntKind.i64.wrap ((i : Int) - (j : Int)) = ((i - j : Nat) : Int) := by rw [IntKind.wrap_i64]; omega
      obtain ⟨i', hi'⟩ : ∃ q, q = i - j := ⟨_, rfl⟩
      rw [← hi'] at w3
      have hc := hid (hC.out wr dt Hst.out HSt.out p m j (by omega) (by omega))
      have HQ := hid (show p = m - i ∧ i' = i - j ∧ i0 = m - a ∧ j0 = b - m from ⟨hp, hi', h1, h2⟩)
      clear hp hi' h1 h2
      go_wp2_with fail
      refine hc.out.mono ?_
      rintro e w1' ⟨rfl, d1, hz1, hs1, hf1, hp1⟩
      have hz1 := hid hz1; have hs1 := hid hs1; have hf1 := hid hf1; have hp1 := hid hp1
      clear hc
      go_wp2_with fail
      go_roundg (i' + j)
      case measure => have := HQ.out; omega
      case rel =>
        obtain ⟨q1, q2, q4, q5⟩ := HQ.out
        refine ⟨i', j, d1, rfl, rfl, by omega, hj, by omega, hjj, Nat.le_refl _, hz1, hs1, hid (fun x => ?_), hid (permIn_trans _ _ _ _ _ HP.out (permIn_mono _ _ _ _ a b (by omega) (by omega) (by rw [Hst.out]; exact hb) hp1.out))⟩
        rw [← HF.out x, ← rot_big _ m i j x (by omega) hgt]
        rw [show m - i' = m - i + j by omega]
        exact rotF_at (fun y => by rw [hf1.out, q1]) _ _ _ x
end Go.Proofs.YtmfjfahlgcdehaaDoor


/- One snapshot merged into a run: behind it, ahead of it. -/
namespace Go.Proofs.YtmfjfahlgcdehaaDoor
open Go.RowKit Go.Lib Go.Sort Go.Shelf

theorem ltQ_true {x y : Sq} (h : cmpQ x y < 0) : ltOf cmpQ x y = true := by unfold ltOf; exact decide_eq_true h
theorem ltQ_false {x y : Sq} (h : ¬ cmpQ x y < 0) : ltOf cmpQ x y = false := by unfold ltOf; exact decide_eq_false h

section
attribute [-simp] Tryd.sizeOf28
set_option maxRecDepth 100000 in
set_option maxHeartbeats 4000000 in
theorem sym_up_k (k : Nat) (zE : ∀ w, (Go.sizeOf 28).run Tryd.prog w = .ok k w) (g : Nat) (cb : Array Value) (eg : ∀ args w, (callFunc g args).run Tryd.prog w = .ok (.enter g args) w) (blk off cap sz a m b : Nat) (w0 W : World) (d0 dk : Array Sq)
    (hcmp : CmpLays Tryd.prog g cb encQ k cmpQ blk off sz w0) (R : RowK encQ k w0 blk off d0) (hs0 : d0.size = sz) (hs : dk.size = sz) (h : SWK encQ k w0 blk off dk W) (hm : m = a + 1) (hmb : m < b) (hb : b ≤ sz) (hsz : sz < 4611686018427387904) (hso : SortedIn (ltOf cmpQ) m b dk) :
    Calls Tryd.prog 97 #[.slice (some ⟨blk, off, none⟩) sz cap, .int .i64 (a : Int), .int .i64 (m : Int), .int .i64 (b : Int), .func (.func g) #[] cb] W fun e w' =>
      e = .returned (.tuple #[]) ∧ ∃ d', d'.size = sz ∧ SWK encQ k w0 blk off d' w' ∧ PermIn a b dk d' ∧ SortedIn (ltOf cmpQ) a b d' := by
  have hR := hid R; have hS := hid h; have Hs := hid hs; have Hs0 := hid hs0; have HC := hid hcmp; have HSO := hid hso
  have hmono := hid (mono_up (lt := ltOf cmpQ) (d := dk) (m := m) (b := b) dk[a]! swoQ hso)
  clear R h hs hs0 hcmp hso
  have mixed := YtmfjfahlgcdehaaDoorlaysF20.mixed
  have e1 : IntKind.i64.wrap ((m : Int) - (a : Int)) = 1 := by rw [IntKind.wrap_i64]; omega
  have e2 : (m : Int) - (a : Int) = 1 := by omega
  have Hm := hid hm
  have ham : a < m := by omega
  clear hm
  go_enter Tryd.func97, Tryd.ntmps97
  go_wp2_with fail
  go_loopg [10, 11] (b - m) (fun gk vi vj wr => ∃ (i j : Nat), vi = .int .i64 (i : Int) ∧ vj = .int .i64 (j : Int) ∧ m ≤ i ∧ i ≤ j ∧ j ≤ b ∧ j - i ≤ gk ∧ Hid (Srch (fun x => ltOf cmpQ dk[x]! dk[a]!) m b i j) ∧ Hid (SWK encQ k w0 blk off dk wr))
  case atStart => exact ⟨m, b, rfl, rfl, Nat.le_refl _, by omega, Nat.le_refl _, Nat.le_refl _, hid (Srch.start _ (by omega)), hS⟩
  case round =>
    obtain ⟨i, j, rfl, rfl, hmi, hij, hjb, hg, HSr, HSt⟩ := hrel
    by_cases hlt : i < j
    · have hltz : (i : Int) < (j : Int) := by omega
      obtain ⟨h, hh⟩ : ∃ h, h = (i + j) / 2 := ⟨_, rfl⟩
      have hhz : ((i : Int) + (j : Int)) / 2 = (h : Int) := by omega
      have hih : i ≤ h := by omega
      have hhj : h < j := by omega
      clear hh
      have hz : (h : Int) < (sz : Int) := by omega
      have az : (a : Int) < (sz : Int) := by omega
      have hss : dk.size = d0.size := by rw [Hs.out, Hs0.out]
      obtain ⟨xh, hxh⟩ : ∃ x, dk[h]! = x := ⟨_, rfl⟩
      obtain ⟨xa, hxa⟩ : ∃ x, dk[a]! = x := ⟨_, rfl⟩
      have lh : ∀ n os, Sem.run Tryd.prog (loadCellsFrom ⟨blk, off + h * k, none⟩ 0 k #[]) (grow (wr.drewN n) os) = .ok (encQ xh).toArray (grow (wr.drewN n) os) := fun n os => by rw [← hxh]; exact HSt.out.ld hR.out hss _ h (by rw [Hs.out]; omega) n os
      have la : ∀ n os, Sem.run Tryd.prog (loadCellsFrom ⟨blk, off + a * k, none⟩ 0 k #[]) (grow (wr.drewN n) os) = .ok (encQ xa).toArray (grow (wr.drewN n) os) := fun n os => by rw [← hxa]; exact HSt.out.ld hR.out hss _ a (by rw [Hs.out]; omega) n os
      have hcg : ∀ n os, Calls Tryd.prog g (#[.agg (encQ xh).toArray, .agg (encQ xa).toArray] ++ cb) (grow (wr.drewN n) os) fun e w' => e = .returned (.int .i64 (cmpQ xh xa)) ∧ ∃ q os', w' = grow ((grow (wr.drewN n) os).drewN q) os' := fun n os => HSt.out.cmp HC.out Hs.out xh xa n os
      have HX := hid (And.intro hxh hxa)
      clear hxh hxa hss
      by_cases hlv : cmpQ xh xa < 0
      · go_wp2_with fail
        go_quiet_grown (first | (go_at_fn g; refine Calls.grown_of (hcg _ _)))
        go_wp2
        go_roundg (j - (h + 1))
        case measure => omega
        case rel =>
          refine ⟨h + 1, j, by go_num, rfl, by omega, by omega, hjb, Nat.le_refl _, hid ?_, hid (HSt.out.grown nq osq)⟩
          exact HSr.out.right hmono.out hih hhj (by show ltOf cmpQ dk[h]! dk[a]! = true; rw [HX.out.1, HX.out.2]; exact ltQ_true hlv)
      · go_wp2_with fail
        go_quiet_grown (first | (go_at_fn g; refine Calls.grown_of (hcg _ _)))
        go_wp2
        go_roundg (h - i)
        case measure => omega
        case rel =>
          refine ⟨i, h, rfl, by go_num, hmi, hih, by omega, Nat.le_refl _, hid ?_, hid (HSt.out.grown nq osq)⟩
          exact HSr.out.left hmono.out hih hhj (by show ltOf cmpQ dk[h]! dk[a]! = false; rw [HX.out.1, HX.out.2]; exact ltQ_false (by omega))
    · have hltz : ¬ (i : Int) < (j : Int) := by omega
      have e : j = i := by omega
      subst e
      obtain ⟨i', hi'⟩ : ∃ i', j = i' + 1 := ⟨j - 1, by omega⟩
      have hai' : a ≤ i' := by omega
      have hib' : i' < b := by omega
      have hz0 : (j : Int) - 1 = (i' : Int) := by omega
      have wi : IntKind.i64.wrap ((j : Int) - 1) = (i' : Int) := by rw [IntKind.wrap_i64]; omega
      have HSw := HSt
      have Hi := hid hi'
      clear hi'
      go_wp2_with fail
      go_loopg [13] (i' - a) (fun gk vt wq => ∃ (t : Nat) (dt : Array Sq), vt = .int .i64 (t : Int) ∧ a ≤ t ∧ t ≤ i' ∧ i' - t ≤ gk ∧ Hid (dt.size = sz) ∧ Hid (SWK encQ k w0 blk off dt wq) ∧ Hid (∀ x, dt[x]! = rotF (fun y => dk[y]!) a (a + 1) (t + 1) x) ∧ Hid (PermIn a b dk dt))
      case atStart => exact ⟨a, dk, rfl, Nat.le_refl _, by omega, Nat.le_refl _, Hs, HSw, hid (fun x => (rotF_none _ _ _ _ _ (Or.inr rfl) (by omega) (by omega)).symm), hid (permIn_refl _ _ _)⟩
      case round =>
        obtain ⟨t, dt, rfl, hat, hti, hg2, Hst, HSd, HF, HP⟩ := hrel
        by_cases hlt2 : t < i'
        · have hz1 : (t : Int) < (i' : Int) := by omega
          go_wp2_with fail
          obtain ⟨q, hq⟩ : ∃ q, q = t + 1 := ⟨_, rfl⟩
          have wq_ : IntKind.i64.wrap ((t : Int) + 1) = (q : Int) := by rw [IntKind.wrap_i64]; omega
          have pz : (t : Int) < (sz : Int) := by omega
          have qz : (q : Int) < (sz : Int) := by omega
          have hpd : t < dt.size := by have := Hst.out; omega
          have hqd : q < dt.size := by have := Hst.out; omega
          have hss : dt.size = d0.size := by rw [Hst.out, Hs0.out]
          obtain ⟨xp, hxp⟩ : ∃ x, dt[t]! = x := ⟨_, rfl⟩
          obtain ⟨xq, hxq⟩ : ∃ x, dt[q]! = x := ⟨_, rfl⟩
          have lp : Sem.run Tryd.prog (loadCellsFrom ⟨blk, off + t * k, none⟩ 0 k #[]) wr.drew = .ok (encQ xp).toArray wr.drew := by rw [← hxp]; exact HSd.out.ld1 hR.out hss _ t hpd
          have lq : Sem.run Tryd.prog (loadCellsFrom ⟨blk, off + q * k, none⟩ 0 k #[]) wr.drew = .ok (encQ xq).toArray wr.drew := by rw [← hxq]; exact HSd.out.ld1 hR.out hss _ q hqd
          have s1 : Sem.run Tryd.prog (storeCells ⟨blk, off + t * k, none⟩ (encQ xq) 0) wr.drew = .ok () (wr.drew.setCells blk (off + t * k) (encQ xq)) := HSd.out.st1 hR.out hss _ t hpd xq
          have s2 : Sem.run Tryd.prog (storeCells ⟨blk, off + q * k, none⟩ (encQ xp) 0) (wr.drew.setCells blk (off + t * k) (encQ xq)) = .ok () ((wr.drew.setCells blk (off + t * k) (encQ xq)).setCells blk (off + q * k) (encQ xp)) := HSd.out.st2 hR.out hss _ t q hpd hqd xq xp
          have hE := HSd.out.swapped hR.out t q hpd hqd
          rw [hxp, hxq] at hE
          have HE := hid hE
          have hlP : (encQ xp).length = k := hR.out.hk _
          have hlQ : (encQ xq).length = k := hR.out.hk _
          clear hE hxp hxq hss hpd hqd
          obtain ⟨cP, hcP⟩ : ∃ c, c = encQ xp := ⟨_, rfl⟩
          obtain ⟨cQ, hcQ⟩ : ∃ c, c = encQ xq := ⟨_, rfl⟩
          rw [← hcP] at lp s2 hlP HE
          rw [← hcQ] at lq s1 hlQ HE
          rw [← hcQ] at s2
          clear hcP hcQ
          have HQ := hid hq
          clear hq
          go_big_region_o
          all_goals go_wp2
          go_roundg (i' - (t + 1))
          case measure => omega
          case rel =>
            have hq := HQ.out
            subst hq
            refine ⟨t + 1, swp dt t (t + 1), by go_num, by omega, by omega, Nat.le_refl _, hid (by rw [size_swp]; exact Hst.out), HE, hid ?_, hid ?_⟩
            · exact rot_up dk dt a t hat (by rw [Hst.out]; omega) HF.out
            · exact permIn_step dk dt a b _ _ HP.out (by omega) (by omega) (by omega) (by omega) (by rw [Hst.out]; exact hb)
        · have hz1 : ¬ (t : Int) < (i' : Int) := by omega
          have et : t = i' := by omega
          subst et
          go_wp2
          refine bodyPost_ret (v := .tuple #[]) (results_none rfl _ _ _) rfl ?_
          refine ⟨rfl, dt, Hst.out, HSd.out, HP.out, ?_⟩
          have hS1 := HSr.out; have hO1 := HSO.out
          rw [Hm.out] at hS1 hO1
          rw [Hi.out] at hS1
          exact one_up swoQ hO1 hS1 HF.out
set_option maxRecDepth 100000 in
set_option maxHeartbeats 4000000 in
theorem sym_down_k (k : Nat) (zE : ∀ w, (Go.sizeOf 28).run Tryd.prog w = .ok k w) (g : Nat) (cb : Array Value) (eg : ∀ args w, (callFunc g args).run Tryd.prog w = .ok (.enter g args) w) (blk off cap sz a m b : Nat) (w0 W : World) (d0 dk : Array Sq)
    (hcmp : CmpLays Tryd.prog g cb encQ k cmpQ blk off sz w0) (R : RowK encQ k w0 blk off d0) (hs0 : d0.size = sz) (hs : dk.size = sz) (h : SWK encQ k w0 blk off dk W) (ham : a + 1 < m) (hm : b = m + 1) (hb : b ≤ sz) (hsz : sz < 4611686018427387904) (hso : SortedIn (ltOf cmpQ) a m dk) :
    Calls Tryd.prog 97 #[.slice (some ⟨blk, off, none⟩) sz cap, .int .i64 (a : Int), .int .i64 (m : Int), .int .i64 (b : Int), .func (.func g) #[] cb] W fun e w' =>
      e = .returned (.tuple #[]) ∧ ∃ d', d'.size = sz ∧ SWK encQ k w0 blk off d' w' ∧ PermIn a b dk d' ∧ SortedIn (ltOf cmpQ) a b d' := by
  have hR := hid R; have hS := hid h; have Hs := hid hs; have Hs0 := hid hs0; have HC := hid hcmp; have HSO := hid hso
  have hmono := hid (mono_down (lt := ltOf cmpQ) (d := dk) (a := a) (m := m) dk[m]! swoQ hso)
  clear R h hs hs0 hcmp hso
  have mixed := YtmfjfahlgcdehaaDoorlaysF20.mixed
  have e1 : IntKind.i64.wrap ((m : Int) - (a : Int)) = (m : Int) - (a : Int) := by rw [IntKind.wrap_i64]; omega
  have e2 : ¬ (m : Int) - (a : Int) = 1 := by omega
  have e2b : ((m : Int) - (a : Int) == 1) = false := beq_false_of_ne e2
  have e3 : IntKind.i64.wrap ((b : Int) - (m : Int)) = 1 := by rw [IntKind.wrap_i64]; omega
  have e4 : (b : Int) - (m : Int) = 1 := by omega
  have Hm := hid hm
  have hmb : m < b := by omega
  clear hm
  go_enter Tryd.func97, Tryd.ntmps97
  go_wp2_with fail
  go_loopg [14, 15] (m - a) (fun gk vi vj wr => ∃ (i j : Nat), vi = .int .i64 (i : Int) ∧ vj = .int .i64 (j : Int) ∧ a ≤ i ∧ i ≤ j ∧ j ≤ m ∧ j - i ≤ gk ∧ Hid (Srch (fun x => !ltOf cmpQ dk[m]! dk[x]!) a m i j) ∧ Hid (SWK encQ k w0 blk off dk wr))
  case atStart => exact ⟨a, m, rfl, rfl, Nat.le_refl _, by omega, Nat.le_refl _, Nat.le_refl _, hid (Srch.start _ (by omega)), hS⟩
  case round =>
    obtain ⟨i, j, rfl, rfl, hmi, hij, hjb, hg, HSr, HSt⟩ := hrel
    by_cases hlt : i < j
    · have hltz : (i : Int) < (j : Int) := by omega
      obtain ⟨h, hh⟩ : ∃ h, h = (i + j) / 2 := ⟨_, rfl⟩
      have hhz : ((i : Int) + (j : Int)) / 2 = (h : Int) := by omega
      have hih : i ≤ h := by omega
      have hhj : h < j := by omega
      clear hh
      have hz : (h : Int) < (sz : Int) := by omega
      have az : (m : Int) < (sz : Int) := by omega
      have hss : dk.size = d0.size := by rw [Hs.out, Hs0.out]
      obtain ⟨xh, hxh⟩ : ∃ x, dk[h]! = x := ⟨_, rfl⟩
      obtain ⟨xa, hxa⟩ : ∃ x, dk[m]! = x := ⟨_, rfl⟩
      have lh : ∀ n os, Sem.run Tryd.prog (loadCellsFrom ⟨blk, off + h * k, none⟩ 0 k #[]) (grow (wr.drewN n) os) = .ok (encQ xh).toArray (grow (wr.drewN n) os) := fun n os => by rw [← hxh]; exact HSt.out.ld hR.out hss _ h (by rw [Hs.out]; omega) n os
      have la : ∀ n os, Sem.run Tryd.prog (loadCellsFrom ⟨blk, off + m * k, none⟩ 0 k #[]) (grow (wr.drewN n) os) = .ok (encQ xa).toArray (grow (wr.drewN n) os) := fun n os => by rw [← hxa]; exact HSt.out.ld hR.out hss _ m (by rw [Hs.out]; omega) n os
      have hcg : ∀ n os, Calls Tryd.prog g (#[.agg (encQ xa).toArray, .agg (encQ xh).toArray] ++ cb) (grow (wr.drewN n) os) fun e w' => e = .returned (.int .i64 (cmpQ xa xh)) ∧ ∃ q os', w' = grow ((grow (wr.drewN n) os).drewN q) os' := fun n os => HSt.out.cmp HC.out Hs.out xa xh n os
      have HX := hid (And.intro hxh hxa)
      clear hxh hxa hss
      by_cases hlv : cmpQ xa xh < 0
      · have hlc : (!decide (cmpQ xa xh < 0)) = false := by simpa using hlv
        go_wp2_with fail
        go_quiet_grown (first | (go_at_fn g; refine Calls.grown_of (hcg _ _)))
        go_wp2
        go_roundg (h - i)
        case measure => omega
        case rel =>
          refine ⟨i, h, rfl, by go_num, hmi, hih, by omega, Nat.le_refl _, hid ?_, hid (HSt.out.grown nq osq)⟩
          exact HSr.out.left hmono.out hih hhj (by show (!ltOf cmpQ dk[m]! dk[h]!) = false; rw [HX.out.1, HX.out.2, ltQ_true hlv]; rfl)
      · have hlc : (!decide (cmpQ xa xh < 0)) = true := by simpa using hlv
        go_wp2_with fail
        go_quiet_grown (first | (go_at_fn g; refine Calls.grown_of (hcg _ _)))
        go_wp2
        go_roundg (j - (h + 1))
        case measure => omega
        case rel =>
          refine ⟨h + 1, j, by go_num, rfl, by omega, by omega, hjb, Nat.le_refl _, hid ?_, hid (HSt.out.grown nq osq)⟩
          exact HSr.out.right hmono.out hih hhj (by show (!ltOf cmpQ dk[m]! dk[h]!) = true; rw [HX.out.1, HX.out.2, ltQ_false (by omega)]; rfl)
    · have hltz : ¬ (i : Int) < (j : Int) := by omega
      have e : j = i := by omega
      subst e
      have HSw := HSt
      go_wp2_with fail
      go_loopg [17] (m - j) (fun gk vt wq => ∃ (t : Nat) (dt : Array Sq), vt = .int .i64 (t : Int) ∧ j ≤ t ∧ t ≤ m ∧ t - j ≤ gk ∧ Hid (dt.size = sz) ∧ Hid (SWK encQ k w0 blk off dt wq) ∧ Hid (∀ x, dt[x]! = rotF (fun y => dk[y]!) t m (m + 1) x) ∧ Hid (PermIn a b dk dt))
      case atStart => exact ⟨m, dk, rfl, by omega, Nat.le_refl _, Nat.le_refl _, Hs, HSw, hid (fun x => (rotF_none _ _ _ _ _ (Or.inl rfl) (by omega) (by omega)).symm), hid (permIn_refl _ _ _)⟩
      case round =>
        obtain ⟨t, dt, rfl, hat, hti, hg2, Hst, HSd, HF, HP⟩ := hrel
        by_cases hlt2 : j < t
        · have hz1 : (j : Int) < (t : Int) := by omega
          go_wp2_with fail
          obtain ⟨q, hq⟩ : ∃ q, t = q + 1 := ⟨t - 1, by omega⟩
          have wq_ : IntKind.i64.wrap ((t : Int) - 1) = (q : Int) := by rw [IntKind.wrap_i64]; omega
          have pz : (t : Int) < (sz : Int) := by omega
          have qz : (q : Int) < (sz : Int) := by omega
          have hpd : t < dt.size := by have := Hst.out; omega
          have hqd : q < dt.size := by have := Hst.out; omega
          have hss : dt.size = d0.size := by rw [Hst.out, Hs0.out]
          obtain ⟨xp, hxp⟩ : ∃ x, dt[t]! = x := ⟨_, rfl⟩
          obtain ⟨xq, hxq⟩ : ∃ x, dt[q]! = x := ⟨_, rfl⟩
          have lp : Sem.run Tryd.prog (loadCellsFrom ⟨blk, off + t * k, none⟩ 0 k #[]) wr.drew = .ok (encQ xp).toArray wr.drew := by rw [← hxp]; exact HSd.out.ld1 hR.out hss _ t hpd
          have lq : Sem.run Tryd.prog (loadCellsFrom ⟨blk, off + q * k, none⟩ 0 k #[]) wr.drew = .ok (encQ xq).toArray wr.drew := by rw [← hxq]; exact HSd.out.ld1 hR.out hss _ q hqd
          have s1 : Sem.run Tryd.prog (storeCells ⟨blk, off + t * k, none⟩ (encQ xq) 0) wr.drew = .ok () (wr.drew.setCells blk (off + t * k) (encQ xq)) := HSd.out.st1 hR.out hss _ t hpd xq
          have s2 : Sem.run Tryd.prog (storeCells ⟨blk, off + q * k, none⟩ (encQ xp) 0) (wr.drew.setCells blk (off + t * k) (encQ xq)) = .ok () ((wr.drew.setCells blk (off + t * k) (encQ xq)).setCells blk (off + q * k) (encQ xp)) := HSd.out.st2 hR.out hss _ t q hpd hqd xq xp
          have hE := HSd.out.swapped hR.out t q hpd hqd
          rw [hxp, hxq] at hE
          have HE := hid hE
          have hlP : (encQ xp).length = k := hR.out.hk _
          have hlQ : (encQ xq).length = k := hR.out.hk _
          clear hE hxp hxq hss hpd hqd
          obtain ⟨cP, hcP⟩ : ∃ c, c = encQ xp := ⟨_, rfl⟩
          obtain ⟨cQ, hcQ⟩ : ∃ c, c = encQ xq := ⟨_, rfl⟩
          rw [← hcP] at lp s2 hlP HE
          rw [← hcQ] at lq s1 hlQ HE
          rw [← hcQ] at s2
          clear hcP hcQ
          have HQ := hid hq
          clear hq
          go_big_region_o
          all_goals go_wp2
          go_roundg (q - j)
          case measure => have := HQ.out; omega
          case rel =>
            have hq := HQ.out
            subst hq
            refine ⟨q, swp dt (q + 1) q, by go_num, by omega, by omega, Nat.le_refl _, hid (by rw [size_swp]; exact Hst.out), HE, hid ?_, hid ?_⟩
            · exact rot_down dk dt m q (by omega) (by rw [Hst.out]; omega) HF.out
            · exact permIn_step dk dt a b _ _ HP.out (by omega) (by omega) (by omega) (by omega) (by rw [Hst.out]; exact hb)
        · have hz1 : ¬ (j : Int) < (t : Int) := by omega
          have et : t = j := by omega
          subst et
          go_wp2
          refine bodyPost_ret (v := .tuple #[]) (results_none rfl _ _ _) rfl ?_
          refine ⟨rfl, dt, Hst.out, HSd.out, HP.out, ?_⟩
          rw [Hm.out]
          exact one_down swoQ HSO.out HSr.out HF.out
end
end Go.Proofs.YtmfjfahlgcdehaaDoor


/- Two runs of snapshots merged in place. -/
namespace Go.Proofs.YtmfjfahlgcdehaaDoor
open Go.RowKit Go.Lib Go.Sort Go.Shelf

section
attribute [-simp] Tryd.sizeOf28
set_option maxRecDepth 100000 in
set_option maxHeartbeats 4000000 in
theorem sym_mid_k (k : Nat) (zE : ∀ w, (Go.sizeOf 28).run Tryd.prog w = .ok k w) (g : Nat) (cb : Array Value) (eg : ∀ args w, (callFunc g args).run Tryd.prog w = .ok (.enter g args) w) (blk off cap sz a m b : Nat) (w0 W : World) (d0 dk : Array Sq)
    (hcmp : CmpLays Tryd.prog g cb encQ k cmpQ blk off sz w0) (R : RowK encQ k w0 blk off d0) (hs0 : d0.size = sz) (hs : dk.size = sz) (h : SWK encQ k w0 blk off dk W) (ham : a + 1 < m) (hmb : m + 1 < b) (hb : b ≤ sz) (hsz : sz < 4611686018427387904) (hso : SortedIn (ltOf cmpQ) a m dk) (hso2 : SortedIn (ltOf cmpQ) m b dk)
    (hRot : ∀ W dt, dt.size = sz → SWK encQ k w0 blk off dt W → ∀ p q r, p < q → q < r → r ≤ sz →
      Calls Tryd.prog 114 #[.slice (some ⟨blk, off, none⟩) sz cap, .int .i64 (p : Int), .int .i64 (q : Int), .int .i64 (r : Int), .func (.func g) #[] cb] W fun e w' =>
        e = .returned (.tuple #[]) ∧ ∃ d', d'.size = sz ∧ SWK encQ k w0 blk off d' w' ∧ (∀ x, d'[x]! = rotF (fun y => dt[y]!) p q r x) ∧ PermIn p r dt d')
    (hRec : ∀ W dt, dt.size = sz → SWK encQ k w0 blk off dt W → ∀ p q r, p < q → q < r → r ≤ sz → r - p < b - a → SortedIn (ltOf cmpQ) p q dt → SortedIn (ltOf cmpQ) q r dt →
      Calls Tryd.prog 97 #[.slice (some ⟨blk, off, none⟩) sz cap, .int .i64 (p : Int), .int .i64 (q : Int), .int .i64 (r : Int), .func (.func g) #[] cb] W fun e w' =>
        e = .returned (.tuple #[]) ∧ ∃ d', d'.size = sz ∧ SWK encQ k w0 blk off d' w' ∧ PermIn p r dt d' ∧ SortedIn (ltOf cmpQ) p r d') :
    Calls Tryd.prog 97 #[.slice (some ⟨blk, off, none⟩) sz cap, .int .i64 (a : Int), .int .i64 (m : Int), .int .i64 (b : Int), .func (.func g) #[] cb] W fun e w' =>
      e = .returned (.tuple #[]) ∧ ∃ d', d'.size = sz ∧ SWK encQ k w0 blk off d' w' ∧ PermIn a b dk d' ∧ SortedIn (ltOf cmpQ) a b d' := by
  have hR := hid R; have hS := hid h; have Hs := hid hs; have Hs0 := hid hs0; have HC := hid hcmp; have HSO := hid hso; have HSO2 := hid hso2; have HRot := hid hRot; have HRec := hid hRec
  clear R h hs hs0 hcmp hso hso2 hRot hRec
  have mixed := YtmfjfahlgcdehaaDoorlaysF20.mixed
  have e1 : IntKind.i64.wrap ((m : Int) - (a : Int)) = (m : Int) - (a : Int) := by rw [IntKind.wrap_i64]; omega
  have e2 : ¬ (m : Int) - (a : Int) = 1 := by omega
  have e2b : ((m : Int) - (a : Int) == 1) = false := beq_false_of_ne e2
  have e3 : IntKind.i64.wrap ((b : Int) - (m : Int)) = (b : Int) - (m : Int) := by rw [IntKind.wrap_i64]; omega
  have e4 : ¬ (b : Int) - (m : Int) = 1 := by omega
  have e4b : ((b : Int) - (m : Int) == 1) = false := beq_false_of_ne e4
  obtain ⟨mid, hmid⟩ : ∃ mid, mid = (a + b) / 2 := ⟨_, rfl⟩
  have hmz : ((a : Int) + (b : Int)) / 2 = (mid : Int) := by omega
  have ham2 : a < mid := by omega
  have hmb2 : mid < b := by omega
  obtain ⟨n, hn⟩ : ∃ n, n = mid + m := ⟨_, rfl⟩
  have wn : IntKind.i64.wrap ((mid : Int) + (m : Int)) = (n : Int) := by rw [IntKind.wrap_i64]; omega
  have HM := hid (And.intro hmid hn)
  clear hmid hn
  go_enter Tryd.func97, Tryd.ntmps97
  go_upto_if 140 with fail
  go_cut [20, 21] (fun s20 s21 wx => ∃ lo hi : Nat, s20 = .int .i64 (lo : Int) ∧ s21 = .int .i64 (hi : Int) ∧ wx = W ∧ Hid ((m ≤ mid ∧ lo = a ∧ hi = m) ∨ (mid < m ∧ lo = n - b ∧ hi = mid)))
  case first =>
    as_aux_lemma =>
      by_cases hmm : mid < m
      · have hmmz : (mid : Int) < (m : Int) := by omega
        obtain ⟨lo, hlo⟩ : ∃ lo, lo = n - b := ⟨_, rfl⟩
        have wl : IntKind.i64.wrap ((n : Int) - (b : Int)) = (lo : Int) := by have := HM.out; rw [IntKind.wrap_i64]; omega
        have Hlo := hid hlo
        clear hlo
        go_wp2_with fail
        go_meet
        exact ⟨lo, mid, rfl, rfl, rfl, hid (Or.inr ⟨hmm, Hlo.out, rfl⟩)⟩
      · have hmmz : ¬ (mid : Int) < (m : Int) := by omega
        go_wp2_with fail
        go_meet
        exact ⟨a, m, rfl, rfl, rfl, hid (Or.inl ⟨by omega, rfl, rfl⟩)⟩
  case rest =>
    as_aux_lemma =>
      obtain ⟨lo, hi, rfl, rfl, rfl, HB⟩ := hcut
      obtain ⟨p, hp⟩ : ∃ p, p = n - 1 := ⟨_, rfl⟩
      have wp0 : IntKind.i64.wrap ((n : Int) - 1) = (p : Int) := by have := HM.out; rw [IntKind.wrap_i64]; omega
      have hal : a ≤ lo := by have := HM.out; have := HB.out; omega
      have hlh : lo ≤ hi := by have := HM.out; have := HB.out; omega
      have hhm : hi ≤ m := by have := HM.out; have := HB.out; omega
      have hpb : lo < hi → p - lo < b ∧ m + hi ≤ p + 1 := by have := HM.out; have := HB.out; omega
      have hmono := hid (mono_mid (lt := ltOf cmpQ) (d := dk) (p := p) swoQ HSO.out HSO2.out hal hhm hpb)
      have Hp := hid hp
      clear hp
      go_wp2_with fail
      go_loopg [20, 21] (hi - lo) (fun gk vi vj wr => ∃ (i j : Nat), vi = .int .i64 (i : Int) ∧ vj = .int .i64 (j : Int) ∧ lo ≤ i ∧ i ≤ j ∧ j ≤ hi ∧ j - i ≤ gk ∧ Hid (Srch (fun x => !ltOf cmpQ dk[p - x]! dk[x]!) lo hi i j) ∧ Hid (SWK encQ k w0 blk off dk wr))
      case atStart => exact ⟨lo, hi, rfl, rfl, Nat.le_refl _, hlh, Nat.le_refl _, Nat.le_refl _, hid (Srch.start _ hlh), hS⟩
      case round =>
        as_aux_lemma =>
          obtain ⟨i, j, rfl, rfl, hmi, hij, hjb, hg, HSr, HSt⟩ := hrel
          by_cases hlt : i < j
          · have hltz : (i : Int) < (j : Int) := by omega
            obtain ⟨h, hh⟩ : ∃ h, h = (i + j) / 2 := ⟨_, rfl⟩
            have hhz : ((i : Int) + (j : Int)) / 2 = (h : Int) := by omega
            have hih : i ≤ h := by omega
            have hhj : h < j := by omega
            clear hh
            have hz : (h : Int) < (sz : Int) := by omega
            obtain ⟨q, hq⟩ : ∃ q, q = p - h := ⟨_, rfl⟩
            have hqp : h ≤ p ∧ p - lo < b := by have := hpb (by omega); omega
            have wq_ : IntKind.i64.wrap ((p : Int) - (h : Int)) = (q : Int) := by have := HM.out; have := Hp.out; rw [IntKind.wrap_i64]; omega
            have qz : (q : Int) < (sz : Int) := by omega
            have hqs : q < sz := by omega
            have Hq := hid hq
            clear hq hqp
            have hss : dk.size = d0.size := by rw [Hs.out, Hs0.out]
            obtain ⟨xh, hxh⟩ : ∃ x, dk[h]! = x := ⟨_, rfl⟩
            obtain ⟨xa, hxa⟩ : ∃ x, dk[q]! = x := ⟨_, rfl⟩
            have lh : ∀ n os, Sem.run Tryd.prog (loadCellsFrom ⟨blk, off + h * k, none⟩ 0 k #[]) (grow (wr.drewN n) os) = .ok (encQ xh).toArray (grow (wr.drewN n) os) := fun n os => by rw [← hxh]; exact HSt.out.ld hR.out hss _ h (by rw [Hs.out]; omega) n os
            have la : ∀ n os, Sem.run Tryd.prog (loadCellsFrom ⟨blk, off + q * k, none⟩ 0 k #[]) (grow (wr.drewN n) os) = .ok (encQ xa).toArray (grow (wr.drewN n) os) := fun n os => by rw [← hxa]; exact HSt.out.ld hR.out hss _ q (by rw [Hs.out]; omega) n os
            have hcg : ∀ n os, Calls Tryd.prog g (#[.agg (encQ xa).toArray, .agg (encQ xh).toArray] ++ cb) (grow (wr.drewN n) os) fun e w' => e = .returned (.int .i64 (cmpQ xa xh)) ∧ ∃ q os', w' = grow ((grow (wr.drewN n) os).drewN q) os' := fun n os => HSt.out.cmp HC.out Hs.out xa xh n os
            have HX := hid (And.intro hxh hxa)
            clear hxh hxa hss
            by_cases hlv : cmpQ xa xh < 0
            · as_aux_lemma =>
                have hlc : (!decide (cmpQ xa xh < 0)) = false := by simpa using hlv
                go_wp2_with fail
                go_quiet_grown (first | (go_at_fn g; refine Calls.grown_of (hcg _ _)))
                go_wp2
                go_roundg (h - i)
                case measure => omega
                case rel =>
                  refine ⟨i, h, rfl, by go_num, hmi, hih, by omega, Nat.le_refl _, hid ?_, hid (HSt.out.grown nq osq)⟩
                  exact HSr.out.left hmono.out hih hhj (by show (!ltOf cmpQ dk[p - h]! dk[h]!) = false; rw [← Hq.out, HX.out.1, HX.out.2, ltQ_true hlv]; rfl)
            · as_aux_lemma =>
                have hlc : (!decide (cmpQ xa xh < 0)) = true := by simpa using hlv
                go_wp2_with fail
                go_quiet_grown (first | (go_at_fn g; refine Calls.grown_of (hcg _ _)))
                go_wp2
                go_roundg (j - (h + 1))
                case measure => omega
                case rel =>
                  refine ⟨h + 1, j, by go_num, rfl, by omega, by omega, hjb, Nat.le_refl _, hid ?_, hid (HSt.out.grown nq osq)⟩
                  exact HSr.out.right hmono.out hih hhj (by show (!ltOf cmpQ dk[p - h]! dk[h]!) = true; rw [← Hq.out, HX.out.1, HX.out.2, ltQ_false (by omega)]; rfl)
          · have hltz : ¬ (i : Int) < (j : Int) := by omega
            have e : j = i := by omega
            subst e
            obtain ⟨e, he⟩ : ∃ e, e = n - j := ⟨_, rfl⟩
            have we : IntKind.i64.wrap ((n : Int) - (j : Int)) = (e : Int) := by have := HM.out; rw [IntKind.wrap_i64]; omega
            have hCut := cut_mid (n := n) (mid := mid) (s := j) swoQ HSO.out HSO2.out (by omega) (by omega) HM.out.1 HM.out.2 HB.out (by have := HSr.out; rw [Hp.out] at this; exact this)
            rw [← he] at hCut
            obtain ⟨hC1, hC2⟩ := hCut
            have hjm := hC1.sm; have haj := hC1.as; have hme := hC1.me; have heb := hC1.eb
            have HC1 := hid hC1; have HC2 := hid hC2
            have hjmid : j ≤ mid := by omega
            have hmide : mid ≤ e := by omega
            clear hC1 hC2 he hpb
            go_upto_region 39 with fail
            go_cut [185] (fun s wx => ∃ c : Bool, s = .bool c ∧ wx = wr ∧ Hid (c = decide (j < m ∧ m < e)))
            case first =>
              as_aux_lemma =>
                by_cases c1 : j < m
                · as_aux_lemma =>
                    have c1z : (j : Int) < (m : Int) := by omega
                    by_cases c2 : m < e
                    · have c2z : (m : Int) < (e : Int) := by omega
                      go_wp2_with fail
                      go_meet
                      exact ⟨_, rfl, rfl, hid (by simp [c1, c2])⟩
                    · have c2z : ¬ (m : Int) < (e : Int) := by omega
                      go_wp2_with fail
                      go_meet
                      exact ⟨_, rfl, rfl, hid (by simp [c1, c2])⟩
                · as_aux_lemma =>
                    have c1z : ¬ (j : Int) < (m : Int) := by omega
                    go_wp2_with fail
                    go_meet
                    exact ⟨_, rfl, rfl, hid (by simp [c1])⟩
            case rest =>
            obtain ⟨c, rfl, rfl, Hc⟩ := hcut
            go_upto_if 185 with fail
            go_cut [] (fun wx => ∃ d1 : Array Sq, Hid (d1.size = sz) ∧ Hid (SWK encQ k w0 blk off d1 wx) ∧ Hid (∀ x, d1[x]! = rotF (fun y => dk[y]!) j m e x) ∧ Hid (PermIn a b dk d1))
            case first =>
              as_aux_lemma =>
                cases c
                rotate_left 1
                · have c := of_decide_eq_true Hc.out.symm
                  have hc := hid (HRot.out _ dk Hs.out HSt.out j m e c.1 c.2 (by omega))
                  clear c
                  go_wp2_with fail
                  refine hc.out.mono ?_
                  rintro e0 w1' ⟨rfl, d1, hz1, hs1, hf1, hp1⟩
                  have hz1 := hid hz1; have hs1 := hid hs1; have hf1 := hid hf1; have hp1 := hid hp1
                  clear hc
                  go_wp2_with fail
                  go_meet
                  exact ⟨d1, hz1, hs1, hf1, hid (permIn_mono _ _ _ _ a b haj heb (by rw [Hs.out]; exact hb) hp1.out)⟩
                · have c := hid (of_decide_eq_false Hc.out.symm)
                  go_wp2_with fail
                  go_meet
                  exact ⟨dk, Hs, HSt, hid (fun x => (rotF_none _ _ _ _ _ (by have := c.out; omega) hjm hme).symm), hid (permIn_refl _ _ _)⟩
            case rest =>
              as_aux_lemma =>
                obtain ⟨d1, Hz1, Hs1, Hf1, Hp1⟩ := hcut
                have hh := HC1.out.halves swoQ HSO.out HSO2.out Hf1.out
                rw [HC2.out] at hh
                have HH := hid hh
                clear hh
                go_upto_region 41 with fail
                go_cut [199] (fun s wx => ∃ c : Bool, s = .bool c ∧ wx = wc ∧ Hid (c = decide (a < j ∧ j < mid)))
                case first =>
                  as_aux_lemma =>
                    by_cases c1 : a < j
                    · as_aux_lemma =>
                        have c1z : (a : Int) < (j : Int) := by omega
                        by_cases c2 : j < mid
                        · have c2z : (j : Int) < (mid : Int) := by omega
                          go_wp2_with fail
                          go_meet
                          exact ⟨_, rfl, rfl, hid (by simp [c1, c2])⟩
                        · have c2z : ¬ (j : Int) < (mid : Int) := by omega
                          go_wp2_with fail
                          go_meet
                          exact ⟨_, rfl, rfl, hid (by simp [c1, c2])⟩
                    · as_aux_lemma =>
                        have c1z : ¬ (a : Int) < (j : Int) := by omega
                        go_wp2_with fail
                        go_meet
                        exact ⟨_, rfl, rfl, hid (by simp [c1])⟩
                case rest =>
                obtain ⟨c, rfl, rfl, Hc⟩ := hcut
                go_upto_if 199 with fail
                go_cut [] (fun wx => ∃ d2 : Array Sq, Hid (d2.size = sz) ∧ Hid (SWK encQ k w0 blk off d2 wx) ∧ Hid (PermIn a mid d1 d2) ∧ Hid (SortedIn (ltOf cmpQ) a mid d2))
                case first =>
                  as_aux_lemma =>
                    cases c
                    rotate_left 1
                    · have c := of_decide_eq_true Hc.out.symm
                      have hc := hid (HRec.out _ d1 Hz1.out Hs1.out a j mid c.1 c.2 (by omega) (by omega) HH.out.1 HH.out.2.1)
                      clear c
                      go_wp2_with fail
                      refine hc.out.mono ?_
                      rintro e0 w1' ⟨rfl, d2, hz1, hs1, hp1, hq1⟩
                      have hz1 := hid hz1; have hs1 := hid hs1; have hp1 := hid hp1; have hq1 := hid hq1
                      clear hc
                      go_wp2_with fail
                      go_meet
                      exact ⟨d2, hz1, hs1, hp1, hq1⟩
                    · have c := hid (of_decide_eq_false Hc.out.symm)
                      go_wp2_with fail
                      go_meet
                      refine ⟨d1, Hz1, Hs1, hid (permIn_refl _ _ _), hid ?_⟩
                      have c := c.out
                      by_cases e1 : j = mid
                      · have := HH.out.1; rwa [e1] at this
                      · have := HH.out.2.1; rwa [show j = a by omega] at this
                case rest =>
                  as_aux_lemma =>
                    obtain ⟨d2, Hz2, Hs2, Hp2, Hq2⟩ := hcut
                    have k3 : SortedIn (ltOf cmpQ) mid e d2 := fun x y hx hxy hy => by
                      rw [Hp2.out.2.1 x (Or.inr hx), Hp2.out.2.1 y (Or.inr (by omega))]; exact HH.out.2.2.1 x y hx hxy hy
                    have k4 : SortedIn (ltOf cmpQ) e b d2 := fun x y hx hxy hy => by
                      rw [Hp2.out.2.1 x (Or.inr (by omega)), Hp2.out.2.1 y (Or.inr (by omega))]; exact HH.out.2.2.2.1 x y hx hxy hy
                    have K3 := hid k3; have K4 := hid k4
                    clear k3 k4
                    have fin := hid (show ∀ d3 : Array Sq, PermIn mid b d2 d3 → SortedIn (ltOf cmpQ) mid b d3 → PermIn a b dk d3 ∧ SortedIn (ltOf cmpQ) a b d3 from fun d3 p3 s3 =>
                      ⟨permIn_trans _ _ _ _ _ Hp1.out (permIn_trans _ _ _ _ _ (permIn_mono _ _ _ _ a b (Nat.le_refl _) (by omega) (by rw [Hz1.out]; exact hb) Hp2.out) (permIn_mono _ _ _ _ a b (by omega) (Nat.le_refl _) (by rw [Hz2.out]; exact hb) p3)),
                        halves_sorted (by omega) (by omega) (by rw [Hz1.out]; exact hb) HH.out.2.2.2.2 Hp2.out Hq2.out p3 s3⟩)
                    by_cases c1 : mid < e
                    · as_aux_lemma =>
                        have c1z : (mid : Int) < (e : Int) := by omega
                        by_cases c2 : e < b
                        · have c2z : (e : Int) < (b : Int) := by omega
                          have hc := hid (HRec.out _ d2 Hz2.out Hs2.out mid e b c1 c2 (by omega) (by omega) K3.out K4.out)
                          go_wp2_with fail
                          refine hc.out.mono ?_
                          rintro e0 w1' ⟨rfl, d3, hz1, hs1, hp1, hq1⟩
                          have hz1 := hid hz1; have hs1 := hid hs1; have hp1 := hid hp1; have hq1 := hid hq1
                          clear hc
                          go_wp2
                          go_end0
                          exact ⟨rfl, d3, hz1.out, hs1.out, fin.out d3 hp1.out hq1.out⟩
                        · have c2z : ¬ (e : Int) < (b : Int) := by omega
                          go_wp2
                          go_end0
                          exact ⟨rfl, d2, Hz2.out, Hs2.out, fin.out d2 (permIn_refl _ _ _) (by have := K3.out; rwa [show e = b by omega] at this)⟩
                    · as_aux_lemma =>
                        have c1z : ¬ (mid : Int) < (e : Int) := by omega
                        go_wp2
                        go_end0
                        exact ⟨rfl, d2, Hz2.out, Hs2.out, fin.out d2 (permIn_refl _ _ _) (by have := K4.out; rwa [show e = mid by omega] at this)⟩
end
end Go.Proofs.YtmfjfahlgcdehaaDoor


/- The stable sort of snapshots, whatever their number. -/
namespace Go.Proofs.YtmfjfahlgcdehaaDoor
open Go.RowKit Go.Lib Go.Sort Go.Shelf

/-- Two neighbouring runs of snapshots merged in place. -/
theorem sym_merge (blk off cap sz : Nat) (w0 : World) (d0 : Array Sq) (R : RowK encQ 37 w0 blk off d0) (hs0 : d0.size = sz) (hsz : sz < 4611686018427387904) :
    ∀ N W dk, dk.size = sz → SWK encQ 37 w0 blk off dk W → ∀ a m b, b - a < N → a < m → m < b → b ≤ sz → SortedIn (ltOf cmpQ) a m dk → SortedIn (ltOf cmpQ) m b dk →
    Calls Tryd.prog 97 #[.slice (some ⟨blk, off, none⟩) sz cap, .int .i64 (a : Int), .int .i64 (m : Int), .int .i64 (b : Int), .func (.func 38) #[] #[]] W fun e w' =>
      e = .returned (.tuple #[]) ∧ ∃ d', d'.size = sz ∧ SWK encQ 37 w0 blk off d' w' ∧ PermIn a b dk d' ∧ SortedIn (ltOf cmpQ) a b d' := by
  intro N
  induction N with
  | zero => intro _ _ _ _ a m b h; omega
  | succ N ih =>
    intro W dk hs h a m b hN ham hmb hb h1 h2
    by_cases c1 : m = a + 1
    · exact sym_up_k 37 Tryd.sizeOf28 38 #[] snap_enters blk off cap sz a m b w0 W d0 dk (cmpQ_lays blk off sz w0) R hs0 hs h c1 hmb hb hsz h2
    · by_cases c2 : b = m + 1
      · exact sym_down_k 37 Tryd.sizeOf28 38 #[] snap_enters blk off cap sz a m b w0 W d0 dk (cmpQ_lays blk off sz w0) R hs0 hs h (by omega) c2 hb hsz h1
      · exact sym_mid_k 37 Tryd.sizeOf28 38 #[] snap_enters blk off cap sz a m b w0 W d0 dk (cmpQ_lays blk off sz w0) R hs0 hs h (by omega) (by omega) hb hsz h1 h2
          (fun W dt hs h p q r hpq hqr hr => rotate_any blk off cap sz p q r w0 W d0 dt R hs0 hs h hpq hqr hr hsz)
          (fun W dt hs h p q r hpq hqr hr hN2 s1 s2 => ih W dt hs h p q r (by omega) hpq hqr hr s1 s2)

/-- [lo, hi) lies in sorted runs of B, the last one maybe shorter. -/
inductive Runs (lt : Sq → Sq → Bool) (d : Array Sq) (B : Nat) : Nat → Nat → Prop
  | last (lo hi : Nat) : lo ≤ hi → hi ≤ lo + B → SortedIn lt lo hi d → Runs lt d B lo hi
  | step (lo hi : Nat) : lo + B ≤ hi → SortedIn lt lo (lo + B) d → Runs lt d B (lo + B) hi → Runs lt d B lo hi
/-- [0, a) lies in sorted runs of B. -/
inductive Full (lt : Sq → Sq → Bool) (d : Array Sq) (B : Nat) : Nat → Prop
  | zero : Full lt d B 0
  | step (a : Nat) : Full lt d B a → SortedIn lt a (a + B) d → Full lt d B (a + B)
theorem Full.runs {lt : Sq → Sq → Bool} {d : Array Sq} {B a hi : Nat} (h : Full lt d B a) : Runs lt d B a hi → a ≤ hi → Runs lt d B 0 hi := by
  induction h with
  | zero => exact fun h _ => h
  | step a _ hs ih => exact fun h hh => ih (.step _ _ hh hs h) (by omega)
theorem Full.same {lt : Sq → Sq → Bool} {d d' : Array Sq} {B a : Nat} (h : Full lt d B a) : (∀ x, x < a → d'[x]! = d[x]!) → Full lt d' B a := by
  induction h with
  | zero => exact fun _ => .zero
  | step a _ hs ih => exact fun h => .step a (ih (fun x hx => h x (by omega))) (fun i j hi hij hj => by rw [h i (by omega), h j hj]; exact hs i j hi hij hj)
theorem Runs.same {lt : Sq → Sq → Bool} {d d' : Array Sq} {B lo hi : Nat} (h : Runs lt d B lo hi) : (∀ x, lo ≤ x → d'[x]! = d[x]!) → Runs lt d' B lo hi := by
  induction h with
  | last lo hi h1 h2 hs => exact fun h => .last _ _ h1 h2 (fun i j hi hij hj => by rw [h i hi, h j (by omega)]; exact hs i j hi hij hj)
  | step lo hi h1 hs _ ih => exact fun h => .step _ _ h1 (fun i j hi hij hj => by rw [h i hi, h j (by omega)]; exact hs i j hi hij hj) (ih (fun x hx => h x (by omega)))
theorem Runs.two {lt : Sq → Sq → Bool} {d : Array Sq} {B lo hi : Nat} (h : Runs lt d B lo hi) (hB : 0 < B) (h2 : lo + 2 * B ≤ hi) : SortedIn lt lo (lo + B) d ∧ SortedIn lt (lo + B) (lo + 2 * B) d ∧ Runs lt d B (lo + 2 * B) hi := by
  cases h with
  | last _ _ h1 h3 hs => omega
  | step _ _ h1 hs hr =>
    refine ⟨hs, ?_⟩
    cases hr with
    | last _ _ h4 h5 hs2 =>
      have e : hi = lo + 2 * B := by omega
      subst e
      exact ⟨hs2, .last _ _ (Nat.le_refl _) (by omega) (fun i j hi hij hj => by omega)⟩
    | step _ _ h4 hs2 hr2 =>
      rw [show lo + B + B = lo + 2 * B by omega] at hs2 hr2
      exact ⟨hs2, hr2⟩
theorem Runs.rest {lt : Sq → Sq → Bool} {d : Array Sq} {B lo hi : Nat} (h : Runs lt d B lo hi) (h1 : lo + B < hi) (h2 : hi < lo + 2 * B) : SortedIn lt lo (lo + B) d ∧ SortedIn lt (lo + B) hi d := by
  cases h with
  | last _ _ _ h3 hs => omega
  | step _ _ _ hs hr =>
    refine ⟨hs, ?_⟩
    cases hr with
    | last _ _ h4 h5 hs2 => exact hs2
    | step _ _ h4 hs2 hr2 => omega
theorem Runs.one {lt : Sq → Sq → Bool} {d : Array Sq} {B lo hi : Nat} (h : Runs lt d B lo hi) (h1 : hi ≤ lo + B) : SortedIn lt lo hi d := by
  cases h with
  | last _ _ _ h3 hs => exact hs
  | step _ _ h2 hs hr => rwa [show lo + B = hi by omega] at hs

theorem insertion_w (blk off cap sz a b : Nat) (w0 W : World) (d0 dk : Array Sq) (R : RowK encQ 37 w0 blk off d0) (hs0 : d0.size = sz) (hs : dk.size = sz) (h : SWK encQ 37 w0 blk off dk W) (hab : a ≤ b) (hb : b ≤ sz) (hsz : sz < 4611686018427387904) :
    Calls Tryd.prog 96 #[.slice (some ⟨blk, off, none⟩) sz cap, .int .i64 (a : Int), .int .i64 (b : Int), .func (.func 38) #[] #[]] W fun e w' =>
      e = .returned (.tuple #[]) ∧ ∃ d', d'.size = sz ∧ SWK encQ 37 w0 blk off d' w' ∧ PermIn a b dk d' ∧ SortedIn (ltOf cmpQ) a b d' := by
  have hi := insertion_any blk off cap a b dk W (h.holds R.hblk R.hH (by rw [hs, hs0])) (h.lt R.hblk) hab (by rw [hs]; exact hb) (by rw [hs]; exact hsz)
  rw [hs] at hi
  refine hi.mono ?_
  rintro e w' ⟨he, n, os, hw⟩
  obtain ⟨h1, h2⟩ := insertionSort_holds swoQ dk a b hab (by rw [hs]; exact hb)
  exact ⟨he, _, by rw [h1.1, hs], hw ▸ h.on R.hblk n _ os h1.1, h1, h2⟩
end Go.Proofs.YtmfjfahlgcdehaaDoor


/- slices.SortStableFunc at snapshots, whatever their number. -/
namespace Go.Proofs.YtmfjfahlgcdehaaDoor
open Go.RowKit Go.Lib Go.Sort Go.Shelf

set_option maxRecDepth 100000 in
set_option maxHeartbeats 4000000 in
theorem stable_any (blk off cap sz : Nat) (d : Array Sq) (w : World) (hH : HoldsK encQ 37 w blk off d) (hblk : blk < w.heap.size) (hd : d.size = sz) (hsz : sz < 1152921504606846976) :
    Calls Tryd.prog 66 #[.slice (some ⟨blk, off, none⟩) sz cap, .int .i64 (sz : Int), .func (.func 38) #[] #[]] w fun e w' =>
      e = .returned (.tuple #[]) ∧ ∃ n os d', PermIn 0 sz d d' ∧ SortedIn (ltOf cmpQ) 0 sz d' ∧ w' = sortWorldK encQ 37 w blk off n d' os := by
  have R : RowK encQ 37 w blk off d := ⟨encQ_len, fun x => x.1.one, hH, hblk⟩
  have hI := hid (fun W dt (hs : dt.size = sz) (h : SWK encQ 37 w blk off dt W) a b h1 h2 => insertion_w blk off cap sz a b w W d dt R hd hs h h1 h2 (by omega))
  have hM := hid (fun W dt (hs : dt.size = sz) (h : SWK encQ 37 w blk off dt W) a m b h1 h2 h3 s1 s2 => sym_merge blk off cap sz w d R hd (by omega) (b - a + 1) W dt hs h a m b (Nat.lt_succ_self _) h1 h2 h3 s1 s2)
  have hS := hid (SWK.start hH)
  have Hd := hid hd
  clear R hH hblk hd
  go_enter Tryd.func66, Tryd.ntmps66
  go_wp2_with fail
  go_loopg [7, 8] sz (fun g va vb wr => ∃ (a b : Nat) (dt : Array Sq), va = .int .i64 (a : Int) ∧ vb = .int .i64 (b : Int) ∧ a ≤ sz ∧ b ≤ a + 20 ∧ a + 20 ≤ b ∧ sz - a ≤ g ∧ Hid (dt.size = sz) ∧ Hid (SWK encQ 37 w blk off dt wr) ∧ Hid (PermIn 0 sz d dt) ∧ Hid (Full (ltOf cmpQ) dt 20 a))
  case atStart => exact ⟨0, 20, d, rfl, rfl, by omega, by omega, by omega, by omega, Hd, hS, hid (permIn_refl _ _ _), hid .zero⟩
  case round =>
    as_aux_lemma =>
    obtain ⟨a, b, dt, rfl, rfl, has, hb1, hb2, hg, Hst, HSt, HP, HF⟩ := hrel
    by_cases hlt : b ≤ sz
    · have hltz : (b : Int) ≤ (sz : Int) := by omega
      have hc := hid (hI.out wr dt Hst.out HSt.out a b (by omega) hlt)
      obtain ⟨b', hb'⟩ : ∃ b', b' = b + 20 := ⟨_, rfl⟩
      have wb : IntKind.i64.wrap ((b : Int) + 20) = (b' : Int) := by rw [IntKind.wrap_i64]; omega
      have Hb := hid hb'
      clear hb'
      go_wp2_with fail
      refine hc.out.mono ?_
      rintro e w1 ⟨rfl, d1, hz1, hs1, hp1, hq1⟩
      have hz1 := hid hz1; have hs1 := hid hs1; have hp1 := hid hp1; have hq1 := hid hq1
      clear hc
      go_wp2_with fail
      go_roundg (sz - b)
      case measure => omega
      case rel =>
        refine ⟨b, b', d1, rfl, rfl, hlt, by have := Hb.out; omega, by have := Hb.out; omega, Nat.le_refl _, hz1, hs1, hid (permIn_trans _ _ _ _ _ HP.out (permIn_mono _ _ _ _ 0 sz (Nat.zero_le _) hlt (by rw [Hst.out]; exact Nat.le_refl _) hp1.out)), hid ?_⟩
        have e : b = a + 20 := by omega
        rw [e]
        exact .step a (HF.out.same (fun x hx => hp1.out.2.1 x (Or.inl hx))) (by rw [← e]; exact hq1.out)
    · have hltz : ¬ (b : Int) ≤ (sz : Int) := by omega
      have hltz2 : (sz : Int) < (b : Int) := by omega
      have hc := hid (hI.out wr dt Hst.out HSt.out a sz has (Nat.le_refl _))
      go_wp2_with fail
      refine hc.out.mono ?_
      rintro e w1 ⟨rfl, d1, hz1, hs1, hp1, hq1⟩
      have hr := hid (Full.runs (HF.out.same (fun x hx => hp1.2.1 x (Or.inl hx)) : Full (ltOf cmpQ) d1 20 a) (.last a sz has (by omega) hq1) has)
      have hp1 := hid (permIn_trans _ _ _ _ _ HP.out (permIn_mono _ _ _ _ 0 sz (Nat.zero_le _) (Nat.le_refl _) (by rw [Hst.out]; exact Nat.le_refl _) hp1))
      have hz1 := hid hz1; have hs1 := hid hs1
      clear hc hq1
      go_wp2_with fail
      go_loopg [6] sz (fun g v6 wr => ∃ (B : Nat) (dt : Array Sq), v6 = .int .i64 (B : Int) ∧ 0 < B ∧ B ≤ 2 * sz + 20 ∧ sz - B ≤ g ∧ Hid (dt.size = sz) ∧ Hid (SWK encQ 37 w blk off dt wr) ∧ Hid (PermIn 0 sz d dt) ∧ Hid (Runs (ltOf cmpQ) dt B 0 sz))
      case atStart => exact ⟨20, d1, rfl, by omega, by omega, by omega, hz1, hs1, hp1, hr⟩
      case round =>
        as_aux_lemma =>
        clear hz1 hs1 hp1 hr
        obtain ⟨B, dB, rfl, hB0, hBs, hgB, HzB, HsB, HpB, HrB⟩ := hrel
        by_cases hBl : B < sz
        · have hBz : (B : Int) < (sz : Int) := by omega
          obtain ⟨B2, hB2⟩ : ∃ B2, B2 = 2 * B := ⟨_, rfl⟩
          have w21 : IntKind.i64.wrap (2 * (B : Int)) = (B2 : Int) := by rw [IntKind.wrap_i64]; omega
          have w22 : IntKind.i64.wrap ((B : Int) * 2) = (B2 : Int) := by rw [IntKind.wrap_i64]; omega
          have hB2a : B2 ≤ 2 * B := by omega
          have hB2b : 2 * B ≤ B2 := by omega
          have HB2 := hid hB2
          clear hB2
          go_wp2_with fail
          go_loopg [7, 8] sz (fun g va vb wr => ∃ (a b : Nat) (dt : Array Sq), va = .int .i64 (a : Int) ∧ vb = .int .i64 (b : Int) ∧ a ≤ sz ∧ b ≤ a + B2 ∧ a + B2 ≤ b ∧ sz - a ≤ g ∧ Hid (dt.size = sz) ∧ Hid (SWK encQ 37 w blk off dt wr) ∧ Hid (PermIn 0 sz d dt) ∧ Hid (Full (ltOf cmpQ) dt B2 a) ∧ Hid (Runs (ltOf cmpQ) dt B a sz))
          case atStart => exact ⟨0, B2, dB, rfl, rfl, by omega, by omega, by omega, by omega, HzB, HsB, HpB, hid .zero, HrB⟩
          case round =>
            as_aux_lemma =>
            obtain ⟨a, b, dt, rfl, rfl, has, hb1, hb2, hg, Hst, HSt, HP, HF, HR⟩ := hrel
            obtain ⟨m, hm⟩ : ∃ m, m = a + B := ⟨_, rfl⟩
            have wm : IntKind.i64.wrap ((a : Int) + (B : Int)) = (m : Int) := by rw [IntKind.wrap_i64]; omega
            have hma : m ≤ a + B := by omega
            have hmb : a + B ≤ m := by omega
            have Hm := hid hm
            clear hm
            by_cases hlt : b ≤ sz
            · have hltz : (b : Int) ≤ (sz : Int) := by omega
              have hb : b = a + 2 * B := by omega
              obtain ⟨r1, r2, r3⟩ := HR.out.two hB0 (by omega)
              have hc := hid (hM.out wr dt Hst.out HSt.out a m b (by omega) (by omega) hlt (by rw [Hm.out]; exact r1) (by rw [Hm.out, hb]; exact r2))
              have HR3 := hid r3
              have Hb2 := hid hb
              clear r1 r2 r3 hb
              obtain ⟨b', hb'⟩ : ∃ b', b' = b + B2 := ⟨_, rfl⟩
              have wb : IntKind.i64.wrap ((b : Int) + (B2 : Int)) = (b' : Int) := by rw [IntKind.wrap_i64]; omega
              have Hb := hid hb'
              clear hb'
              go_wp2_with fail
              refine hc.out.mono ?_
              rintro e w1 ⟨rfl, d2, hz2, hs2, hp2, hq2⟩
              have hz2 := hid hz2; have hs2 := hid hs2; have hp2 := hid hp2; have hq2 := hid hq2
              clear hc
              go_wp2_with fail
              go_roundg (sz - b)
              case measure => omega
              case rel =>
                refine ⟨b, b', d2, rfl, rfl, hlt, by have := Hb.out; omega, by have := Hb.out; omega, Nat.le_refl _, hz2, hs2, hid (permIn_trans _ _ _ _ _ HP.out (permIn_mono _ _ _ _ 0 sz (Nat.zero_le _) hlt (by rw [Hst.out]; exact Nat.le_refl _) hp2.out)), hid ?_, hid ?_⟩
                · have e : b = a + B2 := by omega
                  rw [e]
                  exact .step a (HF.out.same (fun x hx => hp2.out.2.1 x (Or.inl hx))) (by rw [← e]; exact hq2.out)
                · rw [Hb2.out]
                  exact HR3.out.same (fun x hx => hp2.out.2.1 x (Or.inr (by have := Hb2.out; omega)))
            · have hltz : ¬ (b : Int) ≤ (sz : Int) := by omega
              have hltz2 : (sz : Int) < (b : Int) := by omega
              by_cases hms : m < sz
              · have hmz : (m : Int) < (sz : Int) := by omega
                obtain ⟨r1, r2⟩ := HR.out.rest (by omega) (by omega)
                have hc := hid (hM.out wr dt Hst.out HSt.out a m sz (by omega) hms (Nat.le_refl _) (by rw [Hm.out]; exact r1) (by rw [Hm.out]; exact r2))
                clear r1 r2
                go_wp2_with fail
                refine hc.out.mono ?_
                rintro e w1 ⟨rfl, d2, hz2, hs2, hp2, hq2⟩
                have hz2 := hid hz2; have hs2 := hid hs2; have hp2 := hid hp2; have hq2 := hid hq2
                clear hc
                go_wp2_with fail
                go_roundg (sz - B2)
                case measure => omega
                case rel =>
                  exact ⟨B2, d2, rfl, by omega, by omega, Nat.le_refl _, hz2, hs2, hid (permIn_trans _ _ _ _ _ HP.out (permIn_mono _ _ _ _ 0 sz (Nat.zero_le _) (Nat.le_refl _) (by rw [Hst.out]; exact Nat.le_refl _) hp2.out)), hid (Full.runs (HF.out.same (fun x hx => hp2.out.2.1 x (Or.inl hx)) : Full (ltOf cmpQ) d2 B2 a) (.last a sz has (by omega) hq2.out) has)⟩
              · have hmz : ¬ (m : Int) < (sz : Int) := by omega
                have hq := hid (HR.out.one (by omega))
                go_wp2_with fail
                go_roundg (sz - B2)
                case measure => omega
                case rel =>
                  exact ⟨B2, dt, rfl, by omega, by omega, Nat.le_refl _, Hst, HSt, HP, hid (Full.runs HF.out (.last a sz has (by omega) hq.out) has)⟩
        · have hBz : ¬ (B : Int) < (sz : Int) := by omega
          go_wp2
          go_end0
          obtain ⟨n, os, hw⟩ := HsB.out
          exact ⟨rfl, n, os, dB, HpB.out, HrB.out.one (by omega), hw⟩
end Go.Proofs.YtmfjfahlgcdehaaDoor


/- snap.Sort, whatever the number. -/
namespace Go.Proofs.YtmfjfahlgcdehaaDoor
open Go.RowKit Go.Lib Go.Sort Go.Shelf

set_option maxRecDepth 100000 in
theorem sortstable_all (blk off cap sz : Nat) (d : Array Sq) (w : World) (hH : HoldsK encQ 37 w blk off d) (hblk : blk < w.heap.size) (hd : d.size = sz) (hn : sz < 1152921504606846976) :
    Calls Tryd.prog 37 #[.slice (some ⟨blk, off, none⟩) sz cap, .func (.func 38) #[] #[]] w fun e w' =>
      e = .returned (.tuple #[]) ∧ ∃ n os d', PermIn 0 sz d d' ∧ SortedIn (ltOf cmpQ) 0 sz d' ∧ w' = sortWorldK encQ 37 w blk off n d' os := by
  have h := hid (stable_any blk off cap sz d w hH hblk hd hn)
  clear hH hblk hd
  go_enter Tryd.func37, Tryd.ntmps37
  go_wp2_with fail
  refine h.out.mono ?_
  rintro e w1 ⟨rfl, q, os, d', hp, hs, hw⟩
  have HW := hid (show _ from And.intro hp (And.intro hs hw))
  clear hp hs hw h
  go_wp2
  go_end0
  exact ⟨rfl, q, os, d', HW.out.1, HW.out.2.1, HW.out.2.2⟩

set_option maxRecDepth 100000 in
set_option maxHeartbeats 2000000 in
theorem snapsort_any (a : Option Addr) (c : Nat) (xs : List Sq) (w : World) (h : Snaps w a c xs) (hl : xs.length ≤ 1000000) :
    Calls Tryd.prog 11 #[.slice a xs.length c] w (SortedQ w xs) := by
  have hc := hid (clone_snaps a c xs w h (by omega))
  clear h
  go_enter Tryd.func11, Tryd.ntmps11
  go_wp2_with fail
  refine hc.out.mono ?_
  rintro e w1 ⟨v, rfl, hk1, ho1⟩
  have hk1 := hid hk1
  rcases ho1.2 with ⟨rfl, h0⟩ | ⟨g, cap, cur, rfl, hg, hb, hcap, hmx, hcs, htk⟩
  · have hx : xs = [] := List.eq_nil_of_length_eq_zero h0
    have hn := hid (sortstable_nil w1)
    clear ho1 hc h0
    go_wp2_with fail
    refine hn.out.mono ?_
    rintro e w2 ⟨rfl, k2⟩
    have K2 := hid (hk1.out.trans k2)
    clear k2 hn
    go_wp2
    go_ret
    exact ⟨none, 0, [], rfl, K2.out, ⟨by simp, by omega, fun _ => ⟨rfl, rfl⟩, fun x hx => by simp at hx⟩, by rw [hx], List.Pairwise.nil, fun x hx => by simp at hx⟩
  · have hlt := lt_of_block hb
    have hH := own_holds ho1 rfl
    have hs := sortstable_all g 0 cap xs.length xs.toArray w1 hH hlt (by simp) (by omega)
    have hsz : xs.toArray.size = xs.length := by simp
    have Hs := hid hs
    have HH := hid hH; have Hg := hid hg; have Hlt := hid hlt; have Hcap := hid hcap; have Hmx := hid hmx
    clear hc ho1 hs hH hg hb hcap hmx hcs htk hlt hsz
    go_wp2_with fail
    refine Hs.out.mono ?_
    rintro e w2 ⟨rfl, n, os, d', hp, hso, hw⟩
    have hp := hid hp; have hso := hid hso
    have hk2 := hid (show Kept [g] w1 w2 from hw ▸ sortWorld_kept w1 g 0 n d' os)
    have hh2 := hid (show HoldsK encQ 37 w2 g 0 d' from hw ▸ holdsK_sortWorldK_c encQ 37 w1 g 0 xs.toArray d' n os HH.out Hlt.out (by have := hp.out.1; simpa using this))
    clear hw
    go_wp2
    go_ret
    have hdl : d'.size = xs.length := by have := hp.out.1; simpa using this
    have hdl2 : d'.toList.length = xs.length := by simpa using hdl
    refine ⟨some ⟨g, 0, none⟩, cap, d'.toList, by rw [hdl2]; rfl, hk1.out.trans' hk2.out (fun x hx hm => by simp at hm; have := Hg.out; omega), holds_snaps hh2.out (by have := Hcap.out; omega) (by have := Hmx.out; unfold maxLen at this; omega), ?_, ?_, fun x hx => by simp at hx; subst hx; exact Hg.out⟩
    · have := permIn_perm (d := xs.toArray) (d' := d') (by simpa using hp.out); simpa using this
    · exact sortedIn_pairwise (by rw [hdl]; simpa using hso.out)
end Go.Proofs.YtmfjfahlgcdehaaDoor
