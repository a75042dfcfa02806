/- PathAbove: the walk. -/
import Derived.Test.YtcemgmikbcbofaaP17
namespace Go.Proofs.Ytcemgmikbcbofaa
open Go.RowKit

theorem S_isE (a : List UInt8) : (S a).toList.isEmpty = decide (a = []) := by
  rw [S_toList]; cases a <;> simp
structure JF (d n r : List UInt8) : Prop where
  is : joinL d n = r
  a : d.length ≤ 1000000000
  b : n.length ≤ 1000000000
structure CkF (a : List UInt8) (n : Int) : Prop where
  is : pathErr a = n
structure ClF (a c : List UInt8) (n : Int) : Prop where
  is : cleanS a = c
  er : cleanErr a = n
  len : a.length ≤ 10000000
/-- Calls of path, each in a world that keeps what W holds. -/
structure PathK (w : World) : Prop where
  check : ∀ (a : List UInt8) (n : Int), CkF a n → ∀ v, Kept [] w v → Calls Try.prog 24 #[.string (S a)] v fun e w' => e = .returned (.int .i64 n) ∧ Kept [] w w'
  clean : ∀ (a c : List UInt8) (n : Int), ClF a c n → ∀ v, Kept [] w v → Calls Try.prog 20 #[.string (S a)] v fun e w' => e = .returned (.tuple #[.string (S c), .int .i64 n]) ∧ Kept [] w w'
  join : ∀ (d n r : List UInt8), JF d n r → ∀ v, Kept [] w v → Calls Try.prog 28 #[.string (S d), .string (S n)] v fun e w' => e = .returned (.string (S r)) ∧ Kept [] w w'
  parent : ∀ (a r : List UInt8), parentL a = r → a.length ≤ 1000000000 → ∀ v, Kept [] w v → Calls Try.prog 26 #[.string (S a)] v fun e w' => e = .returned (.string (S r)) ∧ Kept [] w w'
  base : ∀ (a r : List UInt8), baseL a = r → a.length ≤ 1000000000 → ∀ v, Kept [] w v → Calls Try.prog 27 #[.string (S a)] v fun e w' => e = .returned (.string (S r)) ∧ Kept [] w w'
  within : ∀ (a d : List UInt8) (r : Bool), within a d = r → ∀ v, Kept [] w v → Calls Try.prog 31 #[.string (S a), .string (S d)] v fun e w' => e = .returned (.bool r) ∧ Kept [] w w'
  less : ∀ (a b : List UInt8) (r : Bool), pless a b = r → a.length ≤ 1000000000 → b.length ≤ 1000000000 → ∀ v, Kept [] w v → Calls Try.prog 29 #[.string (S a), .string (S b)] v fun e w' => e = .returned (.bool r) ∧ Kept [] w w'
theorem pathK (w : World) : PathK w where
  check a n h v k := (check_all a n h.is v).mono fun e w' h' => ⟨h'.1, k.trans h'.2⟩
  clean a c n h v k := (clean_any a h.len v).mono fun e w' h' => ⟨by rw [h'.1, h.is, h.er], k.trans h'.2⟩
  join d n r h v k := (join_any d n h.a h.b v).mono fun e w' h' => ⟨by rw [h'.1, h.is], h'.2 ▸ k⟩
  parent a r h l v k := (parent_any a l v).mono fun e w' h' => ⟨by rw [h'.1, h], h'.2 ▸ k⟩
  base a r h l v k := (base_any a l v).mono fun e w' h' => ⟨by rw [h'.1, h], h'.2 ▸ k⟩
  within a d r h v k := (within_any a d v).mono fun e w' h' => ⟨by rw [h'.1, h], h'.2 ▸ k⟩
  less a b r h l l2 v k := (less_any a b l l2 v).mono fun e w' h' => ⟨by rw [h'.1, h], k.trans h'.2⟩

set_option maxRecDepth 100000 in
set_option maxHeartbeats 4000000 in
theorem path_above (p a b : List UInt8) (w : World) :
    Calls Try.prog 8 #[.string (S p), .string (S a), .string (S b)] w fun e w' => e = .returned (.bool true) ∧ Kept [] w w' := by
  have hal := hid (alive5 w)
  have K := hid (pathK w)
  have sp := S_size p; have sa := S_size a; have sb := S_size b
  by_cases h1 : okPath p = true
  case neg =>
    have e1 : CkF p 38 := ⟨pathErr_no (by simpa using h1)⟩
    clear h1
    go_enter Try.func8, Try.ntmps8
    go_wp2_with fail
    refine hal.out.mono ?_
    rintro e w1 ⟨rfl, k1⟩
    go_wp2_with fail
    refine (K.out.check p 38 e1 _ k1).mono ?_
    rintro e w2 ⟨rfl, k2⟩
    go_wp2
    go_ret
    exact ⟨rfl, k2⟩
  have e1 : CkF p 0 := ⟨pathErr_ok h1⟩
  by_cases h2 : okPath a = true
  case neg =>
    have e2 : CkF a 38 := ⟨pathErr_no (by simpa using h2)⟩
    clear h1 h2
    go_enter Try.func8, Try.ntmps8
    go_wp2_with fail
    refine hal.out.mono ?_
    rintro e w1 ⟨rfl, k1⟩
    go_wp2_with fail
    refine (K.out.check p 0 e1 _ k1).mono ?_
    rintro e w2 ⟨rfl, k2⟩
    go_wp2_with fail
    refine (K.out.check a 38 e2 _ k2).mono ?_
    rintro e w3 ⟨rfl, k3⟩
    go_wp2
    go_ret
    exact ⟨rfl, k3⟩
  have e2 : CkF a 0 := ⟨pathErr_ok h2⟩
  by_cases h3 : okPath b = true
  case neg =>
    have e3 : CkF b 38 := ⟨pathErr_no (by simpa using h3)⟩
    clear h1 h2 h3
    go_enter Try.func8, Try.ntmps8
    go_wp2_with fail
    refine hal.out.mono ?_
    rintro e w1 ⟨rfl, k1⟩
    go_wp2_with fail
    refine (K.out.check p 0 e1 _ k1).mono ?_
    rintro e w2 ⟨rfl, k2⟩
    go_wp2_with fail
    refine (K.out.check a 0 e2 _ k2).mono ?_
    rintro e w3 ⟨rfl, k3⟩
    go_wp2_with fail
    refine (K.out.check b 38 e3 _ k3).mono ?_
    rintro e w4 ⟨rfl, k4⟩
    go_wp2
    go_ret
    exact ⟨rfl, k4⟩
  have e3 : CkF b 0 := ⟨pathErr_ok h3⟩
  have l1 := ((okPath_iff p).1 h1).1
  have l2 := ((okPath_iff a).1 h2).1
  have l3 := ((okPath_iff b).1 h3).1
  by_cases hs : 110 < p.length + a.length + b.length
  · have hs' : 110 < (p.length : Int) + (a.length : Int) + (b.length : Int) := by omega
    clear h1 h2 h3 hs
    go_enter Try.func8, Try.ntmps8
    go_wp2_with fail
    refine hal.out.mono ?_
    rintro e w1 ⟨rfl, k1⟩
    go_wp2_with fail
    refine (K.out.check p 0 e1 _ k1).mono ?_
    rintro e w2 ⟨rfl, k2⟩
    go_wp2_with fail
    refine (K.out.check a 0 e2 _ k2).mono ?_
    rintro e w3 ⟨rfl, k3⟩
    go_wp2_with fail
    refine (K.out.check b 0 e3 _ k3).mono ?_
    rintro e w4 ⟨rfl, k4⟩
    go_wp2
    go_ret
    exact ⟨rfl, k4⟩
  have hs' : ¬ 110 < (p.length : Int) + (a.length : Int) + (b.length : Int) := by omega
  obtain ⟨pa, hpa⟩ : ∃ x, x = p ++ 47 :: a := ⟨_, rfl⟩
  obtain ⟨ab, hab⟩ : ∃ x, x = a ++ 47 :: b := ⟨_, rfl⟩
  obtain ⟨al, hall⟩ : ∃ x, x = p ++ 47 :: (a ++ 47 :: b) := ⟨_, rfl⟩
  have j1 := okPath_join h1 h2 (by omega)
  have lpa : pa.length = p.length + a.length + 1 := by rw [hpa]; simp; omega
  have lab : ab.length = a.length + b.length + 1 := by rw [hab]; simp; omega
  have lal : al.length = p.length + a.length + b.length + 2 := by rw [hall]; simp; omega
  rw [j1.1, ← hpa] at j1
  have j2 := okPath_join (p := pa) j1.2 h3 (by omega)
  rw [j2.1, show pa ++ 47 :: b = al by rw [hpa, hall]; simp] at j2
  have j3 := okPath_join h2 h3 (by omega)
  rw [← hab] at j3
  have j4 := okPath_join (p := p) (a := ab) h1 (by rw [← j3.1]; exact j3.2) (by omega)
  rw [j4.1, show p ++ 47 :: ab = al by rw [hab, hall]] at j4
  have f1 : JF p a pa := ⟨j1.1 ▸ (by unfold joinL; rw [if_neg (okPath_ne h1), hpa]), by omega, by omega⟩
  have f2 : JF pa b al := ⟨by unfold joinL; rw [if_neg (okPath_ne j1.2), hpa, hall]; simp, by omega, by omega⟩
  have f3 : JF a b ab := ⟨j3.1, by omega, by omega⟩
  have f4 : JF p ab al := ⟨by unfold joinL; rw [if_neg (okPath_ne h1), hab, hall], by omega, by omega⟩
  have f5 : CkF al 0 := ⟨pathErr_ok j2.2⟩
  have f6 : within al p = true := (within_iff al p (okPath_ne h1)).2 ⟨_, hall⟩
  obtain ⟨bb, hbb⟩ : ∃ x, x = baseL b := ⟨_, rfl⟩
  have f7 : baseL al = bb := by rw [hall, show p ++ 47 :: (a ++ 47 :: b) = (p ++ 47 :: a) ++ 47 :: b by simp, base_join, hbb]
  have f8 : pless p al = true := by rw [hall]; exact pless_pref p 47 _
  have t1 := clean_some (meant_there h1)
  have f9 : ClF (p ++ [47, 120, 47, 46, 46]) p 0 := ⟨t1.1, t1.2, by simp; omega⟩
  have z1 : ¬ 9223372036854775807 < (S p).size + 3 := by rw [S_size]; omega
  have z2 : ¬ 9223372036854775807 < (S p).size + 5 := by rw [S_size]; omega
  have a1 := S_append p [47, 46, 46]
  have a2 := S_append p [47, 120, 47, 46, 46]
  rw [show S [47, 46, 46] = ⟨#[47, 46, 46]⟩ from rfl] at a1
  rw [show S [47, 120, 47, 46, 46] = ⟨#[47, 120, 47, 46, 46]⟩ from rfl] at a2
  have hup := meant_up h1
  have hse : (S []).toList.isEmpty = true := by rw [S_isE]; rfl
  have f10 := hid hbb.symm
  replace f7 := hid f7
  obtain ⟨q, hq⟩ : ∃ x, x = parentL p := ⟨_, rfl⟩
  have hqs := hid hq.symm
  have hqe := S_isE q
  rw [← hq] at hup
  clear j1 j2 j3 j4 hpa hab hall t1 hbb hq h1 h2 h3 hs
  by_cases he : q = []
  · rw [if_pos he] at hup
    have t2 := clean_none hup
    have f0 : ClF (p ++ [47, 46, 46]) [] 38 := ⟨t2.1, t2.2, by simp; omega⟩
    rw [decide_eq_true he] at hqe
    clear hup t2 he
    go_enter Try.func8, Try.ntmps8
    go_wp2_with fail
    refine hal.out.mono ?_
    rintro e w1 ⟨rfl, k1⟩
    go_wp2_with fail
    refine (K.out.check p 0 e1 _ k1).mono ?_
    rintro e w2 ⟨rfl, k2⟩
    go_wp2_with fail
    refine (K.out.check a 0 e2 _ k2).mono ?_
    rintro e w3 ⟨rfl, k3⟩
    go_wp2_with fail
    refine (K.out.check b 0 e3 _ k3).mono ?_
    rintro e w4 ⟨rfl, k4⟩
    go_wp2_with fail
    refine (K.out.clean _ _ _ f0 _ k4).mono ?_
    rintro e w5 ⟨rfl, k5⟩
    go_wp2_with fail
    refine (K.out.parent _ _ hqs.out (by omega) _ k5).mono ?_
    rintro e w6 ⟨rfl, k6⟩
    go_wp2_with fail
    refine (K.out.clean _ _ _ f9 _ k6).mono ?_
    rintro e w7 ⟨rfl, k7⟩
    go_wp2_with fail
    refine (K.out.join _ _ _ f1 _ k7).mono ?_
    rintro e w8 ⟨rfl, k8⟩
    go_wp2_with fail
    refine (K.out.join _ _ _ f2 _ k8).mono ?_
    rintro e w9 ⟨rfl, k9⟩
    go_wp2_with fail
    refine (K.out.join _ _ _ f3 _ k9).mono ?_
    rintro e w10 ⟨rfl, k10⟩
    go_wp2_with fail
    refine (K.out.join _ _ _ f4 _ k10).mono ?_
    rintro e w11 ⟨rfl, k11⟩
    go_wp2_with fail
    refine (K.out.check _ _ f5 _ k11).mono ?_
    rintro e w12 ⟨rfl, k12⟩
    go_wp2_with fail
    refine (K.out.within _ _ _ f6 _ k12).mono ?_
    rintro e w13 ⟨rfl, k13⟩
    go_wp2_with fail
    refine (K.out.base _ _ f7.out (by omega) _ k13).mono ?_
    rintro e w14 ⟨rfl, k14⟩
    go_wp2_with fail
    refine (K.out.base _ _ f10.out (by omega) _ k14).mono ?_
    rintro e w15 ⟨rfl, k15⟩
    go_wp2_with fail
    refine (K.out.less _ _ _ f8 (by omega) (by omega) _ k15).mono ?_
    rintro e w16 ⟨rfl, k16⟩
    go_wp2
    go_ret
    exact ⟨rfl, k16⟩
  · rw [if_neg he] at hup
    have t2 := clean_some hup
    have f0 : ClF (p ++ [47, 46, 46]) q 0 := ⟨t2.1, t2.2, by simp; omega⟩
    rw [decide_eq_false he] at hqe
    clear hup t2 he
    go_enter Try.func8, Try.ntmps8
    go_wp2_with fail
    refine hal.out.mono ?_
    rintro e w1 ⟨rfl, k1⟩
    go_wp2_with fail
    refine (K.out.check p 0 e1 _ k1).mono ?_
    rintro e w2 ⟨rfl, k2⟩
    go_wp2_with fail
    refine (K.out.check a 0 e2 _ k2).mono ?_
    rintro e w3 ⟨rfl, k3⟩
    go_wp2_with fail
    refine (K.out.check b 0 e3 _ k3).mono ?_
    rintro e w4 ⟨rfl, k4⟩
    go_wp2_with fail
    refine (K.out.clean _ _ _ f0 _ k4).mono ?_
    rintro e w5 ⟨rfl, k5⟩
    go_wp2_with fail
    refine (K.out.parent _ _ hqs.out (by omega) _ k5).mono ?_
    rintro e w6 ⟨rfl, k6⟩
    go_wp2_with fail
    refine (K.out.clean _ _ _ f9 _ k6).mono ?_
    rintro e w7 ⟨rfl, k7⟩
    go_wp2_with fail
    refine (K.out.join _ _ _ f1 _ k7).mono ?_
    rintro e w8 ⟨rfl, k8⟩
    go_wp2_with fail
    refine (K.out.join _ _ _ f2 _ k8).mono ?_
    rintro e w9 ⟨rfl, k9⟩
    go_wp2_with fail
    refine (K.out.join _ _ _ f3 _ k9).mono ?_
    rintro e w10 ⟨rfl, k10⟩
    go_wp2_with fail
    refine (K.out.join _ _ _ f4 _ k10).mono ?_
    rintro e w11 ⟨rfl, k11⟩
    go_wp2_with fail
    refine (K.out.check _ _ f5 _ k11).mono ?_
    rintro e w12 ⟨rfl, k12⟩
    go_wp2_with fail
    refine (K.out.within _ _ _ f6 _ k12).mono ?_
    rintro e w13 ⟨rfl, k13⟩
    go_wp2_with fail
    refine (K.out.base _ _ f7.out (by omega) _ k13).mono ?_
    rintro e w14 ⟨rfl, k14⟩
    go_wp2_with fail
    refine (K.out.base _ _ f10.out (by omega) _ k14).mono ?_
    rintro e w15 ⟨rfl, k15⟩
    go_wp2_with fail
    refine (K.out.less _ _ _ f8 (by omega) (by omega) _ k15).mono ?_
    rintro e w16 ⟨rfl, k16⟩
    go_wp2
    go_ret
    exact ⟨rfl, k16⟩
end Go.Proofs.Ytcemgmikbcbofaa
