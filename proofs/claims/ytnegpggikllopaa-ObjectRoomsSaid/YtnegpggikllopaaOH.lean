
/- ObjectCopies. -/
import Derived.Test.YtnegpggikllopaaOG
namespace Go.Proofs.Ytnegpggikllopaa
open Go.RowKit Go.Lib Go.Maps

theorem src_own {w : World} {base : Nat} {e : TypeId} {v : Value} {n : Nat} {xs : List Value} (h : w.ownsRow base e 1 v n xs) : Src w v n xs := by
  obtain ⟨_, _, s⟩ := srcS_of_row h
  exact s.src
theorem info_byte : (Try.prog.info? 5).map (fun i => (i.zero, i.size, i.bytes)) = some (some (.int .u8 0), 1, 1) := by kernel_rfl
theorem build_0b (W : World) : (Instr.buildSlice 36 0 #[]).run Try.prog W = .ok (.slice (some ⟨W.heap.size, 0, none⟩) 0 0) (W.alloc (.cells #[] 5)) := by kernel_rfl
theorem build_1b (W : World) : (Instr.buildSlice 36 1 #[(0, .int .u8 1)]).run Try.prog W = .ok (.slice (some ⟨W.heap.size, 0, none⟩) 1 1) (W.alloc (.cells #[.int .u8 1] 5)) := by kernel_rfl

set_option maxRecDepth 100000 in
set_option maxHeartbeats 4000000 in
theorem object_copies (a0 a1 : Option Addr) (c0 c1 : Nat) (bs cs : List UInt8) (w : World) (hb : SrcB w (.slice a0 bs.length c0) bs) (hc : SrcB w (.slice a1 cs.length c1) cs) (hbl : bs.length ≤ 9223372036854775807) (hcl : cs.length ≤ 9223372036854775807) :
    Calls Try.prog 7 #[.slice a0 bs.length c0, .slice a1 cs.length c1] w fun e w' => e = .returned (.bool true) ∧ Kept [] w w' := by
  have hal := hid (alive06 w)
  obtain ⟨nb, hnb⟩ : ∃ nb, nb = bs.length := ⟨_, rfl⟩
  obtain ⟨nc, hnc⟩ : ∃ nc, nc = cs.length := ⟨_, rfl⟩
  have HB := hid hb; have HC := hid hc; have HNB := hid hnb; have HNC := hid hnc
  rw [← hnb] at HB ⊢
  rw [← hnc] at HC ⊢
  rw [← hnb] at hbl
  rw [← hnc] at hcl
  clear hb hc hnb hnc
  by_cases hsm : nb ≤ 200 ∧ nc ≤ 200
  · obtain ⟨h1, h2⟩ := hsm
    go_enter Try.func7, Try.ntmps7
    go_wp2_with fail
    refine hal.out.mono ?_
    rintro e w1 ⟨rfl, k1⟩
    have K1 := hid k1
    have hnew := hid (ob_new ((nb : Int) + (nc : Int)) (by omega) (by omega) w1)
    clear k1 hal
    go_wp2_with fail
    refine hnew.out.mono ?_
    rintro e w2 ⟨rfl, k2, ob2⟩
    obtain ⟨p, hp⟩ : ∃ p, p = w1.heap.size := ⟨_, rfl⟩
    rw [← hp] at ob2 ⊢
    obtain ⟨q, hq⟩ : ∃ q : Int, q = (nb : Int) + (nc : Int) := ⟨_, rfl⟩
    rw [← hq] at ob2
    have hpw := hid (show w.heap.size ≤ p from by rw [hp]; exact K1.out.size)
    have K2 := hid (K1.out.trans k2)
    have OB2 := hid ob2
    have hq' := hid hq
    have hsb := hid (show ∀ W, Kept [] w W → Src W (.slice a0 nb c0) nb (bs.map B) from fun W k => by
      have h := HB.out.kept k (by simp)
      unfold SrcB at h
      rw [← HNB.out] at h
      exact h)
    have hsc := hid (show ∀ W, Kept [] w W → Src W (.slice a1 nc c1) nc (cs.map B) from fun W k => by
      have h := HC.out.kept k (by simp)
      unfold SrcB at h
      rw [← HNC.out] at h
      exact h)
    obtain ⟨i0, hi0, hz0, hz1, hz2⟩ := info_split info_byte
    have hbu := build_0b
    clear ob2 k2 hnew hp hq
    go_wp2_with (at_builtin; refine halt ?_)
    refine Halt.mk ?_
    have hka := hid (show Kept [] w2 (w2.alloc (.cells #[] 5)) from (Kept.refl [] w2).alloc _)
    have hown0 := hid (show (w2.alloc (.cells #[] 5)).ownsRow w2.heap.size 5 1 (.slice (some ⟨w2.heap.size, 0, none⟩) 0 0) 0 [] from ⟨rfl, Or.inr ⟨w2.heap.size, 0, #[], rfl, Nat.le_refl _, heap_alloc_at rfl, by simp, by unfold maxLen; omega, by simp, by simp⟩⟩)
    have hsr0 := hid (hsb.out _ (K2.out.trans hka.out))
    have hln0 := hid (show (bs.map B).length = nb by simp [HNB.out])
    have hone0 := hid (show ∀ u ∈ bs.map B, u.oneCell' = true by intro u hu; simp at hu; obtain ⟨b, _, rfl⟩ := hu; rfl)
    refine wpList_append_src _ rfl _ _ _ rfl w2.heap.size 5 i0 _ 1 Try.underlying36 hi0 hz0 hz1 hz2 rfl (.slice (some ⟨w2.heap.size, 0, none⟩) 0 0) 0 [] rfl hown0.out (.slice a0 nb c0) nb (bs.map B) rfl hsr0.out hln0.out hone0.out ?_ ?_ ?_ ?_
    · unfold maxLen; omega
    · omega
    · simp
    intro v4 w4 hown4 hgr4 _ hf4
    simp only [Nat.zero_add, List.nil_append] at hown4
    obtain ⟨oa, oc, rfl⟩ := owns_slice hown4
    have k4 : Kept [] w2 w4 := hka.out.trans' (Kept.of_row hgr4) (fun x hx hm => by simp [Value.ownBlock] at hm; omega)
    have K4 := hid (K2.out.trans k4)
    have OB4 := hid (OB2.out.kept k4 (by simp))
    have hp2 := OB2.out.bound p OB2.out.hp
    have hlow := hid (fun g (hg : (Value.slice oa nb oc).ownBlock = some g) => (show p < g ∧ g < w4.heap.size from ⟨by have := (hown4.lt g hg).1; omega, (hown4.lt g hg).2⟩))
    have HO4 := hid hown4
    have hput := hid (put_plain w4 [p] p 68 [] q [] 0 [120] (by decide) OB4.out (by decide) oa oc bs nb HNB.out (fun W k => src_own (k.owns hown4 (fun g hg hm => by simp at hm; have := hlow.out g hg; omega))) (by have := HNB.out; simp [sizeE]; omega) 0
      (putErr_ok rfl (by decide) (by rw [← HNB.out]; omega) (by rw [hq'.out, ← HNB.out]; simp [sizeE, lookB, findE]; omega) (Or.inr (by simp))))
    clear hown4 hgr4 hf4 k4 hka hp2
    go_wp2_with fail
    refine hput.out.mono ?_
    rintro e w5 ⟨v5, U5, rfl, k5, hU5, ob5⟩
    have ob5 : Ob w5 U5 p 68 [] q [⟨[120], v5, bs⟩] (.pointer none) [] 1 := ob5
    have HO5 := k5.owns HO4.out (fun g hg hm => by simp at hm; have := hlow.out g hg; omega)
    have HU5 := hid (show ∀ x ∈ U5, x = p ∨ w4.heap.size ≤ x from fun x hx => by
      rcases hU5 x hx with h | h
      · left; simpa using h
      · exact Or.inr h)
    have e1 := hid (show ∀ x, x < w.heap.size → x ∈ [p] → x ∈ ([] : List Nat) from fun x hx hm => by simp at hm; have := hpw.out; omega)
    have K5 := hid (K4.out.trans' k5 e1.out)
    obtain ⟨w6, hcl1, k6⟩ := clear_row w5 HO5
    have OB6 := hid (ob5.kept k6 (fun x hx hm => by
      simp at hm
      have h1 := hlow.out x hm
      rcases HU5.out x hx with h | h <;> omega))
    have K6 := hid (K5.out.trans' k6 (fun x hx hm => by simp at hm; have h1 := hlow.out x hm; have := hpw.out; omega))
    have hb5 := ob5.bound
    have hs6 := hid k6.size
    have hs45 := hid k5.size
    have hget := hid (get_own w6 U5 p 68 [] q [⟨[120], v5, bs⟩] 1 [120] (by decide) OB6.out (by decide) 0 rfl bs rfl nb HNB.out)
    have HB5 := hid hb5
    clear k5 hU5 ob5 HO5 k6 hb5 hput
    go_wp2_with fail
    refine hget.out.mono ?_
    rintro e w7 ⟨xa, xc, rfl, k7, ob7, ox⟩
    have K7 := hid (K6.out.trans' k7 e1.out)
    have hsame := hid (show Calls Try.prog 31 #[.slice xa nb xc, .slice a0 nb c0] w7 fun e w' => e = .returned (.bool true) ∧ w7 = w' from by
      have h := same_src xa a0 xc c0 bs w7 (by have := src_own ox; unfold SrcB; rw [← HNB.out]; exact this) (by have := hsb.out w7 K7.out; unfold SrcB; rw [← HNB.out]; exact this)
      rw [← HNB.out] at h
      exact h)
    obtain ⟨w8, hcl2, k8⟩ := clear_row w7 ox
    have hox := hid (fun g (hg : (Value.slice xa nb xc).ownBlock = some g) => (ox.lt g hg).1)
    have OB8 := hid (ob7.kept k8 (fun x hx hm => by
      simp at hm
      have h1 := hox.out x hm
      have h2 := HB5.out x hx
      have := hs6.out; omega))
    have K8 := hid (K7.out.trans' k8 (fun x hx hm => by simp at hm; have h1 := hox.out x hm; have := K6.out.size; omega))
    have hget2 := hid (get_own w8 U5 p 68 [] q [⟨[120], v5, bs⟩] 2 [120] (by decide) OB8.out (by decide) 0 rfl bs rfl nb HNB.out)
    clear k7 ob7 ox k8 hget hcl1
    go_wp2_with fail
    refine hsame.out.mono ?_
    rintro e w7' ⟨rfl, rfl⟩
    clear hsame
    go_wp2_with fail
    refine hget2.out.mono ?_
    rintro e w9 ⟨ya, yc, rfl, k9, ob9, oy⟩
    have K9 := hid (K8.out.trans' k9 e1.out)
    have OY := hid oy
    have hU5w := hid (show ∀ x ∈ U5, w.heap.size ≤ x from fun x hx => by
      rcases HU5.out x hx with h | h
      · have := hpw.out; omega
      · have := K4.out.size; omega)
    have hput2 := hid (put_plain w9 U5 p 68 [] q [⟨[120], v5, bs⟩] 3 [121] (by decide) ob9 (by decide) a1 c1 cs nc HNC.out (fun W k => hsc.out W (K9.out.trans' k e1.out)) (by have := HNB.out; have := HNC.out; simp [sizeE]; omega) 0
      (putErr_ok rfl (by decide) (by rw [← HNC.out]; omega) (by rw [hq'.out, ← HNC.out]; simp [sizeE, lookB, findE, ← HNB.out]) (Or.inr (by simp))))
    have hy9 := hid (fun g (hg : (Value.slice ya nb yc).ownBlock = some g) => (oy.lt g hg).1)
    clear k9 ob9 oy hget2 hcl2
    go_wp2_with fail
    refine hput2.out.mono ?_
    rintro e w10 ⟨v10, U10, rfl, k10, hU10, ob10⟩
    have ob10 : Ob w10 U10 p 68 [] q [⟨[120], v5, bs⟩, ⟨[121], v10, cs⟩] (.pointer none) [] 4 := ob10
    have hz9 := hid K9.out.size
    have hU10w := hid (show ∀ x ∈ U10, x ∈ U5 ∨ w9.heap.size ≤ x from hU10)
    have K10 := hid (K9.out.trans' k10 (fun x hx hm => by have := hU5w.out x hm; omega))
    have hyU := hid (show ∀ g, (Value.slice ya nb yc).ownBlock = some g → g ∉ U5 ∧ g < w9.heap.size from fun g hg => ⟨fun hm => by have := hy9.out g hg; have := HB5.out g hm; have := hs6.out; have := K6.out.size; have h7 := OB8.out.bound g hm; omega, (OY.out.lt g hg).2⟩)
    have OY10 := hid (k10.owns OY.out (fun g hg hm => (hyU.out g hg).1 hm))
    have ka := (Kept.refl [] w10).alloc (.cells #[.int .u8 1] 5)
    have K11 := hid (K10.out.trans ka)
    have OY11 := hid (ka.owns OY10.out (by simp))
    have hb1 := build_1b
    have hput3 := hid (put_plain (w10.alloc (.cells #[.int .u8 1] 5)) U10 p 68 [] q [⟨[120], v5, bs⟩, ⟨[121], v10, cs⟩] 4 [122] (by decide) (ob10.kept ka (by simp)) (by decide) (some ⟨w10.heap.size, 0, none⟩) 1 [1] 1 rfl (fun W k => Or.inr ⟨_, _, rfl, fun j u hj => by
        have hbk := k.at (heap_alloc_at (w := w10) (o := .cells #[.int .u8 1] 5) rfl) (fun hm => by simp at hm; have := ob10.bound p ob10.hp; omega)
        rw [add_plain, cell_of_row W _ j _ _ _ hbk]
        simpa [B] using hj⟩) (by have := HNB.out; have := HNC.out; simp [sizeE]; omega) 31
      (putErr_room rfl (by decide) (by decide) (by rw [hq'.out]; simp [sizeE, lookB, findE, ← HNB.out, ← HNC.out]; omega)))
    clear k10 hU10 ob10 ka hput2
    go_wp2_with fail
    refine hput3.out.mono ?_
    rintro e w12 ⟨v12, U12, rfl, k12, hU12, ob12⟩
    have ob12 : Ob w12 U12 p 68 [] q [⟨[120], v5, bs⟩, ⟨[121], v10, cs⟩] (.pointer none) [] 5 := ob12
    have hU10b := hid (show ∀ x ∈ U10, w.heap.size ≤ x ∧ (x ∈ U5 ∨ w9.heap.size ≤ x) from fun x hx => ⟨by
      rcases hU10w.out x hx with h | h
      · exact hU5w.out x h
      · have := hz9.out; omega, hU10w.out x hx⟩)
    have K12 := hid (K11.out.trans' k12 (fun x hx hm => by have := (hU10b.out x hm).1; omega))
    have hyU2 := hid (show ∀ g, (Value.slice ya nb yc).ownBlock = some g → g ∉ U10 from fun g hg hm => by
      have := hyU.out g hg
      rcases (hU10b.out g hm).2 with h | h
      · exact this.1 h
      · omega)
    have OY12 := hid (k12.owns OY11.out (fun g hg hm => hyU2.out g hg hm))
    have hU12b := hid (show ∀ x ∈ U12, w.heap.size ≤ x ∧ (x ∈ U10 ∨ w10.heap.size < x) from fun x hx => by
      rcases hU12 x hx with h | h
      · exact ⟨(hU10b.out x h).1, Or.inl h⟩
      · have := K10.out.size; simp at h; exact ⟨by omega, Or.inr (by omega)⟩)
    have OB12 := hid ob12
    have hz10 := hid K10.out.size
    have hz910 := hid (show ∀ g, (Value.slice ya nb yc).ownBlock = some g → g < w10.heap.size from fun g hg => (OY10.out.lt g hg).2)
    have hyU3 := hid (show ∀ g, (Value.slice ya nb yc).ownBlock = some g → g ∉ U12 from fun g hg hm => by
      rcases (hU12b.out g hm).2 with h | h
      · exact hyU2.out g hg h
      · have := hz910.out g hg; omega)
    clear k12 hU12 ob12 hput3
    by_cases hle : nc ≤ nb
    · have hput4 := hid (put_plain w12 U12 p 68 [] q [⟨[120], v5, bs⟩, ⟨[121], v10, cs⟩] 5 [120] (by decide) OB12.out (by decide) a1 c1 cs nc HNC.out (fun W k => hsc.out W (K12.out.trans' k e1.out)) (by have := HNB.out; have := HNC.out; simp [sizeE]; omega) 0
        (putErr_ok rfl (by decide) (by rw [← HNC.out]; omega) (by rw [hq'.out]; simp [sizeE, lookB, findE, ← HNB.out, ← HNC.out]; omega) (Or.inl rfl)))
      go_wp2_with fail
      refine hput4.out.mono ?_
      rintro e w13 ⟨v13, U13, rfl, k13, hU13, ob13⟩
      have ob13 : Ob w13 U13 p 68 [] q [⟨[120], v13, cs⟩, ⟨[121], v10, cs⟩] (.pointer none) [] 6 := ob13
      have K13 := hid (K12.out.trans' k13 (fun x hx hm => by have := (hU12b.out x hm).1; omega))
      have OY13 := k13.owns OY12.out (fun g hg hm => hyU3.out g hg hm)
      have hsame2 := hid (show Calls Try.prog 31 #[.slice ya nb yc, .slice a0 nb c0] w13 fun e w' => e = .returned (.bool true) ∧ w13 = w' from by
        have h := same_src ya a0 yc c0 bs w13 (by have := src_own OY13; unfold SrcB; rw [← HNB.out]; exact this) (by have := hsb.out w13 K13.out; unfold SrcB; rw [← HNB.out]; exact this)
        rw [← HNB.out] at h
        exact h)
      have hsize := hid (show Calls Try.prog 22 #[.pointer (some ⟨p, 0, none⟩)] w13 fun e w' => e = .returned (.int .i64 ((nc : Int) + (nc : Int))) ∧ w13 = w' from by
        have h := ob_size w13 U13 p 68 [] q _ (.pointer none) [] 6 ob13
        simp [sizeE, ← HNC.out] at h; exact h)
      clear k13 hU13 ob13 OY13 hput4
      go_wp2_with fail
      refine hsame2.out.mono ?_
      rintro e w14 ⟨rfl, rfl⟩
      go_wp2_with fail
      refine hsize.out.mono ?_
      rintro e w14 ⟨rfl, rfl⟩
      go_wp2
      go_ret
      exact ⟨rfl, K13.out⟩
    · have hput4 := hid (put_plain w12 U12 p 68 [] q [⟨[120], v5, bs⟩, ⟨[121], v10, cs⟩] 5 [120] (by decide) OB12.out (by decide) a1 c1 cs nc HNC.out (fun W k => hsc.out W (K12.out.trans' k e1.out)) (by have := HNB.out; have := HNC.out; simp [sizeE]; omega) 31
        (putErr_room rfl (by decide) (by rw [← HNC.out]; omega) (by rw [hq'.out]; simp [sizeE, lookB, findE, ← HNB.out, ← HNC.out]; omega)))
      go_wp2_with fail
      refine hput4.out.mono ?_
      rintro e w13 ⟨v13, U13, rfl, k13, hU13, ob13⟩
      have ob13 : Ob w13 U13 p 68 [] q [⟨[120], v5, bs⟩, ⟨[121], v10, cs⟩] (.pointer none) [] 6 := ob13
      have K13 := hid (K12.out.trans' k13 (fun x hx hm => by have := (hU12b.out x hm).1; omega))
      have OY13 := k13.owns OY12.out (fun g hg hm => hyU3.out g hg hm)
      have hsame2 := hid (show Calls Try.prog 31 #[.slice ya nb yc, .slice a0 nb c0] w13 fun e w' => e = .returned (.bool true) ∧ w13 = w' from by
        have h := same_src ya a0 yc c0 bs w13 (by have := src_own OY13; unfold SrcB; rw [← HNB.out]; exact this) (by have := hsb.out w13 K13.out; unfold SrcB; rw [← HNB.out]; exact this)
        rw [← HNB.out] at h
        exact h)
      have hsize := hid (show Calls Try.prog 22 #[.pointer (some ⟨p, 0, none⟩)] w13 fun e w' => e = .returned (.int .i64 ((nb : Int) + (nc : Int))) ∧ w13 = w' from by
        have h := ob_size w13 U13 p 68 [] q _ (.pointer none) [] 6 ob13
        simp [sizeE, ← HNC.out, ← HNB.out] at h; exact h)
      clear k13 hU13 ob13 OY13 hput4
      go_wp2_with fail
      refine hsame2.out.mono ?_
      rintro e w14 ⟨rfl, rfl⟩
      go_wp2_with fail
      refine hsize.out.mono ?_
      rintro e w14 ⟨rfl, rfl⟩
      go_wp2
      go_ret
      exact ⟨rfl, K13.out⟩
  · by_cases h1 : nb ≤ 200
    · have h2 : ¬ nc ≤ 200 := fun h => hsm ⟨h1, h⟩
      go_enter Try.func7, Try.ntmps7
      go_wp2_with fail
      refine hal.out.mono ?_
      rintro e w1 ⟨rfl, k1⟩
      go_wp2
      go_ret
      exact ⟨rfl, k1⟩
    · go_enter Try.func7, Try.ntmps7
      go_wp2_with fail
      refine hal.out.mono ?_
      rintro e w1 ⟨rfl, k1⟩
      go_wp2
      go_ret
      exact ⟨rfl, k1⟩
end Go.Proofs.Ytnegpggikllopaa
