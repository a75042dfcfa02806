
/- ColdAgain. -/
import Derived.Test.YtnkolgamnakegaaY9
import Derived.Test.YtnkolgamnakegaaC8
import Derived.Lib.SliceRun
namespace Go.Proofs.Ytnkolgamnakegaa
open Go.RowKit Go.Lib Go.Maps

theorem src_of_args_c {w : World} {a : Option Addr} {len cap : Nat} {zs : List Int} (h : (a = none ∧ len = 0 ∧ cap = 0 ∧ zs = []) ∨
    ∃ x, a = some x ∧ len ≤ cap ∧ cap ≤ maxLen ∧ zs.length = cap ∧ (∀ i, i < zs.length → w.cell? (x.add i) = some (.int .u8 (zs.getD i 0))) ∧ ∀ n ∈ zs, (Lit.int .u8 n).wf = true) :
    ∃ ys : List UInt8, len = ys.length ∧ SrcB w (.slice a len cap) ys ∧ len ≤ 9223372036854775807 := by
  rcases h with ⟨rfl, rfl, rfl, rfl⟩ | ⟨x, rfl, hl, hm, hz, hc, hw⟩
  · exact ⟨[], rfl, Or.inl ⟨rfl, rfl, rfl⟩, by decide⟩
  · refine ⟨(zs.take len).map fun z => UInt8.ofNat z.toNat, by simp; omega, ?_, by unfold maxLen at hm; omega⟩
    refine Or.inr ⟨x, cap, by simp; omega, fun j u hj => ?_⟩
    rw [List.map_map, List.getElem?_map, List.getElem?_take] at hj
    split at hj
    · rename_i hjl
      have hjz : j < zs.length := by omega
      rw [List.getElem?_eq_getElem hjz] at hj
      simp at hj
      have hb := bounds_u8 (hw _ (List.getElem_mem hjz))
      rw [hc j hjz, ← hj]
      have e : zs.getD j 0 = zs[j] := by simp [hjz]
      rw [e]
      unfold B
      simp
      omega
    · simp at hj
theorem putErr_ok_c {fl : List Bool} {nm : List UInt8} {n m : Nat} {q z : Int} {th : Bool} (h0 : opE fl = 0) (h1 : okName nm = true) (h2 : n ≤ 1048576) (h3 : z ≤ q) (h4 : th = true ∨ m ≠ 4096) : putErr fl nm n q z th m = 0 := by
  have e0 : putAsk fl nm n q z th m 0 = 0 := h0
  have e1 : putAsk fl nm n q z th m 1 = 0 := by show (if (!okName nm) then 37 else 0) = _; rw [h1]; rfl
  have e2 : putAsk fl nm n q z th m 2 = 0 := by show (if decide ((1048576 : Int) < (n : Int)) then 2 else 0) = _; rw [if_neg]; simp; omega
  have e3 : putAsk fl nm n q z th m 3 = 0 := by show (if decide (q < z) then 31 else 0) = _; rw [if_neg]; simp; omega
  have e4 : putAsk fl nm n q z th m 4 = 0 := by
    show (if (!th && decide (m = 4096)) then 3 else 0) = _
    rw [if_neg]
    rcases h4 with h | h <;> simp [h]
  simp [putErr, firstFrom, e0, e1, e2, e3, e4]
theorem state_one (s : Sy) (now life : Int) : stateT [stE [120] s] [120] now life = stT s (momT now) life := rfl
theorem left_one (s : Sy) (now least : Int) : leftT [stE [120] s] [120] now least = max (latT s.since least - momT now) 0 := rfl
theorem pend_one (s : Sy) (now life : Int) : pendT [stE [120] s] now life = if stT s (momT now) life = 1 then 1 else 0 := by
  have e : isPend [stE [120] s] now life [120] = decide (stT s (momT now) life = 1) := rfl
  show (List.filter (isPend [stE [120] s] now life) [[120]]).length = _
  rw [List.filter_cons, e]
  by_cases h : stT s (momT now) life = 1 <;> simp [h]
theorem mom_id {t : Int} (h1 : 0 ≤ t) (h2 : t ≤ 1125899906842624) : momT t = t := by unfold momT; omega
theorem lat_add {t l : Int} (h1 : 0 ≤ t) (h2 : t ≤ 100000) (h3 : 0 ≤ l) (h4 : l ≤ 100000) : latT t l = t + l := by
  unfold latT
  rw [mom_id h1 (by omega), mom_id h3 (by omega), mom_id (by omega) (by omega)]
theorem build_true (W : World) : (Instr.buildSlice 22 1 #[(0, .bool true)]).run Try.prog W = .ok (.slice (some ⟨W.heap.size, 0, none⟩) 1 1) (W.alloc (.cells #[.bool true] 4)) := by kernel_rfl
set_option maxRecDepth 100000 in
set_option maxHeartbeats 4000000 in
theorem cold_again (a0 a1 : Option Addr) (c0 c1 : Nat) (bs cs : List UInt8) (l0 t0 : Int) (w : World) (hb : SrcB w (.slice a0 bs.length c0) bs) (hc : SrcB w (.slice a1 cs.length c1) cs) (hbl : bs.length ≤ 9223372036854775807) (hcl : cs.length ≤ 9223372036854775807) :
    Calls Try.prog 6 #[.slice a0 bs.length c0, .slice a1 cs.length c1, .int .i64 l0, .int .i64 t0] w fun e w' => e = .returned (.bool true) ∧ Kept [] w w' := by
  have hal := hid (alive07 w)
  obtain ⟨nb, hnb⟩ : ∃ nb, nb = bs.length := ⟨_, rfl⟩
  obtain ⟨nc, hnc⟩ : ∃ nc, nc = cs.length := ⟨_, rfl⟩
  have HB := hid hb; have HC := hid hc; have HNB := hid hnb; have HNC := hid hnc
  rw [← hnb] at HB ⊢
  rw [← hnc] at HC ⊢
  rw [← hnb] at hbl
  rw [← hnc] at hcl
  have hand1 := i64_and255 l0
  have hand2 := i64_and255 t0
  have hL1 : 0 ≤ l0 % 256 ∧ l0 % 256 ≤ 255 := by omega
  have hA1 : 0 ≤ t0 % 256 ∧ t0 % 256 ≤ 255 := by omega
  obtain ⟨L, hL⟩ : ∃ L, L = l0 % 256 := ⟨_, rfl⟩
  obtain ⟨A, hA⟩ : ∃ A, A = t0 % 256 := ⟨_, rfl⟩
  rw [← hL] at hand1 hL1
  rw [← hA] at hand2 hA1
  obtain ⟨L1, L2⟩ := hL1
  obtain ⟨A1, A2⟩ := hA1
  clear hb hc hnb hnc hL hA
  by_cases hs1 : nb ≤ 100
  · by_cases hs2 : nc ≤ 100
    · have hsb := hid (show ∀ W, Kept [] w W → Src W (.slice a0 nb c0) nb (bs.map B) from fun W hk => by
        have := SrcB.kept (S := []) (by have := HB.out; unfold SrcB at this ⊢; exact this) hk (by simp)
        unfold SrcB at this; rw [← HNB.out] at this; exact this)
      have hsc := hid (show ∀ W, Kept [] w W → Src W (.slice a1 nc c1) nc (cs.map B) from fun W hk => by
        have := SrcB.kept (S := []) (by have := HC.out; unfold SrcB at this ⊢; exact this) hk (by simp)
        unfold SrcB at this; rw [← HNC.out] at this; exact this)
      clear HB HC hbl hcl
      go_enter Try.func6, Try.ntmps6
      go_wp2_with fail
      refine hal.out.mono ?_
      rintro e w1 ⟨rfl, k1⟩
      have K1 := hid k1
      have hnew := hid (cw_new 1000 2 50 L w1 (by decide) (by decide) (by decide) (by decide) (by decide) (by decide) (by omega) (by omega))
      clear hal k1
      go_wp2_with fail
      refine hnew.out.mono ?_
      rintro e w2 ⟨p, rfl, c2⟩
      have C2 := hid c2
      have hput := hid (cw_put c2 (by decide) [120] (by decide) a0 nb c0 bs HNB.out (fun W hk => hsb.out W ((K1.out.trans c2.kept).trans' hk (fun x hx hm => by simp at hm; have := (c2.low p (by simp)).1; have := K1.out.size; omega))) (by have := HNB.out; simp [sizeE]; omega) 0 (by decide) (by decide) 0
        (putErr_ok_c rfl (by decide) (by have := HNB.out; omega) (by have := HNB.out; simp [sizeE, lookB, findE]; omega) (Or.inr (by simp))))
      clear hnew c2
      go_wp2_with fail
      refine hput.out.mono ?_
      rintro e w3 ⟨v1, Z3, rfl, -, -, c3⟩
      have C3 := hid (show Cw w1 w3 Z3 p 1000 [⟨[120], v1, bs⟩] [stE [120] ⟨0, false, 0⟩] [] 1 2 50 L 0 from c3)
      clear c3 hput C2
      have hr1 := hid (cw_request C3.out (by decide) [120] (by decide) 0 0 (by decide) (by decide) (by decide) (by decide))
      go_wp2_with fail
      refine hr1.out.mono ?_
      rintro e w4 ⟨er4, ss4, rfl, rc4, -, c4⟩
      obtain ⟨rfl, rfl⟩ : er4 = 0 ∧ ss4 = [stE [120] ⟨0, true, 0⟩] := by
        rcases rc4 with ⟨g, _⟩ | ⟨_, g, _⟩ | ⟨_, _, g, _⟩ | ⟨_, _, _, g, _⟩ | ⟨_, _, _, _, g1, g2⟩
        · exact absurd (show gotE [] [⟨[120], v1, bs⟩] [120] = 0 from rfl) g
        · exact absurd (show stateT [stE [120] ⟨0, false, 0⟩] [120] 0 50 = 0 by decide) g
        · exact absurd g (by decide)
        · exact absurd g (by decide)
        · exact ⟨g1, g2⟩
      have C4 := hid (show Cw w1 w4 Z3 p 1000 [⟨[120], v1, bs⟩] [stE [120] ⟨0, true, 0⟩] [] 2 2 50 L 0 from c4)
      clear c4 rc4 hr1 C3
      have hs1 := hid (cw_state C4.out [120] (by decide) 0 (by decide) (by decide))
      go_wp2_with fail
      refine hs1.out.mono ?_
      rintro e w5 ⟨he, k5⟩
      have he' : e = .returned (.int .i64 2) := he
      subst he'
      have C5 := hid (C4.out.keep k5 (by simp))
      clear hs1 k5 he C4
      have hput := hid (cw_put C5.out (by decide) [120] (by decide) a1 nc c1 cs HNC.out (fun W hk => hsc.out W ((K1.out.trans C5.out.kept).trans' hk (fun x hx hm => by simp at hm; subst hm; have := (C5.out.low _ C5.out.mem).1; have := K1.out.size; omega))) (by have := HNB.out; have := HNC.out; simp [sizeE]; omega) A (by omega) (by omega) 0
        (putErr_ok_c rfl (by decide) (by have := HNC.out; omega) (by have := HNC.out; simp [sizeE, lookB, findE]; omega) (Or.inl rfl)))
      go_wp2_with fail
      refine hput.out.mono ?_
      rintro e w6 ⟨v2, Z6, rfl, -, -, c6⟩
      have hlo : ifOK (0 : Int) (addT 0 (leftT [stE [120] ⟨0, true, 0⟩] [120] A L)) 0 = max (L - A) 0 := by
        show addT 0 (leftT [stE [120] ⟨0, true, 0⟩] [120] A L) = _
        rw [left_one]
        show addT 0 (max (latT 0 L - momT A) 0) = _
        rw [lat_add (by omega) (by omega) L1 (by omega), mom_id A1 (by omega)]
        unfold addT
        omega
      rw [hlo] at c6
      have C6 := hid (show Cw w1 w6 Z6 p 1000 [⟨[120], v2, cs⟩] [stE [120] ⟨A, false, 0⟩] [] 3 2 50 L (max (L - A) 0) from by
        have h := c6
        rw [mom_id A1 (by omega)] at h
        exact h)
      clear c6 hput C5 hlo
      have hs1 := hid (cw_state C6.out [120] (by decide) A (by omega) (by omega))
      go_wp2_with fail
      refine hs1.out.mono ?_
      rintro e w7 ⟨he, k7⟩
      have he' : e = .returned (.int .i64 0) := he
      subst he'
      have C7 := hid (C6.out.keep k7 (by simp))
      clear hs1 k7 he C6
      have hl1 := hid (cw_left C7.out [120] (by decide) A (by omega) (by omega))
      rw [left_one, lat_add A1 (by omega) L1 (by omega), mom_id A1 (by omega), show max (A + L - A) 0 = L by omega] at hl1
      go_wp2_with fail
      refine hl1.out.mono ?_
      rintro e w8 ⟨rfl, k8⟩
      have C8 := hid (C7.out.keep k8 (by simp))
      clear hl1 k8 C7
      have hlo := hid (cw_lost C8.out)
      have hmx : IntKind.i64.wrap (L - A) = L - A := by rw [IntKind.wrap_i64]; omega
      go_wp2_with fail
      refine hlo.out.mono ?_
      rintro e w9 ⟨rfl, rfl⟩
      clear hlo
      have hle := hid (cw_len C8.out)
      go_wp2_with fail
      refine hle.out.mono ?_
      rintro e w9 ⟨he, rfl⟩
      have he' : e = .returned (.int .i64 1) := he
      subst he'
      clear hle he
      have hsz := hid (cw_size C8.out)
      rw [show sizeE [(⟨[120], v2, cs⟩ : Ent)] = nc from by simp [sizeE, HNC.out]] at hsz
      go_wp2_with fail
      refine hsz.out.mono ?_
      rintro e w9 ⟨rfl, rfl⟩
      clear hsz hmx
      have ka := hid (show Kept [] w8 (w8.alloc (.cells #[.bool true] 4)) from (Kept.refl [] w8).alloc _)
      have har := hid (cw_arm (C8.out.keep ka.out (by simp)) (.slice (some ⟨w8.heap.size, 0, none⟩) 1 1) [true] (Or.inr ⟨w8.heap.size, 0, 1, rfl, fun hm => by have := (C8.out.low _ hm).2; omega, fun j u hj => by
        rw [cell_of_row _ _ _ _ _ _ (show (w8.alloc (.cells #[.bool true] 4)).heap[w8.heap.size]? = some (.cells #[.bool true] 4 (0, 0)) from heap_alloc_at rfl)]
        simpa using hj⟩) (by decide))
      go_wp2_with fail
      refine har.out.mono ?_
      rintro e w9 ⟨Z9, rfl, -, -, c9⟩
      have C9 := hid c9
      clear har ka c9 C8
      have hr1 := hid (cw_request C9.out (by decide) [120] (by decide) A 3 (by omega) (by omega) (by decide) (by decide))
      go_wp2_with fail
      refine hr1.out.mono ?_
      rintro e w10 ⟨er10, ss10, rfl, rc10, -, c10⟩
      obtain ⟨rfl, rfl⟩ : er10 = 30 ∧ ss10 = [stE [120] ⟨A, false, 0⟩] := by
        have hg : gotE [true] [⟨[120], v2, cs⟩] [120] = 30 := rfl
        rcases rc10 with ⟨_, g1, g2⟩ | ⟨g, _⟩ | ⟨g, _⟩ | ⟨g, _⟩ | ⟨g, _⟩
        · exact ⟨g1, g2⟩
        · rw [hg] at g; exact absurd g (by decide)
        · rw [hg] at g; exact absurd g (by decide)
        · rw [hg] at g; exact absurd g (by decide)
        · rw [hg] at g; exact absurd g (by decide)
      have C10 := hid (show Cw w1 w10 Z9 p 1000 [⟨[120], v2, cs⟩] [stE [120] ⟨A, false, 0⟩] [] 4 2 50 L (max (L - A) 0) from c10)
      clear c10 rc10 hr1 C9
      have hp1 := hid (cw_pending C10.out A (by omega) (by omega))
      rw [show pendT [stE [120] ⟨A, false, 0⟩] A 50 = 0 from by rw [pend_one]; rfl] at hp1
      go_wp2_with fail
      refine hp1.out.mono ?_
      rintro e w11 ⟨rfl, k11⟩
      have C11 := hid (C10.out.keep k11 (by simp))
      clear hp1 k11 C10
      have hr1 := hid (cw_request C11.out (by decide) [120] (by decide) A 3 (by omega) (by omega) (by decide) (by decide))
      go_wp2_with fail
      refine hr1.out.mono ?_
      rintro e w12 ⟨er12, ss12, rfl, rc12, -, c12⟩
      obtain ⟨rfl, rfl⟩ : er12 = 0 ∧ ss12 = [stE [120] ⟨A, true, A + 3⟩] := by
        rcases rc12 with ⟨g, _⟩ | ⟨_, g, _⟩ | ⟨_, _, g, _⟩ | ⟨_, _, _, g, _⟩ | ⟨_, _, _, _, g1, g2⟩
        · exact absurd (show gotE [] [⟨[120], v2, cs⟩] [120] = 0 from rfl) g
        · exact absurd (show stateT [stE [120] ⟨A, false, 0⟩] [120] A 50 = 0 from rfl) g
        · exact absurd g (by decide)
        · rw [show pendT [stE [120] ⟨A, false, 0⟩] A 50 = 0 from by rw [pend_one]; rfl] at g
          exact absurd g (by decide)
        · refine ⟨g1, g2.trans ?_⟩
          show [stE [120] ⟨A, true, latT A 3⟩] = _
          rw [lat_add A1 (by omega) (by decide) (by decide)]
      have C12 := hid (show Cw w1 w12 Z9 p 1000 [⟨[120], v2, cs⟩] [stE [120] ⟨A, true, A + 3⟩] [] 5 2 50 L (max (L - A) 0) from c12)
      clear c12 rc12 hr1 C11
      have hg1 := hid (cw_get C12.out (by decide) [120] (by decide) (A + 3) (by omega) (by omega))
      have hw3 : IntKind.i64.wrap (A + 3) = A + 3 := by rw [IntKind.wrap_i64]; omega
      go_wp2_with fail
      refine hg1.out.mono ?_
      rintro e w13 ⟨a13, n13, d13, er13, bs13, rfl, hn13, -, c13, ns13, gc13⟩
      obtain ⟨rfl, rfl⟩ : er13 = 0 ∧ bs13 = cs := by
        rcases gc13 with ⟨g, _⟩ | ⟨_, g, _⟩ | ⟨_, _, g1, g2⟩
        · exact absurd (show gotE [] [⟨[120], v2, cs⟩] [120] = 0 from rfl) g
        · refine absurd ?_ g
          rw [state_one, mom_id (by omega) (by omega)]
          unfold stT
          rw [if_neg (by simp), if_neg (by simp), lat_add (by show 0 ≤ A + 3; omega) (by show A + 3 ≤ _; omega) (by decide) (by decide), if_pos (by show A + 3 < A + 3 + 50; omega)]
        · exact ⟨g1, g2⟩
      have hn13' : n13 = nc := hn13.trans HNC.out.symm
      subst hn13'
      have C13 := hid (show Cw w1 w13 Z9 p 1000 [⟨[120], v2, bs13⟩] [stE [120] ⟨A, true, A + 3⟩] [] 6 2 50 L (max (L - A) 0) from c13)
      have NS13 := hid ns13
      clear c13 gc13 hg1 C12 hn13 ns13 hw3
      have hp1 := hid (cw_pending C13.out A (by omega) (by omega))
      rw [show pendT [stE [120] ⟨A, true, A + 3⟩] A 50 = 1 from by
        rw [pend_one, mom_id A1 (by omega), if_pos]
        unfold stT
        rw [if_neg (by simp), if_pos (by show A < A + 3; omega)]] at hp1
      go_wp2_with fail
      refine hp1.out.mono ?_
      rintro e w14 ⟨rfl, k14⟩
      have C14 := hid (C13.out.keep k14 (by simp))
      have NS14 := hid (NS13.out.later k14)
      clear hp1 k14 C13 NS13
      have hsame := hid (show Calls Try.prog 33 #[.slice a13 n13 d13, .slice a1 n13 c1] w14 fun e w' => e = .returned (.bool true) ∧ w14 = w' from by
        have h := same_src a13 a1 d13 c1 bs13 w14 (by have := NS14.out.src; unfold SrcB; rw [← HNC.out]; exact this) (by have := hsc.out w14 (K1.out.trans C14.out.kept); unfold SrcB; rw [← HNC.out]; exact this)
        rw [← HNC.out] at h
        exact h)
      go_wp2_with fail
      refine hsame.out.mono ?_
      rintro e w15 ⟨rfl, rfl⟩
      have hfin := hid (K1.out.trans C14.out.kept)
      clear hsame NS14 C14
      go_wp2
      go_ret
      exact ⟨rfl, hfin.out⟩
    · clear HB HC
      go_enter Try.func6, Try.ntmps6
      go_wp2_with fail
      refine hal.out.mono ?_
      rintro e w1 ⟨rfl, k1⟩
      have K1 := hid k1
      clear k1 hal
      go_wp2
      go_ret
      exact ⟨rfl, K1.out⟩
  · clear HB HC
    go_enter Try.func6, Try.ntmps6
    go_wp2_with fail
    refine hal.out.mono ?_
    rintro e w1 ⟨rfl, k1⟩
    have K1 := hid k1
    clear k1 hal
    go_wp2
    go_ret
    exact ⟨rfl, K1.out⟩
end Go.Proofs.Ytnkolgamnakegaa
