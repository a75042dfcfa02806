
/- coldstorelaw07.alive. -/
import Derived.Test.YtnkolgamnakegaaY8
namespace Go.Proofs.Ytnkolgamnakegaa
open Go.RowKit Go.Lib Go.Maps

theorem conv_mark_c (W : World) (g n c : Nat) (C : Array Value) (fr : Nat × Nat) (hg : W.heap[g]? = some (.cells C 5 fr)) :
    ∃ W' fr', (convert 36 36 (.slice (some ⟨g, 0, none⟩) n c)).run Try.prog W = .ok (.slice (some ⟨g, 0, none⟩) n c) W' ∧ Kept [g] W W' ∧ W'.heap[g]? = some (.cells C 5 fr') := by
  have hsh : W.shape? g = some (5, C.size) := by unfold World.shape?; rw [hg]
  obtain ⟨lo, hi⟩ := fr
  refine ⟨W.freeze ⟨g, C.size, none⟩ 1, if lo == hi then (C.size, C.size + 1) else (min lo C.size, max hi (C.size + 1)), ?_, ?_, ?_⟩
  · simp [convert, run_underlying Try.underlying36, run_underlying Try.underlying5, markStringish, hsh]
  · refine ⟨rfl, rfl, rfl, ?_, fun k hk hm => ?_⟩
    · simp [World.freeze]
    · simp at hm
      simp [World.freeze, Array.getElem?_modify, Ne.symm hm]
  · simp [World.freeze, Array.getElem?_modify, hg]
theorem bytes_back_c (w : World) (a : Option Addr) (n c : Nat) (l : List UInt8) (hn : n = l.length) (hl : l ≠ []) (h : Src w (.slice a n c) n (l.map B)) : (convert 36 9 (.slice a n c)).run Try.prog w = .ok (.string ⟨l.toArray⟩) w := by
  subst hn
  rcases h with ⟨h1, h2, _⟩ | ⟨ad, c', h1, hc⟩
  · exact absurd (List.eq_nil_of_length_eq_zero h2) hl
  · simp at h1
    obtain ⟨rfl, rfl⟩ := h1
    refine run_convert_bytes_back w _ _ 5 ad c l Try.underlying36 Try.underlying5 Try.underlying9 (fun j hj => ?_)
    exact hc j (.int .u8 (l[j].toNat : Int)) (by simp [hj, B])
theorem NewS.src {w w' : World} {v : Value} {n : Nat} {xs : List Value} (h : NewS w w' v n xs) : Src w' v n xs := by
  obtain ⟨U, _, h2⟩ := h
  exact h2.src
/-- A new slice outlasts what is turned elsewhere. -/
theorem NewS.past {w w1 w2 : World} {v : Value} {n : Nat} {xs : List Value} {X : List Nat} (h : NewS w w1 v n xs) (hk : Kept X w1 w2) (hX : ∀ x ∈ X, x < w.heap.size) : NewS w w2 v n xs := by
  obtain ⟨U, h1, h2⟩ := h
  exact ⟨U, fun x hx => ⟨(h1 x hx).1, Nat.lt_of_lt_of_le (h1 x hx).2 hk.size⟩, h2.kept hk (fun x hx hm => by have := (h1 x hx).1; have := hX x hm; omega)⟩
theorem ask_put (v : Nat) : putC 100 [] [] [120] [97, 98] = 0 := by decide
set_option maxRecDepth 100000 in
set_option maxHeartbeats 4000000 in
theorem alive07 (w : World) : Calls Try.prog 18 #[] w fun e w' => e = .returned (.bool true) ∧ Kept [] w w' := by
  have hnew := hid (cw_new 100 1 5 10 w (by decide) (by decide) (by decide) (by decide) (by decide) (by decide) (by decide) (by decide))
  go_enter Try.func18, Try.ntmps18
  go_wp2_with fail
  refine hnew.out.mono ?_
  rintro e w1 ⟨p, rfl, c1⟩
  have hpl := (c1.low p (by simp)).2
  obtain ⟨W2, fr', hcv, kc, hg2⟩ := conv_mark_c (w1.alloc (.cells #[.int .u8 97, .int .u8 98] 5)) w1.heap.size 2 2 _ _ (heap_alloc_at rfl)
  have k12 := hid (((Kept.refl [w1.heap.size] w1).alloc (.cells #[.int .u8 97, .int .u8 98] 5)).trans kc)
  have C2 := hid (c1.keep k12.out (fun x hx => by simp at hx; subst hx; exact ⟨by simp; omega, c1.kept.size⟩))
  have hsrc := hid (show ∀ W, Kept [p] W2 W → Src W (.slice (some ⟨w1.heap.size, 0, none⟩) 2 2) 2 (([97, 98] : List UInt8).map B) from fun W hk => Or.inr ⟨_, _, rfl, fun j u hj => by
    have hrow := hk.at hg2 (by simp; omega)
    have e : (⟨w1.heap.size, 0, none⟩ : Addr).add j = ⟨w1.heap.size, j, none⟩ := by unfold Addr.add; split <;> simp_all
    rw [e]
    unfold World.cell?
    rw [hrow]
    simpa [B] using hj⟩)
  have hput := hid (cw_put C2.out (by decide) [120] (by decide) (some ⟨w1.heap.size, 0, none⟩) 2 2 [97, 98] rfl hsrc.out (by decide) 0 (by decide) (by decide) 0 (by decide))
  clear hnew c1 kc hg2 hpl
  go_wp2_with fail
  refine hput.out.mono ?_
  rintro e w3 ⟨v', Z3, rfl, -, -, c3⟩
  have C3 := hid (show Cw w w3 Z3 p 100 [⟨[120], v', [97, 98]⟩] [stE [120] ⟨0, false, 0⟩] [] 1 1 5 10 0 from c3)
  clear c3 hput hcv k12 C2 hsrc
  have hg1 := hid (cw_get C3.out (by decide) [120] (by decide) 0 (by decide) (by decide))
  go_wp2_with fail
  refine hg1.out.mono ?_
  rintro e w4 ⟨a4, n4, d4, er4, bs4, rfl, hn4, -, c4, -, gc4⟩
  obtain ⟨rfl, rfl⟩ : er4 = 32 ∧ bs4 = [] := by
    rcases gc4 with ⟨g, _⟩ | ⟨_, _, g1, g2⟩ | ⟨_, g, _⟩
    · exact absurd (show gotE [] [⟨[120], v', [97, 98]⟩] [120] = 0 from rfl) g
    · exact ⟨g1, g2⟩
    · exact absurd g (by decide)
  have C4 := hid (show Cw w w4 Z3 p 100 [⟨[120], v', [97, 98]⟩] [stE [120] ⟨0, false, 0⟩] [] 2 1 5 10 0 from c4)
  clear c4 gc4 hg1 C3 hn4
  have hr1 := hid (cw_request C4.out (by decide) [120] (by decide) 0 3 (by decide) (by decide) (by decide) (by decide))
  go_wp2_with fail
  refine hr1.out.mono ?_
  rintro e w5 ⟨er5, ss5, rfl, rc5, -, c5⟩
  obtain ⟨rfl, rfl⟩ : er5 = 0 ∧ ss5 = [stE [120] ⟨0, true, 3⟩] := by
    rcases rc5 with ⟨g, _⟩ | ⟨_, g, _⟩ | ⟨_, _, g, _⟩ | ⟨_, _, _, g, _⟩ | ⟨_, _, _, _, g1, g2⟩
    · exact absurd (show gotE [] [⟨[120], v', [97, 98]⟩] [120] = 0 from rfl) g
    · exact absurd (show stateT [stE [120] ⟨0, false, 0⟩] [120] 0 5 = 0 by decide) g
    · exact absurd g (by decide)
    · exact absurd g (by decide)
    · exact ⟨g1, g2⟩
  have C5 := hid (show Cw w w5 Z3 p 100 [⟨[120], v', [97, 98]⟩] [stE [120] ⟨0, true, 3⟩] [] 3 1 5 10 0 from c5)
  clear c5 rc5 hr1 C4
  have hs1 := hid (cw_state C5.out [120] (by decide) 2 (by decide) (by decide))
  go_wp2_with fail
  refine hs1.out.mono ?_
  rintro e w6 ⟨he, k6⟩
  have he' : e = .returned (.int .i64 1) := he
  subst he'
  have C6 := hid (C5.out.keep k6 (by simp))
  clear hs1 k6 he C5
  have hg1 := hid (cw_get C6.out (by decide) [120] (by decide) 3 (by decide) (by decide))
  go_wp2_with fail
  refine hg1.out.mono ?_
  rintro e w7 ⟨a7, n7, d7, er7, bs7, rfl, hn7, -, c7, ns7, gc7⟩
  obtain ⟨rfl, rfl⟩ : er7 = 0 ∧ bs7 = [97, 98] := by
    rcases gc7 with ⟨g, _⟩ | ⟨_, g, _⟩ | ⟨_, _, g1, g2⟩
    · exact absurd (show gotE [] [⟨[120], v', [97, 98]⟩] [120] = 0 from rfl) g
    · exact absurd (show stateT [stE [120] ⟨0, true, 3⟩] [120] 3 5 = 2 by decide) g
    · exact ⟨g1, g2⟩
  have C7 := hid (show Cw w w7 Z3 p 100 [⟨[120], v', [97, 98]⟩] [stE [120] ⟨0, true, 3⟩] [] 4 1 5 10 0 from c7)
  have NS7 := hid ns7
  have L6 := hid (fun x hx => (C6.out.low x hx).2)
  have hn7' : n7 = 2 := hn7
  subst hn7'
  clear c7 gc7 hg1 C6 hn7 ns7
  have hg1 := hid (cw_get C7.out (by decide) [120] (by decide) 8 (by decide) (by decide))
  go_wp2_with fail
  refine hg1.out.mono ?_
  rintro e w8 ⟨a8, n8, d8, er8, bs8, rfl, hn8, k8, c8, -, gc8⟩
  obtain ⟨rfl, rfl⟩ : er8 = 32 ∧ bs8 = [] := by
    rcases gc8 with ⟨g, _⟩ | ⟨_, _, g1, g2⟩ | ⟨_, g, _⟩
    · exact absurd (show gotE [] [⟨[120], v', [97, 98]⟩] [120] = 0 from rfl) g
    · exact ⟨g1, g2⟩
    · exact absurd g (by decide)
  have C8 := hid (show Cw w w8 Z3 p 100 [⟨[120], v', [97, 98]⟩] [stE [120] ⟨0, true, 3⟩] [] 5 1 5 10 0 from c8)
  have NS8 := hid (NS7.out.past k8 L6.out)
  clear c8 gc8 hg1 C7 hn8 k8 NS7
  have hd1 := hid (cw_drop C8.out (by decide) [120] (by decide) 9 (by decide) (by decide) false 40 (by
    unfold dropC
    rw [if_pos ⟨rfl, by decide⟩, if_pos (show gotE [] [⟨[120], v', [97, 98]⟩] [120] = 0 from rfl)]))
  go_wp2_with fail
  refine hd1.out.mono ?_
  rintro e w9 ⟨rfl, k9, c9⟩
  have C9 := hid (show Cw w w9 Z3 p 100 [⟨[120], v', [97, 98]⟩] [stE [120] ⟨0, true, 3⟩] [] 6 1 5 10 0 from c9)
  have NS9 := hid (NS8.out.past k9 L6.out)
  clear c9 hd1 C8 k9 NS8
  have hd1 := hid (cw_drop C9.out (by decide) [120] (by decide) 9 (by decide) (by decide) true 0 (by
    unfold dropC
    rw [if_neg (by simp)]
    rfl))
  go_wp2_with fail
  refine hd1.out.mono ?_
  rintro e w10 ⟨rfl, k10, c10⟩
  have hel : ifOK 0 (delE [120] [⟨[120], v', [97, 98]⟩]) [⟨[120], v', [97, 98]⟩] = [] := by simp [ifOK, delE]
  have hsl : ifOK 0 (delE [120] [stE [120] ⟨0, true, 3⟩]) [stE [120] ⟨0, true, 3⟩] = [] := by simp [ifOK, delE, stE]
  have hlo : ifOK (0 : Int) (addT 0 (leftT [stE [120] ⟨0, true, 3⟩] [120] 9 10)) 0 = 1 := by decide
  rw [hel, hsl, hlo] at c10
  have C10 := hid (show Cw w w10 Z3 p 100 [] [] [] 7 1 5 10 1 from c10)
  have NS10 := hid (NS9.out.past k10 L6.out)
  clear c10 hd1 C9 k10 NS9 hel hsl hlo
  have hnb := hid (co_new_bad 1 0 1 1 w10 (by decide) (by decide) (by decide))
  go_wp2_with fail
  refine hnb.out.mono ?_
  rintro e w11 ⟨rfl, k11⟩
  have C11 := hid (C10.out.keep k11 (by simp))
  have NS11 := hid (NS10.out.past k11 (by simp))
  clear C10 NS10 hnb k11
  have hp1 := hid (cw_pending C11.out 0 (by decide) (by decide))
  go_wp2_with fail
  refine hp1.out.mono ?_
  rintro e w12 ⟨he, k12⟩
  have he' : e = .returned (.int .i64 0) := he
  subst he'
  have C12 := hid (C11.out.keep k12 (by simp))
  have NS12 := hid (NS11.out.past k12 (by simp))
  clear C11 NS11 hp1 k12 he
  have hcv := bytes_back_c w12 a7 2 d7 [97, 98] rfl (by simp) NS12.out.src
  have hl1 := hid (cw_lost C12.out)
  go_wp2_with fail
  refine hl1.out.mono ?_
  rintro e w13 ⟨rfl, rfl⟩
  clear hcv NS12 hl1
  have hl1 := hid (cw_len C12.out)
  go_wp2_with fail
  refine hl1.out.mono ?_
  rintro e w13 ⟨he, rfl⟩
  have he' : e = .returned (.int .i64 0) := he
  subst he'
  clear hl1 he
  have hl1 := hid (cw_size C12.out)
  go_wp2_with fail
  refine hl1.out.mono ?_
  rintro e w13 ⟨he, rfl⟩
  have he' : e = .returned (.int .i64 0) := he
  subst he'
  clear hl1 he
  have hs1 := hid (cw_state C12.out [120] (by decide) 0 (by decide) (by decide))
  go_wp2_with fail
  refine hs1.out.mono ?_
  rintro e w13 ⟨he, k13⟩
  have he' : e = .returned (.int .i64 (-1)) := he
  subst he'
  have C13 := hid (C12.out.keep k13 (by simp))
  clear hs1 k13 he C12
  have hf1 := hid (cw_fail C13.out [120] (by decide) 0 (by decide) (by decide))
  go_wp2_with fail
  refine hf1.out.mono ?_
  rintro e w14 ⟨he, k14, c14⟩
  have he' : e = .returned (.bool false) := he
  subst he'
  have C14 := hid (show Cw w w14 Z3 p 100 [] [] [] 7 1 5 10 1 from c14)
  clear hf1 k14 he C13 c14
  have hnm := hid (show Calls Try.prog 49 #[.pointer (some ⟨p, 0, none⟩), .int .i64 9] w14 fun e w' => ∃ a c, e = .returned (.slice a 0 c) ∧ Kept [] w14 w' from by
    obtain ⟨_, ⟨U, V, ⟨⟨mv, ho, _⟩, _⟩, _⟩, _⟩ := C14.out
    exact names_empty w14 U p _ _ _ _ _ _ ho)
  go_wp2_with fail
  refine hnm.out.mono ?_
  rintro e w15 ⟨a15, d15, rfl, k15⟩
  have hfin := hid (C14.out.kept.trans k15)
  clear hnm k15 C14
  go_wp2
  go_ret
  exact ⟨rfl, hfin.out⟩
end Go.Proofs.Ytnkolgamnakegaa
