/- coldstorelaw02.alive. -/
import Derived.Test.YtignphegdigalaaCS
import Derived.Test.YtignphegdigalaaC2t
namespace Go.Proofs.Ytignphegdigalaa
open Go.RowKit Go.Lib

/-- The document's example. -/
def exb : List UInt8 := [2, 1, 2, 0, 0, 0, 97, 98]

theorem enters_alive021 : Enters 34 := fun args w => by simp [go_sem]
theorem enters_alive022 : Enters 37 := fun args w => by simp [go_sem]
theorem enters_alive023 : Enters 38 := fun args w => by simp [go_sem]
theorem enters_alive024 : Enters 40 := fun args w => by simp [go_sem]

theorem alive02_2 (rb : Nat) (a : Option Addr) (c : Nat) (W : World) (h : Rd W rb a c exb) :
    Calls Try.prog 37 #[.pointer (some ⟨rb, 0, none⟩)] W (Threw (ReadOn rb a [] W fun n rest _ => n = 0 ∧ rest ≠ [])) := by
  have hn := hid (rnum_ok rb a c exb 2 (by decide) W h)
  have hr := hid (h.next (m := sz 2) (by decide))
  clear h
  go_enter Try.func37, Try.ntmps37
  go_wp2_with fail
  refine hn.out.mono ?_
  rintro e w1 ⟨rfl, rfl⟩
  go_wp2
  go_end0
  exact Or.inl ⟨rfl, _, _, _, hr.out, next_kept _ _ _ _ _ _, behind_block, rfl, by decide⟩

theorem alive02_3 (rb : Nat) (a : Option Addr) (c : Nat) (W : World) (h : Rd W rb a c exb) :
    Calls Try.prog 38 #[.pointer (some ⟨rb, 0, none⟩)] W (Threw (ReadOn rb a [] W fun n _ _ => n = 20)) := by
  have hn := hid (raw_short rb a c exb 9 (by decide) W h)
  have hr := hid h
  clear h
  go_enter Try.func38, Try.ntmps38
  go_wp2_with fail
  refine hn.out.mono ?_
  rintro e w1 ⟨⟨older, rfl, hcalm⟩, rfl⟩
  exact ⟨rfl, Or.inr ⟨20, ⟨older, rfl, hcalm⟩, a, c, exb, hr.out, Kept.refl _ _, fun x hx => ⟨x, hx, rfl⟩, rfl⟩⟩

theorem alive02_4 (rb : Nat) (a : Option Addr) (c : Nat) (W : World) (h : Rd W rb a c exb) :
    Calls Try.prog 40 #[.pointer (some ⟨rb, 0, none⟩)] W (Threw (ReadOn rb a [] W fun n _ _ => n = 2)) := by
  have hn := hid (rnum_ok rb a c exb 2 (by decide) W h)
  have hr := h.next (m := sz 2) (by decide)
  have hb := hid (rbytes_err 2 rb 1 _ (counted_long rb _ _ _ 1 (by decide) (by decide) _ hr))
  have hr := hid hr
  clear h
  go_enter Try.func40, Try.ntmps40
  go_wp2_with fail
  refine hn.out.mono ?_
  rintro e w1 ⟨rfl, rfl⟩
  go_wp2_with fail
  refine hb.out.mono ?_
  rintro e w1 ⟨⟨older, rfl, hcalm⟩, rfl⟩
  exact ⟨rfl, Or.inr ⟨2, ⟨older, rfl, hcalm⟩, _, _, _, hr.out, next_kept _ _ _ _ _ _, behind_block, rfl⟩⟩

theorem alive02_1 (rb pn ps : Nat) (a : Option Addr) (c : Nat) (W : World) (h : Rd W rb a c exb) (hn : W.heap[pn]? = some (.cells #[.int .u64 0] 32 (0, 0))) (hs : W.heap[ps]? = some (.cells #[.string ⟨#[]⟩] 9 (0, 0)))
    (hpr : pn < rb) (hsr : ps < rb) (hps : pn ≠ ps) (hax : ∀ x, a = some x → x.block ≠ pn ∧ x.block ≠ ps) :
    Calls Try.prog 34 #[.pointer (some ⟨rb, 0, none⟩), .pointer (some ⟨pn, 0, none⟩), .pointer (some ⟨ps, 0, none⟩)] W
      (Threw (ReadOn rb a [pn, ps] W fun n rest W' => n = 0 ∧ rest = [] ∧ W'.heap[pn]? = some (.cells #[.int .u64 258] 32 (0, 0)) ∧ W'.heap[ps]? = some (.cells #[.string ⟨#[97, 98]⟩] 9 (0, 0)))) := by
  have hnum := rnum_ok rb a c exb 2 (by decide) W h
  rw [show numOf (exb.take (sz 2)) = 258 by decide] at hnum
  have hnum := hid hnum
  have hr := h.next (m := sz 2) (by decide)
  have htx := rtext_ok rb _ _ _ 2 (by decide) (by decide) _ hr
  rw [show (((exb.drop (sz 2)).drop 4).take (said (exb.drop (sz 2)))) = [97, 98] by decide] at htx
  have htx := hid htx
  have hr2 := hid (hr.next (m := 4 + said (exb.drop (sz 2))) (by decide))
  have hk1 := next_kept W rb a c exb (sz 2)
  have hk2 := next_kept (nextW W rb a c exb (sz 2)) rb (behind a c (sz 2)) (c - sz 2) (exb.drop (sz 2)) (4 + said (exb.drop (sz 2)))
  have hk := hid (hk1.trans hk2)
  have hpn := hk.out.at hn (by simp; omega)
  have hpss := hk.out.at hs (by simp; omega)
  generalize nextW (nextW W rb a c exb (sz 2)) rb (behind a c (sz 2)) (c - sz 2) (exb.drop (sz 2)) (4 + said (exb.drop (sz 2))) = W2 at *
  have gn := cell_of_one hpn
  have gf := free_of_one hpn
  have hps2 := heap_setCell_other (p := ⟨pn, 0, none⟩) (u := .int .u64 258) hpss (by simpa using hps.symm)
  have gs := cell_of_one hps2
  have gsf := free_of_one hps2
  have hn3 := hid (heap_setCell_other (p := ⟨ps, 0, none⟩) (u := .string ⟨#[97, 98]⟩) (one_setCell (u := .int .u64 258) hpn) (by simpa using hps))
  have hs3 := hid (one_setCell (u := .string ⟨#[97, 98]⟩) hps2)
  have hkS := hid (((Kept.refl [pn, ps] W2).setCell (p := ⟨pn, 0, none⟩) (fun _ => by simp) (.int .u64 258)).setCell (p := ⟨ps, 0, none⟩) (fun _ => by simp) (.string ⟨#[97, 98]⟩))
  have hr3 := hid (hr2.out.kept hkS.out (by simp; omega) (fun x hx => by
    obtain ⟨y, hy, h1⟩ := behind_block x hx
    obtain ⟨z, hz, h2⟩ := behind_block y hy
    have := hax z hz
    simp; omega))
  clear hn hs hpn hpss hps2 hk1 hk2 hpr hsr hps hax h hr
  go_enter Try.func34, Try.ntmps34
  go_wp2_with fail
  refine hnum.out.mono ?_
  rintro e w1 ⟨rfl, rfl⟩
  go_wp2_with fail
  refine htx.out.mono ?_
  rintro e w1 ⟨rfl, rfl⟩
  go_wp2
  go_end0
  exact Or.inl ⟨rfl, _, _, _, hr3.out, (hk.out.wider (T := [rb, pn, ps]) (fun x _ hx => by simp at hx; simp [hx])).trans' hkS.out (fun x _ hx => List.mem_cons_of_mem _ hx), fun x hx => by
    obtain ⟨y, hy, h1⟩ := behind_block x hx
    obtain ⟨z, hz, h2⟩ := behind_block y hy
    exact ⟨z, hz, h1.trans h2⟩, rfl, by decide, hn3.out, hs3.out⟩

theorem alive02 (w : World) : Calls Try.prog 5 #[] w fun e w' => e = .returned (.bool true) ∧ Kept [] w w' := by
  have hmf : ∀ (fn : Fn) (first cap : Array Value) (w : World), (Instr.makeFunc fn first cap).run Try.prog w = .ok (.func fn first cap) w := fun _ _ _ _ => rfl
  have hfr := Wr.fresh w
  have hk0 := hid ((Kept.refl [] w).alloc (.cells #[.slice none 0 0] 60))
  have hw1 := hid (wnum w.heap.size 258 2 (by decide) _ [] _ hfr (by simp))
  go_enter Try.func5, Try.ntmps5
  go_wp2_with fail
  refine hw1.out.mono ?_
  rintro e w1 ⟨rfl, v1, hk1, hwr1, hf1⟩
  have Hk1 := hid (hk0.out.trans' hk1 (fun x hx hm => by simp [Value.ownBlock] at hm; omega))
  have hw2 := hid (wtext w.heap.size v1 ⟨#[97, 98]⟩ _ w1 hwr1 (by decide) (by decide))
  have Hf1 := hid hf1
  have hwr1' := hid hwr1
  clear hk1 hwr1 hf1 hw1 hfr
  go_wp2_with fail
  refine hw2.out.mono ?_
  rintro e w2 ⟨rfl, v2, hk2, hwr2, hf2⟩
  have Hk2 := hid (Hk1.out.trans' hk2 (fun x hx hm => by
    simp at hm
    rcases hm with hm | hm
    · omega
    · have := hwr1'.out.own_ne hm; omega))
  rw [show ([] ++ numB 258 (sz 2) ++ (numB (⟨#[97, 98]⟩ : ByteArray).size 4 ++ (⟨#[97, 98]⟩ : ByteArray).data.toList)) = exb by decide] at hwr2
  have hw3 := hid (wdone w.heap.size v2 exb w2 hwr2 (by decide))
  clear hk2 hwr2 hf2 hw2
  go_wp2_with fail
  refine hw3.out.mono ?_
  rintro e w3 ⟨a, c, rfl, hk3, hown3⟩
  have Hk3 := hid (Hk2.out.trans hk3)
  have hb3 := bys_of_row hown3
  have Hb3 := hid hb3
  have hbk := hid (row_block hown3)
  have hconv := hb3.text
  have hl : exb.length = 8 := rfl
  rw [hl] at hconv ⊢
  clear hk3 hown3 hw3 hb3 hl
  have hex : exb.toArray = #[2, 1, 2, 0, 0, 0, 97, 98] := rfl
  rw [hex] at hconv
  clear hex
  go_wp2_with fail
  obtain ⟨W, hW⟩ : ∃ W, W = ((w3.alloc (.cells #[.int .u64 0] 32)).alloc (.cells #[.string ⟨#[]⟩] 9)) := ⟨_, rfl⟩
  have hkW := hid (show Kept [] w3 W from hW ▸ ((Kept.refl [] w3).alloc _).alloc _)
  have hn := hid (show W.heap[w3.heap.size]? = some (.cells #[.int .u64 0] 32 (0, 0)) from hW ▸ heap_alloc_old (heap_alloc_at rfl))
  have hs := hid (show W.heap[w3.heap.size + 1]? = some (.cells #[.string ⟨#[]⟩] 9 (0, 0)) from hW ▸ heap_alloc_at (by simp))
  have ln := lt_of_block hn.out
  have ls := lt_of_block hs.out
  rw [← hW]
  clear hW hconv
  have hbW := hid (Hb3.out.kept hkW.out (by simp))
  have hd1 := hid (decode_any 34 enters_alive021 #[.pointer (some ⟨w3.heap.size, 0, none⟩), .pointer (some ⟨w3.heap.size + 1, 0, none⟩)] (.slice a 8 c) exb W hbW.out.1 (by decide) [w3.heap.size, w3.heap.size + 1] (fun x hx => by simp at hx; omega)
    (fun n rest W' => n = 0 ∧ rest = [] ∧ W'.heap[w3.heap.size]? = some (.cells #[.int .u64 258] 32 (0, 0)) ∧ W'.heap[w3.heap.size + 1]? = some (.cells #[.string ⟨#[97, 98]⟩] 9 (0, 0)))
    (fun _ _ _ _ h hbl => ⟨h.1, h.2.1, at_below hbl h.2.2.1 ln, at_below hbl h.2.2.2 ls⟩)
    (fun rb a' c' W' hkW' hrb hab hrd => alive02_1 rb w3.heap.size (w3.heap.size + 1) a' c' W' hrd (hkW'.at hn.out (by simp)) (hkW'.at hs.out (by simp)) (by omega) (by omega) (by omega) (fun x hx => by have := hab x hx; omega)))
  refine hd1.out.mono ?_
  rintro e w4 ⟨n4, rest4, rfl, hk4, rfl, rfl, hn4, hs4⟩
  have Hn4 := hid hn4; have Hs4 := hid hs4
  have hbk3 := hid (fun x hx => (hbk.out x hx).2)
  have hb4 := hid (hbW.out.kept hk4 (fun x hx => by have := hbk3.out x hx; simp; omega))
  have Hk4 := hid (show Kept [] w w4 from (Hk3.out.trans hkW.out).trans' hk4 (fun x hx hm => by have := Hk3.out.size; simp at hm; omega))
  rw [show (if (0 : Int) = 0 ∧ ([] : List UInt8) ≠ [] then (22 : Int) else 0) = 0 by simp]
  clear hk4 hn4 hs4 hd1
  go_wp2_with fail
  have hd2 := hid (decode_any 37 enters_alive022 #[] (.slice a 8 c) exb w4 hb4.out.1 (by decide) [] (by simp) (fun n rest _ => n = 0 ∧ rest ≠ []) (fun _ _ _ _ h _ => h) (fun rb a' c' W' _ _ _ hrd => alive02_2 rb a' c' W' hrd))
  refine hd2.out.mono ?_
  rintro e w5 ⟨n5, rest5, rfl, hk5, rfl, hrest5⟩
  rw [if_pos ⟨rfl, hrest5⟩]
  have hb5 := hid (hb4.out.kept hk5 (by simp))
  have Hk5 := hid hk5
  clear hk5 hrest5 hd2
  go_wp2_with fail
  have hd3 := hid (decode_any 38 enters_alive023 #[] (.slice a 8 c) exb w5 hb5.out.1 (by decide) [] (by simp) (fun n _ _ => n = 20) (fun _ _ _ _ h _ => h) (fun rb a' c' W' _ _ _ hrd => alive02_3 rb a' c' W' hrd))
  refine hd3.out.mono ?_
  rintro e w6 ⟨n6, rest6, rfl, hk6, rfl⟩
  rw [if_neg (by simp)]
  have hb6 := hid (hb5.out.kept hk6 (by simp))
  have Hk6 := hid (Hk5.out.trans hk6)
  clear hk6 hd3
  go_wp2_with fail
  have hd4 := hid (decode_any 40 enters_alive024 #[] (.slice a 8 c) exb w6 hb6.out.1 (by decide) [] (by simp) (fun n _ _ => n = 2) (fun _ _ _ _ h _ => h) (fun rb a' c' W' _ _ _ hrd => alive02_4 rb a' c' W' hrd))
  refine hd4.out.mono ?_
  rintro e w7 ⟨n7, rest7, rfl, hk7, rfl⟩
  rw [if_neg (by simp)]
  have Hk7 := hid (Hk6.out.trans hk7)
  have gn := cell_of_one (Hk7.out.at Hn4.out (by simp))
  have gs := cell_of_one (Hk7.out.at Hs4.out (by simp))
  have hfin := hid (Hk4.out.trans Hk7.out)
  clear hk7 hd4
  go_wp2
  go_ret
  exact ⟨rfl, hfin.out⟩
end Go.Proofs.Ytignphegdigalaa
