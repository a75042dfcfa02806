/- coldstorelaw01.GuardValues. -/
import Derived.Test.YtohmmkceffmipaaG9
namespace Go.Proofs.Ytohmmkceffmipaa
open Go.RowKit

theorem enters_values1 : Enters 32 := fun args w => by simp [go_sem]
theorem enters_values2 : Enters 34 := fun args w => by simp [go_sem]

/-- The second closure counts, and answers its number. -/
theorem values_2 (c b : Nat) (n x : Int) (hn0 : 0 ≤ n) (hn : n < 1000) (w : World) (hcb : c ≠ b) (hc : w.heap[c]? = some (.cells #[.int .i64 n] 3 (0, 0))) (hb : w.heap[b]? = some (.cells #[.int .i64 x] 3 (0, 0))) :
    Calls Try.prog 34 #[.pointer (some ⟨c, 0, none⟩), .pointer (some ⟨b, 0, none⟩)] w fun e w' => e = .returned (.int .i64 x) ∧ Kept [c] w w' ∧ w'.heap[c]? = some (.cells #[.int .i64 (n + 1)] 3 (0, 0)) := by
  have gc := cell_of_one hc
  have gz := free_of_one hc
  have gb := cell_of_one (heap_setCell_other (p := ⟨c, 0, none⟩) (u := .int .i64 (n + 1)) hb (by simpa using hcb.symm))
  have hk := hid (show Kept [c] w (w.setCell ⟨c, 0, none⟩ (.int .i64 (n + 1))) from (Kept.refl _ _).setCell (p := ⟨c, 0, none⟩) (fun _ => by simp) _)
  have hc1 := hid (one_setCell (u := .int .i64 (n + 1)) hc)
  clear hc hb hcb
  go_enter Try.func34, Try.ntmps34
  go_wp2
  go_ret
  exact ⟨rfl, hk.out, hc1.out⟩

/-- The first closure: a value comes by; the other one, unless there is an error. -/
theorem values_1 (pn pa ps pe pb : Nat) (n e0 : Int) (s : ByteArray) (w : World) (h1 : pa ≠ pb) (h2 : pa ≠ ps) (h3 : pa ≠ pe)
    (hn : w.heap[pn]? = some (.cells #[.int .i64 n] 3 (0, 0))) (ha : w.heap[pa]? = some (.cells #[.int .i64 0] 3 (0, 0))) (hs : w.heap[ps]? = some (.cells #[.string s] 9 (0, 0)))
    (he : w.heap[pe]? = some (.cells #[.int .i64 e0] 3 (0, 0))) (hb : w.heap[pb]? = some (.cells #[.string ⟨#[]⟩] 9 (0, 0))) :
    Calls Try.prog 32 #[.pointer (some ⟨pn, 0, none⟩), .pointer (some ⟨pa, 0, none⟩), .pointer (some ⟨ps, 0, none⟩), .pointer (some ⟨pe, 0, none⟩), .pointer (some ⟨pb, 0, none⟩)] w
      (Threw fun m w' => m = e0 ∧ Kept [pa, pb] w w' ∧ w'.heap[pa]? = some (.cells #[.int .i64 n] 3 (0, 0)) ∧ w'.heap[pb]? = some (.cells #[.string (if e0 = 0 then s else ⟨#[]⟩)] 9 (0, 0))) := by
  have gn := cell_of_one hn
  have ga := cell_of_one ha
  have gz := free_of_one ha
  have gs := cell_of_one (heap_setCell_other (p := ⟨pa, 0, none⟩) (u := .int .i64 n) hs (by simpa using h2.symm))
  have ge := cell_of_one (heap_setCell_other (p := ⟨pa, 0, none⟩) (u := .int .i64 n) he (by simpa using h3.symm))
  have hb1 := heap_setCell_other (p := ⟨pa, 0, none⟩) (u := .int .i64 n) hb (by simpa using h1.symm)
  have gb := cell_of_one hb1
  have gbz := free_of_one hb1
  have hk := hid (show Kept [pa, pb] w (w.setCell ⟨pa, 0, none⟩ (.int .i64 n)) from (Kept.refl _ _).setCell (p := ⟨pa, 0, none⟩) (fun _ => by simp) _)
  have hk2 := hid (hk.out.setCell (p := ⟨pb, 0, none⟩) (fun _ => by simp) (.string s))
  have ha1 := hid (one_setCell (u := .int .i64 n) ha)
  have ha2 := hid (heap_setCell_other (p := ⟨pb, 0, none⟩) (u := .string s) ha1.out (by simpa using h1))
  have hb2 := hid (one_setCell (u := .string s) hb1)
  have Hb1 := hid hb1
  clear hn ha hs he hb hb1 h1 h2 h3
  by_cases h0 : e0 = 0
  · subst h0
    go_enter Try.func32, Try.ntmps32
    go_wp2_with (first | (go_at_call 15; refine (valueint_ok _ _).mono ?_; rintro e w' ⟨rfl, rfl⟩) | (go_at_call 33; refine (valuestr_ok _ _).mono ?_; rintro e w' ⟨rfl, rfl⟩))
    go_end0
    exact Or.inl ⟨rfl, rfl, hk2.out, ha2.out, by simpa using hb2.out⟩
  · have hne : (e0 == 0) = false := by simpa using h0
    have H0 := hid h0
    clear h0
    go_enter Try.func32, Try.ntmps32
    go_wp2_with (go_at_call 15; refine (valueint_ok _ _).mono ?_; rintro e w' ⟨rfl, rfl⟩)
    refine (valuestr_err _ _ hne _).mono ?_
    rintro e w' ⟨⟨older, rfl, hcalm⟩, rfl⟩
    exact ⟨rfl, Or.inr ⟨e0, ⟨older, rfl, hcalm⟩, rfl, hk.out, ha1.out, by rw [if_neg H0.out]; exact Hb1.out⟩⟩

set_option maxHeartbeats 1000000 in
theorem guardvalues (n e0 : Int) (s : ByteArray) (a : Option Addr) (len cap : Nat) (zs : List Int) (w : World) (hlen : len ≤ 9223372036854775807) (ha : Reads w a len zs) :
    Calls Try.prog 6 #[.int .i64 n, .string s, .int .i64 e0, .slice a len cap] w fun e w' => e = .returned (.bool true) ∧ Kept [] w w' := by
  have hmf : ∀ (fn : Fn) (first cap : Array Value) (w : World), (Instr.makeFunc fn first cap).run Try.prog w = .ok (.func fn first cap) w := fun _ _ _ _ => rfl
  have Ha := hid ha
  clear ha
  go_enter Try.func6, Try.ntmps6
  go_wp2_with fail
  refine (alive01 _).mono ?_
  rintro e w1 ⟨rfl, hk⟩
  have hb0 := hk.at (k := w.heap.size) (heap_alloc_old (heap_alloc_old (heap_alloc_at rfl))) (by simp)
  have hb1 := hk.at (k := w.heap.size + 1) (heap_alloc_old (heap_alloc_at (by simp))) (by simp)
  have hb2 := hk.at (k := w.heap.size + 1 + 1) (heap_alloc_at (by simp)) (by simp)
  have Hk := hid ((((Kept.refl [] w).alloc _).alloc _).alloc _ |>.trans hk)
  have Hb0 := hid hb0; have Hb1 := hid hb1; have Hb2 := hid hb2
  have hlt := hid (lt_of_block hb2)
  clear hk hb0 hb1 hb2
  by_cases hl : 100 < len
  · go_wp2
    go_ret
    exact ⟨rfl, Hk.out⟩
  · have hl' : ¬ (100 : Int) < (len : Int) := by omega
    go_wp2_with fail
    have hlt := hlt.out
    obtain ⟨W, hW⟩ : ∃ W, W = ((w1.alloc (.cells #[.int .i64 0] 3)).alloc (.cells #[.string ⟨#[]⟩] 9)) := ⟨_, rfl⟩
    have hkW := hid (show Kept [] w W from hW ▸ ((Hk.out.alloc _).alloc _))
    have hn1 := hid (show W.heap[w.heap.size]? = _ from hW ▸ heap_alloc_old (heap_alloc_old Hb0.out))
    have hs1 := hid (show W.heap[w.heap.size + 1]? = _ from hW ▸ heap_alloc_old (heap_alloc_old Hb1.out))
    have he1 := hid (show W.heap[w.heap.size + 1 + 1]? = _ from hW ▸ heap_alloc_old (heap_alloc_old Hb2.out))
    have ha1 := hid (show W.heap[w1.heap.size]? = some (.cells #[.int .i64 0] 3 (0, 0)) from hW ▸ heap_alloc_old (heap_alloc_at rfl))
    have hb1 := hid (show W.heap[w1.heap.size + 1]? = some (.cells #[.string ⟨#[]⟩] 9 (0, 0)) from hW ▸ heap_alloc_at (by simp))
    have hrun := hid (run_kept 32 enters_values1 #[.pointer (some ⟨w.heap.size, 0, none⟩), .pointer (some ⟨w1.heap.size, 0, none⟩), .pointer (some ⟨w.heap.size + 1, 0, none⟩), .pointer (some ⟨w.heap.size + 1 + 1, 0, none⟩), .pointer (some ⟨w1.heap.size + 1, 0, none⟩)] W [w1.heap.size, w1.heap.size + 1]
      (fun b hb => by have h1 := lt_of_block ha1.out; have h2 := lt_of_block hb1.out; simp at hb; omega)
      (fun m W' => m = e0 ∧ W'.heap[w1.heap.size]? = some (.cells #[.int .i64 n] 3 (0, 0)) ∧ W'.heap[w1.heap.size + 1]? = some (.cells #[.string (if e0 = 0 then s else ⟨#[]⟩)] 9 (0, 0)))
      (fun m W1 W2 h hbl => ⟨h.1, at_below hbl h.2.1 (lt_of_block ha1.out), at_below hbl h.2.2 (lt_of_block hb1.out)⟩)
      ((values_1 w.heap.size w1.heap.size (w.heap.size + 1) (w.heap.size + 1 + 1) (w1.heap.size + 1) n e0 s _ (by omega) (by omega) (by omega) (heap_alloc_old hn1.out) (heap_alloc_old ha1.out) (heap_alloc_old hs1.out) (heap_alloc_old he1.out) (heap_alloc_old hb1.out)).mono fun e w' hx => by
        rcases hx with ⟨he, hm, hk, h1, h2⟩ | ⟨m, he, hm, hk, h1, h2⟩
        · exact Or.inl ⟨he, hk, hm, h1, h2⟩
        · exact Or.inr ⟨m, he, hk, hm, h1, h2⟩))
    rw [← hW]
    clear hW
    refine hrun.out.mono ?_
    rintro e w2 ⟨m, rfl, hk2, rfl, hpa, hpb⟩
    have gn := cell_of_one (hk2.at hn1.out (by simp; omega))
    have gs := cell_of_one (hk2.at hs1.out (by simp; omega))
    have ge := cell_of_one (hk2.at he1.out (by simp; omega))
    have ga := cell_of_one hpa
    have gb := cell_of_one hpb
    have hkw2 := hid (show Kept [] w w2 from hkW.out.trans' hk2 (fun x hx hm => by simp at hm; omega))
    clear hk2 hpa hpb hrun
    have Hcount : ∀ w5 : World, Hid (Kept [w2.heap.size] w2 w5 → Kept [] w w5) := fun w5 => hid fun h => hkw2.out.trans' h (fun x hx hm => by have := hkw2.out.size; simp at hm; omega)
    obtain ⟨i0, hi0, hz0, hz1, hz2⟩ := info_parts info_step
    by_cases h0 : m = 0
    all_goals
      (first
        | (subst h0; rw [if_pos rfl] at gb; go_wp2_with fail)
        | (have hne : (m == 0) = false := by simpa using h0
           have hne2 : (m != 0) = true := by simpa using h0
           rw [if_neg h0] at gb
           clear h0
           go_wp2_with fail))
      clear gn gs ge ga gb
      have hL := hid (show Kept [] w2 ((w2.alloc (.cells #[.int .i64 0] 3)).alloc (.cells #[] 31)) from ((Kept.refl _ _).alloc _).alloc _)
      have hc3 := hid (show ((w2.alloc (.cells #[.int .i64 0] 3)).alloc (.cells #[] 31)).heap[w2.heap.size]? = some (.cells #[.int .i64 0] 3 (0, 0)) from heap_alloc_old (heap_alloc_at rfl))
      have hB3 := hid (show ((w2.alloc (.cells #[.int .i64 0] 3)).alloc (.cells #[] 31)).heap[w2.heap.size + 1]? = some (.cells #[] 31 (0, 0)) from heap_alloc_at (by simp))
      generalize ((w2.alloc (.cells #[.int .i64 0] 3)).alloc (.cells #[] 31)) = w3 at *
      go_loopw [13, 55] (fun v s wr => ∃ (i : Nat) (bs : List Nat) (g cp : Nat), i ≤ len ∧ Hid (bs.length = i) ∧ v = .slice (some ⟨g, 0, none⟩) i cp ∧ s = .int .i64 i ∧ Kept [w2.heap.size + 1] w3 wr ∧ Made wr (w2.heap.size + 1) 34 #[.pointer (some ⟨w2.heap.size, 0, none⟩)] zs g cp bs ∧ Hid (g = w2.heap.size + 1 ∨ w3.heap.size ≤ g))
        (fun _ s _ => len - (intOf s).toNat)
      case atStart => exact ⟨0, [], w2.heap.size + 1, 0, Nat.zero_le _, hid rfl, rfl, rfl, Kept.refl _ _, Made.start hB3.out, hid (Or.inl rfl)⟩
      case round =>
        obtain ⟨i, bs, g, cp, hi, hbs, rfl, rfl, hkr, hmade, hgB⟩ := hrel
        have lB := hid (lt_of_block hB3.out)
        by_cases hlt : i < len
        · have hra := Ha.out.kept (hkw2.out.trans (hL.out.trans' (S := []) hkr (fun x hx hm => by simp at hm; omega))) (fun _ _ => by simp)
          obtain ⟨_, na, ca⟩ := hra
          cases a with
          | none => exact absurd (na rfl) (by omega)
          | some x =>
            have gx := ca x rfl i hlt
            clear ca na
            have hkc := hid (hkr)
            have hm := hid hmade
            have hgl := hid (show g < wr.heap.size from by
              obtain ⟨_, h2⟩ := hmade.own
              rcases h2 with ⟨h2, _⟩ | ⟨g', cap', cur, hv, hg, hh, _⟩
              · simp at h2
              · simp at hv; obtain ⟨rfl, _⟩ := hv; exact lt_of_block hh)
            have how := hid (((((Kept.refl [] wr).alloc (.cells #[.int .i64 (zs[i]?.getD 0)] 3)).alloc (.cells #[clos 34 #[.pointer (some ⟨w2.heap.size, 0, none⟩)] wr.heap.size] 31)).owns hmade.own (by simp)))
            have hsz3 := hid hkr.size
            have hbs' := hid hbs.out
            clear hkr hmade
            go_wp2_with (at_builtin; refine halt ?_)
            refine Halt.mk ?_
            refine wpList_append_lies _ rfl _ _ _ rfl (w2.heap.size + 1) 31 i0 _ 1 8 Try.underlying30 hi0 hz0 hz1 hz2 rfl (by decide) (.slice (some ⟨g, 0, none⟩) i cp) i (bs.map (clos 34 #[.pointer (some ⟨w2.heap.size, 0, none⟩)])) rfl (by have := how.out; rw [hbs.out] at this; exact this) ⟨wr.heap.size + 1, 0, none⟩ 1 1 [clos 34 #[.pointer (some ⟨w2.heap.size, 0, none⟩)] wr.heap.size] rfl rfl ?_ ?_ (by decide) ?_ ?_ ?_ (wr.heap.size + 2) ?_ ?_
            · intro j u hj
              have := cell_one_new (wr.alloc (.cells #[.int .i64 (zs[i]?.getD 0)] 3)) (clos 34 #[.pointer (some ⟨w2.heap.size, 0, none⟩)] wr.heap.size) 31 j u hj
              simpa [clos] using this
            · simp [Value.oneCell', clos]
            · unfold maxLen; omega
            · omega
            · have h1 := lB.out; have h2 := hsz3.out; simp; omega
            · simp
            intro g2 cp2 w4 hown4 hgrow4 hat4 hlt4
            have hmade4 := hid (hm.out.step (g2 := g2) (cp2 := cp2) (by rw [hbs.out]; exact hown4) (by rw [hbs.out]; exact hgrow4) (by have h1 := lB.out; have h2 := hsz3.out; omega) hgl.out (by simpa [Value.ownBlock] using hat4))
            have hk4 := hid (show Kept [w2.heap.size + 1] w3 w4 from ((hkc.out.alloc _).alloc _).trans' (Kept.of_row hgrow4) (fun y hy hm => by
              simp [Value.ownBlock] at hm
              have := hgB.out
              simp; omega))
            have hg4 := hid (show g2 = w2.heap.size + 1 ∨ w3.heap.size ≤ g2 from by
              have h1 := hgB.out
              have h2 := hsz3.out
              simp [Value.ownBlock] at hat4
              omega)
            have hbs4 := hid (show (bs ++ [wr.heap.size]).length = i + 1 from by simp [hbs.out])
            clear hown4 hgrow4 hat4 hlt4
            go_wp2
            go_roundw
            case rel => exact ⟨i + 1, _, g2, cp2, by omega, hbs4, rfl, by go_num, hk4.out, hmade4.out, hg4⟩
            case measure => simp [intOf]; omega
        · have hin : i = len := by omega
          subst hin
          have hkk := hid hkr
          have hall := hid (all_made i (by omega) (w2.heap.size + 1) 34 enters_values2 #[.pointer (some ⟨w2.heap.size, 0, none⟩)] zs g cp bs hbs.out wr hmade [w2.heap.size]
            (fun b hb => by have h1 := lB.out; have h2 := hkr.size; simp at hb; omega) (fun b hb => by simp at hb; omega)
            (fun j W => W.heap[w2.heap.size]? = some (.cells #[.int .i64 (j : Int)] 3 (0, 0))) (fun j W W' h hbl => at_below hbl h (by have h1 := lB.out; have h2 := hkr.size; omega))
            (hkr.at hc3.out (by simp))
            (fun j b W hj hb hst _ hbS => (values_2 w2.heap.size b j (zs[j]?.getD 0) (by omega) (by omega) W (by simpa using fun e => hbS (by simp [e])) hst hb).mono fun e w' h => ⟨h.1, h.2.1, by simpa using h.2.2⟩))
          clear hkr hmade
          go_wp2_with fail
          refine hall.out.mono ?_
          rintro e w5 ⟨rfl, hk5, hcnt⟩
          obtain ⟨k, r, hkr', hbeg, hspec, hkle⟩ : ∃ (k : Nat) (r : Int), firstFrom (fun i => zs[i]?.getD 0) i 0 = (k, r) ∧ begun (fun i => zs[i]?.getD 0) i = min (k + 1) i ∧ (r = 0 ↔ k = i) ∧ k ≤ i :=
            ⟨_, _, rfl, rfl, by have := firstFrom_spec (fun i => zs[i]?.getD 0) i 0; simpa using this, by have := (firstFrom_le (fun i => zs[i]?.getD 0) i 0).1; omega⟩
          rw [hbeg] at hcnt
          rw [hkr']
          have gcnt := cell_of_one hcnt
          have hfin := hid (show Kept [] w w5 from (Hcount w5).out ((((hL.out.wider (T := [w2.heap.size]) (fun y _ hm => by simp at hm)).trans' hkk.out (fun y hy hm => by simp at hm; omega))).trans hk5))
          clear hkr' hbeg hk5 hcnt hall
          by_cases hki : k = i
          · have hr := hspec.2 hki
            subst hki hr
            have hmin : min (k + 1) k = k := by omega
            rw [hmin] at gcnt
            clear hspec hmin
            go_wp2_with fail
            refine (all_nil w5).mono ?_
            rintro e w6 ⟨rfl, rfl⟩
            go_wp2
            go_ret
            exact ⟨by simp, hfin.out⟩
          · have hr : (r == 0) = false := by simpa using fun h => hki (hspec.1 h)
            have hmin : min (k + 1) i = k + 1 := by omega
            rw [hmin] at gcnt
            have hki1 : k + 1 ≤ i := by omega
            have hki2 : ((k : Int) == (i : Int)) = false := by simp; omega
            clear hspec hmin hki
            go_wp2_with fail
            refine (all_nil w5).mono ?_
            rintro e w6 ⟨rfl, rfl⟩
            go_wp2
            go_ret
            exact ⟨by simp, hfin.out⟩
end Go.Proofs.Ytohmmkceffmipaa
