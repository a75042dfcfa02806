/- coldstorelaw02.CodeWrites. -/
import Derived.Test.YtohmmkceffmipaaD3
namespace Go.Proofs.Ytohmmkceffmipaa
open Go.RowKit Go.Lib

theorem IsOps.kept {w w' : World} {a : Option Addr} {ops : List OpR} (h : IsOps w a ops) (hk : Kept [] w w') : IsOps w' a ops :=
  ⟨h.1, fun x hx i o ho => by
    obtain ⟨c0, c1, c2, c3, hs, hn, hl⟩ := h.2 x hx i o ho
    exact ⟨(hk.cell (World.block_lt_of_cell? w _ c0) (by simp)).trans c0, (hk.cell (World.block_lt_of_cell? w _ c1) (by simp)).trans c1, (hk.cell (World.block_lt_of_cell? w _ c2) (by simp)).trans c2,
      (hk.cell (World.block_lt_of_cell? w _ c3) (by simp)).trans c3, hs.kept hk (by simp), hn, hl⟩⟩

set_option maxHeartbeats 2000000 in
theorem codewrites (a : Option Addr) (c : Nat) (ops : List OpR) (w : World) (h : IsOps w a ops) (hm : ops.length ≤ 9223372036854775807) :
    Calls Try.prog 7 #[.slice a ops.length c] w fun e w' => e = .returned (.bool true) ∧ Kept [] w w' := by
  obtain ⟨i0, hi0, hz0, hz1, hz2⟩ := info_parts info_u8
  have H := hid h
  clear h
  go_enter Try.func7, Try.ntmps7
  go_wp2_with fail
  refine (alive02 _).mono ?_
  rintro e w1 ⟨rfl, hk1⟩
  have Hk1 := hid hk1
  clear hk1
  have hfew := hid (few_true a c ops w1 (H.out.kept Hk1.out) hm)
  go_wp2_with fail
  refine hfew.out.mono ?_
  rintro e w2 ⟨rfl, hk2⟩
  have Hk2 := hid (Hk1.out.trans hk2)
  clear hk2 hfew
  by_cases hgood : (∀ o ∈ ops, o.bs.length ≤ 60) ∧ ops.length ≤ 40
  · have hdec : decide ((∀ o ∈ ops, o.bs.length ≤ 60) ∧ ops.length ≤ 40) = true := decide_eq_true hgood
    rw [hdec]
    obtain ⟨hs, h40⟩ := hgood
    have HS := hid hs
    have H2 := hid (H.out.kept Hk2.out)
    clear hdec hs
    have hfr := hid (RowAt.fresh w2)
    go_wp2_with fail
    go_loopw [3, 14] (fun v s wr => ∃ i : Nat, i ≤ ops.length ∧ s = .int .i64 i ∧ RowAt w2 w2.heap.size v (outs (ops.take i)) wr) (fun _ s _ => ops.length - (intOf s).toNat)
    case atStart => exact ⟨0, Nat.zero_le _, rfl, by simpa [outs] using hfr.out⟩
    case round =>
      obtain ⟨i, hi, rfl, hr⟩ := hrel
      obtain ⟨b, d, rfl⟩ := owns_slice hr.2.2.2
      have HR := hid hr
      clear hr
      by_cases hlt : i < ops.length
      · cases a with
        | none => exact absurd (H.out.1 rfl) (fun e => by rw [e] at hlt; simp at hlt)
        | some x =>
          obtain ⟨c0, c1, c2, c3, hsrc, hn, hl⟩ := H2.out.2 x rfl i ops[i] (by simp [hlt])
          have hkw := HR.out.1
          have g0 := (hkw.cell (World.block_lt_of_cell? w2 _ c0) (by simp)).trans c0
          have g1 := (hkw.cell (World.block_lt_of_cell? w2 _ c1) (by simp)).trans c1
          have g2 := (hkw.cell (World.block_lt_of_cell? w2 _ c2) (by simp)).trans c2
          have g3 := (hkw.cell (World.block_lt_of_cell? w2 _ c3) (by simp)).trans c3
          have hsn := hid (outs_snoc ops i hlt)
          have hl60 := hid (HS.out _ (List.getElem_mem hlt))
          have hol := hid (show (outs (ops.take i)).length ≤ 3000 from by have := outs_len HS.out i; omega)
          have HSrc := hid hsrc
          have Hn := hid hn
          clear c0 c1 c2 c3 hsrc hkw hn hl
          generalize ops[i] = o at *
          obtain ⟨W, hW⟩ : ∃ W, W = wr.alloc (.cells #[.int .i64 o.kind, .int .i64 o.size, .int .u64 (o.num : Int), .slice o.ba o.bs.length o.bc] 50) := ⟨_, rfl⟩
          have hkW := hid (show Kept [] wr W from hW ▸ (Kept.refl [] wr).alloc _)
          have hsW := hid (HSrc.out.kept (HR.out.1.trans hkW.out) (by simp))
          have HWW := hid hW
          have hbase := hid (HR.out.2.2.1)
          clear hW
          by_cases k0 : o.kind = 0
          · have hcall' := refnum_any o.num Hn.out o.size W
            have hout := (show o.out = numB o.num (sz o.size) from by unfold OpR.out; simp [k0])
            rw [← hout] at hcall'
            have hcall := hid hcall'
            clear hout hcall'
            rw [k0] at g0 HWW
            clear hi
            go_wp2_with fail
            rw [← HWW.out]
            refine hcall.out.mono ?_
            rintro e w3 ⟨v3, rfl, hr3⟩
            obtain ⟨b3, d3, rfl⟩ := owns_slice hr3.2.2.2
            have hk3 := hid (hkW.out.trans hr3.1)
            have hs3 := hid hr3.src
            have hown := hid (hk3.out.owns HR.out.2.2.2 (by simp))
            clear hr3 hcall
            go_wp2_with (at_builtin; refine halt ?_)
            refine Halt.mk ?_
            refine wpList_append_src _ rfl _ _ _ rfl w2.heap.size 5 i0 _ 1 Try.underlying47 hi0 hz0 hz1 hz2 rfl (.slice b (outs (ops.take i)).length d) (outs (ops.take i)).length ((outs (ops.take i)).map B) rfl hown.out _ o.out.length (o.out.map B) rfl hs3.out (by simp) (B_oneCell _) ?_ ?_ ?_ ?_
            · have := hol.out; have := out_len hl60.out; unfold maxLen; omega
            · have := hol.out; have := out_len hl60.out; omega
            · have := hbase.out; have := hk3.out.size; omega
            intro v4 w4 hown4 hgrow4 _ hf4
            obtain ⟨b4, d4, rfl⟩ := owns_slice hown4
            have hstep := hid (RowAt.step (ys := o.out) HR.out hk3.out (by simpa only [List.length_append, List.map_append] using hown4) hgrow4)
            clear hown4 hgrow4 hf4 hown
            go_wp2
            go_roundw
            case rel => exact ⟨i + 1, by omega, by go_num, by rw [hsn.out]; exact hstep.out⟩
            case measure => simp [intOf]; omega
          have b0 : (o.kind == 0) = false := by simpa using k0
          by_cases k1 : o.kind = 1
          · have hcall' := refnum_any o.num Hn.out o.size W
            have hout := (show o.out = numB o.num (sz o.size) from by unfold OpR.out; simp [k1])
            rw [← hout] at hcall'
            have hcall := hid hcall'
            clear hout hcall'
            rw [k1] at g0 HWW
            clear hi
            go_wp2_with fail
            rw [← HWW.out]
            refine hcall.out.mono ?_
            rintro e w3 ⟨v3, rfl, hr3⟩
            obtain ⟨b3, d3, rfl⟩ := owns_slice hr3.2.2.2
            have hk3 := hid (hkW.out.trans hr3.1)
            have hs3 := hid hr3.src
            have hown := hid (hk3.out.owns HR.out.2.2.2 (by simp))
            clear hr3 hcall
            go_wp2_with (at_builtin; refine halt ?_)
            refine Halt.mk ?_
            refine wpList_append_src _ rfl _ _ _ rfl w2.heap.size 5 i0 _ 1 Try.underlying47 hi0 hz0 hz1 hz2 rfl (.slice b (outs (ops.take i)).length d) (outs (ops.take i)).length ((outs (ops.take i)).map B) rfl hown.out _ o.out.length (o.out.map B) rfl hs3.out (by simp) (B_oneCell _) ?_ ?_ ?_ ?_
            · have := hol.out; have := out_len hl60.out; unfold maxLen; omega
            · have := hol.out; have := out_len hl60.out; omega
            · have := hbase.out; have := hk3.out.size; omega
            intro v4 w4 hown4 hgrow4 _ hf4
            obtain ⟨b4, d4, rfl⟩ := owns_slice hown4
            have hstep := hid (RowAt.step (ys := o.out) HR.out hk3.out (by simpa only [List.length_append, List.map_append] using hown4) hgrow4)
            clear hown4 hgrow4 hf4 hown
            go_wp2
            go_roundw
            case rel => exact ⟨i + 1, by omega, by go_num, by rw [hsn.out]; exact hstep.out⟩
            case measure => simp [intOf]; omega
          have b1 : (o.kind == 1) = false := by simpa using k1
          by_cases k2 : o.kind = 2
          · have hcall' := refbytes_any o.ba o.bc o.bs W hsW.out (by have := hl60.out; omega)
            have hout := (show o.out = numB o.bs.length 4 ++ o.bs from by unfold OpR.out; simp [k2])
            rw [← hout] at hcall'
            have hcall := hid hcall'
            clear hout hcall'
            rw [k2] at g0 HWW
            clear hi
            go_wp2_with fail
            rw [← HWW.out]
            refine hcall.out.mono ?_
            rintro e w3 ⟨v3, base3, rfl, hr3⟩
            obtain ⟨b3, d3, rfl⟩ := owns_slice hr3.2.2.2
            have hk3 := hid (hkW.out.trans hr3.1)
            have hs3 := hid hr3.src
            have hown := hid (hk3.out.owns HR.out.2.2.2 (by simp))
            clear hr3 hcall
            go_wp2_with (at_builtin; refine halt ?_)
            refine Halt.mk ?_
            refine wpList_append_src _ rfl _ _ _ rfl w2.heap.size 5 i0 _ 1 Try.underlying47 hi0 hz0 hz1 hz2 rfl (.slice b (outs (ops.take i)).length d) (outs (ops.take i)).length ((outs (ops.take i)).map B) rfl hown.out _ o.out.length (o.out.map B) rfl hs3.out (by simp) (B_oneCell _) ?_ ?_ ?_ ?_
            · have := hol.out; have := out_len hl60.out; unfold maxLen; omega
            · have := hol.out; have := out_len hl60.out; omega
            · have := hbase.out; have := hk3.out.size; omega
            intro v4 w4 hown4 hgrow4 _ hf4
            obtain ⟨b4, d4, rfl⟩ := owns_slice hown4
            have hstep := hid (RowAt.step (ys := o.out) HR.out hk3.out (by simpa only [List.length_append, List.map_append] using hown4) hgrow4)
            clear hown4 hgrow4 hf4 hown
            go_wp2
            go_roundw
            case rel => exact ⟨i + 1, by omega, by go_num, by rw [hsn.out]; exact hstep.out⟩
            case measure => simp [intOf]; omega
          have b2 : (o.kind == 2) = false := by simpa using k2
          by_cases k3 : o.kind = 3
          · have hcall' := refbytes_any o.ba o.bc o.bs W hsW.out (by have := hl60.out; omega)
            have hout := (show o.out = numB o.bs.length 4 ++ o.bs from by unfold OpR.out; simp [k3])
            rw [← hout] at hcall'
            have hcall := hid hcall'
            clear hout hcall'
            rw [k3] at g0 HWW
            clear hi
            go_wp2_with fail
            rw [← HWW.out]
            refine hcall.out.mono ?_
            rintro e w3 ⟨v3, base3, rfl, hr3⟩
            obtain ⟨b3, d3, rfl⟩ := owns_slice hr3.2.2.2
            have hk3 := hid (hkW.out.trans hr3.1)
            have hs3 := hid hr3.src
            have hown := hid (hk3.out.owns HR.out.2.2.2 (by simp))
            clear hr3 hcall
            go_wp2_with (at_builtin; refine halt ?_)
            refine Halt.mk ?_
            refine wpList_append_src _ rfl _ _ _ rfl w2.heap.size 5 i0 _ 1 Try.underlying47 hi0 hz0 hz1 hz2 rfl (.slice b (outs (ops.take i)).length d) (outs (ops.take i)).length ((outs (ops.take i)).map B) rfl hown.out _ o.out.length (o.out.map B) rfl hs3.out (by simp) (B_oneCell _) ?_ ?_ ?_ ?_
            · have := hol.out; have := out_len hl60.out; unfold maxLen; omega
            · have := hol.out; have := out_len hl60.out; omega
            · have := hbase.out; have := hk3.out.size; omega
            intro v4 w4 hown4 hgrow4 _ hf4
            obtain ⟨b4, d4, rfl⟩ := owns_slice hown4
            have hstep := hid (RowAt.step (ys := o.out) HR.out hk3.out (by simpa only [List.length_append, List.map_append] using hown4) hgrow4)
            clear hown4 hgrow4 hf4 hown
            go_wp2
            go_roundw
            case rel => exact ⟨i + 1, by omega, by go_num, by rw [hsn.out]; exact hstep.out⟩
            case measure => simp [intOf]; omega
          have b3 : (o.kind == 3) = false := by simpa using k3
          by_cases k4 : o.kind = 4
          · have hout := hid (show o.out = o.bs from by unfold OpR.out; simp [k4])
            rw [k4] at g0 HWW
            have hsW' := hsW.out
            have hkW' := hkW.out
            rw [HWW.out] at hsW' hkW'
            have hs3 := hid hsW'
            have hk3 := hid hkW'
            have hown := hid (hk3.out.owns HR.out.2.2.2 (by simp))
            clear hi hsW' hkW'
            go_wp2_with (at_builtin; refine halt ?_)
            refine Halt.mk ?_
            refine wpList_append_src _ rfl _ _ _ rfl w2.heap.size 5 i0 _ 1 Try.underlying47 hi0 hz0 hz1 hz2 rfl (.slice b (outs (ops.take i)).length d) (outs (ops.take i)).length ((outs (ops.take i)).map B) rfl hown.out _ o.bs.length (o.bs.map B) rfl hs3.out (by simp) (B_oneCell _) ?_ ?_ ?_ ?_
            · have := hol.out; have := hl60.out; unfold maxLen; omega
            · have := hol.out; have := hl60.out; omega
            · have := hbase.out; have := hk3.out.size; omega
            intro v4 w4 hown4 hgrow4 _ hf4
            obtain ⟨b4, d4, rfl⟩ := owns_slice hown4
            have hstep := hid (RowAt.step (ys := o.bs) HR.out hk3.out (by simpa only [List.length_append, List.map_append] using hown4) hgrow4)
            clear hown4 hgrow4 hf4 hown
            go_wp2
            go_roundw
            case rel => exact ⟨i + 1, by omega, by go_num, by rw [hsn.out, hout.out]; exact hstep.out⟩
            case measure => simp [intOf]; omega
          have b4 : (o.kind == 4) = false := by simpa using k4
          have hout := hid (show o.out = [] from by unfold OpR.out; simp [k0, k1, k2, k3, k4])
          have hw2 := hid (show RowAt w2 w2.heap.size (.slice b (outs (ops.take i)).length d) (outs (ops.take (i + 1))) W from by
            rw [hsn.out, hout.out, List.append_nil]
            exact ⟨HR.out.1.trans hkW.out, HR.out.2.1, by have := hbase.out; have := hkW.out.size; omega, hkW.out.owns HR.out.2.2.2 (by simp)⟩)
          clear hi k0 k1 k2 k3 k4
          go_wp2
          go_roundw
          case rel => exact ⟨i + 1, by omega, by go_num, by rw [← HWW.out]; exact hw2.out⟩
          case measure => simp [intOf]; omega
      · have hin : i = ops.length := by omega
        subst hin
        have hw := hid (write_any a c ops wr (H2.out.kept HR.out.1) h40 HS.out)
        have hrow := HR.out
        rw [List.take_length] at hrow
        have HROW := hid hrow
        clear hrow
        rw [List.take_length]
        go_wp2_with fail
        refine hw.out.mono ?_
        rintro e w5 ⟨a5, c5, base5, rfl, hk5, hb5, ho5⟩
        have hsame := hid (same_src a5 b c5 d (outs ops) w5 (bys_of_row ho5).1 (HROW.out.src.kept hk5 (by simp)))
        have hfin := hid ((Hk2.out.trans HR.out.1).trans hk5)
        clear hk5 hb5 ho5 hw
        go_wp2_with fail
        refine hsame.out.mono ?_
        rintro e w6 ⟨rfl, rfl⟩
        go_wp2
        go_ret
        exact ⟨rfl, hfin.out⟩
  · have hdec : decide ((∀ o ∈ ops, o.bs.length ≤ 60) ∧ ops.length ≤ 40) = false := decide_eq_false hgood
    rw [hdec]
    clear hgood hdec
    go_wp2
    go_ret
    exact ⟨rfl, Hk2.out⟩
end Go.Proofs.Ytohmmkceffmipaa
