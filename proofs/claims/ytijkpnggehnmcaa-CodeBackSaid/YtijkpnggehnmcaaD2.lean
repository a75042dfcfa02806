/- coldstorelaw02.write. -/
import Derived.Test.YtijkpnggehnmcaaD1
namespace Go.Proofs.Ytijkpnggehnmcaa
open Go.RowKit Go.Lib

set_option maxHeartbeats 1000000 in
theorem write_any (a : Option Addr) (c : Nat) (ops : List OpR) (w : World) (h : IsOps w a ops) (hm : ops.length ≤ 40) (hs : ∀ o ∈ ops, o.bs.length ≤ 60) :
    Calls Try.prog 16 #[.slice a ops.length c] w fun e w' => ∃ a' c' base, e = .returned (.slice a' (outs ops).length c') ∧ Kept [] w w' ∧ w.heap.size ≤ base ∧ w'.ownsRow base 5 1 (.slice a' (outs ops).length c') (outs ops).length ((outs ops).map B) := by
  have H := hid h; have HS := hid hs
  have hfr := hid (show WriteAt w.heap.size w (outs (ops.take 0)) (w.alloc (.cells #[.slice none 0 0] 52)) from
    ⟨(Kept.refl [] w).alloc _, .slice none 0 0, by simpa [outs] using Wr.fresh w, fun g hg => by simp [Value.ownBlock] at hg⟩)
  clear h hs
  go_enter Try.func16, Try.ntmps16
  go_wp2_with fail
  go_loopw [8] (fun s wr => ∃ i : Nat, i ≤ ops.length ∧ s = .int .i64 i ∧ WriteAt w.heap.size w (outs (ops.take i)) wr) (fun s _ => ops.length - (intOf s).toNat)
  case atStart => exact ⟨0, Nat.zero_le _, rfl, hfr.out⟩
  case round =>
    obtain ⟨i, hi, rfl, hw⟩ := hrel
    have HW := hid hw
    clear hw
    by_cases hlt : i < ops.length
    · cases a with
      | none => exact absurd (H.out.1 rfl) (fun e => by rw [e] at hlt; simp at hlt)
      | some x =>
        obtain ⟨c0, c1, c2, c3, hsrc, hn, hl⟩ := H.out.2 x rfl i ops[i] (by simp [hlt])
        have hkw := HW.out.1
        have g0 := (hkw.cell (World.block_lt_of_cell? w _ c0) (by simp)).trans c0
        have g1 := (hkw.cell (World.block_lt_of_cell? w _ c1) (by simp)).trans c1
        have g2 := (hkw.cell (World.block_lt_of_cell? w _ c2) (by simp)).trans c2
        have g3 := (hkw.cell (World.block_lt_of_cell? w _ c3) (by simp)).trans c3
        have hsn := hid (outs_snoc ops i hlt)
        have hl60 := hid (HS.out _ (List.getElem_mem hlt))
        have hol := hid (outs_len HS.out i)
        have HSrc := hid hsrc
        have Hn := hid hn
        clear c0 c1 c2 c3 hsrc hkw hn hl
        generalize ops[i] = o at *
        obtain ⟨W, hW⟩ : ∃ W, W = wr.alloc (.cells #[.int .i64 o.kind, .int .i64 o.size, .int .u64 (o.num : Int), .slice o.ba o.bs.length o.bc] 34) := ⟨_, rfl⟩
        have hkW := hid (show Kept [] wr W from hW ▸ (Kept.refl [] wr).alloc _)
        obtain ⟨hk0, v, hwr0, hv⟩ := HW.out
        have hwr := hid (hwr0.kept hkW.out (by simp) (by simp))
        have hkk := hid (hk0.trans hkW.out)
        have HV := hid hv
        have hi40 := hid (show i < 40 from by omega)
        have hsW := hid (HSrc.out.kept hkk.out (by simp))
        have HWW := hid hW
        clear hk0 hwr0 hv hW
        have FIN := hid (fun (w2 : World) (hx : Wrote w.heap.size v W (outs (ops.take i) ++ o.out) w2) => show WriteAt w.heap.size w (outs (ops.take (i + 1))) w2 from by
          rw [hsn.out]
          exact WriteAt.step (Nat.le_refl _) hkk.out HV.out hx)
        have hown := hid (fun x (hx : x < w.heap.size) (hm : x ∈ w.heap.size :: v.ownBlock.toList) => show x ∈ ([] : List Nat) from by
          simp at hm
          rcases hm with hm | hm
          · omega
          · have := HV.out x hm; omega)
        by_cases k0 : o.kind = 0
        · have hcall := hid (wnum w.heap.size o.num o.size Hn.out v _ W hwr.out (by have := hol.out; have := hi40.out; omega))
          have hout := hid (show o.out = numB o.num (sz o.size) from by unfold OpR.out; simp [k0])
          rw [k0] at g0 HWW
          clear hi
          go_wp2_with fail
          rw [← HWW.out]
          refine hcall.out.mono ?_
          rintro e w2 ⟨rfl, hx⟩
          have hw2 := hid (FIN.out w2 (by rw [hout.out]; exact hx))
          clear hx
          go_wp2
          go_roundw
          case rel => exact ⟨i + 1, by omega, by go_num, hw2.out⟩
          case measure => simp [intOf]; omega
        have b0 : (o.kind == 0) = false := by simpa using k0
        by_cases k1 : o.kind = 1
        · have hcall := hid (wnum w.heap.size o.num o.size Hn.out v _ W hwr.out (by have := hol.out; have := hi40.out; omega))
          have hout := hid (show o.out = numB o.num (sz o.size) from by unfold OpR.out; simp [k1])
          rw [k1] at g0 HWW
          clear hi
          go_wp2_with fail
          rw [← HWW.out]
          refine hcall.out.mono ?_
          rintro e w2 ⟨rfl, hx⟩
          have hw2 := hid (FIN.out w2 (by rw [hout.out]; exact hx))
          clear hx
          go_wp2
          go_roundw
          case rel => exact ⟨i + 1, by omega, by go_num, hw2.out⟩
          case measure => simp [intOf]; omega
        have b1 : (o.kind == 1) = false := by simpa using k1
        by_cases k2 : o.kind = 2
        · have hcall := hid (wbytes_st w.heap.size v (.slice o.ba o.bs.length o.bc) _ o.bs W hwr.out hsW.out (fun w' hk => HSrc.out.kept (hkk.out.trans' hk hown.out) (by simp)) (by have := hol.out; have := hi40.out; omega) (by have := hl60.out; omega))
          have hout := hid (show o.out = numB o.bs.length 4 ++ o.bs from by unfold OpR.out; simp [k2])
          rw [k2] at g0 HWW
          clear hi
          go_wp2_with fail
          rw [← HWW.out]
          refine hcall.out.mono ?_
          rintro e w2 ⟨rfl, hx⟩
          have hw2 := hid (FIN.out w2 (by rw [hout.out]; exact hx))
          clear hx
          go_wp2
          go_roundw
          case rel => exact ⟨i + 1, by omega, by go_num, hw2.out⟩
          case measure => simp [intOf]; omega
        have b2 : (o.kind == 2) = false := by simpa using k2
        by_cases k3 : o.kind = 3
        · have hcall := hid (wtext w.heap.size v ⟨o.bs.toArray⟩ _ W hwr.out (by have := hol.out; have := hi40.out; omega) (by have := hl60.out; simp [ByteArray.size]; omega))
          have hout := hid (show o.out = numB o.bs.length 4 ++ o.bs from by unfold OpR.out; simp [k3])
          have hconv := text_any W o.ba o.bc o.bs hsW.out
          rw [HWW.out] at hconv
          rw [k3] at hconv
          rw [k3] at g0 HWW
          clear hi
          go_wp2_with fail
          rw [← HWW.out]
          refine hcall.out.mono ?_
          rintro e w2 ⟨rfl, hx⟩
          have hw2 := hid (FIN.out w2 (by rw [hout.out]; simpa [ByteArray.size] using hx))
          clear hx
          go_wp2
          go_roundw
          case rel => exact ⟨i + 1, by omega, by go_num, hw2.out⟩
          case measure => simp [intOf]; omega
        have b3 : (o.kind == 3) = false := by simpa using k3
        by_cases k4 : o.kind = 4
        · have hcall := hid (wraw w.heap.size v (.slice o.ba o.bs.length o.bc) _ o.bs W hwr.out hsW.out (by have := hol.out; have := hi40.out; omega) (by have := hl60.out; omega))
          have hout := hid (show o.out = o.bs from by unfold OpR.out; simp [k4])
          rw [k4] at g0 HWW
          clear hi
          go_wp2_with fail
          rw [← HWW.out]
          refine hcall.out.mono ?_
          rintro e w2 ⟨rfl, hx⟩
          have hw2 := hid (FIN.out w2 (by rw [hout.out]; exact hx))
          clear hx
          go_wp2
          go_roundw
          case rel => exact ⟨i + 1, by omega, by go_num, hw2.out⟩
          case measure => simp [intOf]; omega
        have b4 : (o.kind == 4) = false := by simpa using k4
        have hout := hid (show o.out = [] from by unfold OpR.out; simp [k0, k1, k2, k3, k4])
        have hw2 := hid (show WriteAt w.heap.size w (outs (ops.take (i + 1))) W from by
          rw [hsn.out, hout.out, List.append_nil]
          exact ⟨hkk.out, v, hwr.out, HV.out⟩)
        clear hi k0 k1 k2 k3 k4
        go_wp2
        go_roundw
        case rel => exact ⟨i + 1, by omega, by go_num, by rw [← HWW.out]; exact hw2.out⟩
        case measure => simp [intOf]; omega
    · have hin : i = ops.length := by omega
      subst hin
      obtain ⟨hk, v, hwr, hv⟩ := HW.out
      rw [List.take_length] at hwr
      have hd := hid (wdone w.heap.size v _ wr hwr (by have := outs_len HS.out ops.length; rw [List.take_length] at this; omega))
      have Hk := hid hk
      clear hk hwr hv hfr
      go_wp2_with fail
      refine hd.out.mono ?_
      rintro e w2 ⟨a', c', rfl, hk2, hown⟩
      have Hk2 := hid (Hk.out.trans hk2)
      have hs0 := hid (Hk.out.size)
      have Ho := hid hown
      clear hk2 hown hd
      go_wp2
      go_ret
      exact ⟨a', c', wr.heap.size, rfl, Hk2.out, hs0.out, Ho.out⟩
end Go.Proofs.Ytijkpnggehnmcaa
