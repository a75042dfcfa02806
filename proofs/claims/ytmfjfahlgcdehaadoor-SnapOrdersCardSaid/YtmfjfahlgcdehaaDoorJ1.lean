import Derived.Test.YtmfjfahlgcdehaaDoorJ0

/- snap.Check. -/
namespace Go.Proofs.YtmfjfahlgcdehaaDoor
open Go.RowKit Go.Lib

set_option maxRecDepth 100000 in
set_option maxHeartbeats 2000000 in
theorem j_snapcheck (s : Sp) (h : s.ok) (w : World) :
    Calls Tryd.prog 35 #[.agg s.cells.toArray] w fun e w' => e = .returned (.int .i64 s.err) ∧ Kept [] w w' := by
  obtain ⟨cs, hcs⟩ : ∃ cs, cs = s.cells.toArray := ⟨_, rfl⟩
  have hA : At (w.alloc (.cells cs 28)) w.heap.size s := by rw [hcs]; exact heap_alloc_at rfl
  rw [← hcs]
  have g0 := hA.cell 0 _ s.c0
  have g1 := hA.cell 1 _ s.c1
  have g2 := hA.cell 2 _ s.c2
  have g35 := hA.cell 35 _ (Sp.c35 h)
  have g36 := hA.cell 36 _ (Sp.c36 h)
  have HA := hid hA
  have hk := hid (show Kept [] w (w.alloc (.cells cs 28)) from (Kept.refl [] w).alloc _)
  have hfar := hid (show s.far ↔ (s.time < 0 ∨ 1125899906842624 < s.time ∨ s.files < 0 ∨ 512 < s.files ∨ s.bytes < 0) from Iff.rfl)
  have herr := hid (show s.err = if s.far then 23 else if okPart s.host = true ∧ (s.tag = [] ∨ okPart s.tag = true) then 0 else 38 from rfl)
  clear hA hcs
  generalize s.time = t at *
  generalize s.files = f at *
  generalize s.bytes = b at *
  by_cases hf : s.far
  · have he := hid (herr.out.trans (if_pos hf))
    have hor := hfar.out.1 hf
    clear hf herr hfar g1 g2
    by_cases e1 : t < 0
    · clear hor
      go_enter Tryd.func35, Tryd.ntmps35
      go_wp2
      go_ret
      exact ⟨by rw [he.out]; rfl, hk.out⟩
    by_cases e2 : 1125899906842624 < t
    · clear hor
      go_enter Tryd.func35, Tryd.ntmps35
      go_wp2
      go_ret
      exact ⟨by rw [he.out]; rfl, hk.out⟩
    by_cases e3 : f < 0
    · clear hor
      go_enter Tryd.func35, Tryd.ntmps35
      go_wp2
      go_ret
      exact ⟨by rw [he.out]; rfl, hk.out⟩
    by_cases e4 : 512 < f
    · clear hor
      go_enter Tryd.func35, Tryd.ntmps35
      go_wp2
      go_ret
      exact ⟨by rw [he.out]; rfl, hk.out⟩
    have e5 : b < 0 := by omega
    clear hor
    go_enter Tryd.func35, Tryd.ntmps35
    go_wp2
    go_ret
    exact ⟨by rw [he.out]; rfl, hk.out⟩
  · have he := hid (herr.out.trans (if_neg hf))
    have hn : ¬ (t < 0 ∨ 1125899906842624 < t ∨ f < 0 ∨ 512 < f ∨ b < 0) := fun x => hf (hfar.out.2 x)
    have e1 : ¬ t < 0 := by omega
    have e2 : ¬ 1125899906842624 < t := by omega
    have e3 : ¬ f < 0 := by omega
    have e4 : ¬ 512 < f := by omega
    have e5 : ¬ b < 0 := by omega
    clear hn hf herr hfar
    have hp := hid (fun (a : List UInt8) (v : World) => j_part_snap a v)
    obtain ⟨q, hq⟩ : ∃ q, q = okPart s.host := ⟨_, rfl⟩
    obtain ⟨r, hr⟩ : ∃ r, r = okPart s.tag := ⟨_, rfl⟩
    have hq1 := hid hq; have hr1 := hid hr
    rw [← hq, ← hr] at he
    have hse := S_beq s.tag []
    clear hq hr
    cases q
    · have hee := he.out
      rw [if_neg (by simp)] at hee
      have hee := hid hee
      clear he
      go_enter Tryd.func35, Tryd.ntmps35
      go_wp2_with fail
      refine (hp.out s.host _).mono ?_
      rintro e w1 ⟨rfl, hk1⟩
      rw [← hq1.out]
      have Hk1 := hid (hk.out.trans hk1)
      clear hk1
      go_wp2
      go_ret
      exact ⟨by rw [hee.out]; rfl, Hk1.out⟩
    · go_enter Tryd.func35, Tryd.ntmps35
      go_wp2_with fail
      refine (hp.out s.host _).mono ?_
      rintro e w1 ⟨rfl, hk1⟩
      rw [← hq1.out]
      have g2' := (HA.out.kept hk1 (by simp)).cell 2 _ s.c2
      have Hk1 := hid (hk.out.trans hk1)
      clear hk1
      by_cases ht : s.tag = []
      · have hd : (S s.tag).toList.isEmpty = true := by rw [S_toList, ht]; rfl
        have hee := he.out
        rw [if_pos (by simp [ht])] at hee
        have hee := hid hee
        clear he ht hse
        go_wp2
        go_ret
        exact ⟨by rw [hee.out]; rfl, Hk1.out⟩
      · have hd : (S s.tag).toList.isEmpty = false := by rw [S_toList]; simpa using ht
        have hee := hid (show s.err = if r = true then 0 else 38 from by
          rw [he.out]
          cases r
          · rw [if_neg (by simp [ht]), if_neg (by simp)]
          · rw [if_pos (by simp), if_pos rfl])
        clear he ht hse
        go_wp2_with fail
        refine (hp.out s.tag _).mono ?_
        rintro e w2 ⟨rfl, hk2⟩
        rw [← hr1.out]
        have Hk2 := hid (Hk1.out.trans hk2)
        clear hk2 hr1
        cases r
        · go_wp2
          go_ret
          exact ⟨by rw [hee.out]; rfl, Hk2.out⟩
        · go_wp2
          go_ret
          exact ⟨by rw [hee.out]; rfl, Hk2.out⟩
end Go.Proofs.YtmfjfahlgcdehaaDoor
