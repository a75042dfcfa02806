/- PathParts: the walk. -/
import Derived.Test.YtcemgmikbcbofaaP19
namespace Go.Proofs.Ytcemgmikbcbofaa
open Go.RowKit

/-- One of the first beginnings is this directory. -/
def inL (K : List (List UInt8)) (dir : List UInt8) (j : Nat) : Bool := (List.range j).any fun i => decide (glueS (K.take (i + 1)) = dir)
theorem inL_succ (K : List (List UInt8)) (dir : List UInt8) (j : Nat) : inL K dir (j + 1) = (inL K dir j || decide (glueS (K.take (j + 1)) = dir)) := by
  unfold inL; rw [List.range_succ, List.any_append]; simp
theorem glue_cut (K : List (List UInt8)) (j : Nat) (h0 : 0 < j) (hj : j < K.length) : glueS K = glueS (K.take j) ++ 47 :: glueS (K.drop j) := by
  rw [← glue_app _ _ (List.ne_nil_of_length_pos (by rw [List.length_take]; omega)) (List.ne_nil_of_length_pos (by rw [List.length_drop]; omega)), List.take_append_drop]
theorem within_parts (p dir : List UInt8) : within p dir = (decide (dir = []) || inL (partsS p) dir ((partsS p).length - 1)) := by
  by_cases hd : dir = []
  · simp [within, hd]
  rw [decide_eq_false hd, Bool.false_or, Bool.eq_iff_iff, within_iff p dir hd]
  unfold inL
  rw [List.any_eq_true]
  constructor
  · rintro ⟨r, rfl⟩
    have h1 := List.length_pos_iff.2 (partsS_ne dir)
    have h2 := List.length_pos_iff.2 (partsS_ne r)
    refine ⟨(partsS dir).length - 1, ?_, ?_⟩
    · rw [List.mem_range, parts_app, List.length_append]; omega
    · rw [decide_eq_true_eq, parts_app, show (partsS dir).length - 1 + 1 = (partsS dir).length by omega, List.take_left', glue_parts]; rfl
  · rintro ⟨i, hi, he⟩
    rw [List.mem_range] at hi
    rw [decide_eq_true_eq] at he
    refine ⟨glueS ((partsS p).drop (i + 1)), ?_⟩
    rw [← he, ← glue_cut _ _ (by omega) (by omega), glue_parts]
theorem within_take (p : List UInt8) (h : okPath p = true) (j : Nat) (h0 : 0 < j) (hj : j < (partsS p).length) : within p (glueS ((partsS p).take j)) = true ∧ okPath (glueS ((partsS p).take j)) = true ∧ pless (glueS ((partsS p).take j)) p = true ∧ glueS ((partsS p).take j) ≠ [] := by
  have h1 := (okPath_iff p).1 h
  have hok : ∀ t ∈ (partsS p).take j, okPart t = true := fun t ht => h1.2 t (List.mem_of_mem_take ht)
  have hne : (partsS p).take j ≠ [] := List.ne_nil_of_length_pos (by rw [List.length_take]; omega)
  have hg := glue_ne _ hne hok
  have hc := glue_cut (partsS p) j h0 hj
  rw [glue_parts] at hc
  have hl : (glueS ((partsS p).take j)).length ≤ 120 := by
    have := congrArg List.length hc; simp at this; omega
  refine ⟨(within_iff _ _ hg).2 ⟨_, hc⟩, by rw [okPath_glue _ hne hok]; simpa using hl, ?_, hg⟩
  have h5 := pless_pref (glueS ((partsS p).take j)) 47 (glueS ((partsS p).drop j))
  rwa [← hc] at h5

set_option maxRecDepth 100000 in
set_option maxHeartbeats 8000000 in
theorem path_parts (p dir : List UInt8) (w : World) :
    Calls Try.prog 7 #[.string (S p), .string (S dir)] w fun e w' => e = .returned (.bool true) ∧ Kept [] w w' := by
  have hal := hid (alive5 w)
  have K := hid (pathK w)
  have sp := S_size p; have sd := S_size dir
  by_cases hok : okPath p = true
  case neg =>
    have e1 : CkF p 38 := ⟨pathErr_no (by simpa using hok)⟩
    clear hok
    go_enter Try.func7, Try.ntmps7
    go_wp2_with fail
    refine hal.out.mono ?_
    rintro e w1 ⟨rfl, k1⟩
    go_wp2_with fail
    refine (K.out.check p 38 e1 _ k1).mono ?_
    rintro e w2 ⟨rfl, k2⟩
    go_wp2
    go_ret
    exact ⟨rfl, k2⟩
  have e1 : CkF p 0 := ⟨pathErr_ok hok⟩
  by_cases hl : 120 < dir.length
  · clear hok
    go_enter Try.func7, Try.ntmps7
    go_wp2_with fail
    refine hal.out.mono ?_
    rintro e w1 ⟨rfl, k1⟩
    go_wp2_with fail
    refine (K.out.check p 0 e1 _ k1).mono ?_
    rintro e w2 ⟨rfl, k2⟩
    go_wp2
    go_ret
    exact ⟨rfl, k2⟩
  have h1 := (okPath_iff p).1 hok
  have hcount := partsS_count p
  have hparts := hid (fun v k => lparts_all p h1.1 w v k)
  have htake := hid (fun j h0 hj => within_take p hok j h0 hj)
  have hgl := glue_parts p
  have hpart := hid h1.2
  have hwp := within_parts p dir
  have hpl := h1.1
  have hr1 : (partsS p)[(partsS p).length - 1]? = some (baseL p) := by rw [(parent_parts p).2, ← List.getLast?_eq_getElem?, List.getLast?_eq_some_getLast (partsS_ne p)]
  have hq1 : glueS ((partsS p).take ((partsS p).length - 1)) = parentL p := by rw [(parent_parts p).1, List.dropLast_eq_take]
  have hn1 := List.length_pos_iff.2 (partsS_ne p)
  obtain ⟨q, hq⟩ : ∃ x, x = parentL p := ⟨_, rfl⟩
  obtain ⟨r, hr⟩ : ∃ x, x = baseL p := ⟨_, rfl⟩
  obtain ⟨L, hL⟩ : ∃ L, L = partsS p := ⟨_, rfl⟩
  obtain ⟨n, hn⟩ : ∃ n, n = L.length := ⟨_, rfl⟩
  rw [← hr] at hr1
  rw [← hq] at hq1
  rw [← hL] at hparts htake hgl hpart hwp hr1 hq1 hcount hn1
  rw [← hn] at hparts htake hwp hr1 hq1 hcount hn1
  have Hn := hid hn
  have Hr := hid hr.symm
  have Hq := hid hq.symm
  have Hr1 := hid hr1
  have Hq1 := hid hq1
  have Hgl := hid hgl
  have Hwp := hid hwp
  have hde := S_isE dir
  obtain ⟨d0, hd0⟩ : ∃ x, x = decide (dir = []) := ⟨_, rfl⟩
  rw [← hd0] at hde
  have Hd0 := hid hd0
  have hse : (S []).toList.isEmpty = true := by rw [S_isE]; rfl
  clear hok h1 hL hn hr hq hr1 hq1 hgl hwp hd0
  go_enter Try.func7, Try.ntmps7
  go_wp2_with fail
  refine hal.out.mono ?_
  rintro e w1 ⟨rfl, k1⟩
  go_wp2_with fail
  refine (K.out.check p 0 e1 _ k1).mono ?_
  rintro e w2 ⟨rfl, k2⟩
  go_wp2_with fail
  refine (hparts.out _ k2).mono ?_
  rintro e w3 ⟨g, cap, rfl, k3, hg, hcap, hcm, hcell⟩
  replace hcell := hid hcell
  have K3 := hid (pathK w3)
  go_wp2_with fail
  go_loopw [6, 7, 8, 27] (fun l _ _ i wr => ∃ j : Nat, j ≤ n ∧ l = .string (S (glueS (L.take j))) ∧ i = .int .i64 (j : Int) ∧ Hid (Kept [] w3 wr)) (fun _ _ _ i _ => n - (intOf i).toNat)
  case atStart => exact ⟨0, by omega, rfl, rfl, hid (Kept.refl _ _)⟩
  case round =>
    obtain ⟨j, hj, rfl, rfl, hk⟩ := hrel
    by_cases hlt : j < n
    · obtain ⟨s, hs⟩ : ∃ s, L[j]? = some s := ⟨L[j]'(by rw [← Hn.out]; exact hlt), List.getElem?_eq_getElem _⟩
      have hc0 := hcell.out j s hs
      have hgw := World.block_lt_of_cell? _ _ hc0
      have hc1 : wr.cell? ⟨g, j, none⟩ = some (.string (S s)) := (hk.out.cell hgw (by simp)).trans hc0
      clear hgw
      have hsok := hpart.out s (List.mem_of_getElem? hs)
      have f1 : CkF s 0 := ⟨pathErr_ok (okPath_one hsok)⟩
      have hjn : glueS (L.take (j + 1)) = joinL (glueS (L.take j)) s := by
        rw [join_glue _ _ (fun t ht => hpart.out t (List.mem_of_mem_take ht)), List.take_add_one, hs]; rfl
      have hs40 := (okPart_ne hsok).2.2.2
      have hlenp : p.length ≤ 1000000000 := by omega
      obtain ⟨u, hu⟩ : ∃ x, x = glueS (L.take j) := ⟨_, rfl⟩
      obtain ⟨u', hu'⟩ : ∃ x, x = glueS (L.take (j + 1)) := ⟨_, rfl⟩
      rw [← hu, ← hu'] at hjn
      rw [← hu]
      clear hc0
      by_cases hz : j = 0
      · have hu0 : u = [] := by rw [hu, hz]; rfl
        have hem : (S u).toList.isEmpty = true := by rw [S_isE, hu0]; rfl
        have fw : within p u = true := by rw [hu0]; rfl
        have ful : u.length ≤ 120 := by rw [hu0]; simp
        have fj : JF u s u' := ⟨hjn.symm, by omega, by omega⟩
        have Hu := hid hu'
        by_cases hq : u = dir
        · have heq : ((S u).toList == (S dir).toList) = true := by rw [S_beq, decide_eq_true hq]
          have fd : within p dir = true := hq ▸ fw
          have hde' : (S dir).toList.isEmpty = true := by rw [← hq]; exact hem
          rw [hde'] at hde
          subst hde
          by_cases hlast : j + 1 = n
          · have fb : baseL p = s := by
              rw [Hr.out]
              have h := Hr1.out
              rw [show n - 1 = j by omega, hs] at h
              exact (Option.some.inj h).symm
            have hb1 : ((j : Int) == (n : Int) - 1) = true := by simp; omega
            clear hlast hq hu hu' hjn hs hsok hu0
            clear hz
            go_wp2_with fail
            refine (K3.out.within p u true fw _ hk.out).mono ?_
            rintro e v1 ⟨rfl, m1⟩
            go_wp2_with fail
            refine (K3.out.check s 0 f1 _ m1).mono ?_
            rintro e v2 ⟨rfl, m2⟩
            go_wp2_with fail
            refine (K3.out.join u s u' fj _ m2).mono ?_
            rintro e v3 ⟨rfl, m3⟩
            go_wp2_with fail
            refine (K3.out.base p s fb (by omega) _ m3).mono ?_
            rintro e v4 ⟨rfl, m4⟩
            go_wp2_with fail
            exact ⟨⟨j + 1, by omega, by rw [Hu.out], by go_num, hid m4⟩, by simp [intOf]; omega⟩
          · have hb1 : ((j : Int) == (n : Int) - 1) = false := by simp; omega
            clear hlast hq hu hu' hjn hs hsok hu0
            clear hz
            go_wp2_with fail
            refine (K3.out.within p u true fw _ hk.out).mono ?_
            rintro e v1 ⟨rfl, m1⟩
            go_wp2_with fail
            refine (K3.out.check s 0 f1 _ m1).mono ?_
            rintro e v2 ⟨rfl, m2⟩
            go_wp2_with fail
            refine (K3.out.join u s u' fj _ m2).mono ?_
            rintro e v3 ⟨rfl, m3⟩
            go_wp2_with fail
            exact ⟨⟨j + 1, by omega, by rw [Hu.out], by go_num, hid m3⟩, by simp [intOf]; omega⟩
        · have heq : ((S u).toList == (S dir).toList) = false := by rw [S_beq, decide_eq_false hq]
          by_cases hlast : j + 1 = n
          · have fb : baseL p = s := by
              rw [Hr.out]
              have h := Hr1.out
              rw [show n - 1 = j by omega, hs] at h
              exact (Option.some.inj h).symm
            have hb1 : ((j : Int) == (n : Int) - 1) = true := by simp; omega
            clear hlast hq hu hu' hjn hs hsok hu0
            clear hz
            go_wp2_with fail
            refine (K3.out.within p u true fw _ hk.out).mono ?_
            rintro e v1 ⟨rfl, m1⟩
            go_wp2_with fail
            refine (K3.out.check s 0 f1 _ m1).mono ?_
            rintro e v2 ⟨rfl, m2⟩
            go_wp2_with fail
            refine (K3.out.join u s u' fj _ m2).mono ?_
            rintro e v3 ⟨rfl, m3⟩
            go_wp2_with fail
            refine (K3.out.base p s fb (by omega) _ m3).mono ?_
            rintro e v4 ⟨rfl, m4⟩
            go_wp2_with fail
            exact ⟨⟨j + 1, by omega, by rw [Hu.out], by go_num, hid m4⟩, by simp [intOf]; omega⟩
          · have hb1 : ((j : Int) == (n : Int) - 1) = false := by simp; omega
            clear hlast hq hu hu' hjn hs hsok hu0
            clear hz
            go_wp2_with fail
            refine (K3.out.within p u true fw _ hk.out).mono ?_
            rintro e v1 ⟨rfl, m1⟩
            go_wp2_with fail
            refine (K3.out.check s 0 f1 _ m1).mono ?_
            rintro e v2 ⟨rfl, m2⟩
            go_wp2_with fail
            refine (K3.out.join u s u' fj _ m2).mono ?_
            rintro e v3 ⟨rfl, m3⟩
            go_wp2_with fail
            exact ⟨⟨j + 1, by omega, by rw [Hu.out], by go_num, hid m3⟩, by simp [intOf]; omega⟩
      · have tk := htake.out j (by omega) hlt
        rw [← hu] at tk
        have hem : (S u).toList.isEmpty = false := by rw [S_isE]; exact decide_eq_false tk.2.2.2
        have fw : within p u = true := tk.1
        have fu : CkF u 0 := ⟨pathErr_ok tk.2.1⟩
        have fl : pless u p = true := tk.2.2.1
        have ful : u.length ≤ 120 := ((okPath_iff u).1 tk.2.1).1
        have fj : JF u s u' := ⟨hjn.symm, by omega, by omega⟩
        have Hu := hid hu'
        by_cases hq : u = dir
        · have heq : ((S u).toList == (S dir).toList) = true := by rw [S_beq, decide_eq_true hq]
          have fd : within p dir = true := hq ▸ fw
          have hde' : (S dir).toList.isEmpty = false := by rw [← hq]; exact hem
          rw [hde'] at hde
          subst hde
          by_cases hlast : j + 1 = n
          · have fb : baseL p = s := by
              rw [Hr.out]
              have h := Hr1.out
              rw [show n - 1 = j by omega, hs] at h
              exact (Option.some.inj h).symm
            have hb1 : ((j : Int) == (n : Int) - 1) = true := by simp; omega
            clear hlast hq hu hu' hjn hs hsok tk hz
            go_wp2_with fail
            refine (K3.out.within p u true fw _ hk.out).mono ?_
            rintro e v1 ⟨rfl, m1⟩
            go_wp2_with fail
            refine (K3.out.check s 0 f1 _ m1).mono ?_
            rintro e v2 ⟨rfl, m2⟩
            go_wp2_with fail
            refine (K3.out.check u 0 fu _ m2).mono ?_
            rintro e v3 ⟨rfl, m3⟩
            go_wp2_with fail
            refine (K3.out.less u p true fl (by omega) (by omega) _ m3).mono ?_
            rintro e v4 ⟨rfl, m4⟩
            go_wp2_with fail
            refine (K3.out.within p dir true fd _ m4).mono ?_
            rintro e v5 ⟨rfl, m5⟩
            go_wp2_with fail
            refine (K3.out.join u s u' fj _ m5).mono ?_
            rintro e v6 ⟨rfl, m6⟩
            go_wp2_with fail
            refine (K3.out.base p s fb (by omega) _ m6).mono ?_
            rintro e v7 ⟨rfl, m7⟩
            go_wp2_with fail
            exact ⟨⟨j + 1, by omega, by rw [Hu.out], by go_num, hid m7⟩, by simp [intOf]; omega⟩
          · have hb1 : ((j : Int) == (n : Int) - 1) = false := by simp; omega
            clear hlast hq hu hu' hjn hs hsok tk hz
            go_wp2_with fail
            refine (K3.out.within p u true fw _ hk.out).mono ?_
            rintro e v1 ⟨rfl, m1⟩
            go_wp2_with fail
            refine (K3.out.check s 0 f1 _ m1).mono ?_
            rintro e v2 ⟨rfl, m2⟩
            go_wp2_with fail
            refine (K3.out.check u 0 fu _ m2).mono ?_
            rintro e v3 ⟨rfl, m3⟩
            go_wp2_with fail
            refine (K3.out.less u p true fl (by omega) (by omega) _ m3).mono ?_
            rintro e v4 ⟨rfl, m4⟩
            go_wp2_with fail
            refine (K3.out.within p dir true fd _ m4).mono ?_
            rintro e v5 ⟨rfl, m5⟩
            go_wp2_with fail
            refine (K3.out.join u s u' fj _ m5).mono ?_
            rintro e v6 ⟨rfl, m6⟩
            go_wp2_with fail
            exact ⟨⟨j + 1, by omega, by rw [Hu.out], by go_num, hid m6⟩, by simp [intOf]; omega⟩
        · have heq : ((S u).toList == (S dir).toList) = false := by rw [S_beq, decide_eq_false hq]
          by_cases hlast : j + 1 = n
          · have fb : baseL p = s := by
              rw [Hr.out]
              have h := Hr1.out
              rw [show n - 1 = j by omega, hs] at h
              exact (Option.some.inj h).symm
            have hb1 : ((j : Int) == (n : Int) - 1) = true := by simp; omega
            clear hlast hq hu hu' hjn hs hsok tk hz
            go_wp2_with fail
            refine (K3.out.within p u true fw _ hk.out).mono ?_
            rintro e v1 ⟨rfl, m1⟩
            go_wp2_with fail
            refine (K3.out.check s 0 f1 _ m1).mono ?_
            rintro e v2 ⟨rfl, m2⟩
            go_wp2_with fail
            refine (K3.out.check u 0 fu _ m2).mono ?_
            rintro e v3 ⟨rfl, m3⟩
            go_wp2_with fail
            refine (K3.out.less u p true fl (by omega) (by omega) _ m3).mono ?_
            rintro e v4 ⟨rfl, m4⟩
            go_wp2_with fail
            refine (K3.out.join u s u' fj _ m4).mono ?_
            rintro e v5 ⟨rfl, m5⟩
            go_wp2_with fail
            refine (K3.out.base p s fb (by omega) _ m5).mono ?_
            rintro e v6 ⟨rfl, m6⟩
            go_wp2_with fail
            exact ⟨⟨j + 1, by omega, by rw [Hu.out], by go_num, hid m6⟩, by simp [intOf]; omega⟩
          · have hb1 : ((j : Int) == (n : Int) - 1) = false := by simp; omega
            clear hlast hq hu hu' hjn hs hsok tk hz
            go_wp2_with fail
            refine (K3.out.within p u true fw _ hk.out).mono ?_
            rintro e v1 ⟨rfl, m1⟩
            go_wp2_with fail
            refine (K3.out.check s 0 f1 _ m1).mono ?_
            rintro e v2 ⟨rfl, m2⟩
            go_wp2_with fail
            refine (K3.out.check u 0 fu _ m2).mono ?_
            rintro e v3 ⟨rfl, m3⟩
            go_wp2_with fail
            refine (K3.out.less u p true fl (by omega) (by omega) _ m3).mono ?_
            rintro e v4 ⟨rfl, m4⟩
            go_wp2_with fail
            refine (K3.out.join u s u' fj _ m4).mono ?_
            rintro e v5 ⟨rfl, m5⟩
            go_wp2_with fail
            exact ⟨⟨j + 1, by omega, by rw [Hu.out], by go_num, hid m5⟩, by simp [intOf]; omega⟩
    · obtain rfl : j = n := by omega
      have htk : L.take j = L := List.take_of_length_le (by rw [← Hn.out]; omega)
      rw [htk, Hgl.out]
      clear htk
      obtain ⟨m, rfl⟩ : ∃ m, j = m + 1 := ⟨j - 1, by omega⟩
      rw [show ((m + 1 : Nat) : Int) = (m : Int) + 1 by omega]
      have fw : within p dir = (d0 || inL L dir m) := by rw [Hwp.out, Hd0.out]; rfl
      have fg : glueS (L.take m) = q := by have h := Hq1.out; simpa using h
      have hpp : ((S p).toList == (S p).toList) = true := by simp
      have hqq : ((S q).toList == (S q).toList) = true := by simp
      have Fg := hid fg
      have Hlt := hid (show ∀ k, k < m → ∃ s, L[k]? = some s from fun k hk => ⟨L[k]'(by rw [← Hn.out]; omega), List.getElem?_eq_getElem _⟩)
      have hlenp : p.length ≤ 1000000000 := by omega
      have hcap' : m + 1 ≤ cap := hcap
      have hm2 : m ≤ 200 := by omega
      clear fg hlt hj hcap hcount hparts Hr Hr1 Hgl Hq1 Hwp
      have k4 := hk.out
      clear hk
      go_wp2_with fail
      go_loopw [9, 10, 12, 92] (fun b h _ i wx => ∃ k : Nat, k ≤ m ∧ b = .bool (d0 || inL L dir k) ∧ h = .string (S (glueS (L.take k))) ∧ i = .int .i64 (k : Int) ∧ Hid (Kept [] w3 wx)) (fun _ _ _ i _ => m - (intOf i).toNat)
      case atStart => exact ⟨0, by omega, by simp [inL, hde], rfl, rfl, hid k4⟩
      case round =>
        obtain ⟨k, hk, rfl, rfl, rfl, hkk⟩ := hrel
        by_cases hlt : k < m
        · obtain ⟨s, hs⟩ := Hlt.out k hlt
          have hc0 := hcell.out k s hs
          have hc1 : wr.cell? ⟨g, k, none⟩ = some (.string (S s)) := (hkk.out.cell (World.block_lt_of_cell? _ _ hc0) (by simp)).trans hc0
          have hjn : glueS (L.take (k + 1)) = joinL (glueS (L.take k)) s := by
            rw [join_glue _ _ (fun t ht => hpart.out t (List.mem_of_mem_take ht)), List.take_add_one, hs]; rfl
          have hs40 := (okPart_ne (hpart.out s (List.mem_of_getElem? hs))).2.2.2
          have hul : (glueS (L.take k)).length ≤ 1000000000 := by
            by_cases hk0 : k = 0
            · rw [hk0]; simp [glueS, Lib.join]
            · have := ((okPath_iff _).1 ((htake.out k (by omega) (by omega)).2.1)).1; omega
          have hin := inL_succ L dir k
          obtain ⟨u, hu⟩ : ∃ x, x = glueS (L.take k) := ⟨_, rfl⟩
          obtain ⟨u', hu'⟩ : ∃ x, x = glueS (L.take (k + 1)) := ⟨_, rfl⟩
          obtain ⟨b0, hb0⟩ : ∃ x, x = (d0 || inL L dir k) := ⟨_, rfl⟩
          have fj : JF u s u' := ⟨by rw [hu, hu']; exact hjn.symm, by rw [hu]; exact hul, by omega⟩
          have hbe : ((S u').toList == (S dir).toList) = decide (u' = dir) := S_beq _ _
          have hb1 : (d0 || inL L dir (k + 1)) = (b0 || decide (u' = dir)) := by rw [hin, hb0, hu', Bool.or_assoc]
          rw [← hu, ← hb0]
          have Hb1 := hid hb1
          have Hu := hid hu'
          clear hu hu' hb0 hb1 hjn hin hul hs40 hs hc0 fw
          cases b0 with
          | true =>
            go_wp2_with fail
            refine (K3.out.join u s u' fj _ hkk.out).mono ?_
            rintro e v1 ⟨rfl, m1⟩
            go_wp2_with fail
            exact ⟨⟨k + 1, by omega, by rw [Hb1.out]; rfl, by rw [Hu.out], by go_num, hid m1⟩, by simp [intOf]; omega⟩
          | false =>
            obtain ⟨b1, hb1⟩ : ∃ x, x = decide (u' = dir) := ⟨_, rfl⟩
            rw [← hb1] at hbe
            have Hb := hid hb1
            clear hb1
            go_wp2_with fail
            refine (K3.out.join u s u' fj _ hkk.out).mono ?_
            rintro e v1 ⟨rfl, m1⟩
            go_wp2_with fail
            exact ⟨⟨k + 1, by omega, by rw [Hb1.out, ← Hb.out]; rfl, by rw [Hu.out], by go_num, hid m1⟩, by simp [intOf]; omega⟩
        · obtain rfl : k = m := by omega
          rw [Fg.out]
          have k5 := hkk.out
          have hfq := Hq.out
          obtain ⟨b0, hb0⟩ : ∃ x, x = (d0 || inL L dir k) := ⟨_, rfl⟩
          rw [← hb0] at fw ⊢
          clear hb0 hkk hk hlt
          cases b0 <;>
          · go_wp2_with fail
            refine (K3.out.within p dir _ fw _ k5).mono ?_
            rintro e v1 ⟨rfl, m1⟩
            go_wp2_with fail
            refine (K3.out.parent p q hfq hlenp _ m1).mono ?_
            rintro e v2 ⟨rfl, m2⟩
            go_wp2
            go_ret
            exact ⟨rfl, k3.trans m2⟩
end Go.Proofs.Ytcemgmikbcbofaa
