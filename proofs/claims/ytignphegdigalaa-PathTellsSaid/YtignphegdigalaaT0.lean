/- coldstoreref05: Parts, Part, Right. -/
import Derived.Test.YtignphegdigalaaTM
namespace Go.Proofs.Ytignphegdigalaa
open Go.RowKit

theorem cut_mid (l : List UInt8) (m n : Nat) (h : m ≤ n) (h2 : n ≤ l.length) (W : World) : (Instr.sliceAt 9 (.string (S l)) (some (.int .i64 (m : Int))) (some (.int .i64 (n : Int))) none).run Try.prog W = .ok (.string (S ((l.take n).drop m))) W := by
  have hs := S_size l
  rw [run_sliceAt_string W 9 _ _ _ _ Try.underlying9, run_slice_string_if W 9 (S l) .i64 .i64 (m : Int) (n : Int) Try.underlying9, if_pos ⟨by omega, by omega⟩, if_pos ⟨by omega, by omega⟩, S_extract]
  simp

/-- What Parts' loop knows. -/
structure PtI (a : List UInt8) (w : World) (d : List (List UInt8)) (fr i : Nat) (v : Value) (wr : World) : Prop where
  no : 47 ∉ (a.take i).drop fr
  is : partsS a = d ++ partsS (a.drop fr)
  kept : Kept [] w wr
  row : wr.ownsRow w.heap.size 9 1 v d.length (tS d)
theorem parts_done {a : List UInt8} {fr : Nat} {d : List (List UInt8)} (hno : 47 ∉ (a.take a.length).drop fr) (h : partsS a = d ++ partsS (a.drop fr)) : partsS a = d ++ [a.drop fr] := by
  rw [List.take_length] at hno
  rw [h, parts_one _ hno]
theorem parts_next {a : List UInt8} {fr i : Nat} {d : List (List UInt8)} (hi : i < a.length) (hfr : fr ≤ i) (hc : a.getD i 0 = 47) (hno : 47 ∉ (a.take i).drop fr) (h : partsS a = d ++ partsS (a.drop fr)) : partsS a = (d ++ [(a.take i).drop fr]) ++ partsS (a.drop (i + 1)) := by
  have e : a.drop fr = (a.take i).drop fr ++ 47 :: a.drop (i + 1) := by
    have h1 : a.getD i 0 = a[i] := by simp [List.getD, hi]
    rw [h1] at hc
    conv => lhs; rw [← List.take_append_drop i a, List.drop_append_of_le_length (by rw [List.length_take]; omega), List.drop_eq_getElem_cons hi, hc]
  rw [h, e, parts_here _ _ hno]; simp
theorem no_next {a : List UInt8} {fr i : Nat} (hi : i < a.length) (hfr : fr ≤ i) (hc : a.getD i 0 ≠ 47) (hno : 47 ∉ (a.take i).drop fr) : 47 ∉ (a.take (i + 1)).drop fr := by
  have h1 : a.getD i 0 = a[i] := by simp [List.getD, hi]
  rw [h1] at hc
  rw [List.take_succ_eq_append_getElem hi, List.drop_append_of_le_length (by rw [List.length_take]; omega)]
  intro hm
  rcases List.mem_append.1 hm with hm | hm
  · exact hno hm
  · simp at hm; exact hc hm.symm

set_option maxRecDepth 100000 in
set_option maxHeartbeats 2000000 in
theorem rparts_any (a : List UInt8) (ha : a.length ≤ 100000000) (w : World) :
    Calls Try.prog 19 #[.string (S a)] w fun e w' => ∃ v, e = .returned v ∧ w'.ownsRow w.heap.size 9 1 v (partsS a).length (tS (partsS a)) ∧ Kept [] w w' := by
  have sa := S_size a
  obtain ⟨i0, hi0, hz0, hz1, hz2⟩ := info_parts info_str
  have hcount := partsS_count a
  go_enter Try.func19, Try.ntmps19
  go_wp2_with fail
  have hst0 : PtI a w [] 0 0 (.slice (some ⟨w.heap.size, 0, none⟩) 0 0) (w.alloc (.cells #[] 9)) := ⟨by simp, by simp, (Kept.refl _ _).alloc _, by simpa [tS] using World.ownsRow_made w (base := w.heap.size) (e := 9) (size := 1) #[] 0 (Nat.le_refl _) (by decide) (by simp)⟩
  go_loopw [3, 4, 5] (fun v f s wr => ∃ (d : List (List UInt8)) (fr i : Nat), fr ≤ i ∧ i ≤ a.length ∧ f = .int .i64 (fr : Int) ∧ s = .int .i64 (i : Int) ∧ Hid (PtI a w d fr i v wr)) (fun _ _ s _ => a.length - (intOf s).toNat)
  case atStart => exact ⟨[], 0, 0, by omega, by omega, rfl, rfl, hid hst0⟩
  case round =>
    clear hst0
    obtain ⟨d, fr, i, hfr, hi, rfl, rfl, hs⟩ := hrel
    have hdl : d.length ≤ a.length + 1 := by
      have := congrArg List.length hs.out.is
      rw [List.length_append] at this; omega
    have hbz := hs.out.kept.size
    obtain ⟨ov, oc, rfl⟩ := owns_slice1 hs.out.row
    by_cases hlt : i < a.length
    · have hx1 := fun W => str_index a i hlt W
      have hx2 := fun W => cut_mid a fr i hfr hi W
      obtain ⟨p, hp⟩ : ∃ p, p = a.getD i 0 := ⟨_, rfl⟩
      rw [← hp] at hx1
      by_cases hc : p = 47
      · have hn := hid (parts_next hlt hfr (hp ▸ hc) hs.out.no hs.out.is)
        obtain ⟨s, hse⟩ : ∃ s, s = (a.take i).drop fr := ⟨_, rfl⟩
        rw [← hse] at hx2 hn
        have hown := hs.out.row
        subst hc
        clear hp hse
        go_wp2_with (at_builtin; refine halt ?_)
        refine Halt.mk ?_
        refine wpList_append_own _ rfl _ _ _ rfl w.heap.size 9 i0 _ 1 16 Try.underlying49 hi0 hz0 hz1 hz2 rfl (by decide) (.slice ov d.length oc) d.length (tS d) rfl (hown.alloc _) ⟨wr.heap.size, 0, none⟩ 1 1 [.string (S s)] rfl rfl (cell_one_new _ _ _) (by simp [Value.oneCell']) (by unfold maxLen; omega) (by omega) (by simp; omega) ?_
        intro v2 w2 hown2 hgrow2 _
        have hk2 := hid (show Kept [] w w2 from (hs.out.kept.alloc _).trans' (Kept.of_row hgrow2) (fun y hy hm => by simp at hm; have := (hown.lt y hm).1; omega))
        have Hown2 := hid (show w2.ownsRow w.heap.size 9 1 v2 (d ++ [s]).length (tS (d ++ [s])) by simpa [tS] using hown2)
        obtain ⟨a2, c2, rfl⟩ := owns_slice1 hown2
        clear hown2 hgrow2 hown hx2
        go_wp2_with fail
        exact ⟨⟨d ++ [s], i + 1, i + 1, by omega, by omega, by go_num, by go_num, hid ⟨by simp, hn.out, hk2.out, Hown2.out⟩⟩, by simp [intOf]; omega⟩
      · have hn := hid (no_next hlt hfr (hp ▸ hc) hs.out.no)
        have hc2 : ((p.toNat : Int) == 47) = false := by
          have : p.toNat ≠ 47 := fun e => hc (UInt8.toNat_inj.1 e)
          simp; omega
        obtain ⟨pn, hpn⟩ : ∃ n, n = p.toNat := ⟨_, rfl⟩
        rw [← hpn] at hc2 hx1
        clear hp hc hpn
        go_wp2_with fail
        exact ⟨⟨d, fr, i + 1, by omega, by omega, rfl, by go_num, hid ⟨hn.out, hs.out.is, hs.out.kept, hs.out.row⟩⟩, by simp [intOf]; omega⟩
    · obtain rfl : a.length = i := by omega
      have hx2 := fun W => cut_from a fr hfr W
      have hd := hid (parts_done hs.out.no hs.out.is)
      obtain ⟨s, hse⟩ : ∃ s, s = a.drop fr := ⟨_, rfl⟩
      rw [← hse] at hx2 hd
      have hown := hs.out.row
      clear hse
      go_wp2_with (at_builtin; refine halt ?_)
      refine Halt.mk ?_
      refine wpList_append_own _ rfl _ _ _ rfl w.heap.size 9 i0 _ 1 16 Try.underlying49 hi0 hz0 hz1 hz2 rfl (by decide) (.slice ov d.length oc) d.length (tS d) rfl (hown.alloc _) ⟨wr.heap.size, 0, none⟩ 1 1 [.string (S s)] rfl rfl (cell_one_new _ _ _) (by simp [Value.oneCell']) (by unfold maxLen; omega) (by omega) (by simp; omega) ?_
      intro v2 w2 hown2 hgrow2 _
      have hk2 := hid (show Kept [] w w2 from (hs.out.kept.alloc _).trans' (Kept.of_row hgrow2) (fun y hy hm => by simp at hm; have := (hown.lt y hm).1; omega))
      have Hown2 := hid (show w2.ownsRow w.heap.size 9 1 v2 (d ++ [s]).length (tS (d ++ [s])) by simpa [tS] using hown2)
      obtain ⟨a2, c2, rfl⟩ := owns_slice1 hown2
      clear hown2 hgrow2 hown hx2
      go_wp2
      go_ret
      exact ⟨_, rfl, by rw [hd.out]; exact Hown2.out, hk2.out⟩

/-- A byte's range. -/
theorem okByte_ranges (c : UInt8) : (okByte c = true ∧ ((97 ≤ c.toNat ∧ c.toNat ≤ 122) ∨ (48 ≤ c.toNat ∧ c.toNat ≤ 57) ∨ c.toNat = 46 ∨ c.toNat = 95 ∨ c.toNat = 45)) ∨
    (okByte c = false ∧ (122 < c.toNat ∨ (57 < c.toNat ∧ c.toNat < 97 ∧ c.toNat ≠ 95) ∨ (c.toNat < 48 ∧ c.toNat ≠ 46 ∧ c.toNat ≠ 45))) := by
  have h46 : (c == 46) = decide (c.toNat = 46) := by rw [Bool.eq_iff_iff]; simp; exact ⟨fun h => by rw [h]; rfl, fun h => UInt8.toNat_inj.1 h⟩
  have h95 : (c == 95) = decide (c.toNat = 95) := by rw [Bool.eq_iff_iff]; simp; exact ⟨fun h => by rw [h]; rfl, fun h => UInt8.toNat_inj.1 h⟩
  have h45 : (c == 45) = decide (c.toNat = 45) := by rw [Bool.eq_iff_iff]; simp; exact ⟨fun h => by rw [h]; rfl, fun h => UInt8.toNat_inj.1 h⟩
  unfold okByte
  rw [h46, h95, h45]
  generalize c.toNat = n
  simp only [Bool.or_eq_true, Bool.or_eq_false_iff, decide_eq_true_eq, decide_eq_false_iff_not]
  omega
end Go.Proofs.Ytignphegdigalaa
