/- coldstoreref05: Glue, Cut, Within. -/
import Derived.Test.YtignphegdigalaaT1
namespace Go.Proofs.Ytignphegdigalaa
open Go.RowKit

/-- What stands of a glued text. -/
theorem glue_next {L : List (List UInt8)} {i : Nat} {s : List UInt8} (hs : L[i]? = some s) : glueS (L.take (i + 1)) = if i = 0 then s else glueS (L.take i) ++ 47 :: s := by
  rw [List.take_add_one, hs]
  by_cases h : i = 0
  · rw [if_pos h, h]; exact glue_one s
  · rw [if_neg h]
    refine glue_snoc _ s ?_
    intro e
    have h1 := congrArg List.length e
    rw [List.length_take, List.length_nil] at h1
    have h2 : i < L.length := by
      rcases Nat.lt_or_ge i L.length with h | h
      · exact h
      · rw [List.getElem?_eq_none h] at hs; cases hs
    omega
theorem glue_take_len (L : List (List UInt8)) : ∀ i, (glueS (L.take i)).length ≤ (glueS L).length := fun i => by
  by_cases h1 : L.take i = []
  · rw [h1, glue_nil]; simp
  · by_cases h2 : L.drop i = []
    · have := List.take_append_drop i L
      rw [h2, List.append_nil] at this
      rw [this]; exact Nat.le_refl _
    · conv => rhs; rw [← List.take_append_drop i L, glue_app _ _ h1 h2, List.length_append]
      omega

set_option maxRecDepth 100000 in
set_option maxHeartbeats 2000000 in
theorem rglue_any (av : Option Addr) (c : Nat) (L : List (List UInt8)) (w : World) (h : TR w av L) (hn : L.length ≤ 200000000) (hl : (glueS L).length ≤ 100000000) :
    Calls Try.prog 54 #[.slice av L.length c] w fun e w' => e = .returned (.string (S (glueS L))) ∧ w = w' := by
  obtain ⟨n, hn'⟩ : ∃ n, n = L.length := ⟨_, rfl⟩
  have hget := hid (fun j (hj : j < n) => (⟨L[j]'(hn' ▸ hj), List.getElem?_eq_getElem _⟩ : ∃ x, L[j]? = some x))
  have Hn := hid hn'
  have hlen := hid (fun i => Nat.le_trans (glue_take_len L i) hl)
  have Htr := hid h
  rw [← hn'] at hn ⊢
  clear hn' hl h
  go_enter Try.func54, Try.ntmps54
  go_wp2_with fail
  go_loopw [3, 4] (fun o v wr => ∃ i : Nat, i ≤ n ∧ v = .int .i64 i ∧ o = .string (S (glueS (L.take i))) ∧ w = wr) (fun _ v _ => n - (intOf v).toNat)
  case atStart => exact ⟨0, Nat.zero_le _, rfl, rfl, rfl⟩
  case round =>
    obtain ⟨i, hi, rfl, rfl, rfl⟩ := hrel
    by_cases hlt : i < n
    · obtain ⟨s, hs⟩ := hget.out i hlt
      obtain ⟨g, rfl, hcell⟩ := Htr.out i s hs
      have hg := glue_next hs
      have hl1 := hlen.out (i + 1)
      by_cases hz : i = 0
      · rw [if_pos hz] at hg
        subst hz
        rw [hg] at hl1
        rw [show glueS (L.take 0) = [] from rfl]
        have a1 := S_append [] s
        rw [List.nil_append] at a1
        have z1 : ¬ 9223372036854775807 < (S []).size + (S s).size := by rw [S_size, S_size]; simp; omega
        have Hg := hid hg
        clear hs hg hl1
        go_wp2_with fail
        exact ⟨⟨1, by omega, by go_num, by rw [Hg.out], by first | rfl | trivial⟩, by simp [intOf]; omega⟩
      · rw [if_neg hz] at hg
        rw [hg] at hl1
        obtain ⟨u, hu⟩ : ∃ u, u = glueS (L.take i) := ⟨_, rfl⟩
        rw [← hu] at hg hl1 ⊢
        have a1 := S_append u [47]
        rw [show S [47] = ⟨#[47]⟩ from rfl] at a1
        have a2 := S_append (u ++ [47]) s
        rw [List.append_assoc, List.singleton_append] at a2
        simp only [List.length_append, List.length_cons] at hl1
        have z1 : ¬ 9223372036854775807 < (S u).size + 1 := by rw [S_size]; omega
        have z2 : ¬ 9223372036854775807 < (S (u ++ [47])).size + (S s).size := by rw [S_size, S_size]; simp; omega
        have hi0 : 0 < i := by omega
        have Hg := hid hg
        clear hs hg hl1 hu hz
        go_wp2_with fail
        exact ⟨⟨i + 1, by omega, by go_num, by rw [Hg.out], by first | rfl | trivial⟩, by simp [intOf]; omega⟩
    · obtain rfl : i = n := by omega
      have htk : L.take i = L := List.take_of_length_le (by rw [← Hn.out]; omega)
      rw [htk]
      clear htk
      go_wp2
      go_ret
      exact ⟨rfl, rfl⟩

theorem cut_head (g m n c : Nat) (h : m ≤ c) (W : World) : (Instr.sliceAt 49 (.slice (some ⟨g, 0, none⟩) n c) none (some (.int .i64 (m : Int))) none).run Try.prog W = .ok (.slice (some ⟨g, 0, none⟩) m c) W := by
  rw [run_sliceAt_slice W 49 _ _ _ _ (by simp [Program.elem, Try.underlying49])]
  have hs : (sizeOf 9).run Try.prog W = .ok 1 W := by kernel_rfl
  rw [run_slice_h W 49 _ _ _ (by simp [Program.elem, Try.underlying49]) .i64 (m : Int) (by omega) (by omega)]
  have he : Try.prog.elem 49 = 9 := by simp [Program.elem, Try.underlying49]
  have ha : (⟨g, 0, none⟩ : Addr).add 0 = ⟨g, 0, none⟩ := by unfold Addr.add; split <;> simp_all
  rw [he, hs]
  simp [Result.andThen, sliced, ha]

set_option maxRecDepth 100000 in
set_option maxHeartbeats 2000000 in
theorem rcut_any (a : List UInt8) (ha : a.length ≤ 100000000) (w : World) :
    Calls Try.prog 18 #[.string (S a)] w fun e w' => e = .returned (.tuple #[.string (S (parentL a)), .string (S (baseL a))]) ∧ Kept [] w w' := by
  have sa := S_size a
  have hp := hid (rparts_any a ha w)
  obtain ⟨P, hP⟩ : ∃ P, P = parentL a := ⟨_, rfl⟩
  obtain ⟨b, hb⟩ : ∃ b, b = baseL a := ⟨_, rfl⟩
  rw [← hP, ← hb]
  go_enter Try.func18, Try.ntmps18
  go_wp2_with fail
  refine hp.out.mono ?_
  rintro e w1 ⟨v, rfl, hown, hk⟩
  obtain ⟨av, cv, rfl, hc1, hc2, htr, -⟩ := tr_of_own hown
  unfold maxLen at hc2
  have hcount := partsS_count a
  have h1 := (parent_parts a).1
  have h2 := (parent_parts a).2
  rw [← hP] at h1; rw [← hb] at h2
  obtain ⟨m, hm⟩ : ∃ m, (partsS a).length = m + 1 := ⟨(partsS a).length - 1, by have := List.length_pos_iff.2 (partsS_ne a); omega⟩
  have hlast : (partsS a)[m]? = some b := by rw [h2, List.getLast_eq_getElem, List.getElem?_eq_getElem (by omega)]; congr 2; omega
  obtain ⟨g, rfl, hcell⟩ := htr m b hlast
  have htk : (partsS a).take m = (partsS a).dropLast := by rw [List.dropLast_eq_take]; congr 1; omega
  have htm := hid (htr.take m)
  have hgl := hid (fun k => (show Calls Try.prog 54 #[.slice (some ⟨g, 0, none⟩) m cv] (w1.drewN k) (fun e w' => e = .returned (.string (S P)) ∧ w' = w1.drewN k) from by
    have h := rglue_any (some ⟨g, 0, none⟩) cv ((partsS a).take m) (w1.drewN k) (htm.out.kept ((Kept.refl [] w1).drewN k)) (by rw [List.length_take]; omega) (by rw [htk, ← h1, hP]; unfold parentL; rw [List.length_take]; omega)
    rw [show ((partsS a).take m).length = m by rw [List.length_take]; omega, htk, ← h1] at h
    exact h.mono fun e w' h => ⟨h.1, h.2.symm⟩))
  have Hk := hid hk
  rw [hm] at hc1 hcount ⊢
  clear hp hown htr h1 h2 hlast htk hP hb hk hm htm
  have hsl := fun W => cut_head g m (m + 1) cv (by omega) W
  have q1 : (m : Int) < (m : Int) + 1 := by omega
  have q2 : m < m + 1 := by omega
  have hwm : IntKind.i64.wrap (m : Int) = (m : Int) := by rw [IntKind.wrap_i64]; omega
  go_wp2_with fail
  go_quiet ((go_at_call 54; exact Calls.quiet_of_same (hgl.out _)))
  have hk2 := hid (Hk.out.drewN nq)
  generalize w1.drewN nq = W3 at *
  go_wp2
  go_ret2
  exact ⟨rfl, hk2.out⟩

theorem within_def (p d : List UInt8) (hd : d ≠ []) : within p d = (decide (d.length < p.length) && (decide (p.take d.length = d) && decide (p.getD d.length 0 = 47))) := by
  rw [Bool.eq_iff_iff, within_iff p d hd]
  simp only [Bool.and_eq_true, decide_eq_true_eq]
  constructor
  · rintro ⟨r, rfl⟩
    refine ⟨by simp, by simp, by simp [List.getD]⟩
  · rintro ⟨h1, h2, h3⟩
    refine ⟨p.drop (d.length + 1), ?_⟩
    conv => lhs; rw [← List.take_append_drop d.length p, h2, List.drop_eq_getElem_cons h1]
    simp [List.getD, h1] at h3
    rw [h3]

set_option maxRecDepth 100000 in
set_option maxHeartbeats 2000000 in
theorem rwithin_any (p d : List UInt8) (hp : p.length ≤ 100000000) (hdl : d.length ≤ 100000000) (w : World) :
    Calls Try.prog 28 #[.string (S p), .string (S d)] w fun e w' => e = .returned (.bool (within p d)) ∧ Kept [] w w' := by
  have sp := S_size p; have sd := S_size d
  by_cases hd : d = []
  · have hr := hid (show within p d = true by unfold within; simp [hd])
    have hz : d.length = 0 := by simp [hd]
    rw [hz] at sd
    clear hd hz
    go_enter Try.func28, Try.ntmps28
    go_wp2
    go_ret
    exact ⟨by rw [hr.out]; rfl, Kept.refl _ _⟩
  have hr := hid (within_def p d hd)
  have hz : 0 < d.length := List.length_pos_iff.2 hd
  have hz2 : ((d.length : Int) == 0) = false := by simp; omega
  obtain ⟨n, hn⟩ : ∃ n, n = d.length := ⟨_, rfl⟩
  rw [← hn] at sd hz hz2 hdl hr
  clear hd
  by_cases hlt : n < p.length
  · have hx1 := fun W => str_index p n hlt W
    have hx2 := fun W => cut_to p n (by omega) W
    have hb := S_beq (p.take n) d
    obtain ⟨x, hx⟩ : ∃ x, x = p.take n := ⟨_, rfl⟩
    obtain ⟨y, hy⟩ : ∃ y, y = p.getD n 0 := ⟨_, rfl⟩
    rw [← hx] at hx2 hb hr
    rw [← hy] at hx1 hr
    rw [decide_eq_true hlt, Bool.true_and] at hr
    by_cases hxd : x = d
    · rw [decide_eq_true hxd] at hr hb
      rw [Bool.true_and] at hr
      have hf := hid (show within p d = ((y.toNat : Int) == 47) by
        rw [hr.out, Bool.eq_iff_iff]; simp
        exact ⟨fun h => by rw [h]; rfl, fun h => UInt8.toNat_inj.1 (by have : y.toNat = 47 := by omega
                                                                       rw [this]; rfl)⟩)
      clear hr hx hy hxd hn
      go_enter Try.func28, Try.ntmps28
      go_wp2
      go_ret
      exact ⟨by rw [hf.out]; rfl, Kept.refl _ _⟩
    · rw [decide_eq_false hxd] at hr hb
      rw [Bool.false_and] at hr
      have hf := hid hr.out
      clear hr hx hy hxd hn
      go_enter Try.func28, Try.ntmps28
      go_wp2
      go_ret
      exact ⟨by rw [hf.out]; rfl, Kept.refl _ _⟩
  · rw [decide_eq_false hlt, Bool.false_and] at hr
    have hf := hid hr.out
    clear hr hn
    go_enter Try.func28, Try.ntmps28
    go_wp2
    go_ret
    exact ⟨by rw [hf.out]; rfl, Kept.refl _ _⟩
end Go.Proofs.Ytignphegdigalaa
