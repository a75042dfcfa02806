/- coldstoreref05.Clean. -/
import Derived.Test.YtignphegdigalaaT3
namespace Go.Proofs.Ytignphegdigalaa
open Go.RowKit

/-- What Clean's loop knows. -/
structure CnI (L : List (List UInt8)) (w : World) (i : Nat) (k : List (List UInt8)) (ov : Option Addr) (oc : Nat) (wr : World) : Prop where
  is : foldS [] (L.take i) = some k
  ok : ∀ t ∈ k, okPart t = true
  kept : Kept [] w wr
  row : TR wr ov k
  cap : k.length ≤ oc ∧ oc ≤ 9223372036854775807
  addr : ∃ g, ov = some ⟨g, 0, none⟩
theorem CnI.len {L : List (List UInt8)} {w : World} {i : Nat} {k : List (List UInt8)} {ov : Option Addr} {oc : Nat} {wr : World} (h : CnI L w i k ov oc wr) : k.length ≤ i ∧ (glueS k).length ≤ 41 * k.length :=
  ⟨by have := foldS_len _ _ _ h.is; rw [List.length_take] at this; simp at this; omega, glue_len k (fun s hs => okPart_len (h.ok s hs))⟩
/-- What Clean hands back. -/
def clV (m : Option (List UInt8)) : Value := .tuple #[.string (S (m.getD [])), .bool m.isSome]

set_option maxRecDepth 100000 in
set_option maxHeartbeats 4000000 in
theorem rclean_any (a : List UInt8) (ha : a.length ≤ 1000000) (w : World) :
    Calls Try.prog 17 #[.string (S a)] w fun e w' => e = .returned (clV (meantS a)) ∧ Kept [] w w' := by
  have hp := hid (rparts_any a (by omega) w)
  have hlen := hid (fun x hx => partsS_len a x hx)
  have hdead := hid (fun h => meant_dead (a := a) h)
  have hlive := hid (fun k h hk => meant_of (a := a) (k := k) h hk)
  obtain ⟨m, hm⟩ : ∃ m, m = meantS a := ⟨_, rfl⟩
  rw [← hm] at hdead hlive ⊢
  obtain ⟨i0, hi0, hz0, hz1, hz2⟩ := info_parts info_str
  clear hm
  go_enter Try.func17, Try.ntmps17
  go_wp2_with fail
  refine hp.out.mono ?_
  rintro e w1 ⟨v, rfl, hown, hk⟩
  obtain ⟨av, cv, rfl, hc1, hc2, htr, -⟩ := tr_of_own hown
  unfold maxLen at hc2
  have Htr := hid htr; have Hk := hid hk
  have hcount := partsS_count a
  obtain ⟨L, hL⟩ : ∃ L, L = partsS a := ⟨_, rfl⟩
  rw [← hL] at Htr hlen hcount hdead hlive hc1 ⊢
  obtain ⟨n, hn⟩ : ∃ n, n = L.length := ⟨_, rfl⟩
  have hget := hid (fun j (hj : j < n) => (⟨L[j]'(hn ▸ hj), List.getElem?_eq_getElem _⟩ : ∃ x, L[j]? = some x))
  have Hn := hid hn
  rw [← hn] at hcount hc1 ⊢
  clear hL hn hown htr hk hp
  go_wp2_with fail
  have hst0 : CnI L w1 0 [] (some ⟨w1.heap.size, 0, none⟩) 0 (w1.alloc (.cells #[] 9)) := ⟨rfl, fun t ht => by simp at ht, (Kept.refl _ _).alloc _, fun j x hj => by simp at hj, by simp, ⟨_, rfl⟩⟩
  go_loopw [5, 6] (fun o v wr => ∃ (i : Nat) (k : List (List UInt8)) (ov : Option Addr) (oc : Nat), i ≤ n ∧ v = .int .i64 (i : Int) ∧ o = .slice ov k.length oc ∧ Hid (CnI L w1 i k ov oc wr)) (fun _ v _ => n - (intOf v).toNat)
  case atStart => exact ⟨0, [], _, _, Nat.zero_le _, rfl, rfl, hid hst0⟩
  case round =>
    clear hst0
    obtain ⟨i, k, ov, oc, hi, rfl, rfl, hs⟩ := hrel
    have hkl := hs.out.len
    have hcap := hs.out.cap
    by_cases hlt : i < n
    · obtain ⟨s, hse⟩ := hget.out i hlt
      obtain ⟨g, rfl, hcell⟩ := (Htr.out.kept hs.out.kept) i s hse
      have hsl := hlen.out s (List.mem_of_getElem? hse)
      have hfold := fold_take hse hs.out.is
      have hb0 : (S s).toList.isEmpty = decide (s = []) := S_isE s
      have hb1 : ((S s).toList == [46]) = decide (s = [46]) := by rw [S_toList]; by_cases h : s = [46] <;> simp [h]
      have hb2 : ((S s).toList == [46, 46]) = decide (s = [46, 46]) := by rw [S_toList]; by_cases h : s = [46, 46] <;> simp [h]
      by_cases c1 : s = []
      · rw [show folS k s = some k by unfold folS; rw [if_pos (.inl c1)]] at hfold
        have hs2 := hid (show CnI L w1 (i + 1) k ov oc wr from ⟨hfold, hs.out.ok, hs.out.kept, hs.out.row, hs.out.cap, hs.out.addr⟩)
        rw [decide_eq_true c1] at hb0
        clear hfold c1 hse hb1 hb2
        go_wp2_with fail
        exact ⟨⟨i + 1, k, ov, oc, by omega, by go_num, rfl, hs2⟩, by simp [intOf]; omega⟩
      rw [decide_eq_false c1] at hb0
      by_cases c2 : s = [46]
      · rw [show folS k s = some k by unfold folS; rw [if_pos (.inr c2)]] at hfold
        have hs2 := hid (show CnI L w1 (i + 1) k ov oc wr from ⟨hfold, hs.out.ok, hs.out.kept, hs.out.row, hs.out.cap, hs.out.addr⟩)
        rw [decide_eq_true c2] at hb1
        clear hfold c1 c2 hse hb2
        go_wp2_with fail
        exact ⟨⟨i + 1, k, ov, oc, by omega, by go_num, rfl, hs2⟩, by simp [intOf]; omega⟩
      rw [decide_eq_false c2] at hb1
      by_cases c3 : s = [46, 46]
      · rw [decide_eq_true c3] at hb2
        by_cases hke : k = []
        · have hd : folS k s = none := by unfold folS; rw [if_neg (by simp [c1, c2]), if_pos c3, if_pos hke]
          have hmd := hid (hdead.out (fold_dead hse hs.out.is hd))
          have hkl0 : k.length = 0 := by rw [hke]; rfl
          have hkp := hid (Hk.out.trans hs.out.kept)
          rw [hkl0]
          clear hd hke hfold c1 c2 c3 hse hkl
          go_wp2
          go_ret2
          exact ⟨by rw [hmd.out]; rfl, hkp.out⟩
        · rw [show folS k s = some k.dropLast by unfold folS; rw [if_neg (by simp [c1, c2]), if_pos c3, if_neg hke]] at hfold
          obtain ⟨m', hm'⟩ : ∃ m', k.length = m' + 1 := ⟨k.length - 1, by have := List.length_pos_iff.2 hke; omega⟩
          have hdl : k.dropLast.length = m' := by rw [List.length_dropLast]; omega
          obtain ⟨g3, hov, -⟩ := hs.out.row 0 (k.head hke) (by rw [← List.head?_eq_getElem?, List.head?_eq_some_head hke])
          have hs2 := hid (show CnI L w1 (i + 1) k.dropLast ov oc wr from ⟨hfold, fun t ht => hs.out.ok t (List.dropLast_subset _ ht), hs.out.kept, by rw [List.dropLast_eq_take]; exact hs.out.row.take _, by have := hs.out.cap; rw [hdl]; omega, hs.out.addr⟩)
          subst hov
          have hmn : ((m' : Int) + 1 == 0) = false := by simp; omega
          rw [hm'] at hcap hkl ⊢
          clear hfold c1 c2 c3 hse hke hm'
          go_wp2_with fail
          exact ⟨⟨i + 1, k.dropLast, _, oc, by omega, by go_num, by rw [hdl], hs2⟩, by simp [intOf]; omega⟩
      rw [decide_eq_false c3] at hb2
      have hpt := hid (rpart_any s (by omega) wr)
      by_cases c4 : okPart s = true
      · rw [show folS k s = some (k ++ [s]) by unfold folS; rw [if_neg (by simp [c1, c2]), if_neg c3, if_pos c4]] at hfold
        have hokk := hid (folS_okp (k := k) (s := s) (k' := k ++ [s]) (by unfold folS; rw [if_neg (by simp [c1, c2]), if_neg c3, if_pos c4]) hs.out.ok)
        have Hf := hid hfold
        rw [c4] at hpt
        clear hfold c1 c2 c3 c4 hse
        go_wp2_with fail
        refine hpt.out.mono ?_
        rintro e w' ⟨rfl, rfl⟩
        have hsrc : Src (wr.alloc (.cells #[] 9)) (.slice ov k.length oc) k.length (tS k) := by
          obtain ⟨g, hg⟩ := hs.out.addr
          refine .inr ⟨⟨g, 0, none⟩, oc, by rw [hg], fun j u hj => ?_⟩
          simp only [tS, List.getElem?_map, Option.map_eq_some_iff] at hj
          obtain ⟨x, hx, rfl⟩ := hj
          obtain ⟨g', hg', hc⟩ := (hs.out.row.kept ((Kept.refl [] wr).alloc (.cells #[] 9))) j x hx
          rw [hg] at hg'; cases hg'
          rw [show (⟨g, 0, none⟩ : Addr).add j = ⟨g, j, none⟩ by unfold Addr.add; split <;> simp_all]
          exact hc
        go_wp2_with (at_builtin; refine halt ?_)
        refine Halt.mk ?_
        refine wpList_append_src _ rfl _ _ _ rfl wr.heap.size 9 i0 _ 16 Try.underlying49 hi0 hz0 hz1 hz2 rfl (.slice (some ⟨wr.heap.size, 0, none⟩) 0 0) 0 [] rfl (by simpa using World.ownsRow_made wr (base := wr.heap.size) (e := 9) (size := 1) #[] 0 (Nat.le_refl _) (by decide) (by simp)) (.slice ov k.length oc) k.length (tS k) rfl hsrc (by simp [tS]) (by intro u hu; simp [tS] at hu; obtain ⟨x, -, rfl⟩ := hu; rfl) (by unfold maxLen; omega) (by omega) (by simp) ?_
        intro v2 w2 hown2 hgrow2 _ hf2
        have hk2 : Kept [] wr w2 := ((Kept.refl [] wr).alloc _).trans' (Kept.of_row hgrow2) (fun y hy hm => by simp [Value.ownBlock] at hm; omega)
        have hsz2 := hk2.size
        rw [Nat.zero_add, List.nil_append] at hown2
        obtain ⟨a2, c2, rfl⟩ := owns_slice1 hown2
        clear hsrc hgrow2 hf2
        go_wp2_with (at_builtin; refine halt ?_)
        refine Halt.mk ?_
        refine wpList_append_own _ rfl _ _ _ rfl wr.heap.size 9 i0 _ 1 16 Try.underlying49 hi0 hz0 hz1 hz2 rfl (by decide) (.slice a2 k.length c2) k.length (tS k) rfl (hown2.alloc _) ⟨w2.heap.size, 0, none⟩ 1 1 [.string (S s)] rfl rfl (cell_one_new _ _ _) (by simp [Value.oneCell']) (by unfold maxLen; omega) (by omega) (by simp; omega) ?_
        intro v3 w3 hown3 hgrow3 _
        have hk3 := hid (show Kept [] w1 w3 from hs.out.kept.trans ((hk2.alloc _).trans' (Kept.of_row hgrow3) (fun y hy hm => by simp at hm; have := (hown2.lt y hm).1; omega)))
        obtain ⟨g3, c3, rfl⟩ := ownsRow_succ hown3
        obtain ⟨av3, cv3, he3, h31, h32, h33, -⟩ := tr_of_own (L := k ++ [s]) (by simpa [tS] using hown3)
        have H3 := hid (show CnI L w1 (i + 1) (k ++ [s]) (some ⟨g3, 0, none⟩) c3 w3 from by
          simp at he3
          obtain ⟨rfl, rfl⟩ := he3
          exact ⟨Hf.out, hokk.out, hk3.out, h33, ⟨h31, by unfold maxLen at h32; omega⟩, ⟨_, rfl⟩⟩)
        clear hown2 hown3 hgrow3 hk2 he3 h31 h32 h33 hs hcell hkl hcap
        go_wp2_with fail
        exact ⟨⟨i + 1, k ++ [s], _, _, by omega, by go_num, by rw [List.length_append]; rfl, H3⟩, by simp [intOf]; omega⟩
      · have c4' : okPart s = false := by simpa using c4
        have hd : folS k s = none := by unfold folS; rw [if_neg (by simp [c1, c2]), if_neg c3, if_neg c4]
        have hmd := hid (hdead.out (fold_dead hse hs.out.is hd))
        have hkp := hid (Hk.out.trans hs.out.kept)
        rw [c4'] at hpt
        clear hd hfold c1 c2 c3 c4 c4' hse
        go_wp2_with fail
        refine hpt.out.mono ?_
        rintro e w' ⟨rfl, rfl⟩
        go_wp2
        go_ret2
        exact ⟨by rw [hmd.out]; rfl, hkp.out⟩
    · obtain rfl : i = n := by omega
      have htk : L.take i = L := List.take_of_length_le (by rw [← Hn.out]; omega)
      have his := hs.out.is
      rw [htk] at his
      have hmo := hlive.out k his hs.out.ok
      have hkp := hid (Hk.out.trans hs.out.kept)
      have hgl := hid (rglue_any ov oc k wr hs.out.row (by omega) (by omega))
      have sg := S_size (glueS k)
      obtain ⟨G, hG⟩ : ∃ G, G = glueS k := ⟨_, rfl⟩
      rw [← hG] at hgl hmo sg hkl
      clear htk his
      by_cases hke : k = []
      · have hkl0 : k.length = 0 := by rw [hke]; rfl
        rw [if_pos (.inl hke)] at hmo
        rw [hkl0]
        have Hmo := hid hmo
        clear hke hmo hkl hG
        go_wp2
        go_ret2
        exact ⟨by rw [Hmo.out]; rfl, hkp.out⟩
      · have hkp0 : 0 < k.length := List.length_pos_iff.2 hke
        have hkz : ((k.length : Int) == 0) = false := by simp; omega
        by_cases hgl2 : 120 < G.length
        · rw [if_pos (.inr hgl2)] at hmo
          have Hmo := hid hmo
          clear hmo hke hG
          go_wp2_with fail
          refine hgl.out.mono ?_
          rintro e w' ⟨rfl, rfl⟩
          go_wp2
          go_ret2
          exact ⟨by rw [Hmo.out]; rfl, hkp.out⟩
        · rw [if_neg (fun h => h.elim hke hgl2)] at hmo
          have Hmo := hid hmo
          clear hmo hke hG
          go_wp2_with fail
          refine hgl.out.mono ?_
          rintro e w' ⟨rfl, rfl⟩
          go_wp2_with fail
          refine hgl.out.mono ?_
          rintro e w' ⟨rfl, rfl⟩
          go_wp2
          go_ret2
          exact ⟨by rw [Hmo.out]; rfl, hkp.out⟩
end Go.Proofs.Ytignphegdigalaa
