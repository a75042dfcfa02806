/- PathCleans: the walk. -/
import Derived.Test.YtcemgmikbcbofaaP18
namespace Go.Proofs.Ytcemgmikbcbofaa
open Go.RowKit

theorem lparts_all (a : List UInt8) (ha : a.length ≤ 120) (w v : World) (k : Kept [] w v) :
    Calls Try.prog 34 #[.string (S a), .int .i64 1000] v fun e w' => ∃ g c, e = .returned (.slice (some ⟨g, 0, none⟩) (partsS a).length c) ∧ Kept [] w w' ∧ v.heap.size ≤ g ∧ (partsS a).length ≤ c ∧ c ≤ maxLen ∧
      (∀ (j : Nat) x, (partsS a)[j]? = some x → w'.cell? ⟨g, j, none⟩ = some (.string (S x))) := by
  refine (lparts_any a 1000 (by omega) (by omega) (by omega) v).mono ?_
  rintro e w' ⟨u, rfl, ho, hb⟩
  have hc := partsS_count a
  rw [List.take_of_length_le (by omega)] at ho
  obtain ⟨m, hm⟩ : ∃ m, (partsS a).length = m + 1 := ⟨(partsS a).length - 1, by have := List.length_pos_iff.2 (partsS_ne a); omega⟩
  have ho' := ho
  rw [hm] at ho'
  obtain ⟨g, c, rfl⟩ := ownsRow_succ ho'
  have hcap := (owns_drop ho').2
  have hcell := ho.cells (g := g) rfl
  refine ⟨g, c, by rw [hm], k.trans (Kept.of_below hb), (ho.lt g rfl).1, by omega, hcap.2, fun j x hj => ?_⟩
  have h1 := hcell j (.string (S x)) (by simp [tS, hj])
  rwa [show (⟨g, 0, none⟩ : Addr).add j = ⟨g, j, none⟩ by unfold Addr.add; split <;> simp_all] at h1

set_option maxRecDepth 100000 in
set_option maxHeartbeats 4000000 in
theorem path_cleans (p : List UInt8) (w : World) :
    Calls Try.prog 5 #[.string (S p)] w fun e w' => e = .returned (.bool true) ∧ Kept [] w w' := by
  have hal := hid (alive5 w)
  have K := hid (pathK w)
  have sp := S_size p
  by_cases hl : 120 < p.length
  · go_enter Try.func5, Try.ntmps5
    go_wp2_with fail
    refine hal.out.mono ?_
    rintro e w1 ⟨rfl, k1⟩
    go_wp2
    go_ret
    exact ⟨rfl, k1⟩
  have hse : (S []).toList.isEmpty = true := by rw [S_isE]; rfl
  cases hm : meantS p with
  | none =>
    have t1 := clean_none hm
    have f1 : ClF p [] 38 := ⟨t1.1, t1.2, by omega⟩
    have f2 : CkF p 38 := ⟨pathErr_no (by cases h : okPath p with | false => rfl | true => rw [meant_ok h] at hm; cases hm)⟩
    clear t1 hm
    go_enter Try.func5, Try.ntmps5
    go_wp2_with fail
    refine hal.out.mono ?_
    rintro e w1 ⟨rfl, k1⟩
    go_wp2_with fail
    refine (K.out.clean _ _ _ f1 _ k1).mono ?_
    rintro e w2 ⟨rfl, k2⟩
    go_wp2_with fail
    refine (K.out.check _ _ f2 _ k2).mono ?_
    rintro e w3 ⟨rfl, k3⟩
    go_wp2
    go_ret
    exact ⟨rfl, k3⟩
  | some c =>
    have t1 := clean_some hm
    have f1 : ClF p c 0 := ⟨t1.1, t1.2, by omega⟩
    have hok := meant_good hm
    have h1 := (okPath_iff c).1 hok
    have t2 := clean_some (meant_ok hok)
    have f2 : ClF c c 0 := ⟨t2.1, t2.2, by omega⟩
    have t3 := clean_some (loose_meant hok)
    have hcount := partsS_count c
    have h40 : ∀ t ∈ partsS c, t.length ≤ 40 := fun t ht => (okPart_ne (h1.2 t ht)).2.2.2
    have hll := loose_len (partsS c) h40
    have f3 : ClF (looseL (partsS c)) c 0 := ⟨t3.1, t3.2, by omega⟩
    have f4 : CkF c 0 := ⟨pathErr_ok hok⟩
    have f5 : parentL c = parentL c := rfl
    obtain ⟨q, hq⟩ : ∃ x, x = parentL c := ⟨_, rfl⟩
    obtain ⟨r, hr⟩ : ∃ x, x = baseL c := ⟨_, rfl⟩
    have f6 : JF q r c := ⟨by rw [hq, hr]; exact join_parent hok, by rw [hq]; unfold parentL; rw [List.length_take]; omega, by rw [hr]; unfold baseL; rw [List.length_drop]; omega⟩
    replace hq := hid hq.symm
    replace hr := hid hr.symm
    have hpc := hid (show okPath p = true → p = c from fun h => by rw [meant_ok h] at hm; simpa using hm)
    have hparts := hid (fun v k => lparts_all c h1.1 w v k)
    obtain ⟨L, hL⟩ : ∃ L, L = partsS c := ⟨_, rfl⟩
    rw [← hL] at hparts h40 hll f3 hcount
    obtain ⟨n, hn⟩ : ∃ n, n = L.length := ⟨_, rfl⟩
    rw [← hn] at hparts hll hcount
    have hcl := h1.1
    have Hn := hid hn
    have H40 := hid h40
    clear t1 t2 t3 h1 hok hm f5 hL hn h40
    go_enter Try.func5, Try.ntmps5
    go_wp2_with fail
    refine hal.out.mono ?_
    rintro e w1 ⟨rfl, k1⟩
    go_wp2_with fail
    refine (K.out.clean _ _ _ f1 _ k1).mono ?_
    rintro e w2 ⟨rfl, k2⟩
    go_wp2_with fail
    refine (K.out.clean _ _ _ f2 _ k2).mono ?_
    rintro e w3 ⟨rfl, k3⟩
    go_wp2_with fail
    refine (hparts.out _ k3).mono ?_
    rintro e w4 ⟨g, cap, rfl, k4, hg, hcap, hcm, hcell⟩
    replace hcell := hid hcell
    go_wp2_with fail
    go_loopw [7, 9, 39] (fun l _ i wr => ∃ j : Nat, j ≤ n ∧ l = .string (S (looseL (L.take j))) ∧ i = .int .i64 (j : Int) ∧ w4 = wr) (fun _ _ i _ => n - (intOf i).toNat)
    case atStart => exact ⟨0, by omega, rfl, rfl, rfl⟩
    case round =>
      obtain ⟨j, hj, rfl, rfl, rfl⟩ := hrel
      by_cases hlt : j < n
      · obtain ⟨s, hs⟩ : ∃ s, L[j]? = some s := ⟨L[j]'(by rw [← Hn.out]; exact hlt), List.getElem?_eq_getElem _⟩
        have hc1 := hcell.out j s hs
        have hs40 := H40.out s (List.mem_of_getElem? hs)
        have hlen := loose_len (L.take j) (fun t ht => H40.out t (List.mem_of_mem_take ht))
        rw [List.length_take] at hlen
        obtain ⟨x1, hx1⟩ : ∃ x, x = [47, 46, 47] ++ s := ⟨_, rfl⟩
        obtain ⟨x2, hx2⟩ : ∃ x, x = x1 ++ [47, 120, 47, 46, 46, 47] := ⟨_, rfl⟩
        obtain ⟨l0, hl0⟩ : ∃ x, x = looseL (L.take j) := ⟨_, rfl⟩
        obtain ⟨l1, hl1⟩ : ∃ x, x = looseL (L.take (j + 1)) := ⟨_, rfl⟩
        have hll1 : l1 = l0 ++ x2 := by rw [hl1, List.take_add_one, hs, hl0, hx2, hx1]; exact loose_snoc s _
        have a1 : (⟨#[47, 46, 47]⟩ : ByteArray) ++ S s = S x1 := by rw [hx1]; exact S_append [47, 46, 47] s
        have a2 : S x1 ++ (⟨#[47, 120, 47, 46, 46, 47]⟩ : ByteArray) = S x2 := by rw [hx2]; exact S_append x1 [47, 120, 47, 46, 46, 47]
        have a3 : S l0 ++ S x2 = S l1 := by rw [hll1]; exact S_append l0 x2
        have x1l : x1.length = s.length + 3 := by rw [hx1]; simp
        have x2l : x2.length = s.length + 9 := by rw [hx2]; simp; omega
        rw [← hl0] at hlen ⊢
        have z1 : ¬ 9223372036854775807 < 3 + (S s).size := by rw [S_size]; omega
        have z2 : ¬ 9223372036854775807 < (S x1).size + 6 := by rw [S_size]; omega
        have z3 : ¬ 9223372036854775807 < (S l0).size + (S x2).size := by rw [S_size, S_size]; omega
        have Hl1 := hid hl1
        clear hx1 hx2 hl0 hl1 hll1 x1l x2l hlen
        go_wp2_with fail
        exact ⟨⟨j + 1, by omega, by rw [Hl1.out], by go_num, trivial⟩, by simp [intOf]; omega⟩
      · obtain rfl : j = n := by omega
        have htk : L.take j = L := List.take_of_length_le (by rw [← Hn.out]; omega)
        rw [htk]
        clear htk
        by_cases hop : okPath p = true
        · obtain rfl := hpc.out hop
          go_wp2_with fail
          refine (K.out.clean _ _ _ f3 _ k4).mono ?_
          rintro e w5 ⟨rfl, k5⟩
          go_wp2_with fail
          refine (K.out.check _ _ f4 _ k5).mono ?_
          rintro e w6 ⟨rfl, k6⟩
          go_wp2_with fail
          refine (K.out.parent _ _ hq.out (by omega) _ k6).mono ?_
          rintro e w7 ⟨rfl, k7⟩
          go_wp2_with fail
          refine (K.out.base _ _ hr.out (by omega) _ k7).mono ?_
          rintro e w8 ⟨rfl, k8⟩
          go_wp2_with fail
          refine (K.out.join _ _ _ f6 _ k8).mono ?_
          rintro e w9 ⟨rfl, k9⟩
          go_wp2_with fail
          refine (K.out.check _ _ f4 _ k9).mono ?_
          rintro e w10 ⟨rfl, k10⟩
          go_wp2
          go_ret
          exact ⟨rfl, k10⟩
        · have f7 : CkF p 38 := ⟨pathErr_no (by simpa using hop)⟩
          clear hop
          go_wp2_with fail
          refine (K.out.clean _ _ _ f3 _ k4).mono ?_
          rintro e w5 ⟨rfl, k5⟩
          go_wp2_with fail
          refine (K.out.check _ _ f4 _ k5).mono ?_
          rintro e w6 ⟨rfl, k6⟩
          go_wp2_with fail
          refine (K.out.parent _ _ hq.out (by omega) _ k6).mono ?_
          rintro e w7 ⟨rfl, k7⟩
          go_wp2_with fail
          refine (K.out.base _ _ hr.out (by omega) _ k7).mono ?_
          rintro e w8 ⟨rfl, k8⟩
          go_wp2_with fail
          refine (K.out.join _ _ _ f6 _ k8).mono ?_
          rintro e w9 ⟨rfl, k9⟩
          go_wp2_with fail
          refine (K.out.check _ _ f7 _ k9).mono ?_
          rintro e w10 ⟨rfl, k10⟩
          go_wp2
          go_ret
          exact ⟨rfl, k10⟩
end Go.Proofs.Ytcemgmikbcbofaa
