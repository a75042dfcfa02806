/- coldstorelaw02.CodeMosts: all of it. -/
import Derived.Test.YtohmmkceffmipabC8
namespace Go.Proofs.Ytohmmkceffmipab
open Go.RowKit Go.Lib

theorem all_said (bs : List UInt8) (hl : bs.length ≤ 200) (K : Nat) (h4 : 4 ≤ K) : said (([] ++ (numB bs.length 4 ++ bs)).take K) = bs.length := by
  unfold said
  rw [List.nil_append, List.take_take, Nat.min_eq_left h4, List.take_append_of_le_length (by simp [numB_len]), List.take_of_length_le (by simp [numB_len]), numOf_numB]
  exact Nat.mod_eq_of_lt (by omega)
theorem all_err (bs : List UInt8) (hl : bs.length ≤ 200) (K : Nat) (hK : K ≤ bs.length + 4) (m : Int) :
    fieldErr (([] ++ (numB bs.length 4 ++ bs)).take K) m = if K < 4 then 20 else if max m 0 < (bs.length : Int) then 2 else if K < bs.length + 4 then 20 else 0 := by
  have hlen : (([] ++ (numB bs.length 4 ++ bs)).take K).length = K := by simp [numB_len]; omega
  unfold fieldErr
  rw [hlen]
  by_cases h4 : K < 4
  · rw [if_pos h4, if_pos h4]
  · rw [if_neg h4, if_neg h4, all_said bs hl K (by omega), Nat.add_comm 4]
theorem all_field (bs : List UInt8) (hl : bs.length ≤ 200) : field (([] ++ (numB bs.length 4 ++ bs)).take (bs.length + 4)) = bs := by
  have e : ([] ++ (numB bs.length 4 ++ bs)).take (bs.length + 4) = numB bs.length 4 ++ bs := by rw [List.nil_append]; exact List.take_of_length_le (by simp [numB_len]; omega)
  have h := all_said bs hl (bs.length + 4) (by omega)
  unfold field
  rw [h, e, List.drop_left' (numB_len _ _), List.take_length]

theorem codemosts_few (a0 : Option Addr) (cap0 : Nat) (bs : List UInt8) (most cut : Int) (w : World) (hs : SrcB w (.slice a0 bs.length cap0) bs) (hl : bs.length ≤ 200) :
    Calls Try.prog 6 #[.slice a0 bs.length cap0, .int .i64 most, .int .i64 cut] w fun e w' => e = .returned (.bool true) ∧ Kept [] w w' := by
  have hmf : ∀ (fn : Fn) (first cap : Array Value) (w : World), (Instr.makeFunc fn first cap).run Try.prog w = .ok (.func fn first cap) w := fun _ _ _ _ => rfl
  obtain ⟨M, hM⟩ : ∃ M : Nat, cut % 256 = (M : Int) := ⟨(cut % 256).toNat, by omega⟩
  have hand : bits .and .i64 cut 255 = (M : Int) := (i64_and255 cut).trans hM
  have hM1 : M ≤ 255 := by omega
  obtain ⟨K, hKe, hK⟩ : ∃ K : Nat, (M : Int) % ((bs.length : Int) + 4 + 1) = (K : Int) ∧ K ≤ bs.length + 4 := ⟨M % (bs.length + 5), by push_cast; congr 1, by have := Nat.mod_lt M (show 0 < bs.length + 5 by omega); omega⟩
  clear hM
  have hl' : ¬ (200 : Int) < (bs.length : Int) := by omega
  have Hs := hid hs
  clear hs
  obtain ⟨W0, hW0⟩ : ∃ W, W = ((w.alloc (.cells #[.slice a0 bs.length cap0] 25)).alloc (.cells #[.int .i64 most] 3)) := ⟨_, rfl⟩
  have hk0 := hid (show Kept [] w W0 from hW0 ▸ ((Kept.refl [] w).alloc _).alloc _)
  have hb0 := hid (show W0.heap[w.heap.size]? = some (.cells #[.slice a0 bs.length cap0] 25 (0, 0)) from hW0 ▸ heap_alloc_old (heap_alloc_at rfl))
  have hm0 := hid (show W0.heap[w.heap.size + 1]? = some (.cells #[.int .i64 most] 3 (0, 0)) from hW0 ▸ heap_alloc_at (by simp))
  have HW0 := hid hW0
  clear hW0
  go_enter Try.func6, Try.ntmps6
  go_wp2_with fail
  rw [← HW0.out]
  refine (alive02 _).mono ?_
  rintro e w1 ⟨rfl, hk1⟩
  have hb1 := hk1.at hb0.out (by simp)
  have hm1 := hk1.at hm0.out (by simp)
  have l1 := lt_of_block hm1
  have gb := cell_of_one hb1
  have gm := cell_of_one hm1
  have gb2 := cell_of_one (heap_alloc_old (o := .cells #[.slice none 0 0] 41) hb1)
  have Hk1 := hid (hk0.out.trans hk1)
  have Hb1 := hid hb1; have Hm1 := hid hm1
  clear hk1 hb1 hm1 hb0 hm0 hk0
  obtain ⟨W2, hW2⟩ : ∃ W, W = w1.alloc (.cells #[.slice none 0 0] 41) := ⟨_, rfl⟩
  have hw2 := hid (show Wr W2 w1.heap.size (.slice none 0 0) [] from hW2 ▸ Wr.fresh w1)
  have hk2 := hid (show Kept [] w1 W2 from hW2 ▸ (Kept.refl [] w1).alloc _)
  have HW2 := hid hW2
  clear hW2
  have s1 := hid (Hk1.out.size)
  have hwb := hid (wbytes_st w1.heap.size (.slice none 0 0) (.slice a0 bs.length cap0) [] bs W2 hw2.out (Hs.out.kept (Hk1.out.trans hk2.out) (by simp)) (fun w' hk => Hs.out.kept ((Hk1.out.trans hk2.out).trans' hk (fun x hx hm => by have := s1.out; simp [Value.ownBlock] at hm; omega)) (by simp)) (by simp) (by omega))
  go_wp2_with fail
  rw [← HW2.out]
  refine hwb.out.mono ?_
  rintro e w3 ⟨rfl, v3, hk3, hw3, hf3⟩
  have Hk3 := hid (show Kept [] w1 w3 from hk2.out.trans' hk3 (fun x hx hm => by simp [Value.ownBlock] at hm; omega))
  have hd := hid (wdone w1.heap.size v3 _ w3 hw3 (by simp [numB_len]; omega))
  clear hk3 hw3 hf3 hwb hk2 hw2
  go_wp2_with fail
  refine hd.out.mono ?_
  rintro e w4 ⟨a4, c4, rfl, hk4, hown4⟩
  have hbys := bys_of_row hown4
  have hne : ([] ++ (numB bs.length 4 ++ bs)) ≠ [] := by intro h; have := congrArg List.length h; simp [numB_len] at this
  have hlen : ([] ++ (numB bs.length 4 ++ bs)).length = bs.length + 4 := by simp [numB_len]; omega
  obtain ⟨x4, rfl⟩ : ∃ x, a4 = some x := by
    rcases hbys.1 with ⟨_, h2, _⟩ | ⟨z, c', h1, hc⟩
    · exact absurd h2 (by rw [hlen]; omega)
    · simp at h1; exact ⟨z, h1.1⟩
  have hcap : bs.length + 4 ≤ c4 := by
    rcases hown4.2 with ⟨h1, h2⟩ | ⟨g, cap, cur, hv, hg, hh, hc, hm, _⟩
    · simp at h1
    · simp at hv; obtain ⟨_, rfl⟩ := hv; rw [hlen] at hc; exact hc
  rw [hlen]
  have hbk := hid (row_block hown4)
  have Hk4 := hid (Hk1.out.trans (Hk3.out.trans hk4))
  have Hbys := hid hbys; have Hlen := hid hlen; have Hne := hid hne
  have hk14 := hid (Hk3.out.trans hk4)
  have hz : ((bs.length : Int) + 4 + 1) ≠ 0 := by omega
  clear hk4 hown4 hbys hlen hne hd gb gm gb2 HW0 HW2 s1 
  have hKc : (K : Int) ≤ (c4 : Int) := by omega
  go_wp2_with fail
  obtain ⟨W5, hW5⟩ : ∃ W, W = (((w4.alloc (.cells #[.slice none 0 0] 25)).alloc (.cells #[.int .i64 0] 37)).alloc (.cells #[.int .i64 0] 37)) := ⟨_, rfl⟩
  have hk5 := hid (show Kept [] w4 W5 from hW5 ▸ (((Kept.refl [] w4).alloc _).alloc _).alloc _)
  have hg5 := hid (show W5.heap[w4.heap.size]? = some (.cells #[.slice none 0 0] 25 (0, 0)) from hW5 ▸ heap_alloc_old (heap_alloc_old (heap_alloc_at rfl)))
  have hf5 := hid (show W5.heap[w4.heap.size + 1]? = some (.cells #[.int .i64 0] 37 (0, 0)) from hW5 ▸ heap_alloc_old (heap_alloc_at (by simp)))
  have hs5 := hid (show W5.heap[w4.heap.size + 1 + 1]? = some (.cells #[.int .i64 0] 37 (0, 0)) from hW5 ▸ heap_alloc_at (by simp))
  have s5 := lt_of_block hs5.out
  have s14 := hk14.out.size
  rw [← hW5]
  clear hW5 hmf
  have hb5 := hid (hk5.out.at (hk14.out.at Hb1.out (by simp)) (by simp))
  have hm5 := hid (hk5.out.at (hk14.out.at Hm1.out (by simp)) (by simp))
  have hxl : (([] ++ (numB bs.length 4 ++ bs)).take K).length = K := by rw [List.length_take, Hlen.out]; omega
  have hsrc5 := (Hbys.out.1.kept hk5.out (by simp)).take (n := K) (by rw [Hlen.out]; exact hK) Hne.out
  rw [hxl] at hsrc5
  have hd := hid (decode_any' 25 enters_mosts1 #[.pointer (some ⟨w.heap.size + 1, 0, none⟩), .pointer (some ⟨w4.heap.size + 1, 0, none⟩), .pointer (some ⟨w.heap.size, 0, none⟩), .pointer (some ⟨w4.heap.size, 0, none⟩), .pointer (some ⟨w4.heap.size + 1 + 1, 0, none⟩)]
    (.slice (some x4) K c4) _ W5 hsrc5 (by rw [hxl]; omega) [w4.heap.size, w4.heap.size + 1, w4.heap.size + 1 + 1] (by simp; omega) (MostsQ w4.heap.size (w4.heap.size + 1) (w4.heap.size + 1 + 1) _ most bs.length)
    (fun n rest W W' x hq hx he hk => hq.err he hk (by omega) (by omega) (by omega))
    (fun rb a c W hkW hrb hab hrd => mosts1 rb w.heap.size (w.heap.size + 1) w4.heap.size (w4.heap.size + 1) (w4.heap.size + 1 + 1) a a0 c bs.length cap0 _ most W hrd (hkW.at hm5.out (by simp)) (hkW.at hf5.out (by simp)) (hkW.at hb5.out (by simp)) (hkW.at hg5.out (by simp)) (hkW.at hs5.out (by simp)) (by omega) (fun x hx => by have := hab x hx; omega)))
  clear hsrc5 hxl
  refine hd.out.mono ?_
  rintro e w6 ⟨n6, rest6, rfl, hk6, rfl, n2, hf6, hs6, h2⟩
  generalize (if (0 : Int) = 0 ∧ rest6 ≠ [] then (22 : Int) else 0) = dd
  rw [all_err bs hl K hK] at hf6 h2
  have hb6 := hk6.at hb5.out (by simp; omega)
  have hm6 := hk6.at hm5.out (by simp; omega)
  have gb := cell_of_one hb6
  have gm := cell_of_one hm6
  have gs := cell_of_one hs6
  have Hk6 := hid (show Kept [] w w6 from (Hk4.out.trans hk5.out).trans' hk6 (fun x hx hm => by have := Hk4.out.size; simp at hm; omega))
  have Hs6 := hid (Hs.out.kept Hk6.out (by simp))
  clear hk6 hb6 hm6 hs6 hd hb5 hm5 hg5 hf5 hs5 hk5
  by_cases h4 : K < 4
  · rw [if_pos h4] at hf6
    have h4' : (K : Int) < 4 := by omega
    have gf := cell_of_one hf6
    clear hf6 h2
    go_wp2
    go_ret
    exact ⟨by simp, Hk6.out⟩
  rw [if_neg h4] at hf6 h2
  have h4' : ¬ (K : Int) < 4 := by omega
  by_cases hm : max most 0 < (bs.length : Int)
  · rw [if_pos hm] at hf6 h2
    have gf := cell_of_one hf6
    obtain ⟨hn2, hgot⟩ := h2 (by decide)
    rw [all_err bs hl K hK, if_neg h4, if_neg (by omega)] at hn2
    by_cases hKl : K < bs.length + 4
    · rw [if_pos hKl] at hn2
      subst hn2
      have hKl' : ((K : Int) == (bs.length : Int) + 4) = false := by simp; omega
      by_cases hm0 : most < 0
      · have hx : (0 : Int) < bs.length := by omega
        clear hf6 h2 hgot hm
        go_wp2
        go_ret
        exact ⟨by simp, Hk6.out⟩
      · have hx : most < (bs.length : Int) := by omega
        clear hf6 h2 hgot hm
        go_wp2
        go_ret
        exact ⟨by simp, Hk6.out⟩
    · rw [if_neg hKl] at hn2
      subst hn2
      have hKe2 : K = bs.length + 4 := by omega
      subst hKe2
      obtain ⟨ag, cg, hg6, hgb⟩ := hgot rfl
      rw [all_field bs hl] at hg6 hgb
      have gg := cell_of_one hg6
      have hsame := hid (same_src ag a0 cg cap0 bs w6 hgb.1 Hs6.out)
      by_cases hm0 : most < 0
      · have hx : (0 : Int) < bs.length := by omega
        clear hf6 h2 hgot hm hg6 hgb
        go_wp2_with fail
        refine hsame.out.mono ?_
        rintro e w7 ⟨rfl, rfl⟩
        go_wp2
        go_ret
        exact ⟨by simp, Hk6.out⟩
      · have hx : most < (bs.length : Int) := by omega
        clear hf6 h2 hgot hm hg6 hgb
        go_wp2_with fail
        refine hsame.out.mono ?_
        rintro e w7 ⟨rfl, rfl⟩
        go_wp2
        go_ret
        exact ⟨by simp, Hk6.out⟩
  rw [if_neg hm] at hf6
  by_cases hKl : K < bs.length + 4
  · rw [if_pos hKl] at hf6
    have gf := cell_of_one hf6
    have hKl' : (K : Int) < (bs.length : Int) + 4 := by omega
    by_cases hm0 : most < 0
    · exfalso
      omega
    · have hx : ¬ most < (bs.length : Int) := by omega
      clear hf6 h2 hm
      go_wp2
      go_ret
      exact ⟨by simp, Hk6.out⟩
  · rw [if_neg hKl] at hf6
    have gf := cell_of_one hf6
    have hKl' : ¬ (K : Int) < (bs.length : Int) + 4 := by omega
    by_cases hm0 : most < 0
    · have hx : ¬ (0 : Int) < bs.length := by omega
      clear hf6 h2 hm
      go_wp2
      go_ret
      exact ⟨by simp, Hk6.out⟩
    · have hx : ¬ most < (bs.length : Int) := by omega
      clear hf6 h2 hm
      go_wp2
      go_ret
      exact ⟨by simp, Hk6.out⟩

theorem codemosts (a0 : Option Addr) (cap0 : Nat) (bs : List UInt8) (most cut : Int) (w : World) (hs : SrcB w (.slice a0 bs.length cap0) bs) (hmax : bs.length ≤ 9223372036854775807) :
    Calls Try.prog 6 #[.slice a0 bs.length cap0, .int .i64 most, .int .i64 cut] w fun e w' => e = .returned (.bool true) ∧ Kept [] w w' := by
  by_cases hl : bs.length ≤ 200
  · exact codemosts_few a0 cap0 bs most cut w hs hl
  · clear hs
    have hl' : (200 : Int) < (bs.length : Int) := by omega
    obtain ⟨W0, hW0⟩ : ∃ W, W = ((w.alloc (.cells #[.slice a0 bs.length cap0] 25)).alloc (.cells #[.int .i64 most] 3)) := ⟨_, rfl⟩
    have hk0 := hid (show Kept [] w W0 from hW0 ▸ ((Kept.refl [] w).alloc _).alloc _)
    have hb0 := hid (show W0.heap[w.heap.size]? = some (.cells #[.slice a0 bs.length cap0] 25 (0, 0)) from hW0 ▸ heap_alloc_old (heap_alloc_at rfl))
    have HW0 := hid hW0
    clear hW0
    go_enter Try.func6, Try.ntmps6
    go_wp2_with fail
    rw [← HW0.out]
    refine (alive02 _).mono ?_
    rintro e w1 ⟨rfl, hk1⟩
    have gb := cell_of_one (hk1.at hb0.out (by simp))
    have Hk1 := hid (hk0.out.trans hk1)
    clear hk1
    go_wp2
    go_ret
    exact ⟨rfl, Hk1.out⟩
end Go.Proofs.Ytohmmkceffmipab
