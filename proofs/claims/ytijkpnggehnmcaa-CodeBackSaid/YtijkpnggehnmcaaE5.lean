/- coldstorelaw02.CodeBack: the walk. -/
import Derived.Test.YtijkpnggehnmcaaE3
import Derived.Test.YtijkpnggehnmcaaE4
import Derived.Test.YtijkpnggehnmcaaD2
namespace Go.Proofs.Ytijkpnggehnmcaa
open Go.RowKit Go.Lib

theorem IsOps.kept' {w w' : World} {a : Option Addr} {ops : List OpR} (h : IsOps w a ops) (hk : Kept [] w w') : IsOps w' a ops :=
  ⟨h.1, fun x hx i o ho => by
    obtain ⟨c0, c1, c2, c3, hs, hn, hl⟩ := h.2 x hx i o ho
    exact ⟨(hk.cell (World.block_lt_of_cell? w _ c0) (by simp)).trans c0, (hk.cell (World.block_lt_of_cell? w _ c1) (by simp)).trans c1, (hk.cell (World.block_lt_of_cell? w _ c2) (by simp)).trans c2,
      (hk.cell (World.block_lt_of_cell? w _ c3) (by simp)).trans c3, hs.kept hk (by simp), hn, hl⟩⟩

theorem own_down {w' : World} {base b : Nat} {v : Value} {n : Nat} {xs : List Value} (hb : b ≤ base) (h : w'.ownsRow base 5 1 v n xs) : w'.ownsRow b 5 1 v n xs :=
  ⟨h.1, h.2.imp id fun ⟨g, cap, cur, h1, h2, h3⟩ => ⟨g, cap, cur, h1, Nat.le_trans hb h2, h3⟩⟩

theorem enters_back1 : Enters 17 := fun args w => by simp [go_sem]

/-- One reading of what was written, whole or cut or with more behind it. -/
theorem back_decode (a : Option Addr) (c : Nat) (ops : List OpR) (tl bs : List UInt8) (K po pd : Nat) (sv : Value) (w0 w : World) (hops : IsOps w0 a ops) (hk0 : Kept [] w0 w) (h40 : ops.length ≤ 40) (h60 : ∀ o ∈ ops, o.bs.length ≤ 60)
    (hbs : bs = (outs ops ++ tl).take K) (hsrc : SrcB w sv bs) (hlen : bs.length ≤ 100000) (hpo : w.heap[po]? = some (.cells #[.slice a ops.length c] 23 (0, 0))) (hpd : w.heap[pd]? = some (.cells #[.bool true] 4 (0, 0)))
    (hge : w0.heap.size ≤ pd) (hne : po ≠ pd) :
    Calls Try.prog 7 #[sv, .func (.func 17) #[] #[.pointer (some ⟨po, 0, none⟩), .pointer (some ⟨pd, 0, none⟩)]] w fun e w' =>
      ∃ n rest, e = .returned (.int .i64 (if n = 0 ∧ rest ≠ [] then 22 else n)) ∧ Kept [] w0 w' ∧ Kept [pd] w w' ∧ BackQ pd ops tl K n rest w' := by
  have lpo := lt_of_block hpo
  have lpd := lt_of_block hpd
  refine (decode_any' 17 enters_back1 _ sv bs w hsrc (by omega) [pd] (fun x hx => by simp at hx; omega) (fun n rest W => BackQ pd ops tl K n rest W)
    (fun n rest W W' x hq hx he hk => ⟨hk.at hq.1 (by simp; omega), hq.2⟩) (fun rb a' c' W hkW hrb hab hrd => ?_)).mono ?_
  · exact back1 rb po pd a' a c' c ops tl K W (hbs ▸ hrd) h40 h60 (hkW.at hpo (by simp)) (fun wr hkr => hops.kept' ((hk0.trans hkW).trans' hkr (fun x hx hm => by have := hk0.size; simp at hm; omega))) (hkW.at hpd (by simp)) (by omega)
      (fun x hx => by have := hab x hx; have := (hrd.src x hx).1; omega)
  · rintro e w' ⟨n, rest, he, hk, hq⟩
    exact ⟨n, rest, he, hk0.trans' hk (fun x hx hm => by simp at hm; omega), hk, hq⟩

set_option maxHeartbeats 4000000 in
theorem codeback (a : Option Addr) (c : Nat) (ops : List OpR) (more : UInt8) (w : World) (h : IsOps w a ops) (hm : ops.length ≤ 9223372036854775807) :
    Calls Try.prog 4 #[.slice a ops.length c, .int .u8 (more.toNat : Int)] w fun e w' => e = .returned (.bool true) ∧ Kept [] w w' := by
  have hmf : ∀ (fn : Fn) (first cap : Array Value) (w : World), (Instr.makeFunc fn first cap).run Try.prog w = .ok (.func fn first cap) w := fun _ _ _ _ => rfl
  obtain ⟨i0, hi0, hz0, hz1, hz2⟩ := info_parts info_u8
  have hml := more.toNat_lt
  obtain ⟨W0, hW0⟩ : ∃ W0, W0 = w.alloc (.cells #[.slice a ops.length c] 23) := ⟨_, rfl⟩
  have hk0 := hid (show Kept [] w W0 from hW0 ▸ (Kept.refl [] w).alloc _)
  have hpo0 := hid (show W0.heap[w.heap.size]? = some (.cells #[.slice a ops.length c] 23 (0, 0)) from hW0 ▸ heap_alloc_at rfl)
  have H := hid h
  have HW0 := hid hW0
  clear h hW0
  go_enter Try.func4, Try.ntmps4
  go_wp2_with fail
  rw [← HW0.out]
  refine (alive02 _).mono ?_
  rintro e w1 ⟨rfl, hk1⟩
  have Hk1 := hid (hk0.out.trans hk1)
  have hpo1 := hid (hk1.at hpo0.out (by simp))
  have gpo1 := cell_of_one hpo1.out
  have hfew := hid (few_true a c ops w1 (H.out.kept' Hk1.out) hm)
  clear hk1
  go_wp2_with fail
  refine hfew.out.mono ?_
  rintro e w2 ⟨rfl, hk2⟩
  have Hk2 := hid (Hk1.out.trans hk2)
  have hpo2 := hid (hk2.at hpo1.out (by simp))
  have gpo2 := cell_of_one hpo2.out
  clear hk2 hfew gpo1
  by_cases hgood : (∀ o ∈ ops, o.bs.length ≤ 60) ∧ ops.length ≤ 40
  · have hdec : decide ((∀ o ∈ ops, o.bs.length ≤ 60) ∧ ops.length ≤ 40) = true := decide_eq_true hgood
    rw [hdec]
    obtain ⟨hs, h40⟩ := hgood
    have HS := hid hs
    have hwr := hid (write_any a c ops w2 (H.out.kept' Hk2.out) h40 hs)
    have hol := hid (show (outs ops).length ≤ 2560 from by have := outs_len HS.out ops.length; rw [List.take_length] at this; omega)
    clear hdec hs
    go_wp2_with fail
    refine hwr.out.mono ?_
    rintro e w3 ⟨b, d, base0, rfl, hk3, hb30, ho30⟩
    obtain ⟨base, hbase⟩ : ∃ base, base = w2.heap.size := ⟨_, rfl⟩
    have hb3 : w2.heap.size ≤ base := by omega
    have ho3 := own_down (show base ≤ base0 by omega) ho30
    have hb33 := hid (show base ≤ w3.heap.size by have := hk3.size; omega)
    have Hk3 := hid (Hk2.out.trans hk3)
    have hpo3 := hid (hk3.at hpo2.out (by simp))
    have Ho3 := hid ho3
    have Hb3 := hid (Nat.le_trans Hk2.out.size hb3)
    have hbl := hid (show w.heap.size < base by have := lt_of_block hpo2.out; omega)
    clear hk3 hb3 ho3 hwr gpo2 hb30 ho30 hbase
    go_wp2_with fail
    obtain ⟨w4, hw4⟩ : ∃ w4, w4 = w3.alloc (.cells #[.bool true] 4) := ⟨_, rfl⟩
    rw [← hw4]
    have hk34 := hid (show Kept [] w3 w4 from hw4 ▸ (Kept.refl [] w3).alloc _)
    have hpd4 := hid (show w4.heap[w3.heap.size]? = some (.cells #[.bool true] 4 (0, 0)) from hw4 ▸ heap_alloc_at rfl)
    have hpo4 := hid (hk34.out.at hpo3.out (by simp))
    have Ho4 := hid (hk34.out.owns Ho3.out (by simp))
    have Hk4 := hid (Hk3.out.trans hk34.out)
    have hpne := hid (show w.heap.size ≠ w3.heap.size by have := lt_of_block hpo3.out; omega)
    have hd1 := hid (back_decode a c ops [] (outs ops) (outs ops).length w.heap.size w3.heap.size (.slice b (outs ops).length d) w w4 H.out Hk4.out h40 HS.out (by simp) (bys_of_row Ho4.out).1 (by have := hol.out; omega) hpo4.out hpd4.out (by have := Hk3.out.size; omega) hpne.out)
    clear hw4
    refine hd1.out.mono ?_
    rintro e w5 ⟨n5, r5, rfl, hk5, hkp5, hd5, hq5⟩
    have hn5 : n5 = 0 ∧ r5 = [] := by
      rcases hq5 with ⟨_, h⟩ | ⟨h1, _, h2⟩
      · omega
      · exact ⟨h1, by simpa using h2⟩
    obtain ⟨rfl, rfl⟩ := hn5
    rw [if_neg (fun h => h.2 rfl)]
    have Hk5 := hid hk5
    have hpd5 := hid hd5
    have hpo5 := hid (hkp5.at hpo4.out (by simpa using hpne.out))
    have hlt4 := hid (Ho3.out.lt)
    have Ho5 := hid (hkp5.owns Ho4.out (fun g hg => by have := (hlt4.out g hg).2; simp; omega))
    have hbpo := hid (show w.heap.size < base by have := Hb3.out; have := lt_of_block hpo2.out; exact hbl.out)
    have hs45 := hid hkp5.size
    have hsz34 := hid hk34.out.size
    clear hk5 hkp5 hd5 hq5 hd1
    go_wp2_with (at_builtin; refine halt ?_)
    refine Halt.mk ?_
    have hown5' := hid (((Kept.refl [] w5).alloc (.cells #[.int .u8 (more.toNat : Int)] 5)).owns Ho5.out (by simp))
    refine wpList_append_old _ rfl _ _ _ rfl base 5 i0 _ 1 Try.underlying22 hi0 hz0 hz1 hz2 rfl (.slice b (outs ops).length d) (outs ops).length ((outs ops).map B) rfl hown5'.out _ 1 1 [B more] rfl rfl (cell_one_new _ _ _) (by simp [B, Value.oneCell']) ?_ ?_ ?_ ?_
    · have := hol.out; unfold maxLen; omega
    · have := hol.out; omega
    · have := hb33.out; have := hs45.out; have := hsz34.out; simp; omega
    intro v6 w6 hown6 hgrow6 hf6 hold6
    obtain ⟨b6, d6, rfl⟩ := owns_slice hown6
    have hgk := hid (show Kept ((Value.slice b (outs ops).length d).ownBlock.toList) w5 w6 from ((Kept.refl _ w5).alloc _).trans (Kept.of_row hgrow6))
    have hnot := hid (fun (k : Nat) (hk : k < base ∨ w3.heap.size ≤ k) => show k ∉ (Value.slice b (outs ops).length d).ownBlock.toList from fun hm => by
      simp at hm
      have := hlt4.out k hm
      omega)
    have hpd6 := hid (hgk.out.at hpd5.out (hnot.out _ (Or.inr (Nat.le_refl _))))
    have hpo6 := hid (hgk.out.at hpo5.out (hnot.out _ (Or.inl hbpo.out)))
    have Hk6 := hid (show Kept [] w w6 from Hk5.out.trans' hgk.out (fun x hx hm => absurd hm (hnot.out x (Or.inl (by have := hbpo.out; omega)))))
    have hsb := hid (show SrcB w6 (.slice b (outs ops).length d) (outs ops) from by
      rcases Ho5.out.2 with ⟨hv, h0⟩ | ⟨g, cap, cur, hv, _⟩
      · have hx : outs ops = [] := List.eq_nil_of_length_eq_zero h0
        rw [hv, hx]
        exact Or.inl ⟨rfl, rfl, rfl⟩
      · simp at hv
        obtain ⟨rfl, rfl⟩ := hv
        refine Or.inr ⟨_, d, rfl, fun j u hj => ?_⟩
        have e1 : (⟨g, 0, none⟩ : Addr).add j = ⟨g, j, none⟩ := by unfold Addr.add; split <;> simp_all
        rw [e1]
        exact hold6 g d rfl j u hj)
    have hsrc6 : SrcB w6 (.slice b6 ((outs ops).length + 1) d6) (outs ops ++ [more]) := by
      have h1 : w6.ownsRow base 5 1 (.slice b6 (outs ops ++ [more]).length d6) (outs ops ++ [more]).length ((outs ops ++ [more]).map B) := by simpa using hown6
      have h2 := (bys_of_row h1).1
      simpa using h2
    have hd2 := hid (back_decode a c ops [more] (outs ops ++ [more]) ((outs ops).length + 1) w.heap.size w3.heap.size (.slice b6 ((outs ops).length + 1) d6) w w6 H.out Hk6.out h40 HS.out (by rw [List.take_of_length_le (by simp)]) hsrc6 (by have := hol.out; simp; omega) hpo6.out hpd6.out (by have := Hk3.out.size; omega) hpne.out)
    clear hown6 hgrow6 hf6 hold6 hsrc6 hown5'
    go_wp2_with fail
    refine hd2.out.mono ?_
    rintro e w7 ⟨n7, r7, rfl, hk7, hkp7, hd7, hq7⟩
    have hn7 : n7 = 0 ∧ r7 = [more] := by
      rcases hq7 with ⟨_, h⟩ | ⟨h1, _, h2⟩
      · omega
      · exact ⟨h1, by rw [h2, show (outs ops).length + 1 - (outs ops).length = 1 by omega]; rfl⟩
    obtain ⟨rfl, rfl⟩ := hn7
    rw [if_pos ⟨rfl, by simp⟩]
    have Hk7 := hid hk7
    have hpd7 := hid hd7
    have gpd7 := cell_of_one hpd7.out
    have hpo7 := hid (hkp7.at hpo6.out (by simpa using hpne.out))
    have hsb7 := hid (hsb.out.kept hkp7 (fun y hy hm => by simp at hm; subst hm; exact hnot.out _ (Or.inr (Nat.le_refl _)) (by simp [hy])))
    clear hk7 hkp7 hd7 hq7 hd2
    by_cases h0 : (outs ops).length = 0
    · have h0' : (((outs ops).length : Int) == 0) = true := by simp [h0]
      have h0'' : ((outs ops).length == 0) = true := by simp [h0]
      clear h0
      go_wp2
      go_ret
      exact ⟨rfl, Hk7.out⟩
    · obtain ⟨L, hL⟩ : ∃ L, L + 1 = (outs ops).length := ⟨(outs ops).length - 1, by omega⟩
      have hcap := hid (show (outs ops).length ≤ d ∧ d ≤ maxLen ∧ ∃ x, b = some x from by
        rcases Ho5.out.2 with ⟨hv, h0'⟩ | ⟨g, cap, cur, hv, _, _, hc, hcm, _⟩
        · omega
        · simp at hv
          obtain ⟨rfl, rfl⟩ := hv
          exact ⟨hc, hcm, _, rfl⟩)
      obtain ⟨hc1, hc2, x, rfl⟩ := hcap.out
      unfold maxLen at hc2
      have hne0 : outs ops ≠ [] := fun h => h0 (by rw [h]; rfl)
      have hsrc8 : SrcB w7 (.slice (some x) L d) ((outs ops).take L) := by
        have h1 := hsb7.out.take (n := L) (by omega) hne0
        rwa [show ((outs ops).take L).length = L by simp; omega] at h1
      have hd3 := hid (back_decode a c ops [] ((outs ops).take L) L w.heap.size w3.heap.size (.slice (some x) L d) w w7 H.out Hk7.out h40 HS.out (by simp) hsrc8 (by have := hol.out; simp; omega) hpo7.out hpd7.out (by have := Hk3.out.size; omega) hpne.out)
      have HLL := hid hL
      have hbd : L + 1 ≤ 3000 := by have := hol.out; omega
      rw [← hL] at hc1 ⊢
      have hLc : (L : Int) ≤ (d : Int) := by omega
      clear hsrc8 h0 hne0 hL
      go_wp2_with fail
      refine hd3.out.mono ?_
      rintro e w8 ⟨n8, r8, rfl, hk8, hkp8, hd8, hq8⟩
      have hn8 : n8 = 20 := by
        rcases hq8 with ⟨h, _⟩ | ⟨_, h, _⟩
        · exact h
        · have := HLL.out; omega
      subst hn8
      rw [if_neg (fun h => absurd h.1 (by decide))]
      have Hk8 := hid hk8
      have gpd8 := cell_of_one hd8
      clear hk8 hkp8 hd8 hq8 hd3 gpd7
      go_wp2
      go_ret
      exact ⟨rfl, Hk8.out⟩
  · have hdec : decide ((∀ o ∈ ops, o.bs.length ≤ 60) ∧ ops.length ≤ 40) = false := decide_eq_false hgood
    rw [hdec]
    clear hgood hdec
    go_wp2
    go_ret
    exact ⟨rfl, Hk2.out⟩
end Go.Proofs.Ytijkpnggehnmcaa
