/- coldstorelaw01.GuardNests's first closure. -/
import Derived.Test.YtohmmkceffmipaaG6
import Derived.WalkSpells
import Derived.Deep.RegionHeld3
import Derived.Deep.RegionLaw
import Derived.Deep.AppendLies
namespace Go.Proofs.Ytohmmkceffmipaa
open Go.RowKit

theorem enters_nests1 : Enters 23 := fun args w => by simp [go_sem]
theorem enters_nests11 : Enters 24 := fun args w => by simp [go_sem]

theorem nests_11 (b : Nat) (n : Int) (w : World) (hb : w.heap[b]? = some (.cells #[.int .i64 n] 3 (0, 0))) :
    Calls Try.prog 24 #[.pointer (some ⟨b, 0, none⟩)] w (Threw fun m w' => m = n ∧ w = w') := by
  have hm := hid (must_threw n w)
  have hc := cell_of_one hb
  clear hb
  go_enter Try.func24, Try.ntmps24
  go_wp2_with fail
  refine hm.out.mono ?_
  rintro e w' (⟨rfl, hm, rfl⟩ | ⟨m, ⟨older, rfl, hcalm⟩, hm, rfl⟩)
  · go_wp2
    go_end0
    exact Or.inl ⟨rfl, hm, rfl⟩
  · exact ⟨rfl, Or.inr ⟨m, ⟨older, rfl, hcalm⟩, hm, rfl⟩⟩

theorem nests_run (b : Nat) (n : Int) (w : World) (hb : w.heap[b]? = some (.cells #[.int .i64 n] 3 (0, 0))) :
    Calls Try.prog 11 #[.func (.func 24) #[] #[.pointer (some ⟨b, 0, none⟩)]] w fun e w' => e = .returned (.int .i64 n) ∧ Kept [] w w' :=
  (run_kept _ enters_nests11 #[.pointer (some ⟨b, 0, none⟩)] w [] (by simp) (fun r _ => r = n) (fun _ _ _ h _ => h) ((nests_11 b n _ (heap_alloc_old hb)).mono fun e w' hx => by
    rcases hx with ⟨he, hm, hw⟩ | ⟨m, he, hm, hw⟩
    · exact Or.inl ⟨he, hw ▸ Kept.refl _ _, hm⟩
    · exact Or.inr ⟨m, he, hw ▸ Kept.refl _ _, hm⟩)).mono fun e w' ⟨m, he, hk, hm⟩ => ⟨hm ▸ he, hk⟩

theorem info_int : (Try.prog.info? 3).map (fun i => (i.zero, i.size, i.bytes)) = some (some (.int .i64 0), 1, 8) := by kernel_rfl

theorem take_snoc' (zs : List Int) (i : Nat) (h : i < zs.length) : zs.take (i + 1) = zs.take i ++ [zs[i]?.getD 0] := by
  rw [List.take_succ_eq_append_getElem h]; simp [h]

theorem nests_1 (pl ps g0 : Nat) (a : Option Addr) (len cap : Nat) (zs : List Int) (w : World) (hlen : len ≤ 200) (hz : len ≤ zs.length)
    (hpl : w.heap[pl]? = some (.cells #[.slice a len cap] 22 (0, 0))) (hps : w.heap[ps]? = some (.cells #[.slice (some ⟨g0, 0, none⟩) 0 0] 22 (0, 0)))
    (hown : w.ownsRow g0 3 1 (.slice (some ⟨g0, 0, none⟩) 0 0) 0 []) (hpg : pl ≠ g0) (hplps : pl ≠ ps) (hsg : ps = g0 + 1)
    (hnil : a = none → len = 0) (hcell : ∀ x, a = some x → ∀ i, i < len → x.block < g0 ∧ w.cell? (x.add i) = some (.int .i64 (zs[i]?.getD 0))) :
    Calls Try.prog 23 #[.pointer (some ⟨pl, 0, none⟩), .pointer (some ⟨ps, 0, none⟩)] w fun e w' =>
      e = .returned (.tuple #[]) ∧ Kept [ps, g0] w w' ∧ ∃ v, w'.heap[ps]? = some (.cells #[v] 22 (0, 0)) ∧ w'.ownsRow g0 3 1 v len ((zs.take len).map (Value.int .i64)) ∧ Hid (∀ g, v.ownBlock = some g → g = g0 ∨ w.heap.size ≤ g) := by
  have hmf : ∀ (fn : Fn) (first cap : Array Value) (w : World), (Instr.makeFunc fn first cap).run Try.prog w = .ok (.func fn first cap) w := fun _ _ _ _ => rfl
  have gl := cell_of_one hpl
  have Hpl := hid hpl; have Hps := hid hps; have Hown := hid hown; have N1 := hid hpg; have N2 := hid hplps; have N3 := hid hsg; have HC := hid hcell; have HZ := hid hz; have HN := hid hnil
  clear hpl hps hown hpg hplps hsg hcell hz hnil
  go_enter Try.func23, Try.ntmps23
  go_wp2_with fail
  go_loopw [6] (fun s wr => ∃ (i : Nat) (v : Value), i ≤ len ∧ s = .int .i64 i ∧ Kept [ps, g0] w wr ∧ wr.heap[ps]? = some (.cells #[v] 22 (0, 0)) ∧ wr.ownsRow g0 3 1 v i ((zs.take i).map (Value.int .i64)) ∧
    Hid (∀ g, v.ownBlock = some g → g = g0 ∨ w.heap.size ≤ g)) (fun s _ => len - (intOf s).toNat)
  case atStart => exact ⟨0, _, Nat.zero_le _, rfl, Kept.refl _ _, Hps.out, by simpa using Hown.out, hid (fun g hg => by simp [Value.ownBlock] at hg; exact Or.inl hg.symm)⟩
  case round =>
    obtain ⟨i, v, hi, rfl, hkw, hs, how, hvb⟩ := hrel
    by_cases hlt : i < len
    · cases a with
      | none => exact absurd (HN.out rfl) (by omega)
      | some x =>
        obtain ⟨hx, hxc⟩ := HC.out x rfl i hlt
        have hlw := lt_of_block Hps.out
        have gx : wr.cell? (x.add i) = some (.int .i64 (zs[i]?.getD 0)) := (hkw.cell (p := x.add i) (by have := N3.out; rw [add_block]; omega) (by have := N3.out; rw [add_block]; simp; omega)).trans hxc
        have hkw1 := hid (hkw.alloc (.cells #[.int .i64 (zs[i]?.getD 0)] 3))
        have hx1 := hid (heap_alloc_new' wr (.cells #[.int .i64 (zs[i]?.getD 0)] 3))
        have hs1 := heap_alloc_old (o := .cells #[.int .i64 (zs[i]?.getD 0)] 3) hs
        have gs1 := cell_of_one hs1
        have gf1 := free_of_one hs1
        have Hs1 := hid hs1
        have ow1 := hid (((Kept.refl [] wr).alloc (.cells #[.int .i64 (zs[i]?.getD 0)] 3)).owns how (by simp))
        have Hhx := hid hx
        clear hxc hkw hs how hs1 hx
        go_wp2_with fail
        generalize wr.alloc (.cells #[.int .i64 (zs[i]?.getD 0)] 3) = W at *
        have hsz := lt_of_block hx1.out
        have hps1 := lt_of_block Hs1.out
        obtain ⟨i0, hi0, hz0, hz1, hz2⟩ := info_parts info_int
        have hvne : v.ownBlock ≠ some ps := fun hv => by have := hvb.out ps hv; have := N3.out; omega
        go_region_law
          ((first
            | (refine step_call rfl 11 #[.func (.func 24) #[] #[.pointer (some ⟨wr.heap.size, 0, none⟩)]] (by go_simp) (fun v w' => v = .int .i64 (zs[i]?.getD 0) ∧ Kept [] W.drew w') ((nests_run wr.heap.size (zs[i]?.getD 0) _ (by exact hx1.out)).mono fun e w' h => ⟨_, h.1, rfl, h.2⟩) ?_
               rintro _ w1 ⟨rfl, hk1⟩
               have gw1 : w1.cell? ⟨ps, 0, none⟩ = some v := (Kept.cell hk1 (p := ⟨ps, 0, none⟩) hps1 (by simp)).trans gs1
               have lw1 : ps < w1.heap.size := Nat.lt_of_lt_of_le hps1 hk1.size
               have nw1 : ps ≠ w1.heap.size := by omega)
            | (refine step_append_lies _ (by rfl) _ _ _ (by rfl) g0 3 i0 _ 1 8 Try.underlying22 hi0 hz0 hz1 hz2 rfl (by omega) v i ((zs.take i).map (Value.int .i64)) (by rfl) (by exact ((((Kept.of_drew [] W).trans hk1).alloc _).owns ow1.out (by simp)))
                ⟨w1.heap.size, 0, none⟩ 1 1 [.int .i64 (zs[i]?.getD 0)] (by rfl) (by rfl) (cell_one_new _ _ _) (by simp [Value.oneCell']) (by omega) (by unfold maxLen; omega) (by omega) (by have h9 : W.heap.size ≤ w1.heap.size := hk1.size; have h10 := N3.out; simp; omega) (w1.heap.size + 1) (by simp) ?_; intro gg cp w2 hown2 hgrow hat hlt2
               have hfz : w2.frozen? ⟨ps, 0, none⟩ = false := (hgrow.frozen_far _ (by have h9 : W.heap.size ≤ w1.heap.size := hk1.size; simp; omega) (Ne.symm hvne)).trans ((Kept.frozen ((Kept.refl [] w1).alloc _) (p := ⟨ps, 0, none⟩) (Nat.lt_of_lt_of_le hps1 hk1.size) (by simp)).trans ((Kept.frozen hk1 (p := ⟨ps, 0, none⟩) hps1 (by simp)).trans gf1))
               have hcz : w2.cell? ⟨ps, 0, none⟩ = some v := (hgrow.cell_far _ (by have h9 : W.heap.size ≤ w1.heap.size := hk1.size; simp; omega) (Ne.symm hvne)).trans ((Kept.cell ((Kept.refl [] w1).alloc _) (p := ⟨ps, 0, none⟩) (Nat.lt_of_lt_of_le hps1 hk1.size) (by simp)).trans gw1))))
        all_goals
          have hps2 := hid (heap_grown hgrow (heap_alloc_old (o := .cells #[.int .i64 (zs[i]?.getD 0)] 3) (hk1.at (k := ps) Hs1.out (by simp))) hvne)
          have hk2 : Hid (Kept [ps, g0] w (w2.setCell ⟨ps, 0, none⟩ (.slice (some ⟨gg, 0, none⟩) (i + 1) cp))) := hid ((((((hkw1.out.drew).trans (hk1.wider (by simp))).alloc _).trans' (Kept.of_row hgrow) (fun k hlt hk => by
            simp at hk
            have := hvb.out k hk
            have : k = g0 := by omega
            simp [this]))).setCell (p := ⟨ps, 0, none⟩) (fun _ => by simp) _)
          have hs2 : Hid ((w2.setCell ⟨ps, 0, none⟩ (.slice (some ⟨gg, 0, none⟩) (i + 1) cp)).heap[ps]? = some (.cells #[.slice (some ⟨gg, 0, none⟩) (i + 1) cp] 22 (0, 0))) := hid (one_setCell hps2.out)
          have hgne : gg ≠ ps := by
            rcases hat with h | h
            · exact fun e => hvne (e ▸ h)
            · omega
          have hb2 : Hid (gg = g0 ∨ w.heap.size ≤ gg) := hid (by
            rcases hat with h | h
            · exact hvb.out gg h
            · have h1 := hkw1.out.size; have h2 : W.heap.size ≤ w1.heap.size := hk1.size; omega)
          have how2 := hid (ownsRow_setCell_other hown2 (a := ⟨ps, 0, none⟩) (by simpa [Value.ownBlock] using hgne) (.slice (some ⟨gg, 0, none⟩) (i + 1) cp))
          clear hcz hgrow hk1 gw1 lw1 nw1 gs1 gf1 hat hgne hown2 hvne hps2
          go_wp2
          go_roundw
          case rel => exact ⟨i + 1, _, by omega, by go_num, hk2.out, hs2.out, by rw [take_snoc' zs i (by have := HZ.out; omega)]; simpa using how2.out, hid (fun g hg => by simp [Value.ownBlock] at hg; subst hg; exact hb2.out)⟩
          case measure => simp [intOf]; omega
    · have hin : i = len := by omega
      subst hin
      go_wp2
      go_end0
      exact ⟨rfl, hkw, v, hs, how, hvb⟩
end Go.Proofs.Ytohmmkceffmipaa
