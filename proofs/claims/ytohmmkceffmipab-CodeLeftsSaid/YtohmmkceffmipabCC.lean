/- coldstorelaw02.CodeLefts: all of it. -/
import Derived.Test.YtohmmkceffmipabCB
import Derived.Deep.QuietTactic
import Derived.BigQuiet
namespace Go.Proofs.Ytohmmkceffmipab
open Go.RowKit Go.Lib

set_option maxHeartbeats 4000000 in
theorem codelefts (a0 : Option Addr) (cap0 : Nat) (bs : List UInt8) (az : Option Addr) (lz cz : Nat) (zs : List Int) (w : World) (hs : SrcB w (.slice a0 bs.length cap0) bs) (hn0 : a0 = none → cap0 = 0) (hl0 : bs.length ≤ cap0) (hm0 : cap0 ≤ 9223372036854775807)
    (hnil : az = none → lz = 0) (hmz : lz ≤ 9223372036854775807) (hcell : ∀ x, az = some x → ∀ i, i < lz → w.cell? (x.add i) = some (.int .i64 (zs[i]?.getD 0))) :
    Calls Try.prog 5 #[.slice a0 bs.length cap0, .slice az lz cz] w fun e w' => e = .returned (.bool true) ∧ Kept [] w w' := by
  have hmf : ∀ (fn : Fn) (first cap : Array Value) (w : World), (Instr.makeFunc fn first cap).run Try.prog w = .ok (.func fn first cap) w := fun _ _ _ _ => rfl
  have Hs := hid hs; have HN0 := hid hn0; have HNIL := hid hnil; have HC := hid hcell
  clear hs hn0 hnil hcell
  obtain ⟨W0, hW0⟩ : ∃ W, W = w.alloc (.cells #[.slice az lz cz] 47) := ⟨_, rfl⟩
  have hk0 := hid (show Kept [] w W0 from hW0 ▸ (Kept.refl [] w).alloc _)
  have hz0 := hid (show W0.heap[w.heap.size]? = some (.cells #[.slice az lz cz] 47 (0, 0)) from hW0 ▸ heap_alloc_at rfl)
  have HW0 := hid hW0
  clear hW0
  go_enter Try.func5, Try.ntmps5
  go_wp2_with fail
  rw [← HW0.out]
  refine (alive02 _).mono ?_
  rintro e w1 ⟨rfl, hk1⟩
  have hz1 := hk1.at hz0.out (by simp)
  have lz1 := lt_of_block hz1
  have gz := cell_of_one hz1
  have Hk1 := hid (hk0.out.trans hk1)
  have Hz1 := hid hz1
  clear hk1 hz1
  by_cases hl : 200 < bs.length
  · have hl' : (200 : Int) < (bs.length : Int) := by omega
    clear hl
    go_wp2
    go_ret
    exact ⟨rfl, Hk1.out⟩
  have hl' : ¬ (200 : Int) < (bs.length : Int) := by omega
  by_cases hlz : 40 < lz
  · have hlz' : (40 : Int) < (lz : Int) := by omega
    clear hlz
    go_wp2
    go_ret
    exact ⟨rfl, Hk1.out⟩
  have hlz' : ¬ (40 : Int) < (lz : Int) := by omega
  go_wp2_with fail
  obtain ⟨W, hW⟩ : ∃ W, W = ((((w1.alloc (.cells #[] 5)).alloc (.cells #[.slice (some ⟨w1.heap.size, 0, none⟩) 0 0] 25)).alloc (.cells #[.bool true] 4)).alloc (.cells #[.int .i64 0] 3)) := ⟨_, rfl⟩
  have hkW := hid (show Kept [] w1 W from hW ▸ ((((Kept.refl [] w1).alloc _).alloc _).alloc _).alloc _)
  have h0 := hid (show W.heap[w1.heap.size]? = some (.cells #[] 5 (0, 0)) from hW ▸ heap_alloc_old (heap_alloc_old (heap_alloc_old (heap_alloc_at rfl))))
  have h1 := hid (show W.heap[w1.heap.size + 1]? = some (.cells #[.slice (some ⟨w1.heap.size, 0, none⟩) 0 0] 25 (0, 0)) from hW ▸ heap_alloc_old (heap_alloc_old (heap_alloc_at (by simp))))
  have h2 := hid (show W.heap[w1.heap.size + 1 + 1]? = some (.cells #[.bool true] 4 (0, 0)) from hW ▸ heap_alloc_old (heap_alloc_at (by simp)))
  have h3 := hid (show W.heap[w1.heap.size + 1 + 1 + 1]? = some (.cells #[.int .i64 0] 3 (0, 0)) from hW ▸ heap_alloc_at (by simp))
  have l3 := lt_of_block h3.out
  rw [← hW]
  clear hW hmf
  have hz := hid (hkW.out.at Hz1.out (by simp))
  have hkw := hid (Hk1.out.trans hkW.out)
  have hcW := hid (fun x (hx : az = some x) i (hi : i < lz) => show x.block < w1.heap.size ∧ W.cell? (x.add i) = some (.int .i64 (zs[i]?.getD 0)) from by
    have h9 := HC.out x hx i hi
    have h8 := World.block_lt_of_cell? w _ h9
    exact ⟨by rw [add_block] at h8; omega, (hkw.out.cell h8 (by simp)).trans h9⟩)
  have hd := hid (decode_any' 23 enters_lefts1 #[.pointer (some ⟨w.heap.size, 0, none⟩), .pointer (some ⟨w1.heap.size + 1, 0, none⟩), .pointer (some ⟨w1.heap.size + 1 + 1, 0, none⟩), .pointer (some ⟨w1.heap.size + 1 + 1 + 1, 0, none⟩)]
    (.slice a0 bs.length cap0) bs W (Hs.out.kept hkw.out (by simp)) (by omega) [w1.heap.size, w1.heap.size + 1, w1.heap.size + 1 + 1, w1.heap.size + 1 + 1 + 1] (by simp; omega) (LeftsQ w1.heap.size (w1.heap.size + 1) (w1.heap.size + 1 + 1) (w1.heap.size + 1 + 1 + 1) bs)
    (fun n rest W W' x hq hx he hk => hq.err he hk (by omega) (by omega) (by omega))
    (fun rb a c W' hkW' hrb hab hrd => lefts1 rb w.heap.size w1.heap.size (w1.heap.size + 1) (w1.heap.size + 1 + 1) (w1.heap.size + 1 + 1 + 1) a az c lz cz bs zs W' hrd (by omega) (by omega) (hkW'.at hz.out (by simp)) (hkW'.at h1.out (by simp)) (hkW'.at h2.out (by simp)) (hkW'.at h3.out (by simp))
      ⟨by simp, Or.inr ⟨w1.heap.size, 0, #[], rfl, Nat.le_refl _, hkW'.at h0.out (by simp), by simp, by simp, by simp, by simp⟩⟩ (by omega) (fun x hx => by have := hab x hx; omega) HNIL.out
      (fun x hx i hi => ⟨(hcW.out x hx i hi).1, (hkW'.cell (World.block_lt_of_cell? W _ (hcW.out x hx i hi).2) (by simp)).trans (hcW.out x hx i hi).2⟩)))
  refine hd.out.mono ?_
  rintro e w6 ⟨n6, rest, rfl, hk6, rfl, b, c, got, hgr, hg6, ho6, hd6, hl6⟩
  have gg := cell_of_one hg6
  have gd := cell_of_one hd6
  have gl := cell_of_one hl6
  have Hk6 := hid (show Kept [] w w6 from hkw.out.trans' hk6 (fun x hx hm => by have := Hk1.out.size; simp at hm; omega))
  have hb6 := (bys_of_row (xs := got) ho6).1
  have hs6 := Hs.out.kept Hk6.out (by simp)
  have hlen : got.length + rest.length = bs.length := by rw [← hgr]; simp
  have hpre : SrcB w6 (.slice a0 got.length cap0) got := by
    have ht : bs.take got.length = got := by rw [← hgr]; simp
    cases hbs : bs with
    | nil =>
      have hgn : got = [] := by rw [hbs] at hgr; simp at hgr; exact hgr.1
      rw [hgn]
      rw [hbs] at hs6
      exact hs6
    | cons x r =>
      have h9 := hs6.take (n := got.length) (by omega) (by rw [hbs]; simp)
      rw [ht] at h9
      exact h9
  have hsame := hid (fun n => (same_src b a0 c cap0 got (w6.drewN n) (hb6.kept ((Kept.refl [] w6).drewN n) (by simp)) (hpre.kept ((Kept.refl [] w6).drewN n) (by simp))).mono fun e w' h => (⟨h.1, h.2.symm⟩ : e = .returned (.bool true) ∧ w' = w6.drewN n))
  have hsum : IntKind.i64.wrap ((got.length : Int) + (rest.length : Int)) = (bs.length : Int) := by rw [IntKind.wrap_i64]; omega
  have hgl : (got.length : Int) ≤ (cap0 : Int) := by omega
  clear hk6 hg6 ho6 hd6 hl6 hb6 hs6 hpre hd h0 h1 h2 h3 hz hkW hkw hcW
  rcases hr : rest with _ | ⟨x, r⟩
  · subst hr
    rw [if_neg (by simp)]
    have hgb : (got.length : Int) = (bs.length : Int) := by simp at hlen; omega
    have hsum0 : (IntKind.i64.wrap (got.length : Int) == (bs.length : Int)) = true := by rw [IntKind.wrap_i64]; simp; omega
    clear hsum
    have HGB := hid hgb
    clear hgb
    cases a0 with
    | none =>
      have := HN0.out rfl
      subst this
      have hg0 : got.length = 0 := by omega
      have hb0 : bs.length = 0 := by omega
      rw [hg0] at gg hsum0 hsame
      have hw0 : (IntKind.i64.wrap 0 == 0) = true := by decide
      rw [hb0] at hsum0 ⊢
      go_wp2_with fail
      go_quiet ((go_at_call 13; exact Calls.quiet_of_same (hsame.out _)))
      go_wp2
      go_ret
      exact ⟨by simp, Hk6.out.drewN _⟩
    | some x =>
      go_wp2_with fail
      go_quiet ((go_at_call 13; exact Calls.quiet_of_same (hsame.out _)))
      go_wp2
      go_ret
      exact ⟨by simp, Hk6.out.drewN _⟩
  · rw [← hr]
    have hne : rest ≠ [] := by rw [hr]; simp
    have hpos : 0 < (rest.length : Int) := by rw [hr]; simp
    have hz : ((rest.length : Int) == 0) = false := by simp; rw [hr]; simp
    have hsum0 : (IntKind.i64.wrap ((got.length : Int) + (rest.length : Int)) == (bs.length : Int)) = true := by rw [hsum]; simp
    rw [if_pos ⟨rfl, hne⟩]
    clear hne hr
    cases a0 with
    | none =>
      have := HN0.out rfl
      subst this
      exfalso
      omega
    | some x =>
      have hdec : decide (0 < (rest.length : Int)) = true := decide_eq_true hpos
      clear hgr hlen
      generalize rest.length = R at *
      have hposn : 0 < R := by omega
      have hdec2 : decide (0 < R) = true := decide_eq_true hposn
      go_wp2_with fail
      go_quiet ((go_at_call 13; exact Calls.quiet_of_same (hsame.out _)))
      go_wp2
      go_ret
      exact ⟨by simp, Hk6.out.drewN _⟩
end Go.Proofs.Ytohmmkceffmipab
