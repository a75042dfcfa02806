/- coldstoreref01.SameInts over two equal slices; coldstorelaw01.GuardNests. -/
import Derived.Test.YtohmmkceffmipaaG7
import Derived.BigQuiet
import Derived.Deep.QuietTactic
namespace Go.Proofs.Ytohmmkceffmipaa
open Go.RowKit

/-- A slice reads as integers: nil and none, or a row of cells. -/
def Reads (w : World) (a : Option Addr) (n : Nat) (zs : List Int) : Prop :=
  n ≤ zs.length ∧ (a = none → n = 0) ∧ ∀ x, a = some x → ∀ i, i < n → w.cell? (x.add i) = some (.int .i64 (zs[i]?.getD 0))

theorem Reads.kept {S : List Nat} {w w' : World} {a : Option Addr} {n : Nat} {zs : List Int} (h : Reads w a n zs) (hk : Kept S w w') (hS : ∀ x, a = some x → x.block ∉ S) : Reads w' a n zs :=
  ⟨h.1, h.2.1, fun x hx i hi => by
    have hc := h.2.2 x hx i hi
    have hl := World.block_lt_of_cell? w _ hc
    exact (hk.cell hl (by rw [add_block]; exact hS x hx)).trans hc⟩

theorem sameints_true (a b : Option Addr) (n c1 c2 : Nat) (hn : n ≤ 9223372036854775807) (zs : List Int) (w : World) (ha : Reads w a n zs) (hb : Reads w b n zs) :
    Calls Try.prog 25 #[.slice a n c1, .slice b n c2] w fun e w' => e = .returned (.bool true) ∧ Kept [] w w' := by
  have Ha := hid ha; have Hb := hid hb
  clear ha hb
  go_enter Try.func25, Try.ntmps25
  go_wp2_with fail
  go_loopw [5] (fun s wr => ∃ i : Nat, i ≤ n ∧ s = .int .i64 i ∧ Kept [] w wr) (fun s _ => n - (intOf s).toNat)
  case atStart => exact ⟨0, Nat.zero_le _, rfl, Kept.refl _ _⟩
  case round =>
    obtain ⟨i, hi, rfl, hk⟩ := hrel
    by_cases hlt : i < n
    · have ra := Ha.out.kept hk (fun _ _ => by simp)
      have rb := Hb.out.kept hk (fun _ _ => by simp)
      obtain ⟨_, na, ca⟩ := ra
      obtain ⟨_, nb, cb⟩ := rb
      cases a with
      | none => exact absurd (na rfl) (by omega)
      | some x =>
        cases b with
        | none => exact absurd (nb rfl) (by omega)
        | some y =>
          have gx := ca x rfl i hlt
          have gy := cb y rfl i hlt
          have h0 : (0 : Int) ≤ (i : Int) := by omega
          have h1 : (i : Int) < (n : Int) := by omega
          have Hk := hid hk
          clear ca cb na nb hk
          go_wp2_with fail
          go_quiet (fail)
          go_wp2
          go_roundw
          case rel => exact ⟨i + 1, by omega, by go_num, Hk.out.drewN _⟩
          case measure => simp [intOf]; omega
    · have hin : i = n := by omega
      subst hin
      go_wp2
      go_ret
      exact ⟨rfl, hk⟩

theorem reads_row {w : World} {base : Nat} {v : Value} {n : Nat} {zs : List Int} (hz : n ≤ zs.length) (h : w.ownsRow base 3 1 v n ((zs.take n).map (Value.int .i64))) :
    ∃ b c, v = .slice b n c ∧ Reads w b n zs ∧ ∀ x, b = some x → v.ownBlock = some x.block := by
  obtain ⟨h1, h2⟩ := h
  rcases h2 with ⟨rfl, rfl⟩ | ⟨g, cap, cur, rfl, hg, hh, hc, hm, hs, ht⟩
  · exact ⟨none, 0, rfl, ⟨Nat.zero_le _, fun _ => rfl, fun x hx => by simp at hx⟩, fun x hx => by simp at hx⟩
  · refine ⟨_, cap, rfl, ⟨hz, fun h => by simp at h, fun x hx i hi => ?_⟩, fun x hx => by simp at hx; subst hx; rfl⟩
    simp at hx
    subst hx
    have e : cur[i]? = some (.int .i64 (zs[i]?.getD 0)) := by
      have hi' : i < zs.length := by omega
      have := congrArg (fun l => l[i]?) ht
      simp [List.getElem?_take, hi, hi'] at this
      rw [this]
      simp [hi']
    have ea : (⟨g, 0, none⟩ : Addr).add i = ⟨g, i, none⟩ := by unfold Addr.add; split <;> simp_all
    rw [ea]
    simp [World.cell?, hh, e]

theorem reads_of_row {w : World} {a : Option Addr} {len cap : Nat} {zs : List Int} (h : (a = none ∧ len = 0 ∧ cap = 0 ∧ zs = []) ∨
    ∃ x, a = some x ∧ len ≤ cap ∧ cap ≤ maxLen ∧ zs.length = cap ∧ (∀ i, i < zs.length → w.cell? (x.add i) = some (.int .i64 (zs.getD i 0))) ∧ ∀ n ∈ zs, (Lit.int .i64 n).wf = true) :
    Reads w a len zs ∧ len ≤ 9223372036854775807 ∧ ∀ i, i < len → (Lit.int .i64 (zs[i]?.getD 0)).wf = true := by
  rcases h with ⟨rfl, rfl, rfl, rfl⟩ | ⟨x, rfl, h1, h2, h3, h4, h5⟩
  · exact ⟨⟨Nat.le_refl _, fun _ => rfl, fun x hx => by simp at hx⟩, by omega, fun i hi => absurd hi (by omega)⟩
  · refine ⟨⟨by omega, fun h => by simp at h, fun y hy i hi => ?_⟩, by unfold maxLen at h2; omega, fun i hi => h5 _ ?_⟩
    · simp at hy
      subst hy
      simpa using h4 i (by omega)
    · have : i < zs.length := by omega
      simp [this]

theorem guardnests (a : Option Addr) (len cap : Nat) (zs : List Int) (d : Int) (w : World) (hlen : len ≤ 9223372036854775807) (ha : Reads w a len zs) :
    Calls Try.prog 5 #[.slice a len cap, .int .i64 d] w fun e w' => e = .returned (.bool true) ∧ Kept [] w w' := by
  have hmf : ∀ (fn : Fn) (first cap : Array Value) (w : World), (Instr.makeFunc fn first cap).run Try.prog w = .ok (.func fn first cap) w := fun _ _ _ _ => rfl
  have Ha := hid ha
  clear ha
  go_enter Try.func5, Try.ntmps5
  go_wp2_with fail
  refine (alive01 _).mono ?_
  rintro e w1 ⟨rfl, hk⟩
  have hb0 := hk.at (k := w.heap.size) (heap_alloc_old (heap_alloc_at rfl)) (by simp)
  have hb1 := hk.at (k := w.heap.size + 1) (heap_alloc_at (by simp)) (by simp)
  have gb0 := cell_of_one hb0
  have gb1 := cell_of_one hb1
  have gf1 := free_of_one hb1
  have Hk := hid (((Kept.refl [] w).alloc _).alloc _ |>.trans hk)
  have Hb0 := hid hb0; have Hb1 := hid hb1
  have hlt := hid (lt_of_block hb1)
  clear hk hb0 hb1
  by_cases hl : 100 < len
  · go_wp2
    go_ret
    exact ⟨rfl, Hk.out⟩
  · have hl' : ¬ (100 : Int) < (len : Int) := by omega
    have hand := i64_and7 d
    have hm0 : 0 ≤ d % 8 := by omega
    have hm1 : d % 8 ≤ 7 := by omega
    go_wp2_with fail
    clear gb0 gb1 gf1
    have hlt := hlt.out
    obtain ⟨W, hW⟩ : ∃ W, W = (((w1.setCell ⟨w.heap.size + 1, 0, none⟩ (.int .i64 (1 + d % 8))).alloc (.cells #[] 3)).alloc (.cells #[.slice (some ⟨w1.heap.size, 0, none⟩) 0 0] 22)) := ⟨_, rfl⟩
    have hkW := hid (show Kept [] w W from hW ▸ (((Hk.out.setCell (p := ⟨w.heap.size + 1, 0, none⟩) (fun h => absurd h (by simp)) _).alloc _).alloc _))
    have hpl := hid (show W.heap[w.heap.size]? = _ from hW ▸ heap_alloc_old (heap_alloc_old (heap_setCell_other Hb0.out (by simp))))
    have hpd := hid (show W.heap[w.heap.size + 1]? = some (.cells #[.int .i64 (1 + d % 8)] 3 (0, 0)) from hW ▸ heap_alloc_old (heap_alloc_old (one_setCell Hb1.out)))
    have hg0 := hid (show W.heap[w1.heap.size]? = some (.cells #[] 3 (0, 0)) from hW ▸ heap_alloc_old (heap_alloc_at (by simp)))
    have hps := hid (show W.heap[w1.heap.size + 1]? = some (.cells #[.slice (some ⟨w1.heap.size, 0, none⟩) 0 0] 22 (0, 0)) from hW ▸ heap_alloc_at (by simp))
    rw [← hW]
    clear hW
    have hrd := Ha.out.kept hkW.out (fun _ _ => by simp)
    have hrun := hid (run_err 23 enters_nests1 #[.pointer (some ⟨w.heap.size, 0, none⟩), .pointer (some ⟨w1.heap.size + 1, 0, none⟩)] W
      (fun n W' => n = 0 ∧ Kept [w1.heap.size + 1, w1.heap.size] (W.alloc (.cells #[.int .i64 0] 26)) W' ∧ ∃ v, W'.heap[w1.heap.size + 1]? = some (.cells #[v] 22 (0, 0)) ∧ W'.ownsRow w1.heap.size 3 1 v len ((zs.take len).map (Value.int .i64)) ∧ Hid (∀ g, v.ownBlock = some g → g = w1.heap.size ∨ W.heap.size + 1 ≤ g))
      ((nests_1 w.heap.size (w1.heap.size + 1) w1.heap.size a len cap zs (W.alloc (.cells #[.int .i64 0] 26)) (by omega) hrd.1 (heap_alloc_old hpl.out) (heap_alloc_old hps.out)
        ⟨by simp, Or.inr ⟨w1.heap.size, 0, #[], rfl, Nat.le_refl _, heap_alloc_old hg0.out, by simp, by simp, by simp, by simp⟩⟩ (by omega) (by omega) rfl hrd.2.1
        (fun x hx i hi => ⟨by
          have := World.block_lt_of_cell? w _ (Ha.out.2.2 x hx i hi)
          rw [add_block] at this; omega, by
          have hc := hrd.2.2 x hx i hi
          exact (((Kept.refl [] W).alloc _).cell (World.block_lt_of_cell? W _ hc) (by simp)).trans hc⟩)).mono fun e w' h => Or.inl ⟨h.1, by
            have h1 := lt_of_block hps.out
            exact h.2.1.at (heap_alloc_new' _ _) (by simp; omega), rfl, h.2.1, by simpa using h.2.2⟩))
    refine hrun.out.mono ?_
    rintro e w2' ⟨n, w2, rfl, ⟨rfl, hk2, v, hv, hov, hvg⟩, rfl⟩
    have l1 := lt_of_block hps.out
    have hvne : v.ownBlock ≠ some W.heap.size := fun h => by have := hvg.out _ h; omega
    have hv3 := heap_setCell_other (p := ⟨W.heap.size, 0, none⟩) (u := .int .i64 0) hv (by simp; omega)
    have hov3 := ownsRow_setCell_other hov (a := ⟨W.heap.size, 0, none⟩) hvne (.int .i64 0)
    obtain ⟨b, c2, rfl, hrb, hbb⟩ := reads_row hrd.1 hov3
    have hk3 := hid (show Kept [w1.heap.size + 1, w1.heap.size] W (w2.setCell ⟨W.heap.size, 0, none⟩ (.int .i64 0)) from (((Kept.refl _ W).alloc _).trans hk2).setCell (p := ⟨W.heap.size, 0, none⟩) (fun h => absurd h (by simp)) _)
    generalize w2.setCell ⟨W.heap.size, 0, none⟩ (.int .i64 0) = w3 at *
    have hkw3 := hid (show Kept [] w w3 from hkW.out.trans' hk3.out (fun x hx hm => by simp at hm; omega))
    have hra := Ha.out.kept hkw3.out (fun _ _ => by simp)
    have hl1 := hk3.out.at hpl.out (by simp; omega)
    have hd1 := hk3.out.at hpd.out (by simp; omega)
    have gv3 := cell_of_one hv3
    have gl1 := cell_of_one hl1
    have hsame := hid (sameints_true b a len c2 cap hlen zs w3 hrb hra)
    have Hd1 := hid hd1
    clear hk2 hv hov hv3 hov3 hrb hra hl1 hd1 hbb hvne hvg hrd l1 hrun
    go_wp2_with fail
    refine hsame.out.mono ?_
    rintro e w4 ⟨rfl, hk4⟩
    have Hd4 := hid (hk4.at Hd1.out (by simp))
    have hkw4 := hid (hkw3.out.trans hk4)
    clear hk4 gv3 gl1 hsame
    go_wp2_with fail
    refine (newfuse_any 0 (by omega) w4).mono ?_
    rintro e w5 ⟨rfl, rfl⟩
    go_wp2_with fail
    obtain ⟨D, hD, hD8⟩ : ∃ D : Nat, (1 + d % 8) = (D : Int) ∧ D ≤ 100 := ⟨(1 + d % 8).toNat, by omega, by omega⟩
    have hd5 := hid (hD ▸ Hd4.out)
    obtain ⟨V, hV⟩ : ∃ V, V = (((w4.alloc (.cells #[.int .i64 0] 70)).alloc (.cells #[.pointer (some ⟨w4.heap.size, 0, none⟩)] 38)).alloc (.cells #[.int .i64 0] 3)) := ⟨_, rfl⟩
    have hkV := hid (show Kept [] w V from hV ▸ (((hkw4.out.alloc _).alloc _).alloc _))
    have v0 := hid (show V.heap[w4.heap.size]? = some (.cells #[.int .i64 0] 70 (0, 0)) from hV ▸ heap_alloc_old (heap_alloc_old (heap_alloc_at rfl)))
    have v1 := hid (show V.heap[w4.heap.size + 1]? = some (.cells #[.pointer (some ⟨w4.heap.size, 0, none⟩)] 38 (0, 0)) from hV ▸ heap_alloc_old (heap_alloc_at (by simp)))
    have v2 := hid (show V.heap[w4.heap.size + 1 + 1]? = some (.cells #[.int .i64 0] 3 (0, 0)) from hV ▸ heap_alloc_at (by simp))
    have vd := hid (show V.heap[w.heap.size + 1]? = some (.cells #[.int .i64 D] 3 (0, 0)) from hV ▸ heap_alloc_old (heap_alloc_old (heap_alloc_old hd5.out)))
    rw [← hV]
    have hcatch := hid (catch_blown ⟨w4.heap.size, 0, none⟩ 28 enters_nests2 #[.pointer (some ⟨w.heap.size + 1, 0, none⟩), .pointer (some ⟨w4.heap.size + 1, 0, none⟩), .pointer (some ⟨w4.heap.size + 1 + 1, 0, none⟩)] V [] (by simp)
      (fun _ => True) (fun _ _ _ _ => trivial)
      ((nests_2 (w.heap.size + 1) w4.heap.size (w4.heap.size + 1) (w4.heap.size + 1 + 1) D hD8 _ (heap_alloc_old (heap_alloc_old vd.out)) (heap_alloc_old (heap_alloc_old v0.out)) (heap_alloc_old (heap_alloc_old v1.out))).mono fun e w' h => ⟨h.1, h.2, trivial⟩))
    clear hV hD hd5
    refine hcatch.out.mono ?_
    rintro e w6 ⟨rfl, hk6, -⟩
    have g6 := cell_of_one (hk6.at v2.out (by simp))
    have hfin := hid (hkV.out.trans hk6)
    clear hk6 hcatch
    go_wp2
    go_ret
    exact ⟨rfl, hfin.out⟩
end Go.Proofs.Ytohmmkceffmipaa
