import Derived.Test.YtdojpioclojalaaDoorN4
import Derived.Test.YtdojpioclojalaaDoorJ7
import Derived.Test.YtdojpioclojalaaDoorHL

/- tree.Check. -/
namespace Go.Proofs.YtdojpioclojalaaDoor
open Go.RowKit Go.Lib

theorem n_leq (a b : List UInt8) : (Op.bytesLess (S a).toList (S b).toList || (S a).toList == (S b).toList) = !decide (b < a) := by
  rw [jS_less, S_beq]
  by_cases h1 : a < b
  · simp [h1, lt_asy a b h1]
  · by_cases h2 : a = b
    · subst h2; simp [List.lt_irrefl]
    · have h3 : b < a := by
        rcases List.le_total a b with h | h
        · exact absurd (List.le_iff_lt_or_eq.1 h) (by simp [h1, h2])
        · rcases List.le_iff_lt_or_eq.1 h with h | h
          · exact h
          · exact absurd h.symm h2
      simp [h1, h2, h3]

set_option maxRecDepth 100000 in
set_option maxHeartbeats 4000000 in
theorem t_check (a : Option Addr) (c : Nat) (ns : List NodeR) (w : World) (h : ∀ wr, Kept [] w wr → Nodes wr a c ns) :
    Calls Tryd.prog 16 #[.slice a ns.length c] w fun e w' => e = .returned (.int .i64 (errL (ns.map NodeR.nd))) ∧ Kept [] w w' := by
  have H := hid h
  have hmx := (h w (Kept.refl [] w)).max
  have hle := (h w (Kept.refl [] w)).le
  obtain ⟨L, hL⟩ : ∃ L, L = ns.map NodeR.nd := ⟨_, rfl⟩
  have HLs := hid hL
  have hll := hid (show L.length = ns.length by rw [hL]; simp)
  rw [← hL]
  clear hL h
  by_cases g : 512 < ns.length
  · have e1 : (512 : Int) < (ns.length : Int) := by omega
    have hE := hid (show errL L = 3 by unfold errL; rw [if_pos (by rw [hll.out]; exact g)])
    generalize ns.length = nl at *
    go_enter Tryd.func16, Tryd.ntmps16
    go_wp2
    go_ret
    exact ⟨by rw [hE.out]; rfl, Kept.refl _ _⟩
  have e1 : ¬ (512 : Int) < (ns.length : Int) := by omega
  have hE0 := hid (show errL L = errFrom none L by unfold errL; rw [if_neg (by rw [hll.out]; exact g)])
  have hp := hid (fun (s : List UInt8) (v : World) => t_part s v)
  go_enter Tryd.func16, Tryd.ntmps16
  go_wp2_with fail
  go_loopw [10] (fun s wr => ∃ i : Nat, i ≤ ns.length ∧ s = .int .i64 i ∧ Kept [] w wr ∧ Hid (errL L = errFrom (prevAt L i) (L.drop i))) (fun s _ => ns.length - (intOf s).toNat)
  case atStart => exact ⟨0, Nat.zero_le _, rfl, Kept.refl _ _, hid (by simpa [prevAt] using hE0.out)⟩
  case round =>
    obtain ⟨i, hi, rfl, hk, hfr⟩ := hrel
    have HK := hid hk
    clear hk
    by_cases hlt : i < ns.length
    · cases a with
      | none => exact absurd ((H.out w (Kept.refl _ _)).nil rfl) (fun e => by rw [e] at hlt; simp at hlt)
      | some x =>
        have hnode := (H.out wr HK.out).at_ x rfl i ns[i] (by simp [hlt])
        have hLi : L[i]? = some (ns[i]).nd := by rw [HLs.out, List.getElem?_map, List.getElem?_eq_getElem hlt]; rfl
        have hprev := hid (fun (k : Nat) (hk : i = k + 1) => show ∃ m : NodeR, prevAt L i = some m.nd.name ∧ ∀ wv, Kept [] w wv → NodeAt wv (x.add (k * 36)) m from by
          subst hk
          have hkl : k < ns.length := by omega
          refine ⟨ns[k], ?_, fun wv hv => (H.out wv hv).at_ x rfl k ns[k] (by simp [hkl])⟩
          rw [prevAt_succ L k (by rw [hll.out]; exact hkl)]
          have h2 : L[k]? = some (ns[k]).nd := by rw [HLs.out, List.getElem?_map, List.getElem?_eq_getElem hkl]; rfl
          rw [List.getElem?_eq_getElem (by rw [hll.out]; exact hkl)] at h2
          rw [Option.some.inj h2])
        have hp0 := hid (fun (h0 : i = 0) => show prevAt L i = none from by rw [h0]; rfl)
        have hst := errFrom_step L i _ hLi hfr.out
        have hin := hid hlt
        generalize ns[i] = n at *
        have h32 : n.sub.length = 32 := hnode.2.2.2.2.2.1
        have hreads := hid hnode.reads
        have hsz := hid (show (Tryd.prog.info? 42).map (·.size) = some n.cells.length by rw [node_size n h32]; exact node_info)
        have hfit := hid (show 0 + n.cells.length ≤ zNode.length by rw [node_size n h32, zNode_len]; decide)
        have hone := hid (node_one n)
        have hspl := hid (splice36 zNode n.cells (by rw [node_size n h32, zNode_len]))
        have hzv := zero_node
        have hform := hid (fun v => t_formed n h32 v)
        have hS := hid hst
        clear hst hnode h32 hLi
        go_wp2_with (refine wpList_load_cells rfl 42 (.tmp 13) rfl (x.add (i * 36)) rfl n.cells _ Tryd.underlying42 rfl hsz.out hreads.out ?_; refine halt ?_)
        refine Halt.mk ?_
        go_wp2_with (refine wpList_store_at rfl 42 (.tmp 4) (.tmp 14) rfl wr.heap.size 0 n.cells rfl rfl 42 zNode (heap_alloc_at rfl) hsz.out hfit.out hone.out ?_; refine halt ?_)
        rw [hspl.out]
        obtain ⟨wb, hwb⟩ : ∃ wb : World, wb = (wr.alloc (.cells zNode.toArray 42)).setRow wr.heap.size n.cells.toArray := ⟨_, rfl⟩
        rw [← hwb]
        refine Halt.mk ?_
        have hkb := hid (show Kept [] w wb by rw [hwb]; exact (HK.out.alloc _).setRow (fun h => absurd h (by have := HK.out.size; omega)) _)
        have hqb : NAt wb wr.heap.size n := by rw [hwb]; exact setRow_heap _ _ _ _ _ _ (heap_alloc_at rfl)
        have HA := hid hqb
        have c0 := hqb.cell 0 _ n.c0
        clear hwb hreads hfit hone hspl hqb
        have hne := hid (show n.nd.err (prevAt L i) = if okPart n.nd.name = false then 38 else if late (prevAt L i) n.nd.name = false then 24 else if n.nd.formed = false then 21 else if 4096 < n.parts.length then 3 else 0 from rfl)
        go_wp2_with fail
        refine (hp.out n.nd.name _).mono ?_
        rintro e w1 ⟨rfl, hk1⟩
        have Hk1 := hid (hkb.out.trans hk1)
        have HA1 := hid (HA.out.kept hk1 (by simp))
        clear hk1 c0
        have c0 := HA1.out.cell 0 _ n.c0
        cases hop : okPart n.nd.name
        · have hr := hid (hS.out.2 (by rw [hne.out, if_pos hop]; decide))
          have hr2 := hid (hr.out.trans (by rw [hne.out, if_pos hop]))
          clear hop
          go_wp2
          go_ret
          exact ⟨by rw [hr2.out]; rfl, Hk1.out⟩
        have hne2 := hid (hne.out.trans (if_neg (by rw [hop]; simp)))
        clear hop
        rcases Nat.eq_zero_or_pos i with h0 | h0
        · have hl : late (prevAt L i) n.nd.name = true := by rw [hp0.out h0]; rfl
          have hne3 := hid (hne2.out.trans (if_neg (by rw [hl]; simp)))
          have hi0 : decide (0 < i) = false := decide_eq_false (by omega)
          clear hl h0
          have hkd := hid (fun m => Hk1.out.drewN m)
          have hka := hid (fun (m : Nat) => show NAt (w1.drewN m) wr.heap.size n from HA1.out.kept ((Kept.refl [] w1).drewN m) (by simp))
          go_wp2_with fail
          go_quiet (fail)
          have Hk2 := hid (hkd.out nq)
          have HA2 := hid (hka.out nq)
          generalize w1.drewN nq = W2 at *
          go_wp2_with (refine wpList_load_cells rfl 42 (.tmp 4) rfl ⟨wr.heap.size, 0, none⟩ rfl n.cells _ Tryd.underlying42 rfl hsz.out HA2.out.reads ?_; refine halt ?_)
          refine Halt.mk ?_
          go_wp2_with fail
          refine (hform.out _).mono ?_
          rintro e w4 ⟨rfl, hk4⟩
          have Hk4 := hid (Hk2.out.trans hk4)
          have HA4 := hid (HA2.out.kept hk4 (by simp))
          clear hk4
          have c3 := HA4.out.cell 3 _ n.c3
          cases hfm : n.nd.formed
          · have hr := hid (hS.out.2 (by rw [hne3.out, if_pos hfm]; decide))
            have hr2 := hid (hr.out.trans (by rw [hne3.out, if_pos hfm]))
            clear hfm
            go_wp2
            go_ret
            exact ⟨by rw [hr2.out]; rfl, Hk4.out⟩
          have hne4 := hid (hne3.out.trans (if_neg (by rw [hfm]; simp)))
          clear hfm
          by_cases hpl : 4096 < n.parts.length
          · have hr := hid (hS.out.2 (by rw [hne4.out, if_pos hpl]; decide))
            have hr2 := hid (hr.out.trans (by rw [hne4.out, if_pos hpl]))
            generalize n.parts.length = pl at *
            have hpl2 : (4096 : Int) < (pl : Int) := by omega
            go_wp2
            go_ret
            exact ⟨by rw [hr2.out]; rfl, Hk4.out⟩
          have hr := hid (hS.out.1 (by rw [hne4.out, if_neg hpl]))
          generalize n.parts.length = pl at *
          have hpl2 : ¬ (4096 : Int) < (pl : Int) := by omega
          have hin2 : i + 1 ≤ ns.length := hin.out
          go_wp2
          go_roundw
          case rel => exact ⟨i + 1, hin2, by go_num, Hk4.out, hr⟩
          case measure => simp [intOf]; omega
        · obtain ⟨k, hk⟩ : ∃ k, i = k + 1 := ⟨i - 1, by omega⟩
          obtain ⟨m, hpm, hma⟩ := hprev.out k hk
          have cp : w1.cell? (x.add (k * 36)) = some (.string m.name) := (hma w1 Hk1.out).1
          have hbl : (Op.bytesLess n.name.toList m.name.toList || n.name.toList == m.name.toList) = !decide (m.nd.name < n.nd.name) := n_leq n.nd.name m.nd.name
          have hi0 : decide (0 < i) = true := decide_eq_true (by omega)
          have hkk := hid hk
          have hw : IntKind.i64.wrap ((i : Int) - 1) = (k : Int) := by rw [show (i : Int) - 1 = (k : Int) by omega]; exact IntWalk.i64_in _ (by omega)
          have hkn : (k : Int) < (ns.length : Int) := by omega
          clear h0 hma hk
          by_cases hlt2 : m.nd.name < n.nd.name
          · have hl : late (prevAt L i) n.nd.name = true := by rw [hpm]; exact decide_eq_true hlt2
            have hne3 := hid (hne2.out.trans (if_neg (by rw [hl]; simp)))
            rw [decide_eq_true hlt2] at hbl
            have hbl : (Op.bytesLess n.name.toList m.name.toList || n.name.toList == m.name.toList) = false := hbl
            clear hl hlt2 hpm
            have hkd := hid (fun m => Hk1.out.drewN m)
            have hka := hid (fun (m : Nat) => show NAt (w1.drewN m) wr.heap.size n from HA1.out.kept ((Kept.refl [] w1).drewN m) (by simp))
            go_wp2_with fail
            go_quiet (fail)
            have Hk2 := hid (hkd.out nq)
            have HA2 := hid (hka.out nq)
            generalize w1.drewN nq = W2 at *
            go_wp2_with (refine wpList_load_cells rfl 42 (.tmp 4) rfl ⟨wr.heap.size, 0, none⟩ rfl n.cells _ Tryd.underlying42 rfl hsz.out HA2.out.reads ?_; refine halt ?_)
            refine Halt.mk ?_
            go_wp2_with fail
            refine (hform.out _).mono ?_
            rintro e w4 ⟨rfl, hk4⟩
            have Hk4 := hid (Hk2.out.trans hk4)
            have HA4 := hid (HA2.out.kept hk4 (by simp))
            clear hk4
            have c3 := HA4.out.cell 3 _ n.c3
            cases hfm : n.nd.formed
            · have hr := hid (hS.out.2 (by rw [hne3.out, if_pos hfm]; decide))
              have hr2 := hid (hr.out.trans (by rw [hne3.out, if_pos hfm]))
              clear hfm
              go_wp2
              go_ret
              exact ⟨by rw [hr2.out]; rfl, Hk4.out⟩
            have hne4 := hid (hne3.out.trans (if_neg (by rw [hfm]; simp)))
            clear hfm
            by_cases hpl : 4096 < n.parts.length
            · have hr := hid (hS.out.2 (by rw [hne4.out, if_pos hpl]; decide))
              have hr2 := hid (hr.out.trans (by rw [hne4.out, if_pos hpl]))
              generalize n.parts.length = pl at *
              have hpl2 : (4096 : Int) < (pl : Int) := by omega
              go_wp2
              go_ret
              exact ⟨by rw [hr2.out]; rfl, Hk4.out⟩
            have hr := hid (hS.out.1 (by rw [hne4.out, if_neg hpl]))
            generalize n.parts.length = pl at *
            have hpl2 : ¬ (4096 : Int) < (pl : Int) := by omega
            have hin2 : i + 1 ≤ ns.length := hin.out
            go_wp2
            go_roundw
            case rel => exact ⟨i + 1, hin2, by go_num, Hk4.out, hr⟩
            case measure => simp [intOf]; omega
          · have hl : late (prevAt L i) n.nd.name = false := by rw [hpm]; exact decide_eq_false hlt2
            have hr := hid (hS.out.2 (by rw [hne2.out, if_pos hl]; decide))
            have hr2 := hid (hr.out.trans (by rw [hne2.out, if_pos hl]))
            rw [decide_eq_false hlt2] at hbl
            have hbl : (Op.bytesLess n.name.toList m.name.toList || n.name.toList == m.name.toList) = true := hbl
            clear hl hlt2 hpm
            have hkd := hid (fun m => Hk1.out.drewN m)
            have hka := hid (fun (m : Nat) => show NAt (w1.drewN m) wr.heap.size n from HA1.out.kept ((Kept.refl [] w1).drewN m) (by simp))
            go_wp2_with fail
            go_quiet (fail)
            have Hk2 := hid (hkd.out nq)
            have HA2 := hid (hka.out nq)
            generalize w1.drewN nq = W2 at *
            go_wp2
            go_ret
            exact ⟨by rw [hr2.out]; rfl, Hk2.out⟩
    · have hin : i = ns.length := by omega
      subst hin
      have hend := hid (show errL L = 0 by rw [hfr.out, List.drop_eq_nil_of_le (by rw [hll.out]; omega)]; rfl)
      clear hlt hi hle
      generalize ns.length = nl at *
      go_wp2
      go_ret
      exact ⟨by rw [hend.out]; rfl, HK.out⟩
end Go.Proofs.YtdojpioclojalaaDoor
