import Derived.Test.YtdojpioclojalaaDoorMZ

/- TreeFinds. -/
namespace Go.Proofs.YtdojpioclojalaaDoor
open Go.RowKit Go.Lib

theorem findR_at (ns : List NodeR) (i : Nat) (hi : i < ns.length) (hs : (ns.map NodeR.nd).Pairwise (fun a b => a.name < b.name)) : findR ns ns[i].nd.name = some ns[i] := by
  unfold findR
  have e1 : ns = ns.take i ++ ns[i] :: ns.drop (i + 1) := by rw [← List.drop_eq_getElem_cons hi, List.take_append_drop]
  have hno : ∀ m ∈ ns.take i, m.nd.name ≠ ns[i].nd.name := by
    intro m hm e
    have h1 := hs
    rw [e1, List.map_append, List.map_cons, List.pairwise_append] at h1
    have h2 := h1.2.2 m.nd (List.mem_map_of_mem hm) ns[i].nd (by simp)
    rw [e] at h2
    exact List.lt_irrefl _ h2
  generalize ns[i] = n at *
  rw [e1, List.find?_append, List.find?_eq_none.2 (fun m hm => by simpa using hno m hm), List.find?_cons_of_pos (by simp)]
  rfl
def hasR (ns : List NodeR) (t : List UInt8) : Bool := ns.any (fun n => decide (n.nd.name = t))
theorem hasR_find (ns : List NodeR) (t : List UInt8) : hasR ns t = (findR ns t).isSome := by
  unfold hasR findR
  rw [List.isSome_find?]
theorem hasR_snoc (ns : List NodeR) (n : NodeR) (t : List UInt8) : hasR (ns ++ [n]) t = (hasR ns t || decide (n.nd.name = t)) := by unfold hasR; simp
theorem part_no_slash {s : List UInt8} (h : okPart s = true) (t : List UInt8) : s ≠ t ++ [47] := by
  rintro rfl
  unfold okPart at h
  simp only [Bool.and_eq_true, List.all_append, List.all_cons, List.all_nil] at h
  have := h.2.2.1
  revert this
  decide
theorem S_snoc (t : List UInt8) : (S t) ++ (⟨#[47]⟩ : ByteArray) = S (t ++ [47]) := by
  apply ByteArray.ext
  simp [S]

theorem Found.some_ {w w' : World} {ns : List NodeR} {x : List UInt8} {e : Ending} {n : NodeR} (h : Found w w' ns x e) (hf : findR ns x = some n) :
    ∃ m : NodeR, m.nd = n.nd ∧ e = .returned (.tuple #[.agg m.cells.toArray, .bool true]) ∧ Ids w' m.pa m.pc m.parts ∧ m.sub.length = 32 := by
  rcases h with ⟨h1, _⟩ | ⟨n', m, h1, h2, h3, h4, h5, _⟩
  · rw [h1] at hf; cases hf
  · rw [h1] at hf; cases hf
    exact ⟨m, h2, h3, h4, h5⟩
/-- Whatever is found: its cells, and whether it is there. -/
theorem Found.any_ {w w' : World} {ns : List NodeR} {x : List UInt8} {e : Ending} (h : Found w w' ns x e) :
    ∃ m : NodeR, m.sub.length = 32 ∧ e = .returned (.tuple #[.agg m.cells.toArray, .bool (findR ns x).isSome]) := by
  rcases h with ⟨h1, h2⟩ | ⟨n', m, h1, h2, h3, h4, h5, _⟩
  · rw [h1]; exact ⟨zNd, rfl, h2⟩
  · rw [h1]; exact ⟨m, h5, h3⟩

set_option maxRecDepth 100000 in
set_option maxHeartbeats 8000000 in
theorem tree_finds (a : Option Addr) (c : Nat) (ns : List NodeR) (t : List UInt8) (w : World) (h : ∀ wr, Kept [] w wr → Nodes wr a c ns) (ht : Tab w) (htl : t.length ≤ 140737488355328) :
    Calls Tryd.prog 6 #[.slice a ns.length c, .string (S t)] w fun e w' => e = .returned (.bool true) ∧ Kept [] w w' := by
  have hzv := zero_node
  have hal := hid (alive10 w ht)
  have H := hid h
  have hmx := (h w (Kept.refl [] w)).max
  have hle := (h w (Kept.refl [] w)).le
  clear h ht
  go_enter Tryd.func6, Tryd.ntmps6
  go_wp2_with fail
  refine hal.out.mono ?_
  rintro e w1 ⟨rfl, k1⟩
  have K1 := hid k1
  have hfw := hid (few10_any a c ns w1 (fun wr hk => H.out wr (k1.trans hk)))
  clear k1 hal
  go_wp2_with fail
  refine hfw.out.mono ?_
  rintro e w2 ⟨rfl, k2⟩
  have K2 := hid (K1.out.trans k2)
  clear k2 hfw
  by_cases hF : Few ns
  rotate_left
  · rw [decide_eq_false hF]
    clear hF
    go_wp2
    go_ret
    exact ⟨rfl, K2.out⟩
  rw [decide_eq_true hF]
  have HF := hid hF
  have hck := hid (t_check a c ns w2 (fun wr hk => H.out wr (K2.out.trans hk)))
  clear hF
  go_wp2_with fail
  refine hck.out.mono ?_
  rintro e w3 ⟨rfl, k3⟩
  have K3 := hid (K2.out.trans k3)
  clear k3 hck
  obtain ⟨er, her⟩ : ∃ er, er = errL (ns.map NodeR.nd) := ⟨_, rfl⟩
  rw [← her]
  by_cases h0 : er = 0
  rotate_left
  · have hne : (er != 0) = true := by simpa using h0
    clear h0 her
    go_wp2
    go_ret
    exact ⟨rfl, K3.out⟩
  subst h0
  have hsrt := hid ((errL_zero _).1 her.symm)
  have hparts := hid (show ∀ n ∈ ns, n.parts.length ≤ 1000000 from fun n hn => by have := HF.out.1 n hn; unfold NodeR.few at this; omega)
  have hnl := hid (show ns.length ≤ 600 from by have := HF.out.2; omega)
  have hfind := hid (fun (x : List UInt8) (wr : World) (hk : Kept [] w wr) => t_find a c ns x wr (fun wv hv => H.out wv (hk.trans hv)) hparts.out)
  have hat := hid (fun i hi => findR_at ns i hi hsrt.out.2.2)
  have hslash := hid (show findR ns (t ++ [47]) = none from by
    unfold findR
    refine List.find?_eq_none.2 (fun n hn => ?_)
    have := (hsrt.out.2.1 n.nd (List.mem_map_of_mem hn)).1
    have h2 := part_no_slash this t
    simpa using h2)
  have hlts := hid (fun (i : Nat) (hi : i + 1 < ns.length) => show ns[i].nd.name < ns[i + 1].nd.name from by
    have h1 := List.pairwise_iff_getElem.1 hsrt.out.2.2 i (i + 1) (by simp; omega) (by simpa using hi) (by omega)
    simpa using h1)
  clear her
  go_wp2_with fail
  go_loopw [5, 26] (fun v s wr => ∃ i : Nat, i ≤ ns.length ∧ s = .int .i64 i ∧ v = .bool (hasR (ns.take i) t) ∧ Kept [] w wr) (fun _ s _ => ns.length - (intOf s).toNat)
  case atStart => exact ⟨0, Nat.zero_le _, rfl, rfl, K3.out⟩
  case round =>
    obtain ⟨i, hi, rfl, rfl, hk⟩ := hrel
    have HK := hid hk
    clear hk
    by_cases hlt : i < ns.length
    · cases a with
      | none => exact absurd ((H.out w (Kept.refl _ _)).nil rfl) (fun e => by rw [e] at hlt; simp at hlt)
      | some x =>
        have hnode := (H.out wr HK.out).at_ x rfl i ns[i] (by simp [hlt])
        have hids := hid (fun (wv : World) (hv : Kept [] w wv) => ((H.out wv hv).at_ x rfl i ns[i] (by simp [hlt])).2.2.2.2.2.2.1)
        have hfi := hid (hat.out i hlt)
        have hsn := hid (show hasR (ns.take (i + 1)) t = (hasR (ns.take i) t || decide (ns[i].nd.name = t)) from by rw [List.take_succ_eq_append_getElem hlt, hasR_snoc])
        have hpv := hid (fun (k : Nat) (hk : i = k + 1) => show ∃ m : NodeR, m.nd.name < ns[i].nd.name ∧ ∀ wv, Kept [] w wv → NodeAt wv (x.add (k * 36)) m from by
          subst hk
          exact ⟨ns[k], hlts.out k hlt, fun wv hv => (H.out wv hv).at_ x rfl k ns[k] (List.getElem?_eq_getElem _)⟩)
        have hlt2 := hid hlt
        generalize ns[i] = n at *
        have hin : i + 1 ≤ ns.length := hlt2.out
        have h32 := hid hnode.2.2.2.2.2.1
        have hreads := hid hnode.reads
        have hsz := hid (show (Tryd.prog.info? 42).map (·.size) = some n.cells.length by rw [node_size n h32.out]; exact node_info)
        have hfit := hid (show 0 + n.cells.length ≤ zNode.length by rw [node_size n h32.out, zNode_len]; decide)
        have hone := hid (node_one n)
        have hspl := hid (splice36 zNode n.cells (by rw [node_size n h32.out, zNode_len]))
        clear hnode
        go_wp2_with (refine wpList_load_cells rfl 42 (.tmp 29) rfl (x.add (i * 36)) rfl n.cells _ Tryd.underlying42 rfl hsz.out hreads.out ?_; refine halt ?_)
        refine Halt.mk ?_
        go_wp2_with (refine wpList_store_at rfl 42 (.tmp 7) (.tmp 30) rfl wr.heap.size 0 n.cells rfl rfl 42 zNode (heap_alloc_at rfl) hsz.out hfit.out hone.out ?_; refine halt ?_)
        rw [hspl.out]
        obtain ⟨wb, hwb⟩ : ∃ wb : World, wb = (wr.alloc (.cells zNode.toArray 42)).setRow wr.heap.size n.cells.toArray := ⟨_, rfl⟩
        rw [← hwb]
        refine Halt.mk ?_
        obtain ⟨p, hp⟩ : ∃ p, p = wr.heap.size := ⟨_, rfl⟩
        have hkb := hid (show Kept [] w wb by rw [hwb]; exact (HK.out.alloc _).setRow (fun h => absurd h (by have := HK.out.size; omega)) _)
        have hqb : NAt wb p n := by rw [hwb, hp]; exact setRow_heap _ _ _ _ _ _ (heap_alloc_at rfl)
        have HA := hid hqb
        have c0 := hqb.cell 0 _ n.c0
        rw [← hp]
        clear hwb hreads hqb hp
        go_wp2_with fail
        refine (hfind.out n.nd.name wb hkb.out).mono ?_
        rintro e w4 ⟨hfo, k4⟩
        obtain ⟨m, hmn, rfl, hmI, hm32⟩ := hfo.some_ hfi.out
        have HA4 := hid (HA.out.kept k4 (by simp))
        have K4 := hid (hkb.out.trans k4)
        have hmz := hid (show (Tryd.prog.info? 42).map (·.size) = some m.cells.length by rw [node_size m hm32]; exact node_info)
        have hmf := hid (show 0 + m.cells.length ≤ zNode.length by rw [node_size m hm32, zNode_len]; decide)
        have hmo := hid (node_one m)
        have hmsp := hid (splice36 zNode m.cells (by rw [node_size m hm32, zNode_len]))
        have HmI := hid hmI; have Hm32 := hid hm32; have Hmn := hid hmn
        clear hfo k4 hmI hm32 hmn c0
        go_wp2_with (refine wpList_store_at rfl 42 (.tmp 8) (.tmp 36) rfl w4.heap.size 0 m.cells rfl rfl 42 zNode (heap_alloc_at rfl) hmz.out hmf.out hmo.out ?_; refine halt ?_)
        rw [hmsp.out]
        obtain ⟨wc, hwc⟩ : ∃ wc : World, wc = (w4.alloc (.cells zNode.toArray 42)).setRow w4.heap.size m.cells.toArray := ⟨_, rfl⟩
        rw [← hwc]
        refine Halt.mk ?_
        obtain ⟨q, hq⟩ : ∃ q, q = w4.heap.size := ⟨_, rfl⟩
        have kc := hid (show Kept [] w4 wc by rw [hwc]; exact ((Kept.refl [] w4).alloc _).setRow (fun h => absurd h (Nat.lt_irrefl _)) _)
        have HB := hid (show NAt wc q m by rw [hwc, hq]; exact setRow_heap _ _ _ _ _ _ (heap_alloc_at rfl))
        have HAc := hid (HA4.out.kept kc.out (by simp))
        have Kc := hid (K4.out.trans kc.out)
        have HmIc := hid (HmI.out.kept kc.out (by simp))
        rw [← hq]
        clear hwc hq
        have hAn := hid (fun (v : World) (hv : Kept [] wc v) => HAc.out.kept hv (by simp))
        have hBn := hid (fun (v : World) (hv : Kept [] wc v) => HB.out.kept hv (by simp))
        have hal2 := hid (fun (v : World) (hv : Kept [] wc v) => show Calls Tryd.prog 21 #[.agg m.cells.toArray, .agg n.cells.toArray] v fun e w' => e = .returned (.bool true) ∧ Kept [] wc w' from by
          refine (r_alike m n v Hm32.out h32.out (HmIc.out.kept hv (by simp)) (hids.out v (Kc.out.trans hv))).mono ?_
          rintro e w' ⟨rfl, k⟩
          exact ⟨by rw [decide_eq_true Hmn.out], hv.trans k⟩)
        have hrA := hid (fun (v : World) (hv : Kept [] wc v) => run_ld_node (hAn.out v hv) (node_size n h32.out))
        have hrB := hid (fun (v : World) (hv : Kept [] wc v) => run_ld_node (hBn.out v hv) (node_size m Hm32.out))
        rcases Nat.eq_zero_or_pos i with h0 | h0
        · have hi0 : decide (0 < i) = false := decide_eq_false (by omega)
          have Hi0 := hid h0
          clear h0
          go_wp2_with fail
          refine wp_region_held_drew (S := Kept [] wc) (by kernel_rfl) (Kept.refl _ _).drew (fun hH => ?_)
          refine takeH 0 (.bool true) rfl (by kernel_rfl) (by kernel_rfl) (by kernel_rfl) (fun _ _ _ h => h) (by rfl) (fun v hv => by go_simp) hH ?_
          simp only [Act.put, List.setIfInBounds_toArray, List.set_cons_succ, List.set_cons_zero]
          refine takeH 1 (.bool false) rfl (by kernel_rfl) (by kernel_rfl) (by kernel_rfl) (fun _ _ _ h => h) (by rfl) (fun v hv => by go_simp) hH ?_
          simp only [Act.put, List.setIfInBounds_toArray, List.set_cons_succ, List.set_cons_zero]
          refine takeH 2 (.bool false) rfl (by kernel_rfl) (by kernel_rfl) (by kernel_rfl) (fun _ _ _ h => h) (by rfl) (fun v hv => by go_simp) hH ?_
          simp only [Act.put, List.setIfInBounds_toArray, List.set_cons_succ, List.set_cons_zero]
          refine takeH 3 (.agg m.cells.toArray) rfl (by kernel_rfl) (by kernel_rfl) (by kernel_rfl) (fun _ _ _ h => h) (by rfl) (fun v hv => by have h := hrB.out v hv; unfold execOp; simp [Instr.loadAt, Instr.sureAddr, Sem.run_bind, Sem.run_pure, Result.andThen_ok, Act.eval, h]) hH ?_
          simp only [Act.put, List.setIfInBounds_toArray, List.set_cons_succ, List.set_cons_zero]
          refine takeH 4 (.agg n.cells.toArray) rfl (by kernel_rfl) (by kernel_rfl) (by kernel_rfl) (fun _ _ _ h => h) (by rfl) (fun v hv => by have h := hrA.out v hv; unfold execOp; simp [Instr.loadAt, Instr.sureAddr, Sem.run_bind, Sem.run_pure, Result.andThen_ok, Act.eval, h]) hH ?_
          simp only [Act.put, List.setIfInBounds_toArray, List.set_cons_succ, List.set_cons_zero]
          refine callH 5 rfl (by kernel_rfl) (by rfl) 21 #[.agg m.cells.toArray, .agg n.cells.toArray] (by go_simp) (.bool true) hH (fun hS => (hal2.out _ hS)) ?_
          clear hH
          intro w5 hH
          simp only [Act.put, List.setIfInBounds_toArray, List.set_cons_succ, List.set_cons_zero]
          refine takeH 6 (.bool false) rfl (by kernel_rfl) (by kernel_rfl) (by kernel_rfl) (fun _ _ _ h => h) (by rfl) (fun v hv => by go_simp) hH ?_
          simp only [Act.put, List.setIfInBounds_toArray, List.set_cons_succ, List.set_cons_zero]
          refine takeH 7 (.bool false) rfl (by kernel_rfl) (by kernel_rfl) (by kernel_rfl) (fun _ _ _ h => h) (by rfl) (fun v hv => by go_simp) hH ?_
          simp only [Act.put, List.setIfInBounds_toArray, List.set_cons_succ, List.set_cons_zero]
          refine takeH 8 (.bool false) rfl (by kernel_rfl) (by kernel_rfl) (by kernel_rfl) (fun _ _ _ h => h) (by rfl) (fun v hv => by go_simp) hH ?_
          simp only [Act.put, List.setIfInBounds_toArray, List.set_cons_succ, List.set_cons_zero]
          refine takeH 9 (.int .i64 (i : Int)) rfl (by kernel_rfl) (by kernel_rfl) (by kernel_rfl) (fun _ _ _ h => h) (by rfl) (fun v hv => by go_simp) hH ?_
          simp only [Act.put, List.setIfInBounds_toArray, List.set_cons_succ, List.set_cons_zero]
          refine takeH 10 (.bool false) rfl (by kernel_rfl) (by kernel_rfl) (by kernel_rfl) (fun _ _ _ h => h) (by rfl) (fun v hv => by go_simp) hH ?_
          simp only [Act.put, List.setIfInBounds_toArray, List.set_cons_succ, List.set_cons_zero]
          refine takeH 11 (.bool false) rfl (by kernel_rfl) (by kernel_rfl) (by kernel_rfl) (fun _ _ _ h => h) (by rfl) (fun v hv => by go_simp) hH ?_
          simp only [Act.put, List.setIfInBounds_toArray, List.set_cons_succ, List.set_cons_zero]
          refine skipH 12 rfl (by kernel_rfl) (by kernel_rfl) (by kernel_rfl) (fun _ _ _ h => h) (by rfl) hH ?_
          simp only [Act.put, List.setIfInBounds_toArray, List.set_cons_succ, List.set_cons_zero]
          refine skipH 13 rfl (by kernel_rfl) (by kernel_rfl) (by kernel_rfl) (fun _ _ _ h => h) (by rfl) hH ?_
          simp only [Act.put, List.setIfInBounds_toArray, List.set_cons_succ, List.set_cons_zero]
          refine skipH 14 rfl (by kernel_rfl) (by kernel_rfl) (by kernel_rfl) (fun _ _ _ h => h) (by rfl) hH ?_
          simp only [Act.put, List.setIfInBounds_toArray, List.set_cons_succ, List.set_cons_zero]
          refine skipH 15 rfl (by kernel_rfl) (by kernel_rfl) (by kernel_rfl) (fun _ _ _ h => h) (by rfl) hH ?_
          simp only [Act.put, List.setIfInBounds_toArray, List.set_cons_succ, List.set_cons_zero]
          refine skipH 16 rfl (by kernel_rfl) (by kernel_rfl) (by kernel_rfl) (fun _ _ _ h => h) (by rfl) hH ?_
          simp only [Act.put, List.setIfInBounds_toArray, List.set_cons_succ, List.set_cons_zero]
          refine skipH 17 rfl (by kernel_rfl) (by kernel_rfl) (by kernel_rfl) (fun _ _ _ h => h) (by rfl) hH ?_
          simp only [Act.put, List.setIfInBounds_toArray, List.set_cons_succ, List.set_cons_zero]
          refine skipH 18 rfl (by kernel_rfl) (by kernel_rfl) (by kernel_rfl) (fun _ _ _ h => h) (by rfl) hH ?_
          simp only [Act.put, List.setIfInBounds_toArray, List.set_cons_succ, List.set_cons_zero]
          refine skipH 19 rfl (by kernel_rfl) (by kernel_rfl) (by kernel_rfl) (fun _ _ _ h => h) (by rfl) hH ?_
          simp only [Act.put, List.setIfInBounds_toArray, List.set_cons_succ, List.set_cons_zero]
          refine skipH 20 rfl (by kernel_rfl) (by kernel_rfl) (by kernel_rfl) (fun _ _ _ h => h) (by rfl) hH ?_
          simp only [Act.put, List.setIfInBounds_toArray, List.set_cons_succ, List.set_cons_zero]
          refine takeH 21 (.bool false) rfl (by kernel_rfl) (by kernel_rfl) (by kernel_rfl) (fun _ _ _ h => h) (by rfl) (fun v hv => by go_simp) hH ?_
          simp only [Act.put, List.setIfInBounds_toArray, List.set_cons_succ, List.set_cons_zero]
          refine takeH 22 (.bool false) rfl (by kernel_rfl) (by kernel_rfl) (by kernel_rfl) (fun _ _ _ h => h) (by rfl) (fun v hv => by go_simp) hH ?_
          simp only [Act.put, List.setIfInBounds_toArray, List.set_cons_succ, List.set_cons_zero]
          refine wpAnyH_done (by kernel_rfl) ?_ _
          have HK5 := hid (Kc.out.trans hH)
          have cn := (hAn.out w5 hH).cell 0 _ n.c0
          have hbe : (n.name.toList == (S t).toList) = decide (n.nd.name = t) := S_beq n.nd.name t
          obtain ⟨hb, hhb⟩ : ∃ hb, hb = hasR (ns.take i) t := ⟨_, rfl⟩
          obtain ⟨db, hdb⟩ : ∃ db, db = decide (n.nd.name = t) := ⟨_, rfl⟩
          rw [← hdb] at hbe hsn
          rw [← hhb] at hsn ⊢
          clear hH hhb hdb
          cases hb <;> cases db
          all_goals
            go_wp2
            go_roundw
            case rel => exact ⟨i + 1, hin, by go_num, by rw [hsn.out]; rfl, HK5.out⟩
            case measure => simp [intOf]; omega
        · obtain ⟨k, hk⟩ : ∃ k, i = k + 1 := ⟨i - 1, by omega⟩
          obtain ⟨pm, hpl, hpn⟩ := hpv.out k hk
          have hi0 : decide (0 < i) = true := decide_eq_true h0
          have hpc := hid (fun (v : World) (hv : Kept [] wc v) => (hpn v (Kc.out.trans hv)).1)
          have hb1 : Op.bytesLess pm.name.toList n.name.toList = true := by
            have := jS_less pm.nd.name n.nd.name; rw [decide_eq_true hpl] at this; exact this
          have hb2 : (pm.name.toList == n.name.toList) = false := by
            have := S_beq pm.nd.name n.nd.name; rw [decide_eq_false (fun e => by rw [e] at hpl; exact List.lt_irrefl _ hpl)] at this; exact this
          have hb3 : Op.bytesLess n.name.toList pm.name.toList = false := by
            have := jS_less n.nd.name pm.nd.name; rw [decide_eq_false (lt_asy _ _ hpl)] at this; exact this
          have hkk := hid hk
          clear h0 hk hpl hpn
          subst hkk
          have hkb1 : k + 1 ≤ 9223372036854775807 := by omega
          have hkl : k < ns.length := by omega
          go_wp2_with fail
          refine wp_region_held_drew (S := Kept [] wc) (by kernel_rfl) (Kept.refl _ _).drew (fun hH => ?_)
          refine takeH 0 (.bool true) rfl (by kernel_rfl) (by kernel_rfl) (by kernel_rfl) (fun _ _ _ h => h) (by rfl) (fun v hv => by go_simp) hH ?_
          simp only [Act.put, List.setIfInBounds_toArray, List.set_cons_succ, List.set_cons_zero]
          refine takeH 1 (.bool false) rfl (by kernel_rfl) (by kernel_rfl) (by kernel_rfl) (fun _ _ _ h => h) (by rfl) (fun v hv => by go_simp) hH ?_
          simp only [Act.put, List.setIfInBounds_toArray, List.set_cons_succ, List.set_cons_zero]
          refine takeH 2 (.bool false) rfl (by kernel_rfl) (by kernel_rfl) (by kernel_rfl) (fun _ _ _ h => h) (by rfl) (fun v hv => by go_simp) hH ?_
          simp only [Act.put, List.setIfInBounds_toArray, List.set_cons_succ, List.set_cons_zero]
          refine takeH 3 (.agg m.cells.toArray) rfl (by kernel_rfl) (by kernel_rfl) (by kernel_rfl) (fun _ _ _ h => h) (by rfl) (fun v hv => by have h := hrB.out v hv; unfold execOp; simp [Instr.loadAt, Instr.sureAddr, Sem.run_bind, Sem.run_pure, Result.andThen_ok, Act.eval, h]) hH ?_
          simp only [Act.put, List.setIfInBounds_toArray, List.set_cons_succ, List.set_cons_zero]
          refine takeH 4 (.agg n.cells.toArray) rfl (by kernel_rfl) (by kernel_rfl) (by kernel_rfl) (fun _ _ _ h => h) (by rfl) (fun v hv => by have h := hrA.out v hv; unfold execOp; simp [Instr.loadAt, Instr.sureAddr, Sem.run_bind, Sem.run_pure, Result.andThen_ok, Act.eval, h]) hH ?_
          simp only [Act.put, List.setIfInBounds_toArray, List.set_cons_succ, List.set_cons_zero]
          refine callH 5 rfl (by kernel_rfl) (by rfl) 21 #[.agg m.cells.toArray, .agg n.cells.toArray] (by go_simp) (.bool true) hH (fun hS => (hal2.out _ hS)) ?_
          clear hH
          intro w5 hH
          simp only [Act.put, List.setIfInBounds_toArray, List.set_cons_succ, List.set_cons_zero]
          refine takeH 6 (.bool false) rfl (by kernel_rfl) (by kernel_rfl) (by kernel_rfl) (fun _ _ _ h => h) (by rfl) (fun v hv => by go_simp) hH ?_
          simp only [Act.put, List.setIfInBounds_toArray, List.set_cons_succ, List.set_cons_zero]
          refine takeH 7 (.bool false) rfl (by kernel_rfl) (by kernel_rfl) (by kernel_rfl) (fun _ _ _ h => h) (by rfl) (fun v hv => by go_simp) hH ?_
          simp only [Act.put, List.setIfInBounds_toArray, List.set_cons_succ, List.set_cons_zero]
          refine takeH 8 (.bool false) rfl (by kernel_rfl) (by kernel_rfl) (by kernel_rfl) (fun _ _ _ h => h) (by rfl) (fun v hv => by go_simp) hH ?_
          simp only [Act.put, List.setIfInBounds_toArray, List.set_cons_succ, List.set_cons_zero]
          refine takeH 9 (.int .i64 ((k + 1 : Nat) : Int)) rfl (by kernel_rfl) (by kernel_rfl) (by kernel_rfl) (fun _ _ _ h => h) (by rfl) (fun v hv => by go_simp) hH ?_
          simp only [Act.put, List.setIfInBounds_toArray, List.set_cons_succ, List.set_cons_zero]
          refine takeH 10 (.bool true) rfl (by kernel_rfl) (by kernel_rfl) (by kernel_rfl) (fun _ _ _ h => h) (by rfl) (fun v hv => by go_simp) hH ?_
          simp only [Act.put, List.setIfInBounds_toArray, List.set_cons_succ, List.set_cons_zero]
          refine takeH 11 (.bool true) rfl (by kernel_rfl) (by kernel_rfl) (by kernel_rfl) (fun _ _ _ h => h) (by rfl) (fun v hv => by go_simp) hH ?_
          simp only [Act.put, List.setIfInBounds_toArray, List.set_cons_succ, List.set_cons_zero]
          refine takeH 12 (.slice (some x) ns.length c) rfl (by kernel_rfl) (by kernel_rfl) (by kernel_rfl) (fun _ _ _ h => h) (by rfl) (fun v hv => by go_simp) hH ?_
          simp only [Act.put, List.setIfInBounds_toArray, List.set_cons_succ, List.set_cons_zero]
          refine takeH 13 (.int .i64 ((k + 1 : Nat) : Int)) rfl (by kernel_rfl) (by kernel_rfl) (by kernel_rfl) (fun _ _ _ h => h) (by rfl) (fun v hv => by go_simp) hH ?_
          simp only [Act.put, List.setIfInBounds_toArray, List.set_cons_succ, List.set_cons_zero]
          refine takeH 14 (.int .i64 (k : Int)) rfl (by kernel_rfl) (by kernel_rfl) (by kernel_rfl) (fun _ _ _ h => h) (by rfl) (fun v hv => by go_simp; exact IntWalk.i64_in _ (by omega)) hH ?_
          simp only [Act.put, List.setIfInBounds_toArray, List.set_cons_succ, List.set_cons_zero]
          refine takeH 15 (.pointer (some (x.add (k * 36)))) rfl (by kernel_rfl) (by kernel_rfl) (by kernel_rfl) (fun _ _ _ h => h) (by rfl) (fun v hv => by go_simp) hH ?_
          simp only [Act.put, List.setIfInBounds_toArray, List.set_cons_succ, List.set_cons_zero]
          refine takeH 16 (.pointer (some (x.add (k * 36)))) rfl (by kernel_rfl) (by kernel_rfl) (by kernel_rfl) (fun _ _ _ h => h) (by rfl) (fun v hv => by go_simp) hH ?_
          simp only [Act.put, List.setIfInBounds_toArray, List.set_cons_succ, List.set_cons_zero]
          refine takeH 17 (.string pm.name) rfl (by kernel_rfl) (by kernel_rfl) (by kernel_rfl) (fun _ _ _ h => h) (by rfl) (fun v hv => by have h := hpc.out v hv; go_simp) hH ?_
          simp only [Act.put, List.setIfInBounds_toArray, List.set_cons_succ, List.set_cons_zero]
          refine takeH 18 (.pointer (some ⟨p, 0, none⟩)) rfl (by kernel_rfl) (by kernel_rfl) (by kernel_rfl) (fun _ _ _ h => h) (by rfl) (fun v hv => by go_simp) hH ?_
          simp only [Act.put, List.setIfInBounds_toArray, List.set_cons_succ, List.set_cons_zero]
          refine takeH 19 (.string n.name) rfl (by kernel_rfl) (by kernel_rfl) (by kernel_rfl) (fun _ _ _ h => h) (by rfl) (fun v hv => by have h := (hAn.out v hv).cell 0 _ n.c0; go_simp) hH ?_
          simp only [Act.put, List.setIfInBounds_toArray, List.set_cons_succ, List.set_cons_zero]
          refine takeH 20 (.bool false) rfl (by kernel_rfl) (by kernel_rfl) (by kernel_rfl) (fun _ _ _ h => h) (by rfl) (fun v hv => by go_simp) hH ?_
          simp only [Act.put, List.setIfInBounds_toArray, List.set_cons_succ, List.set_cons_zero]
          refine takeH 21 (.bool false) rfl (by kernel_rfl) (by kernel_rfl) (by kernel_rfl) (fun _ _ _ h => h) (by rfl) (fun v hv => by go_simp) hH ?_
          simp only [Act.put, List.setIfInBounds_toArray, List.set_cons_succ, List.set_cons_zero]
          refine takeH 22 (.bool false) rfl (by kernel_rfl) (by kernel_rfl) (by kernel_rfl) (fun _ _ _ h => h) (by rfl) (fun v hv => by go_simp) hH ?_
          simp only [Act.put, List.setIfInBounds_toArray, List.set_cons_succ, List.set_cons_zero]
          refine wpAnyH_done (by kernel_rfl) ?_ _
          have HK5 := hid (Kc.out.trans hH)
          have cn := (hAn.out w5 hH).cell 0 _ n.c0
          have hbe : (n.name.toList == (S t).toList) = decide (n.nd.name = t) := S_beq n.nd.name t
          obtain ⟨hb, hhb⟩ : ∃ hb, hb = hasR (ns.take (k + 1)) t := ⟨_, rfl⟩
          obtain ⟨db, hdb⟩ : ∃ db, db = decide (n.nd.name = t) := ⟨_, rfl⟩
          rw [← hdb] at hbe hsn
          rw [← hhb] at hsn ⊢
          clear hH hhb hdb
          cases hb <;> cases db
          all_goals
            go_wp2
            go_roundw
            case rel => exact ⟨(k + 1) + 1, hin, by go_num, by rw [hsn.out]; rfl, HK5.out⟩
            case measure => simp [intOf]; omega
    · have hin : i = ns.length := by omega
      subst hin
      rw [List.take_length, hasR_find]
      have hf1 := hid (hfind.out t wr HK.out)
      obtain ⟨fb, hfb⟩ : ∃ fb, fb = (findR ns t).isSome := ⟨_, rfl⟩
      rw [← hfb]
      have HFB := hid hfb
      clear hlt hi hfb
      go_wp2_with fail
      refine hf1.out.mono ?_
      rintro e w4 ⟨hfo, k4⟩
      obtain ⟨m, hm32, rfl⟩ := hfo.any_
      rw [← HFB.out]
      have K4 := hid (HK.out.trans k4)
      have hmz := hid (show (Tryd.prog.info? 42).map (·.size) = some m.cells.length by rw [node_size m hm32]; exact node_info)
      have hmf := hid (show 0 + m.cells.length ≤ zNode.length by rw [node_size m hm32, zNode_len]; decide)
      have hmo := hid (node_one m)
      have hmsp := hid (splice36 zNode m.cells (by rw [node_size m hm32, zNode_len]))
      clear hfo k4 hm32 hf1
      go_wp2_with (refine wpList_store_at rfl 42 (.tmp 10) (.tmp 73) rfl w4.heap.size 0 m.cells rfl rfl 42 zNode (heap_alloc_at rfl) hmz.out hmf.out hmo.out ?_; refine halt ?_)
      rw [hmsp.out]
      obtain ⟨wc, hwc⟩ : ∃ wc : World, wc = (w4.alloc (.cells zNode.toArray 42)).setRow w4.heap.size m.cells.toArray := ⟨_, rfl⟩
      rw [← hwc]
      refine Halt.mk ?_
      have Kc := hid (K4.out.trans (show Kept [] w4 wc by rw [hwc]; exact ((Kept.refl [] w4).alloc _).setRow (fun h => absurd h (Nat.lt_irrefl _)) _))
      have hf2 := hid (hfind.out (t ++ [47]) wc Kc.out)
      clear hwc
      have hsl := S_snoc t
      have htz : (S t).size + 1 ≤ 9223372036854775807 := by have : (S t).size = t.length := by simp [S, ByteArray.size]
                                                            omega
      go_wp2_with fail
      refine hf2.out.mono ?_
      rintro e w5 ⟨hfo, k5⟩
      obtain ⟨m2, hm32, rfl⟩ := hfo.any_
      rw [hslash.out]
      have K5 := hid (Kc.out.trans k5)
      have hmz2 := hid (show (Tryd.prog.info? 42).map (·.size) = some m2.cells.length by rw [node_size m2 hm32]; exact node_info)
      have hmf2 := hid (show 0 + m2.cells.length ≤ zNode.length by rw [node_size m2 hm32, zNode_len]; decide)
      have hmo2 := hid (node_one m2)
      have hmsp2 := hid (splice36 zNode m2.cells (by rw [node_size m2 hm32, zNode_len]))
      clear hfo k5 hm32 hf2
      go_wp2_with (refine wpList_store_at rfl 42 (.tmp 12) (.tmp 80) rfl w5.heap.size 0 m2.cells rfl rfl 42 zNode (heap_alloc_at rfl) hmz2.out hmf2.out hmo2.out ?_; refine halt ?_)
      rw [hmsp2.out]
      obtain ⟨wd, hwd⟩ : ∃ wd : World, wd = (w5.alloc (.cells zNode.toArray 42)).setRow w5.heap.size m2.cells.toArray := ⟨_, rfl⟩
      rw [← hwd]
      refine Halt.mk ?_
      have Kd := hid (K5.out.trans (show Kept [] w5 wd by rw [hwd]; exact ((Kept.refl [] w5).alloc _).setRow (fun h => absurd h (Nat.lt_irrefl _)) _))
      clear hwd
      cases fb
      all_goals
        go_wp2
        go_ret
        exact ⟨rfl, Kd.out⟩
end Go.Proofs.YtdojpioclojalaaDoor
