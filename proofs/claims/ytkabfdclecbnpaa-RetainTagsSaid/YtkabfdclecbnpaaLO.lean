import Derived.Test.YtkabfdclecbnpaaMLL
import Derived.Deep.DeepCutAuto
import Derived.Deep.CutBlock

/- coldstorelaw19.RetainTags: the walk. -/
namespace Go.Proofs.Ytkabfdclecbnpaa
open Go.RowKit Go.Lib Go.Sort Go.Shelf

theorem one_cell {w : World} {p : Nat} {cs : List Value} {t : TypeId} (h : w.heap[p]? = some (.cells cs.toArray t (0, 0))) (v : Value) (hl : 0 < cs.length) : (w.setCell ⟨p, 0, none⟩ v).heap[p]? = some (.cells (cs.set 0 v).toArray t (0, 0)) := by
  rw [Go.heap_setCell_same w p 0 _ _ _ h, List.setIfInBounds_toArray]
set_option maxRecDepth 100000 in
set_option maxHeartbeats 8000000 in
theorem retain_tags (a : Option Addr) (c : Nat) (xs : List Sq) (tag : List UInt8) (wi : Int) (hwi : I64 wi) (w : World) (h : Snaps w a c xs) :
    Calls Try.prog 6 #[.slice a xs.length c, .string (S tag), .int .i64 wi] w fun e w' => e = .returned (.bool true) ∧ Kept [] w w' := by
  obtain ⟨i0, hi0, hz0, hz1, hz2⟩ := info_parts snap_zero
  have hal := hid (alive19 w)
  obtain ⟨n, hn⟩ : ∃ n, n = xs.length := ⟨_, rfl⟩
  have HN := hid hn
  have H := hid (fun V (hk : Kept [] w V) => h.kept' hk (by simp))
  rw [← hn]
  have hle := h.le; have hmx := h.max
  rw [← hn] at hle
  clear h hn
  have hzv := zero_snap
  by_cases q0 : (30 : Int) < (n : Int)
  · go_enter Try.func6, Try.ntmps6
    go_wp2_with fail
    refine hal.out.mono ?_
    rintro e w1 ⟨rfl, k1⟩
    have K1 := hid k1
    clear k1 hal
    go_wp2
    go_ret
    exact ⟨rfl, K1.out⟩
  have hd0 : decide ((30 : Int) < (n : Int)) = false := decide_eq_false q0
  by_cases q1 : tag = []
  · have hb : (S tag).toList.isEmpty = true := by rw [S_toList, q1]; rfl
    clear q1
    go_enter Try.func6, Try.ntmps6
    go_wp2_with fail
    refine hal.out.mono ?_
    rintro e w1 ⟨rfl, k1⟩
    have K1 := hid k1
    clear k1 hal
    go_wp2
    go_ret
    exact ⟨rfl, K1.out⟩
  have hb : (S tag).toList.isEmpty = false := by rw [S_toList]; cases tag <;> simp_all
  have Q1 := hid q1
  have hn30 : n ≤ 30 := by omega
  clear q1
  go_enter Try.func6, Try.ntmps6
  go_wp2_with fail
  refine hal.out.mono ?_
  rintro e w1 ⟨rfl, k1⟩
  have K1 := hid k1
  have hst := hid (show Kept [] w1 (w1.alloc (.cells #[] 42)) ∧ (w1.alloc (.cells #[] 42)).ownsRow w1.heap.size 42 37 (.slice (some ⟨w1.heap.size, 0, none⟩) 0 0) 0 [] from
    ⟨(Kept.refl [] w1).alloc _, by simp, Or.inr ⟨w1.heap.size, 0, #[], rfl, Nat.le_refl _, heap_alloc_at rfl, by simp, by unfold maxLen; omega, by simp, by simp⟩⟩)
  clear k1 hal
  go_wp2_with fail
  go_loopw [7, 8, 29] (fun v tt s wr => ∃ i : Nat, i ≤ n ∧ s = .int .i64 i ∧ Hid (tt = .int .i64 (topT ((xs.take i).map mask))) ∧ Hid (∃ z zc, v = .slice (some z) i zc) ∧ Hid (Kept [] w1 wr) ∧ Hid (wr.ownsRow w1.heap.size 42 37 v i (((xs.take i).map mask).flatMap encQ))) (fun _ _ s _ => n - (intOf s).toNat)
  case atStart => exact ⟨0, Nat.zero_le _, rfl, hid rfl, hid ⟨_, _, rfl⟩, hid hst.out.1, hid (by simpa using hst.out.2)⟩
  case round =>
    clear hst
    obtain ⟨i, hi, rfl, HT, HV, HK, Ho⟩ := hrel
    by_cases hlt : i < n
    · have Hlt := hid hlt
      have hltz : (i : Int) < (n : Int) := by omega
      have hSx := hid (H.out wr (K1.out.trans HK.out))
      cases a with
      | none => exact absurd (hSx.out.nil rfl).1 (fun e => by have := HN.out; rw [e] at this; simp at this; omega)
      | some x =>
        obtain ⟨sq, hsq⟩ : ∃ sq, xs[i]? = some sq := ⟨xs[i]'(by have := HN.out; omega), by simp⟩
        have htk1 : (xs.take (i + 1)).map mask = (xs.take i).map mask ++ [mask sq] := by rw [List.take_add_one, hsq, List.map_append]; rfl
        have htk := hid (show (((xs.take (i + 1)).map mask).flatMap encQ) = (((xs.take i).map mask).flatMap encQ) ++ encQ (mask sq) from by rw [htk1, List.flatMap_append]; simp)
        obtain ⟨tp, htp⟩ : ∃ tp, tp = topT ((xs.take i).map mask) := ⟨_, rfl⟩
        have htop := hid (show topT ((xs.take (i + 1)).map mask) = max tp (mask sq).1.time by rw [htk1, topT_snoc, htp])
        have ht8 := HT.out
        rw [← htp] at ht8
        subst ht8
        obtain ⟨cs, hcs⟩ : ∃ cs, cs = encQ sq := ⟨_, rfl⟩
        obtain ⟨cm, hcm⟩ : ∃ cm, cm = encQ (mask sq) := ⟨_, rfl⟩
        have lcs := hid (show cs.length = 37 by rw [hcs, encQ_len])
        have lcm := hid (show cm.length = 37 by rw [hcm, encQ_len])
        have hsz := hid (show (Try.prog.info? 42).map (·.size) = some cs.length by rw [lcs.out]; exact snap_info)
        have hszm := hid (show (Try.prog.info? 42).map (·.size) = some cm.length by rw [lcm.out]; exact snap_info)
        have hfit := hid (show 0 + cs.length ≤ zSnap.length by rw [lcs.out, zSnap_len]; decide)
        have hspl := hid (splice36 zSnap cs (by rw [lcs.out, zSnap_len]))
        have hreads := hid (show ∀ (k : Nat) v, cs[k]? = some v → wr.cell? ((x.add (i * 37)).add k) = some v from fun k v hv => by
          rw [snap_add_add]; exact hSx.out.at_ x rfl i sq hsq k v (by rw [← hcs]; exact hv))
        have hone := hid (show ∀ u ∈ cs, u.oneCell' = true by rw [hcs]; exact sq.1.one)
        have honem := hid (show ∀ u ∈ cm, u.oneCell' = true by rw [hcm]; exact (mask sq).1.one)
        have hc0 := hid (show cs[0]? = some (.int .i64 sq.1.time) by rw [hcs]; exact Sp.c0 sq.1)
        have hm0 := hid (show cm[0]? = some (.int .i64 (mask sq).1.time) by rw [hcm]; exact Sp.c0 (mask sq).1)
        have hbn := hid (fun W => (show (Instr.buildSlice 22 1 #[(0, .agg cm.toArray)]).run Try.prog W = .ok (.slice (some ⟨W.heap.size, 0, none⟩) 1 1) (W.alloc (.cells cm.toArray 42)) by rw [hcm]; exact build_sn (mask sq).1 (mask sq).2.root W))
        obtain ⟨t0, ht0⟩ : ∃ t0, t0 = sq.1.time := ⟨_, rfl⟩
        obtain ⟨t1, ht1⟩ : ∃ t1, t1 = (mask sq).1.time := ⟨_, rfl⟩
        have hset := hid (show cs.set 0 (.int .i64 t1) = cm by rw [hcs, hcm, ht1]; exact mask_cells sq)
        have hand : bits .and .i64 t0 1125899906842623 = t1 := by rw [and50, ht0, ht1]; rfl
        rw [← ht0] at hc0
        rw [← ht1] at hm0 htop
        rw [← hcm] at htk
        clear hsq hcs hcm hlt hSx ht0 ht1 htk1 htp HT
        go_wp2_with (refine wpList_load_cells rfl 42 (.tmp 31) rfl (x.add (i * 37)) rfl cs _ Try.underlying42 rfl hsz.out hreads.out ?_; refine halt ?_)
        refine Halt.mk ?_
        go_wp2_with (refine wpList_store_at rfl 42 (.tmp 10) (.tmp 32) rfl wr.heap.size 0 cs rfl rfl 42 zSnap (heap_alloc_at rfl) hsz.out hfit.out hone.out ?_; refine halt ?_)
        rw [hspl.out]
        obtain ⟨wb, hwb⟩ : ∃ wb : World, wb = (wr.alloc (.cells zSnap.toArray 42)).setRow wr.heap.size cs.toArray := ⟨_, rfl⟩
        rw [← hwb]
        refine Halt.mk ?_
        have hkr := hid (show Kept [] wr wb by rw [hwb]; exact ((Kept.refl [] wr).alloc _).setRow (fun h => absurd h (Nat.lt_irrefl _)) _)
        have hqb := hid (show wb.heap[wr.heap.size]? = some (.cells cs.toArray 42 (0, 0)) from by rw [hwb]; exact setRow_heap _ _ _ _ _ _ (heap_alloc_at rfl))
        have cq : wb.cell? ⟨wr.heap.size, 0, none⟩ = some (.int .i64 t0) := by rw [cell_of_row wb _ 0 _ _ _ hqb.out]; simpa using hc0.out
        have fq : wb.frozen? ⟨wr.heap.size, 0, none⟩ = false := by simp [World.frozen?, hqb.out]
        obtain ⟨wc, hwc⟩ : ∃ wc : World, wc = wb.setCell ⟨wr.heap.size, 0, none⟩ (.int .i64 t1) := ⟨_, rfl⟩
        have hkc := hid (show Kept [] wr wc by rw [hwc]; exact hkr.out.setCell (fun h => absurd h (Nat.lt_irrefl _)) _)
        have hqc := hid (show wc.heap[wr.heap.size]? = some (.cells cm.toArray 42 (0, 0)) from by rw [hwc, one_cell hqb.out _ (by rw [lcs.out]; decide), hset.out])
        have cc : wc.cell? ⟨wr.heap.size, 0, none⟩ = some (.int .i64 t1) := by rw [cell_of_row wc _ 0 _ _ _ hqc.out]; simpa using hm0.out
        have hrc := hid (show ∀ (j : Nat) v, cm[j]? = some v → wc.cell? ((⟨wr.heap.size, 0, none⟩ : Addr).add j) = some v from fun j v hj => by
          have e : (⟨wr.heap.size, 0, none⟩ : Addr).add j = ⟨wr.heap.size, j, none⟩ := by rw [plain_add, Nat.zero_add]
          rw [e, cell_of_row wc _ j _ _ _ hqc.out]; simpa using hj)
        have HWC := hid hwc
        rw [hwc] at cc
        clear hwb hreads hwc
        go_wp2_with (first | (refine wpList_load_cells rfl 42 (.tmp 10) rfl ⟨wr.heap.size, 0, none⟩ rfl cm _ Try.underlying42 rfl hszm.out (by rw [← HWC.out]; exact hrc.out) ?_) | (refine wpList_buildSlice_r rfl _ _ _ rfl (.slice (some ⟨wc.heap.size, 0, none⟩) 1 1) (wc.alloc (.cells cm.toArray 42)) (by have h := hbn.out wc; rw [← HWC.out]; unfold execOp; simp [Act.eval, Act.put, h]) ?_; refine halt ?_))
        refine Halt.mk ?_
        obtain ⟨wd, hwd⟩ : ∃ wd : World, wd = wc.alloc (.cells cm.toArray 42) := ⟨_, rfl⟩
        rw [← hwd]
        have hkd := hid (show Kept [] wr wd from by rw [hwd]; exact hkc.out.alloc _)
        have hnew := hid (show ∀ (j : Nat) u, cm[j]? = some u → wd.cell? ((⟨wc.heap.size, 0, none⟩ : Addr).add j) = some u from fun j u hu => by
          have e : (⟨wc.heap.size, 0, none⟩ : Addr).add j = ⟨wc.heap.size, j, none⟩ := by rw [plain_add, Nat.zero_add]
          rw [e, hwd, cell_of_row _ _ j _ _ _ (heap_alloc_at rfl)]; simpa using hu)
        have ho2 := hid (hkd.out.owns Ho.out (by simp))
        have hsb := hid (show w1.heap.size ≤ wd.heap.size by have h1 := HK.out.size; have h2 := hkd.out.size; omega)
        clear hwd cq fq cc
        go_wp2_with (at_builtin; refine halt ?_)
        refine Halt.mk ?_
        refine wpList_append_k _ rfl _ _ _ rfl w1.heap.size 42 i0 _ 37 88 Try.underlying22 hi0 hz0 hz1 hz2 (by rw [Value.cells, List.size_toArray, zSnap_len]) (by decide) u7 i _ rfl ho2.out (.slice (some ⟨wc.heap.size, 0, none⟩) 1 1) 1 cm rfl (Or.inr ⟨_, _, rfl, hnew.out⟩) (by rw [lcm.out]) honem.out (by unfold maxLen; omega) (by omega) hsb.out ?_
        intro v2 w4 hown4 hgrow4 hnil4 hf4
        have hk4 := hid (show Kept [] w1 w4 from (HK.out.trans hkd.out).trans' (Kept.of_row hgrow4) (fun y hy hm => by
          rw [Option.mem_toList] at hm
          have h1 := (own_lt1 Ho.out hm).1; omega))
        have hv2 := hid (show ∃ z zc, v2 = .slice (some z) (i + 1) zc from by
          rcases hown4.2 with ⟨h1, h2⟩ | ⟨g, cap, cur, h1, _⟩
          · omega
          · exact ⟨_, _, h1⟩)
        rw [← htk.out] at hown4
        have Ho2 := hid hown4
        have hin := Hlt.out
        clear hown4 hgrow4 hnil4 hf4
        go_wp2
        go_roundw
        case rel => exact ⟨i + 1, hin, by go_num, hid (by rw [htop.out]), hv2, hk4, Ho2⟩
        case measure => simp [intOf]; omega
    · have hltz : ¬ (i : Int) < (n : Int) := by omega
      have e : i = n := by omega
      subst e
      have hfull : xs.take i = xs := by rw [HN.out, List.take_length]
      rw [hfull] at HT Ho
      obtain ⟨ys, hys⟩ : ∃ ys, ys = xs.map mask := ⟨_, rfl⟩
      rw [← hys] at HT Ho
      have hyl := hid (show i = ys.length by rw [hys, List.length_map, HN.out])
      have hy0 := hid (show ∀ s ∈ ys, 0 ≤ s.1.time ∧ s.1.time < 1125899906842624 from fun s hs => by
        rw [hys] at hs
        obtain ⟨s0, _, rfl⟩ := List.mem_map.1 hs
        rw [mask_time]; omega)
      obtain ⟨z, zc, rfl⟩ := HV.out
      obtain ⟨tp, htp⟩ : ∃ tp, tp = topT ys := ⟨_, rfl⟩
      have ht8 := HT.out
      rw [← htp] at ht8
      subst ht8
      have HTP := hid htp
      have hSn := snaps_of_own Ho.out hyl.out
      have HSn := hid (fun V (hk : Kept [] wr V) => (show Snaps V (some z) zc ys ∧ ∀ x, (some z : Option Addr) = some x → x.block < V.heap.size from ⟨hSn.1.kept' hk (by simp), fun x hx => by have := hSn.2 x hx; have := hk.size; omega⟩))
      have HKP := hid (fun (p : Pol) (hp : p.ok) (hl : p.last = 0) (hd : p.day < 1) V (hk : Kept [] wr V) => (show Calls Try.prog 9 #[.slice (some z) i zc, .agg p.cells.toArray] V fun e w' => ∃ (v : Value) (ks : List Bool), e = .returned v ∧ Kept [] V w' ∧ ks.length = i ∧ w'.ownsRow V.heap.size 4 1 v i (ks.map bv) ∧ ∀ q s, ys[q]? = some s → ks[q]? = some (near p tp s || tagged p s) from by
        have h1 := keep_go (some z) zc ys p hp V (HSn.out V hk).1 (by rw [← hyl.out]; omega) (HSn.out V hk).2
        rw [← hyl.out] at h1
        refine h1.mono ?_
        rintro e w' ⟨v, ps, ds, ks, h1, h2, h3, h4⟩
        exact ⟨v, ks, h1, h2, by rw [h3.len, hyl.out], h4, fun q s hq => by rw [HTP.out]; exact keep_plain h3 hl hd (fun s hs => (hy0.out s hs).1) q s hq⟩))
      obtain ⟨t2, ht2⟩ : ∃ t2, t2 = wi % 1125899906842624 := ⟨_, rfl⟩
      have hand2 : bits .and .i64 wi 1125899906842623 = t2 := by rw [and50, ht2]
      have hT2 := hid (show 0 ≤ t2 ∧ t2 < 1125899906842624 by omega)
      have hok : I64 t2 := ⟨by have := hT2.out; omega, by have := hT2.out; omega⟩
      have o0 : I64 0 := ⟨by decide, by decide⟩
      have hA := hid (HKP.out ⟨0, 0, 0, 0, tag⟩ ⟨o0, o0, o0, o0⟩ rfl (by show (0 : Int) < 1; omega) wr (Kept.refl _ _))
      have hB := hid (fun V hk => HKP.out ⟨0, 0, 0, t2, []⟩ ⟨o0, o0, o0, hok⟩ rfl (by show (0 : Int) < 1; omega) V hk)
      have hC := hid (fun V hk => HKP.out ⟨0, 0, 0, t2, tag⟩ ⟨o0, o0, o0, hok⟩ rfl (by show (0 : Int) < 1; omega) V hk)
      have K2 := hid (K1.out.trans HK.out)
      clear hys htp ht2 hfull hlt hSn hok o0 HT hi HKP
      go_wp2_with fail
      refine hA.out.mono ?_
      rintro e w2 ⟨va, ka, rfl, k2, la, oa, fka⟩
      have E2 := hid k2; have LA := hid la; have OA := hid oa; have FA := hid fka
      clear k2 la oa fka hA
      go_wp2_with fail
      refine (hB.out w2 E2.out).mono ?_
      rintro e w3 ⟨vb, kb, rfl, k3, lb, ob, fkb⟩
      have E3 := hid (E2.out.trans k3); have OA3 := hid (k3.owns OA.out (by simp)); have LB := hid lb; have OB := hid ob; have FB := hid fkb
      clear k3 lb ob fkb hB
      go_wp2_with fail
      refine (hC.out w3 E3.out).mono ?_
      rintro e w4 ⟨vc, kc, rfl, k4, lc, oc, fkc⟩
      obtain ⟨aa, ca, rfl⟩ := row_slice OA.out
      obtain ⟨ab, cb, rfl⟩ := row_slice OB.out
      obtain ⟨ac, cc, rfl⟩ := row_slice oc
      have E4 := hid (E3.out.trans k4)
      have TA := hid (tru_of_row (k4.owns OA3.out (by simp)) LA.out.symm); have TB := hid (tru_of_row (k4.owns OB.out (by simp)) LB.out.symm); have TC := hid (tru_of_row oc lc.symm)
      have FC := hid fkc; have LC := hid lc
      clear k4 lc oc fkc hC
      go_wp2_with fail
      go_loopw [63] (fun s wj => ∃ j : Nat, j ≤ i ∧ s = .int .i64 j ∧ Hid (Kept [] w4 wj)) (fun s _ => i - (intOf s).toNat)
      case atStart => exact ⟨0, Nat.zero_le _, rfl, hid (Kept.refl _ _)⟩
      case round =>
        obtain ⟨j, hj, rfl, HJ⟩ := hrel
        rename World => wj
        by_cases hlt : j < i
        · have Hlt := hid hlt
          have hltz : (j : Int) < (i : Int) := by omega
          obtain ⟨s, hs⟩ : ∃ s, ys[j]? = some s := ⟨ys[j]'(by have := hyl.out; omega), by simp⟩
          have hS9 := (HSn.out wj (E4.out.trans HJ.out)).1
          obtain ⟨cs, hcs⟩ : ∃ cs, cs = encQ s := ⟨_, rfl⟩
          have lcs := hid (show cs.length = 37 by rw [hcs, encQ_len])
          have hsz := hid (show (Try.prog.info? 42).map (·.size) = some cs.length by rw [lcs.out]; exact snap_info)
          have hfit := hid (show 0 + cs.length ≤ zSnap.length by rw [lcs.out, zSnap_len]; decide)
          have hspl := hid (splice36 zSnap cs (by rw [lcs.out, zSnap_len]))
          have hreads := hid (show ∀ (k : Nat) v, cs[k]? = some v → wj.cell? ((z.add (j * 37)).add k) = some v from fun k v hv => by
            rw [snap_add_add]; exact hS9.at_ z rfl j s hs k v (by rw [← hcs]; exact hv))
          have hone := hid (show ∀ u ∈ cs, u.oneCell' = true by rw [hcs]; exact s.1.one)
          have hc0 := hid (show cs[0]? = some (.int .i64 s.1.time) by rw [hcs]; exact Sp.c0 s.1)
          have hc2 := hid (show cs[2]? = some (.string (S s.1.tag)) by rw [hcs]; exact Sp.c2 s.1)
          have hst0 := hy0.out s (List.mem_of_getElem? hs)
          have htop := (foldl_ge ys 0)
          have htp0 : 0 ≤ tp ∧ tp < 1125899906842624 := by
            rw [HTP.out]; unfold topT
            refine ⟨htop.1, ?_⟩
            rcases htop.2.2 with h | ⟨s1, hm, h⟩
            · omega
            · have := hy0.out s1 hm; omega
          obtain ⟨bT, hbT⟩ : ∃ bT, bT = decide (s.1.tag = tag) := ⟨_, rfl⟩
          obtain ⟨bN, hbN⟩ : ∃ bN, bN = decide (0 < t2 ∧ tp - s.1.time < t2) := ⟨_, rfl⟩
          have ga : ka[j]? = some bT := by
            rw [FA.out j s hs, hbT]; simp [near, tagged, Q1.out]
          have gb : kb[j]? = some bN := by
            rw [FB.out j s hs, hbN]; simp [near, tagged]
          have gc : kc[j]? = some (bN || bT) := by
            rw [FC.out j s hs, hbN, hbT]; simp [near, tagged, Q1.out]
          obtain ⟨xa, rfl⟩ : ∃ x, aa = some x := by
            cases aa with
            | none => exact absurd (TA.out.nil rfl) (fun e => by rw [e] at ga; simp at ga)
            | some x => exact ⟨x, rfl⟩
          obtain ⟨xb, rfl⟩ : ∃ x, ab = some x := by
            cases ab with
            | none => exact absurd (TB.out.nil rfl) (fun e => by rw [e] at gb; simp at gb)
            | some x => exact ⟨x, rfl⟩
          obtain ⟨xc, rfl⟩ : ∃ x, ac = some x := by
            cases ac with
            | none => exact absurd (TC.out.nil rfl) (fun e => by rw [e] at gc; simp at gc)
            | some x => exact ⟨x, rfl⟩
          obtain ⟨st, hst⟩ : ∃ st, st = s.1.tag := ⟨_, rfl⟩
          obtain ⟨tm, htm⟩ : ∃ tm, tm = s.1.time := ⟨_, rfl⟩
          rw [← hst] at hc2 hbT
          rw [← htm] at hc0 hbN hst0
          obtain ⟨dl, hdl⟩ : ∃ dl, dl = tp - tm := ⟨_, rfl⟩
          have wsub : IntKind.i64.wrap (tp - tm) = dl := by rw [hdl]; exact IntWalk.i64_in _ (by omega)
          rw [← hdl] at hbN
          have hteq : ((S st).toList == (S tag).toList) = bT := by rw [S_beq, hbT]
          have HBN := hid hbN
          have fa0 := hid (show w4.cell? (xa.add j) = some (.bool bT) from TA.out.at_ xa rfl j bT ga); have fb0 := hid (show w4.cell? (xb.add j) = some (.bool bN) from TB.out.at_ xb rfl j bN gb); have fc0 := hid (show w4.cell? (xc.add j) = some (.bool (bN || bT)) from TC.out.at_ xc rfl j (bN || bT) gc)
          clear hcs hs hS9 hst0 htop htp0 ga gb gc hst htm hdl hbT hbN hlt
          go_wp2_with (refine wpList_load_cells rfl 42 (.tmp 66) rfl (z.add (j * 37)) rfl cs _ Try.underlying42 rfl hsz.out hreads.out ?_; refine halt ?_)
          refine Halt.mk ?_
          go_wp2_with (refine wpList_store_at rfl 42 (.tmp 15) (.tmp 67) rfl wj.heap.size 0 cs rfl rfl 42 zSnap (heap_alloc_at rfl) hsz.out hfit.out hone.out ?_; refine halt ?_)
          rw [hspl.out]
          obtain ⟨V9, hV9⟩ : ∃ V9 : World, V9 = (wj.alloc (.cells zSnap.toArray 42)).setRow wj.heap.size cs.toArray := ⟨_, rfl⟩
          rw [← hV9]
          refine Halt.mk ?_
          have hk9 := hid (show Kept [] wj V9 by rw [hV9]; exact ((Kept.refl [] wj).alloc _).setRow (fun h => absurd h (Nat.lt_irrefl _)) _)
          have hq9 := hid (show V9.heap[wj.heap.size]? = some (.cells cs.toArray 42 (0, 0)) from by rw [hV9]; exact setRow_heap _ _ _ _ _ _ (heap_alloc_at rfl))
          have kk9 := hid (HJ.out.trans hk9.out)
          have ct : V9.cell? ⟨wj.heap.size, 0, none⟩ = some (.int .i64 tm) := by rw [cell_of_row V9 _ 0 _ _ _ hq9.out]; simpa using hc0.out
          have lift : ∀ {ad : Addr} {u : Value}, w4.cell? ad = some u → ∀ v, Kept [] V9 v → v.cell? ad = some u := fun h v hv => ((kk9.out.trans hv).cell (World.block_lt_of_cell? w4 _ h) (by simp)).trans h
          have fa := hid (fun v hv => lift fa0.out v hv); have fb := hid (fun v hv => lift fb0.out v hv); have fc := hid (fun v hv => lift fc0.out v hv)
          have fst := hid (fun v (hv : Kept [] V9 v) => (show v.cell? ⟨wj.heap.size, 2, none⟩ = some (.string (S st)) from by
            rw [cell_of_row v _ 2 _ _ _ (hv.at hq9.out (by simp))]; simpa using hc2.out))
          have hH0 : Kept [] V9 V9.drew := (Kept.refl [] V9).drew
          clear hV9 hreads lift hzv
          go_upto_region 21 with fail
          go_cut [16] (fun s16 wx => s16 = .bool bN ∧ wx = V9)
          case first =>
            by_cases h2 : 0 < t2
            · have e1 : decide (0 < t2) = true := decide_eq_true h2
              obtain ⟨b2, hb2⟩ : ∃ b2, decide (dl < t2) = b2 := ⟨_, rfl⟩
              have hbn : bN = b2 := by rw [HBN.out, ← hb2]; simp [h2]
              go_wp2_with fail
              go_meet
              exact ⟨by rw [hbn], rfl⟩
            · have e1 : decide (0 < t2) = false := decide_eq_false h2
              have hbn : bN = false := by rw [HBN.out]; simp [h2]
              go_wp2_with fail
              go_meet
              exact ⟨by rw [hbn], rfl⟩
          case rest =>
          obtain ⟨rfl, rfl⟩ := hcut
          clear ct wsub
          have hjn := Hlt.out
          cases bT
          rotate_left 1
          · go_wp2_with fail
            refine wp_region_held_drew (S := fun v => Kept [] wc v) (by kernel_rfl) hH0 (fun hH => ?_)
            refine takeH 0 (.slice (some xa) i ca) rfl (by kernel_rfl) (by kernel_rfl) (by kernel_rfl) (fun _ _ _ h => h) (by rfl) (fun v hv => by go_simp) hH ?_
            simp only [Act.put, List.setIfInBounds_toArray, List.set_cons_succ, List.set_cons_zero]
            refine takeH 1 (.int .i64 (j : Int)) rfl (by kernel_rfl) (by kernel_rfl) (by kernel_rfl) (fun _ _ _ h => h) (by rfl) (fun v hv => by go_simp) hH ?_
            simp only [Act.put, List.setIfInBounds_toArray, List.set_cons_succ, List.set_cons_zero]
            refine takeH 2 (.pointer (some (xa.add j))) rfl (by kernel_rfl) (by kernel_rfl) (by kernel_rfl) (fun _ _ _ h => h) (by rfl) (fun v hv => by go_simp) hH ?_
            simp only [Act.put, List.setIfInBounds_toArray, List.set_cons_succ, List.set_cons_zero]
            refine takeH 3 (.bool true) rfl (by kernel_rfl) (by kernel_rfl) (by kernel_rfl) (fun _ _ _ h => h) (by rfl) (fun v hv => by have h := fa.out v hv; go_simp) hH ?_
            simp only [Act.put, List.setIfInBounds_toArray, List.set_cons_succ, List.set_cons_zero]
            refine takeH 4 (.pointer (some ⟨wj.heap.size, 2, none⟩)) rfl (by kernel_rfl) (by kernel_rfl) (by kernel_rfl) (fun _ _ _ h => h) (by rfl) (fun v hv => by go_simp) hH ?_
            simp only [Act.put, List.setIfInBounds_toArray, List.set_cons_succ, List.set_cons_zero]
            refine takeH 5 (.string (S st)) rfl (by kernel_rfl) (by kernel_rfl) (by kernel_rfl) (fun _ _ _ h => h) (by rfl) (fun v hv => by have h := fst.out v hv; go_simp) hH ?_
            simp only [Act.put, List.setIfInBounds_toArray, List.set_cons_succ, List.set_cons_zero]
            refine takeH 6 (.string (S tag)) rfl (by kernel_rfl) (by kernel_rfl) (by kernel_rfl) (fun _ _ _ h => h) (by rfl) (fun v hv => by go_simp) hH ?_
            simp only [Act.put, List.setIfInBounds_toArray, List.set_cons_succ, List.set_cons_zero]
            refine takeH 7 (.bool true) rfl (by kernel_rfl) (by kernel_rfl) (by kernel_rfl) (fun _ _ _ h => h) (by rfl) (fun v hv => by go_simp) hH ?_
            simp only [Act.put, List.setIfInBounds_toArray, List.set_cons_succ, List.set_cons_zero]
            refine takeH 8 (.bool false) rfl (by kernel_rfl) (by kernel_rfl) (by kernel_rfl) (fun _ _ _ h => h) (by rfl) (fun v hv => by go_simp) hH ?_
            simp only [Act.put, List.setIfInBounds_toArray, List.set_cons_succ, List.set_cons_zero]
            refine takeH 9 (.bool false) rfl (by kernel_rfl) (by kernel_rfl) (by kernel_rfl) (fun _ _ _ h => h) (by rfl) (fun v hv => by go_simp) hH ?_
            simp only [Act.put, List.setIfInBounds_toArray, List.set_cons_succ, List.set_cons_zero]
            refine takeH 10 (.slice (some xb) i cb) rfl (by kernel_rfl) (by kernel_rfl) (by kernel_rfl) (fun _ _ _ h => h) (by rfl) (fun v hv => by go_simp) hH ?_
            simp only [Act.put, List.setIfInBounds_toArray, List.set_cons_succ, List.set_cons_zero]
            refine takeH 11 (.int .i64 (j : Int)) rfl (by kernel_rfl) (by kernel_rfl) (by kernel_rfl) (fun _ _ _ h => h) (by rfl) (fun v hv => by go_simp) hH ?_
            simp only [Act.put, List.setIfInBounds_toArray, List.set_cons_succ, List.set_cons_zero]
            refine takeH 12 (.pointer (some (xb.add j))) rfl (by kernel_rfl) (by kernel_rfl) (by kernel_rfl) (fun _ _ _ h => h) (by rfl) (fun v hv => by go_simp) hH ?_
            simp only [Act.put, List.setIfInBounds_toArray, List.set_cons_succ, List.set_cons_zero]
            refine takeH 13 (.bool bN) rfl (by kernel_rfl) (by kernel_rfl) (by kernel_rfl) (fun _ _ _ h => h) (by rfl) (fun v hv => by have h := fb.out v hv; go_simp) hH ?_
            simp only [Act.put, List.setIfInBounds_toArray, List.set_cons_succ, List.set_cons_zero]
            refine takeH 14 (.bool bN) rfl (by kernel_rfl) (by kernel_rfl) (by kernel_rfl) (fun _ _ _ h => h) (by rfl) (fun v hv => by go_simp) hH ?_
            simp only [Act.put, List.setIfInBounds_toArray, List.set_cons_succ, List.set_cons_zero]
            refine takeH 15 (.bool false) rfl (by kernel_rfl) (by kernel_rfl) (by kernel_rfl) (fun _ _ _ h => h) (by rfl) (fun v hv => by go_simp) hH ?_
            simp only [Act.put, List.setIfInBounds_toArray, List.set_cons_succ, List.set_cons_zero]
            refine takeH 16 (.bool false) rfl (by kernel_rfl) (by kernel_rfl) (by kernel_rfl) (fun _ _ _ h => h) (by rfl) (fun v hv => by go_simp) hH ?_
            simp only [Act.put, List.setIfInBounds_toArray, List.set_cons_succ, List.set_cons_zero]
            refine takeH 17 (.bool false) rfl (by kernel_rfl) (by kernel_rfl) (by kernel_rfl) (fun _ _ _ h => h) (by rfl) (fun v hv => by go_simp) hH ?_
            simp only [Act.put, List.setIfInBounds_toArray, List.set_cons_succ, List.set_cons_zero]
            refine takeH 18 (.slice (some xc) i cc) rfl (by kernel_rfl) (by kernel_rfl) (by kernel_rfl) (fun _ _ _ h => h) (by rfl) (fun v hv => by go_simp) hH ?_
            simp only [Act.put, List.setIfInBounds_toArray, List.set_cons_succ, List.set_cons_zero]
            refine takeH 19 (.int .i64 (j : Int)) rfl (by kernel_rfl) (by kernel_rfl) (by kernel_rfl) (fun _ _ _ h => h) (by rfl) (fun v hv => by go_simp) hH ?_
            simp only [Act.put, List.setIfInBounds_toArray, List.set_cons_succ, List.set_cons_zero]
            refine takeH 20 (.pointer (some (xc.add j))) rfl (by kernel_rfl) (by kernel_rfl) (by kernel_rfl) (fun _ _ _ h => h) (by rfl) (fun v hv => by go_simp) hH ?_
            simp only [Act.put, List.setIfInBounds_toArray, List.set_cons_succ, List.set_cons_zero]
            refine takeH 21 (.bool true) rfl (by kernel_rfl) (by kernel_rfl) (by kernel_rfl) (fun _ _ _ h => h) (by rfl) (fun v hv => by have h := fc.out v hv; go_simp) hH ?_
            simp only [Act.put, List.setIfInBounds_toArray, List.set_cons_succ, List.set_cons_zero]
            refine takeH 22 (.slice (some xa) i ca) rfl (by kernel_rfl) (by kernel_rfl) (by kernel_rfl) (fun _ _ _ h => h) (by rfl) (fun v hv => by go_simp) hH ?_
            simp only [Act.put, List.setIfInBounds_toArray, List.set_cons_succ, List.set_cons_zero]
            refine takeH 23 (.int .i64 (j : Int)) rfl (by kernel_rfl) (by kernel_rfl) (by kernel_rfl) (fun _ _ _ h => h) (by rfl) (fun v hv => by go_simp) hH ?_
            simp only [Act.put, List.setIfInBounds_toArray, List.set_cons_succ, List.set_cons_zero]
            refine takeH 24 (.pointer (some (xa.add j))) rfl (by kernel_rfl) (by kernel_rfl) (by kernel_rfl) (fun _ _ _ h => h) (by rfl) (fun v hv => by go_simp) hH ?_
            simp only [Act.put, List.setIfInBounds_toArray, List.set_cons_succ, List.set_cons_zero]
            refine takeH 25 (.bool true) rfl (by kernel_rfl) (by kernel_rfl) (by kernel_rfl) (fun _ _ _ h => h) (by rfl) (fun v hv => by have h := fa.out v hv; go_simp) hH ?_
            simp only [Act.put, List.setIfInBounds_toArray, List.set_cons_succ, List.set_cons_zero]
            refine takeH 26 (.bool true) rfl (by kernel_rfl) (by kernel_rfl) (by kernel_rfl) (fun _ _ _ h => h) (by rfl) (fun v hv => by go_simp) hH ?_
            simp only [Act.put, List.setIfInBounds_toArray, List.set_cons_succ, List.set_cons_zero]
            refine skipH 27 rfl (by kernel_rfl) (by kernel_rfl) (by kernel_rfl) (fun _ _ _ h => h) (by rfl) hH ?_
            simp only [Act.put, List.setIfInBounds_toArray, List.set_cons_succ, List.set_cons_zero]
            refine skipH 28 rfl (by kernel_rfl) (by kernel_rfl) (by kernel_rfl) (fun _ _ _ h => h) (by rfl) hH ?_
            simp only [Act.put, List.setIfInBounds_toArray, List.set_cons_succ, List.set_cons_zero]
            refine skipH 29 rfl (by kernel_rfl) (by kernel_rfl) (by kernel_rfl) (fun _ _ _ h => h) (by rfl) hH ?_
            simp only [Act.put, List.setIfInBounds_toArray, List.set_cons_succ, List.set_cons_zero]
            refine skipH 30 rfl (by kernel_rfl) (by kernel_rfl) (by kernel_rfl) (fun _ _ _ h => h) (by rfl) hH ?_
            simp only [Act.put, List.setIfInBounds_toArray, List.set_cons_succ, List.set_cons_zero]
            refine takeH 31 (.bool true) rfl (by kernel_rfl) (by kernel_rfl) (by kernel_rfl) (fun _ _ _ h => h) (by rfl) (fun v hv => by go_simp) hH ?_
            simp only [Act.put, List.setIfInBounds_toArray, List.set_cons_succ, List.set_cons_zero]
            refine takeH 32 (.bool false) rfl (by kernel_rfl) (by kernel_rfl) (by kernel_rfl) (fun _ _ _ h => h) (by rfl) (fun v hv => by go_simp) hH ?_
            simp only [Act.put, List.setIfInBounds_toArray, List.set_cons_succ, List.set_cons_zero]
            refine takeH 33 (.bool false) rfl (by kernel_rfl) (by kernel_rfl) (by kernel_rfl) (fun _ _ _ h => h) (by rfl) (fun v hv => by go_simp) hH ?_
            simp only [Act.put, List.setIfInBounds_toArray, List.set_cons_succ, List.set_cons_zero]
            refine wpAnyH_done (by kernel_rfl) ?_ _
            go_wp2
            go_roundw
            case rel => exact ⟨j + 1, Hlt.out, by go_num, hid (kk9.out.trans hH)⟩
            case measure => have := Hlt.out; simp [intOf]; omega
          · go_wp2_with fail
            refine wp_region_held_drew (S := fun v => Kept [] wc v) (by kernel_rfl) hH0 (fun hH => ?_)
            refine takeH 0 (.slice (some xa) i ca) rfl (by kernel_rfl) (by kernel_rfl) (by kernel_rfl) (fun _ _ _ h => h) (by rfl) (fun v hv => by go_simp) hH ?_
            simp only [Act.put, List.setIfInBounds_toArray, List.set_cons_succ, List.set_cons_zero]
            refine takeH 1 (.int .i64 (j : Int)) rfl (by kernel_rfl) (by kernel_rfl) (by kernel_rfl) (fun _ _ _ h => h) (by rfl) (fun v hv => by go_simp) hH ?_
            simp only [Act.put, List.setIfInBounds_toArray, List.set_cons_succ, List.set_cons_zero]
            refine takeH 2 (.pointer (some (xa.add j))) rfl (by kernel_rfl) (by kernel_rfl) (by kernel_rfl) (fun _ _ _ h => h) (by rfl) (fun v hv => by go_simp) hH ?_
            simp only [Act.put, List.setIfInBounds_toArray, List.set_cons_succ, List.set_cons_zero]
            refine takeH 3 (.bool false) rfl (by kernel_rfl) (by kernel_rfl) (by kernel_rfl) (fun _ _ _ h => h) (by rfl) (fun v hv => by have h := fa.out v hv; go_simp) hH ?_
            simp only [Act.put, List.setIfInBounds_toArray, List.set_cons_succ, List.set_cons_zero]
            refine takeH 4 (.pointer (some ⟨wj.heap.size, 2, none⟩)) rfl (by kernel_rfl) (by kernel_rfl) (by kernel_rfl) (fun _ _ _ h => h) (by rfl) (fun v hv => by go_simp) hH ?_
            simp only [Act.put, List.setIfInBounds_toArray, List.set_cons_succ, List.set_cons_zero]
            refine takeH 5 (.string (S st)) rfl (by kernel_rfl) (by kernel_rfl) (by kernel_rfl) (fun _ _ _ h => h) (by rfl) (fun v hv => by have h := fst.out v hv; go_simp) hH ?_
            simp only [Act.put, List.setIfInBounds_toArray, List.set_cons_succ, List.set_cons_zero]
            refine takeH 6 (.string (S tag)) rfl (by kernel_rfl) (by kernel_rfl) (by kernel_rfl) (fun _ _ _ h => h) (by rfl) (fun v hv => by go_simp) hH ?_
            simp only [Act.put, List.setIfInBounds_toArray, List.set_cons_succ, List.set_cons_zero]
            refine takeH 7 (.bool false) rfl (by kernel_rfl) (by kernel_rfl) (by kernel_rfl) (fun _ _ _ h => h) (by rfl) (fun v hv => by go_simp) hH ?_
            simp only [Act.put, List.setIfInBounds_toArray, List.set_cons_succ, List.set_cons_zero]
            refine takeH 8 (.bool false) rfl (by kernel_rfl) (by kernel_rfl) (by kernel_rfl) (fun _ _ _ h => h) (by rfl) (fun v hv => by go_simp) hH ?_
            simp only [Act.put, List.setIfInBounds_toArray, List.set_cons_succ, List.set_cons_zero]
            refine takeH 9 (.bool false) rfl (by kernel_rfl) (by kernel_rfl) (by kernel_rfl) (fun _ _ _ h => h) (by rfl) (fun v hv => by go_simp) hH ?_
            simp only [Act.put, List.setIfInBounds_toArray, List.set_cons_succ, List.set_cons_zero]
            refine takeH 10 (.slice (some xb) i cb) rfl (by kernel_rfl) (by kernel_rfl) (by kernel_rfl) (fun _ _ _ h => h) (by rfl) (fun v hv => by go_simp) hH ?_
            simp only [Act.put, List.setIfInBounds_toArray, List.set_cons_succ, List.set_cons_zero]
            refine takeH 11 (.int .i64 (j : Int)) rfl (by kernel_rfl) (by kernel_rfl) (by kernel_rfl) (fun _ _ _ h => h) (by rfl) (fun v hv => by go_simp) hH ?_
            simp only [Act.put, List.setIfInBounds_toArray, List.set_cons_succ, List.set_cons_zero]
            refine takeH 12 (.pointer (some (xb.add j))) rfl (by kernel_rfl) (by kernel_rfl) (by kernel_rfl) (fun _ _ _ h => h) (by rfl) (fun v hv => by go_simp) hH ?_
            simp only [Act.put, List.setIfInBounds_toArray, List.set_cons_succ, List.set_cons_zero]
            refine takeH 13 (.bool bN) rfl (by kernel_rfl) (by kernel_rfl) (by kernel_rfl) (fun _ _ _ h => h) (by rfl) (fun v hv => by have h := fb.out v hv; go_simp) hH ?_
            simp only [Act.put, List.setIfInBounds_toArray, List.set_cons_succ, List.set_cons_zero]
            refine takeH 14 (.bool bN) rfl (by kernel_rfl) (by kernel_rfl) (by kernel_rfl) (fun _ _ _ h => h) (by rfl) (fun v hv => by go_simp) hH ?_
            simp only [Act.put, List.setIfInBounds_toArray, List.set_cons_succ, List.set_cons_zero]
            refine takeH 15 (.bool false) rfl (by kernel_rfl) (by kernel_rfl) (by kernel_rfl) (fun _ _ _ h => h) (by rfl) (fun v hv => by go_simp) hH ?_
            simp only [Act.put, List.setIfInBounds_toArray, List.set_cons_succ, List.set_cons_zero]
            refine takeH 16 (.bool false) rfl (by kernel_rfl) (by kernel_rfl) (by kernel_rfl) (fun _ _ _ h => h) (by rfl) (fun v hv => by go_simp) hH ?_
            simp only [Act.put, List.setIfInBounds_toArray, List.set_cons_succ, List.set_cons_zero]
            refine takeH 17 (.bool false) rfl (by kernel_rfl) (by kernel_rfl) (by kernel_rfl) (fun _ _ _ h => h) (by rfl) (fun v hv => by go_simp) hH ?_
            simp only [Act.put, List.setIfInBounds_toArray, List.set_cons_succ, List.set_cons_zero]
            refine takeH 18 (.slice (some xc) i cc) rfl (by kernel_rfl) (by kernel_rfl) (by kernel_rfl) (fun _ _ _ h => h) (by rfl) (fun v hv => by go_simp) hH ?_
            simp only [Act.put, List.setIfInBounds_toArray, List.set_cons_succ, List.set_cons_zero]
            refine takeH 19 (.int .i64 (j : Int)) rfl (by kernel_rfl) (by kernel_rfl) (by kernel_rfl) (fun _ _ _ h => h) (by rfl) (fun v hv => by go_simp) hH ?_
            simp only [Act.put, List.setIfInBounds_toArray, List.set_cons_succ, List.set_cons_zero]
            refine takeH 20 (.pointer (some (xc.add j))) rfl (by kernel_rfl) (by kernel_rfl) (by kernel_rfl) (fun _ _ _ h => h) (by rfl) (fun v hv => by go_simp) hH ?_
            simp only [Act.put, List.setIfInBounds_toArray, List.set_cons_succ, List.set_cons_zero]
            refine takeH 21 (.bool bN) rfl (by kernel_rfl) (by kernel_rfl) (by kernel_rfl) (fun _ _ _ h => h) (by rfl) (fun v hv => by have h := fc.out v hv; go_simp) hH ?_
            simp only [Act.put, List.setIfInBounds_toArray, List.set_cons_succ, List.set_cons_zero]
            refine takeH 22 (.slice (some xa) i ca) rfl (by kernel_rfl) (by kernel_rfl) (by kernel_rfl) (fun _ _ _ h => h) (by rfl) (fun v hv => by go_simp) hH ?_
            simp only [Act.put, List.setIfInBounds_toArray, List.set_cons_succ, List.set_cons_zero]
            refine takeH 23 (.int .i64 (j : Int)) rfl (by kernel_rfl) (by kernel_rfl) (by kernel_rfl) (fun _ _ _ h => h) (by rfl) (fun v hv => by go_simp) hH ?_
            simp only [Act.put, List.setIfInBounds_toArray, List.set_cons_succ, List.set_cons_zero]
            refine takeH 24 (.pointer (some (xa.add j))) rfl (by kernel_rfl) (by kernel_rfl) (by kernel_rfl) (fun _ _ _ h => h) (by rfl) (fun v hv => by go_simp) hH ?_
            simp only [Act.put, List.setIfInBounds_toArray, List.set_cons_succ, List.set_cons_zero]
            refine takeH 25 (.bool false) rfl (by kernel_rfl) (by kernel_rfl) (by kernel_rfl) (fun _ _ _ h => h) (by rfl) (fun v hv => by have h := fa.out v hv; go_simp) hH ?_
            simp only [Act.put, List.setIfInBounds_toArray, List.set_cons_succ, List.set_cons_zero]
            refine takeH 26 (.bool false) rfl (by kernel_rfl) (by kernel_rfl) (by kernel_rfl) (fun _ _ _ h => h) (by rfl) (fun v hv => by go_simp) hH ?_
            simp only [Act.put, List.setIfInBounds_toArray, List.set_cons_succ, List.set_cons_zero]
            refine takeH 27 (.slice (some xb) i cb) rfl (by kernel_rfl) (by kernel_rfl) (by kernel_rfl) (fun _ _ _ h => h) (by rfl) (fun v hv => by go_simp) hH ?_
            simp only [Act.put, List.setIfInBounds_toArray, List.set_cons_succ, List.set_cons_zero]
            refine takeH 28 (.int .i64 (j : Int)) rfl (by kernel_rfl) (by kernel_rfl) (by kernel_rfl) (fun _ _ _ h => h) (by rfl) (fun v hv => by go_simp) hH ?_
            simp only [Act.put, List.setIfInBounds_toArray, List.set_cons_succ, List.set_cons_zero]
            refine takeH 29 (.pointer (some (xb.add j))) rfl (by kernel_rfl) (by kernel_rfl) (by kernel_rfl) (fun _ _ _ h => h) (by rfl) (fun v hv => by go_simp) hH ?_
            simp only [Act.put, List.setIfInBounds_toArray, List.set_cons_succ, List.set_cons_zero]
            refine takeH 30 (.bool bN) rfl (by kernel_rfl) (by kernel_rfl) (by kernel_rfl) (fun _ _ _ h => h) (by rfl) (fun v hv => by have h := fb.out v hv; go_simp) hH ?_
            simp only [Act.put, List.setIfInBounds_toArray, List.set_cons_succ, List.set_cons_zero]
            refine takeH 31 (.bool bN) rfl (by kernel_rfl) (by kernel_rfl) (by kernel_rfl) (fun _ _ _ h => h) (by rfl) (fun v hv => by go_simp) hH ?_
            simp only [Act.put, List.setIfInBounds_toArray, List.set_cons_succ, List.set_cons_zero]
            refine takeH 32 (.bool false) rfl (by kernel_rfl) (by kernel_rfl) (by kernel_rfl) (fun _ _ _ h => h) (by rfl) (fun v hv => by go_simp) hH ?_
            simp only [Act.put, List.setIfInBounds_toArray, List.set_cons_succ, List.set_cons_zero]
            refine takeH 33 (.bool false) rfl (by kernel_rfl) (by kernel_rfl) (by kernel_rfl) (fun _ _ _ h => h) (by rfl) (fun v hv => by go_simp) hH ?_
            simp only [Act.put, List.setIfInBounds_toArray, List.set_cons_succ, List.set_cons_zero]
            refine wpAnyH_done (by kernel_rfl) ?_ _
            go_wp2
            go_roundw
            case rel => exact ⟨j + 1, Hlt.out, by go_num, hid (kk9.out.trans hH)⟩
            case measure => have := Hlt.out; simp [intOf]; omega
        · have hltz : ¬ (j : Int) < (i : Int) := by omega
          have K9 := hid (K2.out.trans (E4.out.trans HJ.out))
          go_wp2
          go_ret
          exact ⟨rfl, K9.out⟩
end Go.Proofs.Ytkabfdclecbnpaa
