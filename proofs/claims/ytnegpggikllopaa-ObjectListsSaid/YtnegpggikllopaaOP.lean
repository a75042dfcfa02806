
/- ObjectLists. -/
import Derived.Test.YtnegpggikllopaaON
namespace Go.Proofs.Ytnegpggikllopaa
open Go.RowKit Go.Lib Go.Maps Go.Sort

set_option maxRecDepth 100000 in
set_option maxHeartbeats 8000000 in
theorem object_lists (a0 : Option Addr) (c0 : Nat) (ops : List OpO) (pre : List UInt8) (w : World) (h : IsSteps w a0 ops) (hm : ops.length ≤ 9223372036854775807) (hpl : pre.length ≤ 9223372036854775807) :
    Calls Try.prog 5 #[.slice a0 ops.length c0, .string (S pre)] w fun e w' => e = .returned (.bool true) ∧ Kept [] w w' := by
  have hal := hid (alive06 w)
  have H := hid h
  have hps : (S pre).size = pre.length := S_size _
  have hst : ∀ W, Kept [] w W → IsSteps W a0 ops := fun W hk => ⟨h.1, fun x hx i o ho => by
    obtain ⟨q0, q1, q2, q3, q4, q5⟩ := h.2 x hx i o ho
    exact ⟨(hk.cell (World.block_lt_of_cell? w _ q0) (by simp)).trans q0, (hk.cell (World.block_lt_of_cell? w _ q1) (by simp)).trans q1, (hk.cell (World.block_lt_of_cell? w _ q2) (by simp)).trans q2, q3.kept hk (by simp), q4, q5⟩⟩
  have hcf := hid (fun W (hk : Kept [] w W) => few06 a0 c0 ops W (hst W hk) hm)
  clear h hst
  by_cases hfew : Few ops
  · by_cases hp100 : pre.length ≤ 100
    · have HF := hid hfew
      rw [decide_eq_true hfew] at hcf
      obtain ⟨n, hn⟩ : ∃ n, n = ops.length := ⟨_, rfl⟩
      have HN := hid hn
      have hn60 : n ≤ 60 := by rw [hn]; exact hfew.2
      rw [← hn] at hcf ⊢
      have hnew := hid (fun W => ob_new 1048576 (by decide) (by decide) W)
      have hmm := @run_makeMap Try.prog
      have hp1 : ¬ (100 : Int) < (pre.length : Int) := by omega
      have HPL := hid hp100
      clear hfew hm hn hp100 hpl
      go_enter Try.func5, Try.ntmps5
      go_wp2_with fail
      refine hal.out.mono ?_
      rintro e w1 ⟨rfl, k1⟩
      have K1 := hid k1
      clear k1 hal
      go_wp2_with fail
      refine (hcf.out w1 K1.out).mono ?_
      rintro e w2 ⟨rfl, k2⟩
      have K2 := hid (K1.out.trans k2)
      clear k2 hcf
      go_wp2_with fail
      refine (hnew.out w2).mono ?_
      rintro e w3 ⟨rfl, k3, ob3⟩
      obtain ⟨p, hp⟩ : ∃ p, p = w2.heap.size := ⟨_, rfl⟩
      rw [← hp] at ob3 ⊢
      have hb3 := ob3.bound p (by simp)
      have ka := (Kept.refl [] w3).alloc (.map #[] 0)
      have hI0 := hid (show LS w (w3.alloc (.map #[] 0)) p w3.heap.size 0 [] [p] from
        ⟨ob3.kept ka (by simp), mp_made w3 [w3.heap.size] (by simp), by simp; omega, (K2.out.trans k3).trans ka, by simp [hp]; exact K2.out.size, Nat.le_trans K2.out.size k3.size, by simp [sizeE], Nat.le_refl _⟩)
      clear k3 ob3 hp hb3 ka hnew
      go_wp2_with fail
      go_loopw [40] (fun s wr => ∃ i : Nat, i ≤ n ∧ s = .int .i64 i ∧ Hid (∃ es U, LS w wr p w3.heap.size i es U)) (fun s _ => n - (intOf s).toNat)
      case atStart => exact ⟨0, Nat.zero_le _, rfl, hid ⟨[], [p], hI0.out⟩⟩
      case round =>
        clear hI0
        obtain ⟨i, hi, rfl, hst⟩ := hrel
        obtain ⟨es, U, ls⟩ := hst.out
        have LSH := hid ls
        by_cases hlt : i < n
        · have hlt' : i < ops.length := by have := HN.out; omega
          obtain ⟨o, ho⟩ : ∃ o, ops[i]? = some o := ⟨ops[i], by simp⟩
          obtain ⟨x, rfl⟩ : ∃ x, a0 = some x := by
            cases a0 with
            | none => exact absurd (H.out.1 rfl) (fun e => by rw [e] at hlt'; simp at hlt')
            | some x => exact ⟨x, rfl⟩
          obtain ⟨q0, q1, q2, hsrc, hnl, hbl⟩ := H.out.2 x rfl i o ho
          have hofew := HF.out.1 o (List.mem_of_getElem? ho)
          have hkw := ls.kept
          have g0 := (hkw.cell (World.block_lt_of_cell? w _ q0) (by simp)).trans q0
          have g1 := (hkw.cell (World.block_lt_of_cell? w _ q1) (by simp)).trans q1
          have g2 := (hkw.cell (World.block_lt_of_cell? w _ q2) (by simp)).trans q2
          have hsv := hid (show ∀ V, Kept [] w V → Src V (.slice o.ba o.bs.length o.bc) o.bs.length (o.bs.map B) from fun V hk => hsrc.kept hk (by simp))
          have HOF := hid hofew
          have HLT := hid hlt
          obtain ⟨W, hW⟩ : ∃ W, W = wr.alloc (.cells #[.int .i64 o.kind, .string (S o.nm), .slice o.ba o.bs.length o.bc] 38) := ⟨_, rfl⟩
          have HW := hid hW
          have hkW := hid (show Kept [] wr W from hW ▸ (Kept.refl [] wr).alloc _)
          have hq := hid (show W.heap[wr.heap.size]? = some (.cells #[.int .i64 o.kind, .string (S o.nm), .slice o.ba o.bs.length o.bc] 38 (0, 0)) from hW ▸ heap_alloc_at rfl)
          have LW := hid (ls.keep hkW.out)
          have hqa := hid (show wr.heap.size ∉ U from fun hm => Nat.lt_irrefl _ (ls.ob.bound _ hm))
          have hK : W.cell? ⟨wr.heap.size, 0, none⟩ = some (.int .i64 o.kind) := by rw [cell_of_row _ _ 0 _ _ _ hq.out]; rfl
          have hcS : ∀ (V : World) (T : List Nat), Kept T W V → wr.heap.size ∉ T → V.cell? ⟨wr.heap.size, 1, none⟩ = some (.string (S o.nm)) ∧ V.cell? ⟨wr.heap.size, 2, none⟩ = some (.slice o.ba o.bs.length o.bc) := fun V T hk hT => ⟨by rw [cell_of_row _ _ 1 _ _ _ (hk.at hq.out hT)]; rfl, by rw [cell_of_row _ _ 2 _ _ _ (hk.at hq.out hT)]; rfl⟩
          have HCS := hid hcS
          have hc1 := (hcS W [] (Kept.refl [] W) (by simp)).1
          have hc2 := (hcS W [] (Kept.refl [] W) (by simp)).2
          have i60 : i ≤ 60 := by omega
          clear hst q0 q1 q2 hsrc hnl hbl ho hlt' hkw hW ls hofew hcS
          by_cases hk3 : o.kind = 3
          · have hke : (o.kind == 3) = true := by simp [hk3]
            clear hk3
            have hdr := hid (ob_drop W U p 68 [] 1048576 es (.pointer none) [] i (-1) o.nm (by have := HOF.out.1; omega) LW.out.ob (by omega) (Or.inl ⟨rfl, rfl⟩) (by decide))
            go_wp2_with fail
            rw [← HW.out]
            go_wp2_with fail
            refine hdr.out.mono ?_
            rintro e V ⟨rfl, kv, obv, -⟩
            have kv' : Kept U W V := by simpa [fuB] using kv
            obtain ⟨V2, hdel, lsv⟩ := LW.out.drop o.nm HOF.out.1 kv' obv
            have hfin := hid lsv
            have hd1 := (HCS.out V U kv' hqa.out).1
            clear kv obv lsv hdr hc1 hc2 kv'
            go_wp2
            go_roundw
            case rel => exact ⟨i + 1, HLT.out, by go_num, hid ⟨_, _, hfin.out⟩⟩
            case measure => simp [intOf]; omega
          · have hke : (o.kind == 3) = false := by simp [hk3]
            clear hk3
            obtain ⟨er, her⟩ : ∃ er, er = putErr [] o.nm o.bs.length 1048576 ((sizeE es : Int) - (lookB o.nm es).length + o.bs.length) (findE o.nm es).isSome es.length := ⟨_, rfl⟩
            have hpu := hid (put_plain W U p 68 [] 1048576 es i o.nm (by have := HOF.out.1; omega) LW.out.ob (by omega) o.ba o.bc o.bs o.bs.length rfl (fun V hk => hsv.out V (LW.out.kept.trans' hk (fun x hx hm => by simp at hm; have := LW.out.lowU p LW.out.ob.hp; omega))) (by have := LW.out.sz; have := HOF.out.2; omega) er her.symm)
            clear her
            go_wp2_with fail
            rw [← HW.out]
            go_wp2_with fail
            refine hpu.out.mono ?_
            rintro e V ⟨v', U', rfl, kv, hU', obv⟩
            by_cases her0 : er = 0
            · subst her0
              rw [if_pos rfl] at obv
              obtain ⟨V2, hupd, lsv⟩ := LW.out.put o.nm o.bs v' HOF.out.1 HOF.out.2 (by omega) kv hU' obv
              have hfin := hid lsv
              have hd1 := (HCS.out V U kv hqa.out).1
              have hd2 := (HCS.out V U kv hqa.out).2
              clear kv obv lsv hpu hc1 hc2 hU'
              go_wp2
              go_roundw
              case rel => exact ⟨i + 1, HLT.out, by go_num, hid ⟨_, _, hfin.out⟩⟩
              case measure => simp [intOf]; omega
            · rw [if_neg her0] at obv
              have hfin := hid (LW.out.same kv hU' obv)
              have hne : (er == 0) = false := by simpa using her0
              clear kv obv hpu hc1 hc2 hU' her0
              go_wp2
              go_roundw
              case rel => exact ⟨i + 1, HLT.out, by go_num, hid ⟨_, _, hfin.out⟩⟩
              case measure => simp [intOf]; omega
        · obtain rfl : i = n := by omega
          have hris := hid ls.ob.rising
          have hsm := hid ls.ob.small.2
          obtain ⟨k, hk⟩ : ∃ k, k = (namesL es pre).length := ⟨_, rfl⟩
          have HK := hid hk
          have hls := hid ((ob_list wr U p 68 [] 1048576 es (.pointer none) [] i (-1) pre ls.ob (by omega) (Or.inl ⟨rfl, rfl⟩) (by decide)).mono (R' := fun e w' => ∃ a c, e = .returned (.tuple #[.slice a k c, .int .i64 0]) ∧ Kept [p] wr w' ∧ Ob w' U p 68 [] 1048576 es (.pointer none) [] (i + 1) ∧ w'.ownsRow wr.heap.size 9 1 (.slice a k c) k ((namesL es pre).map encStr)) fun e w' h => by
            obtain ⟨v', h1, h2, h3, _, h5⟩ := h
            have e1 : gotL [] es pre = namesL es pre := by unfold gotL; exact if_pos rfl
            rw [e1, ← hk] at h5
            obtain ⟨a, c, rfl⟩ := owns_slice h5
            exact ⟨a, c, h1, by simpa [fuB] using h2, h3, h5⟩)
          clear hst ls hk
          go_wp2_with fail
          refine hls.out.mono ?_
          rintro e v1 ⟨la, lc, rfl, k1, ob1, ol⟩
          have L1 := hid (LSH.out.same (k1.wider (fun x _ hx => by simp at hx; subst hx; exact LSH.out.ob.hp)) (fun x hx => Or.inl hx) ob1)
          have OL1 := hid ol
          clear k1 ob1 ol hls
          have hown : v1.ownsMap Try.prog 9 heldR w3.heap.size (es.map sized).length (DM (es.map sized)) := by
            rcases L1.out.mp with ⟨h1, _⟩ | ⟨b', hb, _, h1⟩
            · cases h1
            · cases hb; exact h1
          obtain ⟨v1', hrg, hra, hgr, hsz⟩ := hown.range str_law Try.underlying56
          have hC0 := hid (show CntI v1 w3.heap.size v1.heap.size (es.map sized) pre (.int .i64 0) v1' from ⟨_, _, [], hra, Collected.start _, by rw [DM_size]; simp, Kept.of_grown hgr (by simp), by simp⟩)
          have hown0 := hid hown
          clear hown hra hgr hsz
          go_wp2_with fail
          go_loopw [12] (fun v wr => Hid (CntI v1 w3.heap.size v1.heap.size (es.map sized) pre v wr)) (fun _ wr => wr.rangeLeft w3.heap.size v1.heap.size)
          case atStart => exact hC0
          case round =>
            clear hC0
            obtain ⟨left, cnt, ss, hra, hcol, hcnt, hk, rfl⟩ := hrel.out
            have hmeas := hid hra.left_eq
            have hne := hid hra.ne; have hrl := hid hra.lt
            have hKz := hid hk; have HCOL := hid hcol; have HCNT := hid hcnt
            rcases hra.next str_law 0 with ⟨rfl, hl0, hrun⟩ | ⟨key, v1x, kl, y, w2x, cnt', hkey, hlk, hv, hat, hrun, hra2, hlt2, hgr2, hsz2, hen⟩
            · have hcnt2 := hid (show (ss.filter (fun x => Lib.hasPrefix x pre)).length = k from by
                have h1 := hcol.perm hown0.out str_law Try.underlying9 hl0
                rw [DM_keys, names_sized] at h1
                rw [HK.out]
                exact (h1.filter _).length_eq)
              rw [hcnt2.out]
              have L2 := hid (L1.out.keep hKz.out)
              have OL2 := hid (hKz.out.owns OL1.out (by simp))
              clear hra hcol hcnt hk hl0 hrel hmeas hne hrl hKz HCOL HCNT hcnt2 hown0 hrg
              have hk60 : k ≤ 4096 := by have := HK.out; have := sub_len (es.map (·.name)) (fun x => Lib.hasPrefix x pre); have := L1.out.len; unfold namesL at *; simp at *; omega
              generalize wr = v2 at *
              go_wp2_with fail
              go_loopw [87] (fun s wr => ∃ j : Nat, j ≤ k ∧ s = .int .i64 j ∧ v2 = wr) (fun s _ => k - (intOf s).toNat)
              case atStart => exact ⟨0, Nat.zero_le _, rfl, rfl⟩
              case round =>
                clear hrun
                obtain ⟨j, hj, rfl, rfl⟩ := hrel
                by_cases hjk : j < k
                · obtain ⟨x, hx⟩ : ∃ x, (namesL es pre)[j]? = some x := ⟨(namesL es pre)[j]'(by rw [← HK.out]; exact hjk), by simp⟩
                  obtain ⟨g, rfl⟩ : ∃ g, la = some ⟨g, 0, none⟩ := by
                    rcases OL2.out.2 with ⟨h1, h2⟩ | ⟨g, cap, cur, h1, _⟩
                    · exfalso; omega
                    · simp at h1; exact ⟨g, h1.1⟩
                  have c1 : v2.cell? ⟨g, j, none⟩ = some (.string (S x)) := owns_cell OL2.out (by rw [List.getElem?_map, hx]; rfl)
                  have hmem := List.mem_filter.1 (List.mem_of_getElem? hx)
                  obtain ⟨en, hen, hnx⟩ := List.mem_map.1 hmem.1
                  have hfu := find_unique hris.out hen
                  rw [hnx] at hfu
                  have hxl : x.length ≤ 80 := by
                    have h1 := hsm.out.2 en hen
                    unfold okName at h1
                    simp at h1
                    rw [hnx] at h1
                    omega
                  have hlk := mi_look L2.out.mp x (by omega)
                  rw [(lookI_sized hfu).1, (lookI_sized hfu).2] at hlk
                  unfold szV at hlk
                  have hbg := hid (begins_any x pre v2 (by omega) (by have := HPL.out; omega))
                  have hpx : Lib.hasPrefix x pre = true := hmem.2
                  rw [hpx] at hbg
                  have hprev := hid (show ∀ j', j = j' + 1 → ∃ x0, v2.cell? ⟨g, j', none⟩ = some (.string (S x0)) ∧ Op.bytesLess (S x0).toList (S x).toList = true from fun j' e => by
                    subst e
                    have hlt : j' + 1 < (namesL es pre).length := by rw [← HK.out]; exact hjk
                    refine ⟨(namesL es pre)[j'], owns_cell OL2.out (by rw [List.getElem?_map, List.getElem?_eq_getElem (by omega)]; rfl), less_S ?_⟩
                    have h1 := List.pairwise_iff_getElem.1 (namesL_rising hris.out pre) j' (j' + 1) (by omega) hlt (by omega)
                    rw [List.getElem?_eq_getElem hlt] at hx
                    simp at hx
                    rw [← hx]
                    exact h1)
                  obtain ⟨eb, heb⟩ : ∃ eb, eb = en.b.length := ⟨_, rfl⟩
                  rw [← heb] at hlk
                  have HJK := hid hjk
                  clear hx hmem hen hnx hfu hpx heb
                  rcases Nat.eq_zero_or_pos j with rfl | hpos
                  · go_wp2_with fail
                    refine hbg.out.mono ?_
                    rintro e w4x ⟨rfl, rfl⟩
                    go_wp2
                    go_roundw
                    case rel => exact ⟨1, HJK.out, by go_num, trivial⟩
                    case measure => simp [intOf]; omega
                  · obtain ⟨j', rfl⟩ : ∃ j', j = j' + 1 := ⟨j - 1, by omega⟩
                    obtain ⟨x0, c0, hless⟩ := hprev.out j' rfl
                    clear hprev hpos
                    go_wp2_with fail
                    refine hbg.out.mono ?_
                    rintro e w4x ⟨rfl, rfl⟩
                    go_wp2
                    go_roundw
                    case rel => exact ⟨j' + 1 + 1, HJK.out, by go_num, trivial⟩
                    case measure => simp [intOf]; omega
                · obtain rfl : j = k := by omega
                  clear hjk
                  obtain ⟨ne, hne⟩ : ∃ ne, ne = es.length := ⟨_, rfl⟩
                  have HNE := hid hne
                  have hne60 : ne ≤ 4096 := by rw [hne]; exact hsm.out.1
                  have hls2 := hid ((ob_list v2 U p 68 [] 1048576 es (.pointer none) [] (i + 1) (-1) [] L2.out.ob (by omega) (Or.inl ⟨rfl, rfl⟩) (by decide)).mono (R' := fun e w' => ∃ a c, e = .returned (.tuple #[.slice a ne c, .int .i64 0]) ∧ Kept [p] v2 w' ∧ Ob w' U p 68 [] 1048576 es (.pointer none) [] (i + 1 + 1) ∧ w'.ownsRow v2.heap.size 9 1 (.slice a ne c) ne (es.map nmV)) fun e w' h => by
                    obtain ⟨v', h1, h2, h3, _, h5⟩ := h
                    have e1 : gotL [] es [] = es.map (·.name) := by unfold gotL; rw [namesL_all]; exact if_pos rfl
                    have e2 : (es.map (·.name)).map encStr = es.map nmV := by rw [List.map_map]; rfl
                    rw [e1, e2, List.length_map, ← hne] at h5
                    obtain ⟨a, c, rfl⟩ := owns_slice h5
                    exact ⟨a, c, h1, by simpa [fuB] using h2, h3, h5⟩)
                  clear hne OL2
                  go_wp2_with fail
                  refine hls2.out.mono ?_
                  rintro e v3 ⟨ba, bc, rfl, k3, ob3, ol3⟩
                  have L3 := hid (L2.out.same (k3.wider (fun x _ hx => by simp at hx; subst hx; exact L2.out.ob.hp)) (fun x hx => Or.inl hx) ob3)
                  have OL3 := hid ol3
                  have hna := hid ((names_any v3 U p 68 [] 1048576 es (.pointer none) [] (i + 1 + 1) ob3 1000 (by have := LSH.out.len; omega) (by decide)).mono (R' := fun e w' => ∃ a c b d, e = .returned (.tuple #[.slice a ne c, .slice b ne d]) ∧ Kept [] v3 w' ∧ w'.ownsRow v3.heap.size 9 1 (.slice a ne c) ne (es.map nmV) ∧ w'.ownsRow v3.heap.size 3 1 (.slice b ne d) ne (es.map szV)) fun e w' h => by
                    obtain ⟨vx, vy, h1, h2, h3, h4⟩ := h
                    rw [← HNE.out] at h3 h4
                    obtain ⟨a, c, rfl⟩ := owns_slice h3
                    obtain ⟨b, d, rfl⟩ := owns_slice h4
                    exact ⟨a, c, b, d, h1, h2, h3, h4⟩)
                  clear k3 ob3 ol3 hls2
                  go_wp2_with fail
                  refine hna.out.mono ?_
                  rintro e v4 ⟨xa, xc, ya, yc, rfl, k4, ox, oy⟩
                  have L4 := hid (L3.out.keep k4)
                  have OL4 := hid (k4.owns OL3.out (by simp))
                  have OX := hid ox; have OY := hid oy
                  clear k4 ox oy hna
                  go_wp2_with fail
                  go_loopw [132] (fun s wr => ∃ j : Nat, j ≤ ne ∧ s = .int .i64 j ∧ Hid (Kept [] v4 wr)) (fun s _ => ne - (intOf s).toNat)
                  case atStart => exact ⟨0, Nat.zero_le _, rfl, hid (Kept.refl _ _)⟩
                  case round =>
                    obtain ⟨j, hj, rfl, hkr⟩ := hrel
                    by_cases hjk : j < ne
                    · have hj2 : j < es.length := by have := HNE.out; omega
                      have hk1 := hkr.out.owns OX.out (by simp)
                      have hk2 := hkr.out.owns OY.out (by simp)
                      obtain ⟨g, rfl⟩ : ∃ g, xa = some ⟨g, 0, none⟩ := by
                        rcases hk1.2 with ⟨_, h0⟩ | ⟨g, cap, cur, hv, _⟩
                        · omega
                        · simp at hv; exact ⟨g, hv.1⟩
                      obtain ⟨g2, rfl⟩ : ∃ g, ya = some ⟨g, 0, none⟩ := by
                        rcases hk2.2 with ⟨_, h0⟩ | ⟨g, cap, cur, hv, _⟩
                        · omega
                        · simp at hv; exact ⟨g, hv.1⟩
                      obtain ⟨en, hen⟩ : ∃ e, es[j]? = some e := ⟨es[j], by simp⟩
                      have hmem := List.mem_of_getElem? hen
                      have hfu := find_unique hris.out hmem
                      have hxl : en.name.length ≤ 80 := by
                        have h1 := hsm.out.2 en hmem
                        unfold okName at h1
                        simp at h1
                        omega
                      have hcell : wr.cell? ⟨g, j, none⟩ = some (.string (S en.name)) := owns_cell hk1 (by rw [List.getElem?_map, hen]; rfl)
                      have hcell2 : wr.cell? ⟨g2, j, none⟩ = some (.int .i64 (en.b.length : Int)) := owns_cell hk2 (by rw [List.getElem?_map, hen]; rfl)
                      have hlk : ∀ n, (Instr.lookup 56 (.map (some w3.heap.size)) (.string (S en.name)) false).run Try.prog (wr.drewN n) = .ok (.int .i64 (en.b.length : Int)) (wr.drewN n) := fun n => by
                        have h1 := mi_look1 ((L4.out.mp.kept hkr.out (by simp)).kept ((Kept.refl [] wr).drewN n) (by simp)) en.name (by omega)
                        rw [(lookI_sized hfu).1] at h1
                        exact h1
                      obtain ⟨eb, heb⟩ : ∃ eb, eb = en.b.length := ⟨_, rfl⟩
                      rw [← heb] at hcell2 hlk
                      obtain ⟨sn, hsn⟩ : ∃ sn, sn = S en.name := ⟨_, rfl⟩
                      rw [← hsn] at hcell hlk
                      clear hen hmem hfu hxl heb hsn hk1 hk2 hj2
                      have hkd := hid (fun n => hkr.out.drewN n)
                      go_wp2_with fail
                      go_quiet (fail)
                      have hk2 := hid (hkd.out nq)
                      clear hlk
                      generalize wr.drewN nq = W3 at *
                      go_wp2_with fail
                      exact ⟨⟨j + 1, by omega, by go_num, hk2⟩, by simp [intOf]; omega⟩
                    · obtain rfl : j = ne := by omega
                      clear hjk
                      have hss := hid (same_names ba xa bc xc v2.heap.size v3.heap.size j es wr HNE.out (hkr.out.owns OL4.out (by simp)) (hkr.out.owns OX.out (by simp)) (by omega))
                      have hfin := hid (L4.out.keep hkr.out)
                      go_wp2_with fail
                      refine hss.out.mono ?_
                      rintro e v5 ⟨rfl, k5⟩
                      have L5 := hid (hfin.out.keep k5)
                      have hml := fun ty => mi_len L5.out.mp ty
                      rw [List.length_map, ← HNE.out] at hml
                      clear k5 hss
                      go_wp2
                      go_ret
                      exact ⟨rfl, L5.out.kept⟩
            · obtain ⟨x, rfl, rfl, hxl⟩ := Maps.keyOf_str Try.underlying9 hkey
              have kx := hid (show Kept [v1.heap.size] wr w2x from Kept.of_grown hgr2 (fun k hk _ => by simp at hk; simp [hk]))
              have hcol2 := hid (hcol.step hlk hat)
              have hnew := hid (show v1.heap.size ≤ wr.heap.size from hKz.out.size)
              have hKw := hid (show Kept [] v1 w2x from hKz.out.trans' kx.out (fun z hz hm => by simp at hm; omega))
              have hbg := hid (begins_any x pre w2x (by unfold maxLen at hxl; omega) (by have := HPL.out; omega))
              have hra2' := hid hra2
              have hlt' := hid hlt2
              rw [encS] at hrun hen
              have hm2 := hid hra2.left_eq
              clear hkey hlk hv hat hra hra2 hlt2 hgr2 hk hcol hrel hxl hsz2 hcnt
              go_wp2_with fail
              refine hbg.out.mono ?_
              rintro e w3x ⟨rfl, rfl⟩
              have hss : (ss.filter (fun x => Lib.hasPrefix x pre)).length ≤ 1000000 := by have := HCNT.out; have := sub_len ss (fun x => Lib.hasPrefix x pre); have := L1.out.len; simp at *; omega
              cases hpp : Lib.hasPrefix x pre
              · have hI := hid (show CntI v1 w3.heap.size v1.heap.size (es.map sized) pre (.int .i64 ((ss.filter (fun x => Lib.hasPrefix x pre)).length : Int)) w2x from ⟨_, cnt', ss ++ [x], hra2'.out, hcol2.out, by have := hlt'.out; have := HCNT.out; simp at *; omega, hKw.out, by rw [List.filter_append]; simp [hpp]⟩)
                have hms := hid (show w2x.rangeLeft w3.heap.size v1.heap.size < wr.rangeLeft w3.heap.size v1.heap.size from by rw [hm2.out, hmeas.out]; exact hlt'.out)
                clear hpp hrun hen
                go_wp2
                go_roundw
                case rel => exact hI
                case measure => exact hms.out
              · have hI := hid (show CntI v1 w3.heap.size v1.heap.size (es.map sized) pre (.int .i64 (((ss.filter (fun x => Lib.hasPrefix x pre)).length : Int) + 1)) w2x from ⟨_, cnt', ss ++ [x], hra2'.out, hcol2.out, by have := hlt'.out; have := HCNT.out; simp at *; omega, hKw.out, by rw [List.filter_append]; simp [hpp]⟩)
                have hms := hid (show w2x.rangeLeft w3.heap.size v1.heap.size < wr.rangeLeft w3.heap.size v1.heap.size from by rw [hm2.out, hmeas.out]; exact hlt'.out)
                obtain ⟨cc, hcc⟩ : ∃ cc : Nat, cc = (ss.filter (fun x => Lib.hasPrefix x pre)).length := ⟨_, rfl⟩
                rw [← hcc] at hI hss ⊢
                clear hpp hrun hen hcc
                go_wp2
                go_roundw
                case rel => exact hI
                case measure => exact hms.out
    · rw [decide_eq_true hfew] at hcf
      have hp1 : (100 : Int) < (pre.length : Int) := by omega
      clear hfew hp100
      go_enter Try.func5, Try.ntmps5
      go_wp2_with fail
      refine hal.out.mono ?_
      rintro e w1 ⟨rfl, k1⟩
      have K1 := hid k1
      clear k1
      go_wp2_with fail
      refine (hcf.out w1 K1.out).mono ?_
      rintro e w2 ⟨rfl, k2⟩
      have K2 := hid (K1.out.trans k2)
      clear k2
      go_wp2
      go_ret
      exact ⟨rfl, K2.out⟩
  · rw [decide_eq_false hfew] at hcf
    clear hfew
    go_enter Try.func5, Try.ntmps5
    go_wp2_with fail
    refine hal.out.mono ?_
    rintro e w1 ⟨rfl, k1⟩
    have K1 := hid k1
    clear k1
    go_wp2_with fail
    refine (hcf.out w1 K1.out).mono ?_
    rintro e w2 ⟨rfl, k2⟩
    have K2 := hid (K1.out.trans k2)
    clear k2
    go_wp2
    go_ret
    exact ⟨rfl, K2.out⟩
end Go.Proofs.Ytnegpggikllopaa
