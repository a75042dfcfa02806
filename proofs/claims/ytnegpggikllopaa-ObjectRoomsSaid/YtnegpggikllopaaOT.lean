
/- ObjectRooms. -/
import Derived.Test.YtnegpggikllopaaOS
namespace Go.Proofs.Ytnegpggikllopaa
open Go.RowKit Go.Lib Go.Maps Go.Sort

/-- How many bytes those names have. -/
def sumL (es : List Ent) (ss : List (List UInt8)) : Nat := (ss.map fun x => (lookB x es).length).sum
theorem sum_perm {l l' : List Nat} (h : l.Perm l') : l.sum = l'.sum := by
  induction h with
  | nil => rfl
  | cons a _ ih => simp [ih]
  | swap a b r => simp; omega
  | trans _ _ ih1 ih2 => exact ih1.trans ih2
theorem sumL_perm {es : List Ent} (hr : Rising es) {ss : List (List UInt8)} (h : ss.Perm (es.map (·.name))) : sumL es ss = sizeE es := by
  unfold sumL
  rw [sum_perm (h.map _), List.map_map]
  unfold sizeE
  congr 1
  apply List.map_congr_left
  intro e he
  show (lookB e.name es).length = e.b.length
  unfold lookB
  rw [find_unique hr he]
theorem sumL_le (es : List Ent) (ss : List (List UInt8)) : sumL es ss ≤ ss.length * sizeE es := by
  unfold sumL
  induction ss with
  | nil => simp
  | cons x r ih =>
    have h1 : (lookB x es).length ≤ sizeE es := by
      unfold lookB
      cases hf : findE x es with
      | none => simp
      | some e => exact sizeE_mem (find_mem hf).1
    simp only [List.map_cons, List.sum_cons, List.length_cons, Nat.succ_mul]
    omega
/-- What a range over the texts has reckoned. -/
def SumI (w v1 : World) (p bx b : Nat) (q : Int) (es : List Ent) (U : List Nat) (v : Value) (wr : World) : Prop :=
  ∃ left cnt ss kk, wr.ranges Try.prog 9 heldR b v1.heap.size (es.map texted).length (DM (es.map texted)) left cnt ∧ Collected (DM (es.map texted)) left ss ∧ ss.length + cnt ≤ (es.map texted).length ∧ Ob wr U p 68 [] q es (.pointer none) [] kk ∧ kk ≤ 60 + ss.length ∧
    wr.heap[bx]? = some (.cells #[.pointer (some ⟨p, 0, none⟩)] 26 (0, 0)) ∧ Kept [] w wr ∧ v1.heap.size ≤ wr.heap.size ∧ v = .int .i64 (sumL es ss : Int)
theorem text_at {hs es : List Ent} {x : List UInt8} {v : Value} {y : DataW Value × List MemPlace} (hhs : hs = es.map texted) (hv : heldR v = some y) (hat : ∀ zd, (DM hs).atKey (.string x) zd = y.1) : ∃ e, findE x es = some e ∧ v = .string (S e.b) := by
  subst hhs
  unfold heldR at hv
  simp at hv
  subst hv
  cases hf : findE x es with
  | none =>
    have h1 := hat (.held (.bool true)); have h2 := hat (.held (.bool false))
    rw [DM_at, find_texted, hf] at h1 h2
    simp at h1 h2
    rw [← h1] at h2
    simp at h2
  | some e =>
    have h1 := hat (.held undef)
    rw [DM_at, find_texted, hf] at h1
    simp at h1
    exact ⟨e, rfl, by rw [← h1]; rfl⟩

set_option maxRecDepth 100000 in
set_option maxHeartbeats 8000000 in
theorem object_rooms (q n0 : Int) (fa : Option Addr) (fc : Nat) (fl0 : List Bool) (a0 : Option Addr) (c0 : Nat) (ops : List OpO) (w : World) (hq1 : -9223372036854775808 ≤ q) (hq2 : q ≤ 9223372036854775807) (hn1 : -9223372036854775808 ≤ n0) (hn2 : n0 ≤ 9223372036854775807)
    (hfl : Src w (.slice fa fl0.length fc) fl0.length (fl0.map .bool)) (hflm : fl0.length ≤ 9223372036854775807) (h : IsSteps w a0 ops) (hm : ops.length ≤ 9223372036854775807) :
    Calls Try.prog 4 #[.int .i64 q, .int .i64 n0, .slice fa fl0.length fc, .slice a0 ops.length c0] w fun e w' => e = .returned (.bool true) ∧ Kept [] w w' := by
  have hal := hid (alive06 w)
  have H := hid h
  have hst : ∀ W, Kept [] w W → IsSteps W a0 ops := fun W hk => ⟨h.1, fun x hx i o ho => by
    obtain ⟨q0, q1, q2, q3, q4, q5⟩ := h.2 x hx i o ho
    exact ⟨(hk.cell (World.block_lt_of_cell? w _ q0) (by simp)).trans q0, (hk.cell (World.block_lt_of_cell? w _ q1) (by simp)).trans q1, (hk.cell (World.block_lt_of_cell? w _ q2) (by simp)).trans q2, q3.kept hk (by simp), q4, q5⟩⟩
  have hcf := hid (fun W (hk : Kept [] w W) => few06 a0 c0 ops W (hst W hk) hm)
  clear h hst
  by_cases hfew : Few ops ∧ fl0.length ≤ 60 ∧ 0 ≤ q
  · obtain ⟨hfew, hf60, hq0⟩ := hfew
    have HF := hid hfew
    rw [decide_eq_true hfew] at hcf
    have hsrcf := hid (show ∀ W, Kept [] w W → Src W (.slice fa fl0.length fc) fl0.length (fl0.map .bool) from fun W hk => by
      rcases hfl with h | ⟨ad, c', h1, h2⟩
      · exact Or.inl h
      · exact Or.inr ⟨ad, c', h1, fun j u hj => (hk.cell (World.block_lt_of_cell? _ _ (h2 j u hj)) (by simp)).trans (h2 j u hj)⟩)
    obtain ⟨n, hn⟩ : ∃ n, n = ops.length := ⟨_, rfl⟩
    have HN := hid hn
    have hn60 : n ≤ 60 := by rw [hn]; exact hfew.2
    obtain ⟨nf, hnf⟩ : ∃ nf, nf = fl0.length := ⟨_, rfl⟩
    have HNF := hid hnf
    rw [← hn] at hcf ⊢
    rw [← hnf] at hsrcf hf60 ⊢
    have hnew := hid (fun W => ob_new q hq0 hq2 W)
    have hfz := hid (fun W => newfuse_all n0 W)
    obtain ⟨l0, hl0⟩ : ∃ l0, l0 = max n0 (-1) := ⟨_, rfl⟩
    rw [← hl0] at hfz
    have hl1 := hid (show -1 ≤ l0 ∧ l0 ≤ 9223372036854775807 by omega)
    have hmm := @run_makeMap Try.prog
    have hmf : ∀ (fn : Fn) (first cap : Array Value) (w : World), (Instr.makeFunc fn first cap).run Try.prog w = .ok (.func fn first cap) w := fun _ _ _ _ => rfl
    have HQ := hid (And.intro hq0 hq2)
    clear hfew hm hn hnf hl0 hfl hflm hn1 hn2 hq1
    go_enter Try.func4, Try.ntmps4
    go_wp2_with fail
    refine hal.out.mono ?_
    rintro e w1 ⟨rfl, k1⟩
    have K1 := hid k1
    clear k1 hal
    go_wp2_with fail
    refine (hcf.out w1 K1.out).mono ?_
    rintro e w2 ⟨rfl, k2⟩
    have K2 := hid (K1.out.trans k2)
    clear k2 hcf
    go_wp2_with fail
    refine (hnew.out w2).mono ?_
    rintro e w3 ⟨rfl, k3, ob3⟩
    obtain ⟨p, hp⟩ : ∃ p, p = w2.heap.size := ⟨_, rfl⟩
    rw [← hp] at ob3 ⊢
    have hb3 := hid (ob3.bound p (by simp))
    obtain ⟨w4, hw4⟩ : ∃ w4, w4 = w3.alloc (.cells #[.pointer (some ⟨p, 0, none⟩)] 26) := ⟨_, rfl⟩
    have HW4 := hid hw4
    have ka : Kept [] w3 w4 := hw4 ▸ (Kept.refl [] w3).alloc _
    have K4 := hid ((K2.out.trans k3).trans ka)
    have OB4 := hid (ob3.kept ka (by simp))
    have hpw := hid (show w.heap.size ≤ p from by rw [hp]; exact K2.out.size)
    have HX4 := hid (show w4.heap[w3.heap.size]? = some (.cells #[.pointer (some ⟨p, 0, none⟩)] 26 (0, 0)) from hw4 ▸ heap_alloc_at rfl)
    clear k3 ob3 hp hw4 ka hnew
    go_wp2_with fail
    rw [← HW4.out]
    refine (hfz.out w4).mono ?_
    rintro e w5 ⟨rfl, hw5⟩
    obtain ⟨f, hf⟩ : ∃ f, f = w4.heap.size := ⟨_, rfl⟩
    rw [← hf]
    have k5 : Kept [] w4 w5 := hw5 ▸ (Kept.refl [] w4).alloc _
    have K5 := hid (K4.out.trans k5)
    have OB5 := hid (OB4.out.kept k5 (by simp))
    have HF5 := hid (show w5.heap[f]? = some (.cells #[.int .i64 l0] 70 (0, 0)) from by rw [hf, ← hw5]; exact heap_alloc_at rfl)
    have HX5 := hid (k5.at HX4.out (by simp))
    have hxf := hid (show w3.heap.size < f from by rw [hf]; exact lt_of_block HX4.out)
    have hc5 : w5.cell? ⟨w3.heap.size, 0, none⟩ = some (.pointer (some ⟨p, 0, none⟩)) := cell_of_one HX5.out
    have har := hid (ob_arm_src w5 [p] p 68 [] q [] (.pointer none) [] 0 OB5.out (.pointer (some ⟨f, 0, none⟩)) fa nf fc fl0 ⟨_, rfl⟩ HNF.out (fun W hk => by rw [← HNF.out] at *; exact hsrcf.out W (K5.out.trans' hk (fun x hx hm => by simp at hm; have := hpw.out; omega))) (by have := HNF.out; omega))
    clear k5 hw5 hf hfz
    go_wp2_with fail
    refine har.out.mono ?_
    rintro e w6 ⟨rfl, k6, U6, hU6, ob6⟩
    have hI0 := hid (show ∃ es U fl k left, RS w (w6.alloc (.map #[] 0)) p w3.heap.size f w6.heap.size q 0 es U fl k left from by
      have km := (Kept.refl [] w6).alloc (.map #[] 0)
      have h1 := hb3.out; have h2 := hxf.out; have h3 := hpw.out; have h4 := lt_of_block HF5.out; have h5 := k6.size
      have hU : ∀ x ∈ U6, x = p ∨ f < x := fun x hx => by
        rcases hU6 x hx with h | h
        · left; simpa using h
        · right; omega
      refine ⟨[], U6, fl0, 0, l0, ob6.kept km (by simp), Or.inr ⟨f, rfl, fun hm => ?_, km.at (k6.at HF5.out (by simp; omega)) (by simp), hl1.out.1, hl1.out.2⟩, mp_made w6 [w6.heap.size] (by simp), km.at (k6.at HX5.out (by simp; omega)) (by simp), ⟨fun hm => Nat.lt_irrefl _ (ob6.bound _ hm), by omega⟩, ⟨fun hm => ?_, by omega, by omega⟩, (K5.out.trans' k6 (fun x hx hm => by simp at hm; omega)).trans km, ⟨fun x hx => ?_, by omega, by have := K5.out.size; omega⟩, by simpa [sizeE] using HQ.out.1, by simp [sizeE], Nat.le_refl _⟩
      · rcases hU f hm with h | h <;> omega
      · rcases hU _ hm with h | h <;> omega
      · rcases hU x hx with h | h <;> omega)
    clear k6 hU6 ob6 har hc5
    go_wp2_with fail
    go_loopw [49] (fun s wr => ∃ i : Nat, i ≤ n ∧ s = .int .i64 i ∧ Hid (∃ es U fl k left, RS w wr p w3.heap.size f w6.heap.size q i es U fl k left)) (fun s _ => n - (intOf s).toNat)
    case atStart => exact ⟨0, Nat.zero_le _, rfl, hI0⟩
    case round =>
      clear hI0
      obtain ⟨i, hi, rfl, hst⟩ := hrel
      obtain ⟨es, U, fl, k, left, rs⟩ := hst.out
      have R := hid rs
      by_cases hlt : i < n
      · have hlt' : i < ops.length := by have := HN.out; omega
        obtain ⟨o, ho⟩ : ∃ o, ops[i]? = some o := ⟨ops[i], by simp⟩
        obtain ⟨x, rfl⟩ : ∃ x, a0 = some x := by
          cases a0 with
          | none => exact absurd (H.out.1 rfl) (fun e => by rw [e] at hlt'; simp at hlt')
          | some x => exact ⟨x, rfl⟩
        obtain ⟨q0, q1, q2, hsrc, hnl, hbl⟩ := H.out.2 x rfl i o ho
        have hofew := HF.out.1 o (List.mem_of_getElem? ho)
        have hkw := rs.kept
        have g0 := (hkw.cell (World.block_lt_of_cell? w _ q0) (by simp)).trans q0
        have g1 := (hkw.cell (World.block_lt_of_cell? w _ q1) (by simp)).trans q1
        have g2 := (hkw.cell (World.block_lt_of_cell? w _ q2) (by simp)).trans q2
        have hsv := hid (show ∀ V, Kept [] w V → Src V (.slice o.ba o.bs.length o.bc) o.bs.length (o.bs.map B) from fun V hk => hsrc.kept hk (by simp))
        have HOF := hid hofew
        have HLT := hid hlt
        obtain ⟨W, hW⟩ : ∃ W, W = (wr.alloc (.cells #[.int .i64 o.kind, .string (S o.nm), .slice o.ba o.bs.length o.bc] 38)).alloc (.cells #[.int .i64 41] 27) := ⟨_, rfl⟩
        have HW := hid hW
        have hkW := hid (show Kept [] wr W from hW ▸ (((Kept.refl [] wr).alloc _).alloc _))
        have hsW := hid (show W.heap.size = wr.heap.size + 2 from by rw [hW]; simp)
        have hqo := hid (show W.heap[wr.heap.size]? = some (.cells #[.int .i64 o.kind, .string (S o.nm), .slice o.ba o.bs.length o.bc] 38 (0, 0)) from hW ▸ heap_alloc_old (heap_alloc_at rfl))
        have hqe := hid (show W.heap[wr.heap.size + 1]? = some (.cells #[.int .i64 41] 27 (0, 0)) from hW ▸ heap_alloc_at (by simp))
        have RW := hid (rs.keep hkW.out)
        have i60 : i ≤ 60 := by omega
        clear hst q0 q1 q2 hsrc hnl hbl ho hlt' hkw hW rs hofew
        go_wp2_with fail
        rw [← HW.out]
        have hcV := hid (show ∀ (V : World) (T : List Nat), Kept T W V → wr.heap.size ∉ T → V.cell? ⟨wr.heap.size, 0, none⟩ = some (.int .i64 o.kind) ∧ V.cell? ⟨wr.heap.size, 1, none⟩ = some (.string (S o.nm)) ∧ V.cell? ⟨wr.heap.size, 2, none⟩ = some (.slice o.ba o.bs.length o.bc) from fun V T hk hT => ⟨by rw [cell_of_row _ _ 0 _ _ _ (hk.at hqo.out hT)]; rfl, by rw [cell_of_row _ _ 1 _ _ _ (hk.at hqo.out hT)]; rfl, by rw [cell_of_row _ _ 2 _ _ _ (hk.at hqo.out hT)]; rfl⟩)
        have hen : Enters 19 := fun args w => by simp [go_sem]
        have k0 := (((Kept.refl [] W).alloc (.cells #[.pointer (some ⟨f, 0, none⟩)] 30)).alloc (.cells #[.bool false] 4))
        have hfb := R.out.flt
        have hUb := R.out.ob.bound
        have hxb := lt_of_block R.out.box
        have hmb := R.out.mp.blt'
        have hqV := hid (show wr.heap.size ∉ (wr.heap.size + 1) :: (U ++ [f]) from fun hm => by
          simp at hm
          rcases hm with hm | hm
          · have := hUb _ hm; omega
          · omega)
        by_cases hleft : left = 0
        · subst hleft
          have hcb := hid (catch_blown ⟨f, 0, none⟩ 19 hen #[.pointer (some ⟨wr.heap.size, 0, none⟩), .pointer (some ⟨w3.heap.size, 0, none⟩), .pointer (some ⟨wr.heap.size + 1, 0, none⟩)] W [] (by simp) (fun _ => True) (fun _ _ _ _ => trivial)
            ((rooms1_blow _ U p q es f fl k o wr.heap.size w3.heap.size (wr.heap.size + 1) (RW.out.ob.kept k0 (by simp)) (by have := R.out.kk; omega) (RW.out.fu.kept k0 (by simp)) (k0.at hqo.out (by simp)) (k0.at RW.out.box (by simp)) HOF.out.1 HOF.out.2 (by have := R.out.sm; omega)).mono fun e w' h => ⟨h.1, h.2, trivial⟩))
          clear k0 hUb hxb hmb hfb
          refine hcb.out.mono ?_
          rintro e V ⟨rfl, kv, -⟩
          have R2 := hid (RW.out.keep kv).more
          have hev : V.cell? ⟨wr.heap.size + 1, 0, none⟩ = some (.int .i64 41) := cell_of_one (kv.at hqe.out (by simp))
          have hszc := hid (ob_size V U p 68 [] q es (.pointer (some ⟨f, 0, none⟩)) fl k R2.out.ob)
          have hlnc := hid (ob_len V U p 68 [] q es (.pointer (some ⟨f, 0, none⟩)) fl k R2.out.ob)
          have hml := fun ty => mt_len R2.out.mp ty
          rw [List.length_map] at hml
          have hbx2 : (V).cell? ⟨w3.heap.size, 0, none⟩ = some (.pointer (some ⟨p, 0, none⟩)) := cell_of_one R2.out.box
          have hle : ¬ q < (sizeE es : Int) := by have := R2.out.sz; omega
          clear kv hcb
          go_wp2_with fail
          refine hszc.out.mono ?_
          rintro e v9 ⟨rfl, rfl⟩
          go_wp2_with fail
          refine hlnc.out.mono ?_
          rintro e v9 ⟨rfl, rfl⟩
          go_wp2
          go_roundw
          case rel => exact ⟨i + 1, HLT.out, by go_num, hid ⟨_, _, _, _, _, R2.out⟩⟩
          case measure => simp [intOf]; omega
        · by_cases hk3 : o.kind = 3
          · obtain ⟨er, her⟩ : ∃ er, er = gotE fl es o.nm := ⟨_, rfl⟩
            have hgo := rooms1_go _ U p q es f fl k left o wr.heap.size w3.heap.size (wr.heap.size + 1) (RW.out.ob.kept k0 (by simp)) (by have := R.out.kk; omega) (RW.out.fu.kept k0 (by simp)) hleft (k0.at hqo.out (by simp)) (k0.at RW.out.box (by simp)) (k0.at hqe.out (by simp)) ⟨fun hm => by have := hUb _ hm; omega, by omega⟩ HOF.out.1 HOF.out.2 (by have := R.out.sm; omega) (fun V hk => hsv.out V ((RW.out.kept.trans k0).trans' hk (fun x hx hm => by
                  simp at hm
                  rcases hm with hm | hm
                  · have := R.out.low.1 p R.out.ob.hp; omega
                  · have := R.out.low.2.1; omega)))
            simp only [if_pos hk3] at hgo
            rw [← her] at hgo
            have hcr := hid (catch_ret2 ⟨f, 0, none⟩ 19 hen #[.pointer (some ⟨wr.heap.size, 0, none⟩), .pointer (some ⟨w3.heap.size, 0, none⟩), .pointer (some ⟨wr.heap.size + 1, 0, none⟩)] W ((wr.heap.size + 1) :: (U ++ [f])) (fun x hx => by
                have := hsW.out
                simp at hx
                rcases hx with hx | hx | hx
                · omega
                · have := hUb x hx; omega
                · omega) _ (fun V V' hq hk => hq.kept hk (fun x hx => by
                have := hsW.out
                simp at hx
                subst hx
                exact ⟨fun hm => by have := hUb _ hm; omega, by simp, by omega, by omega⟩)) hgo)
            have HER := hid her
            clear hgo her
            refine hcr.out.mono ?_
            rintro e V ⟨rfl, kv, v', U', hU', obv, fuv, hev0⟩
            have hmid := R.out.mid (Nat.le_succ _) hkW.out kv
            have hbU' : w6.heap.size ∉ U' := fun hm => by
              rcases hU' _ hm with h | h
              · exact R.out.bU.1 h
              · have := hsW.out; simp at h; omega
            have hev : V.cell? ⟨wr.heap.size + 1, 0, none⟩ = some (.int .i64 er) := cell_of_one hev0
            have hcc := hcV.out V _ kv hqV.out
            by_cases her0 : er = 0
            · rw [her0] at hev
              obtain ⟨V2, hdel, kd, mp2⟩ := mt_drop hmid.1 o.nm (by have := HOF.out.1; omega)
              have kd' : Kept [w6.heap.size] V V2 := kd
              have hbl := hid hmb
              have hcc2 := hcV.out V2 (w6.heap.size :: ((wr.heap.size + 1) :: (U ++ [f]))) ((kv.wider (fun x _ hx => by simp at hx ⊢; rcases hx with h | h | h <;> simp [h])).trans' kd' (fun x _ hx => by simp at hx; simp [hx])) (fun hm => by
                rcases List.mem_cons.1 hm with h | h
                · omega
                · exact hqV.out h)
              have hd1 := hcc.2.1
              have hd0 := hcc2.1
              have obv : Ob V U' p 68 [] q (dropE fl es o.nm) (.pointer (some ⟨f, 0, none⟩)) (fl.drop 1) (k + 1) := obv
              have hde := drop_del (fl := fl) (es := es) (nm := o.nm) (by rw [← HER.out, her0])
              rw [hde] at obv
              have R2 := hid (R.out.up (W2 := ((W.alloc (.cells #[.pointer (some ⟨f, 0, none⟩)] 30)).alloc (.cells #[.bool false] 4))) (by have := hsW.out; simp; omega) hU' (obv.kept kd' (fun x hx hm => by simp at hm; subst hm; exact hbU' hx)) (fuv.kept kd' (fun x hx hm => by simp [fuB] at hx; simp at hm; have := R.out.bU.2; omega)) (by rw [← del_texted]; exact mp2) (kd'.at hmid.2.1 (by simp; exact R.out.xU.2.2)) (hmid.2.2.trans' kd' (fun x hx hm => by simp at hm; have := R.out.low.2.2; omega)) (by have := R.out.sz; have := size_del_le o.nm es; omega) (by have := R.out.sm; have := size_del_le o.nm es; omega))
              obtain ⟨es2, hes2⟩ : ∃ es2, es2 = delE o.nm es := ⟨_, rfl⟩
              rw [← hes2] at R2
              have hke : (o.kind == 3) = true := by simp [hk3]
              have hszc := hid (ob_size V2 U' p 68 [] q es2 (.pointer (some ⟨f, 0, none⟩)) (fl.drop 1) (k + 1) R2.out.ob)
              have hlnc := hid (ob_len V2 U' p 68 [] q es2 (.pointer (some ⟨f, 0, none⟩)) (fl.drop 1) (k + 1) R2.out.ob)
              have hml := fun ty => mt_len R2.out.mp ty
              rw [List.length_map] at hml
              have hbx2 : (V2).cell? ⟨w3.heap.size, 0, none⟩ = some (.pointer (some ⟨p, 0, none⟩)) := cell_of_one R2.out.box
              have hle : ¬ q < (sizeE es2 : Int) := by have := R2.out.sz; omega
              clear kv hmid obv fuv hev0 mp2 kd kd' hU' hcr hde hes2 hbU' k0 hUb hxb hmb hfb hcc hcc2 her0 hk3 hleft
              go_wp2_with fail
              refine hszc.out.mono ?_
              rintro e v9 ⟨rfl, rfl⟩
              go_wp2_with fail
              refine hlnc.out.mono ?_
              rintro e v9 ⟨rfl, rfl⟩
              go_wp2
              go_roundw
              case rel => exact ⟨i + 1, HLT.out, by go_num, hid ⟨_, _, _, _, _, R2.out⟩⟩
              case measure => simp [intOf]; omega
            · have hne : (er == 0) = false := by simpa using her0
              have obv : Ob V U' p 68 [] q (dropE fl es o.nm) (.pointer (some ⟨f, 0, none⟩)) (fl.drop 1) (k + 1) := obv
              have hde := drop_same (fl := fl) (es := es) (nm := o.nm) (by rw [← HER.out]; exact her0)
              rw [hde] at obv
              have R2 := hid (R.out.up (W2 := ((W.alloc (.cells #[.pointer (some ⟨f, 0, none⟩)] 30)).alloc (.cells #[.bool false] 4))) (by have := hsW.out; simp; omega) hU' obv fuv hmid.1 hmid.2.1 hmid.2.2 R.out.sz (by have := R.out.sm; omega))
              have hszc := hid (ob_size V U' p 68 [] q es (.pointer (some ⟨f, 0, none⟩)) (fl.drop 1) (k + 1) R2.out.ob)
              have hlnc := hid (ob_len V U' p 68 [] q es (.pointer (some ⟨f, 0, none⟩)) (fl.drop 1) (k + 1) R2.out.ob)
              have hml := fun ty => mt_len R2.out.mp ty
              rw [List.length_map] at hml
              have hbx2 : (V).cell? ⟨w3.heap.size, 0, none⟩ = some (.pointer (some ⟨p, 0, none⟩)) := cell_of_one R2.out.box
              have hle : ¬ q < (sizeE es : Int) := by have := R2.out.sz; omega
              clear kv hmid obv fuv hev0 hU' hcr hde hbU' k0 hUb hxb hmb hfb hcc her0 hk3 hleft
              go_wp2_with fail
              refine hszc.out.mono ?_
              rintro e v9 ⟨rfl, rfl⟩
              go_wp2_with fail
              refine hlnc.out.mono ?_
              rintro e v9 ⟨rfl, rfl⟩
              go_wp2
              go_roundw
              case rel => exact ⟨i + 1, HLT.out, by go_num, hid ⟨_, _, _, _, _, R2.out⟩⟩
              case measure => simp [intOf]; omega
          · obtain ⟨er, her⟩ : ∃ er, er = putErr fl o.nm o.bs.length q ((sizeE es : Int) - (lookB o.nm es).length + o.bs.length) (findE o.nm es).isSome es.length := ⟨_, rfl⟩
            have hgo := rooms1_go _ U p q es f fl k left o wr.heap.size w3.heap.size (wr.heap.size + 1) (RW.out.ob.kept k0 (by simp)) (by have := R.out.kk; omega) (RW.out.fu.kept k0 (by simp)) hleft (k0.at hqo.out (by simp)) (k0.at RW.out.box (by simp)) (k0.at hqe.out (by simp)) ⟨fun hm => by have := hUb _ hm; omega, by omega⟩ HOF.out.1 HOF.out.2 (by have := R.out.sm; omega) (fun V hk => hsv.out V ((RW.out.kept.trans k0).trans' hk (fun x hx hm => by
                  simp at hm
                  rcases hm with hm | hm
                  · have := R.out.low.1 p R.out.ob.hp; omega
                  · have := R.out.low.2.1; omega)))
            simp only [if_neg hk3] at hgo
            rw [← her] at hgo
            have hcr := hid (catch_ret2 ⟨f, 0, none⟩ 19 hen #[.pointer (some ⟨wr.heap.size, 0, none⟩), .pointer (some ⟨w3.heap.size, 0, none⟩), .pointer (some ⟨wr.heap.size + 1, 0, none⟩)] W ((wr.heap.size + 1) :: (U ++ [f])) (fun x hx => by
                have := hsW.out
                simp at hx
                rcases hx with hx | hx | hx
                · omega
                · have := hUb x hx; omega
                · omega) _ (fun V V' hq hk => hq.kept hk (fun x hx => by
                have := hsW.out
                simp at hx
                subst hx
                exact ⟨fun hm => by have := hUb _ hm; omega, by simp, by omega, by omega⟩)) hgo)
            have HER := hid her
            clear hgo her
            refine hcr.out.mono ?_
            rintro e V ⟨rfl, kv, v', U', hU', obv, fuv, hev0⟩
            have hmid := R.out.mid (Nat.le_succ _) hkW.out kv
            have hbU' : w6.heap.size ∉ U' := fun hm => by
              rcases hU' _ hm with h | h
              · exact R.out.bU.1 h
              · have := hsW.out; simp at h; omega
            have hev : V.cell? ⟨wr.heap.size + 1, 0, none⟩ = some (.int .i64 er) := cell_of_one hev0
            have hcc := hcV.out V _ kv hqV.out
            by_cases her0 : er = 0
            · rw [her0] at hev
              obtain ⟨V2, hdel, kd, mp2⟩ := mt_drop hmid.1 o.nm (by have := HOF.out.1; omega)
              have kd' : Kept [w6.heap.size] V V2 := kd
              have hbl := hid hmb
              have hcc2 := hcV.out V2 (w6.heap.size :: ((wr.heap.size + 1) :: (U ++ [f]))) ((kv.wider (fun x _ hx => by simp at hx ⊢; rcases hx with h | h | h <;> simp [h])).trans' kd' (fun x _ hx => by simp at hx; simp [hx])) (fun hm => by
                rcases List.mem_cons.1 hm with h | h
                · omega
                · exact hqV.out h)
              have hd1 := hcc.2.1
              have hd0 := hcc2.1
              have hzq := putErr_zero (by rw [← HER.out]; exact her0)
              have hrs := R.out.ob.rising
              have hpe : putL er ⟨o.nm, v', o.bs⟩ es = putE ⟨o.nm, v', o.bs⟩ es := by unfold putL; exact if_pos her0
              have obv : Ob V U' p 68 [] q (putE ⟨o.nm, v', o.bs⟩ es) (.pointer (some ⟨f, 0, none⟩)) (fl.drop 1) (k + 1) := hpe ▸ obv
              have hlen := R.out.ob.small.2.1
              obtain ⟨V3, hupd, ku, mp3⟩ := mt_put mp2 ⟨o.nm, .string (S o.bs), o.bs⟩ (by have := HOF.out.1; show o.nm.length ≤ _; omega) (by have := len_del_le o.nm (es.map texted); simp at this ⊢; omega)
              have hcvt := bytes_back2 V2 o.ba o.bc o.bs (hsv.out V2 (hmid.2.2.trans' kd' (fun x hx hm => by simp at hm; have := R.out.low.2.2; omega)))
              have ku2 : Kept [w6.heap.size] V V3 := kd'.trans ku
              have hse : (sizeE (putE ⟨o.nm, v', o.bs⟩ es) : Int) = (sizeE es : Int) - ((lookB o.nm es).length : Int) + (o.bs.length : Int) := size_put_eq ⟨o.nm, v', o.bs⟩ hrs
              have hsl : sizeE (putE ⟨o.nm, v', o.bs⟩ es) ≤ o.bs.length + sizeE es := size_put_le ⟨o.nm, v', o.bs⟩ es
              have R2 := hid (R.out.up (W2 := ((W.alloc (.cells #[.pointer (some ⟨f, 0, none⟩)] 30)).alloc (.cells #[.bool false] 4))) (by have := hsW.out; simp; omega) hU' (obv.kept ku2 (fun x hx hm => by simp at hm; subst hm; exact hbU' hx)) (fuv.kept ku2 (fun x hx hm => by simp [fuB] at hx; simp at hm; have := R.out.bU.2; omega)) (by rw [← put_texted]; have h := mp3; rw [put_del ⟨o.nm, .string (S o.bs), o.bs⟩ (es.map texted)] at h; exact h) (ku2.at hmid.2.1 (by simp; exact R.out.xU.2.2)) (hmid.2.2.trans' ku2 (fun x hx hm => by simp at hm; have := R.out.low.2.2; omega)) (by have := hzq.2.2.2.1; omega) (by have := R.out.sm; have := HOF.out.2; omega))
              obtain ⟨es2, hes2⟩ : ∃ es2, es2 = putE ⟨o.nm, v', o.bs⟩ es := ⟨_, rfl⟩
              rw [← hes2] at R2
              have hke : (o.kind == 3) = false := by simp [hk3]
              have hd3 := hcc2.2.1
              have hd2 := hcc2.2.2
              have hszc := hid (ob_size V3 U' p 68 [] q es2 (.pointer (some ⟨f, 0, none⟩)) (fl.drop 1) (k + 1) R2.out.ob)
              have hlnc := hid (ob_len V3 U' p 68 [] q es2 (.pointer (some ⟨f, 0, none⟩)) (fl.drop 1) (k + 1) R2.out.ob)
              have hml := fun ty => mt_len R2.out.mp ty
              rw [List.length_map] at hml
              have hbx2 : (V3).cell? ⟨w3.heap.size, 0, none⟩ = some (.pointer (some ⟨p, 0, none⟩)) := cell_of_one R2.out.box
              have hle : ¬ q < (sizeE es2 : Int) := by have := R2.out.sz; omega
              clear kv hmid obv fuv hev0 mp2 mp3 kd kd' ku ku2 hU' hcr hes2 hbU' k0 hUb hxb hmb hfb hcc hcc2 her0 hk3 hleft hzq hrs hpe hlen hse hsl
              go_wp2_with fail
              refine hszc.out.mono ?_
              rintro e v9 ⟨rfl, rfl⟩
              go_wp2_with fail
              refine hlnc.out.mono ?_
              rintro e v9 ⟨rfl, rfl⟩
              go_wp2
              go_roundw
              case rel => exact ⟨i + 1, HLT.out, by go_num, hid ⟨_, _, _, _, _, R2.out⟩⟩
              case measure => simp [intOf]; omega
            · have hne : (er == 0) = false := by simpa using her0
              have hpe : putL er ⟨o.nm, v', o.bs⟩ es = es := by unfold putL; exact if_neg her0
              have obv : Ob V U' p 68 [] q es (.pointer (some ⟨f, 0, none⟩)) (fl.drop 1) (k + 1) := hpe ▸ obv
              have R2 := hid (R.out.up (W2 := ((W.alloc (.cells #[.pointer (some ⟨f, 0, none⟩)] 30)).alloc (.cells #[.bool false] 4))) (by have := hsW.out; simp; omega) hU' obv fuv hmid.1 hmid.2.1 hmid.2.2 R.out.sz (by have := R.out.sm; omega))
              have hszc := hid (ob_size V U' p 68 [] q es (.pointer (some ⟨f, 0, none⟩)) (fl.drop 1) (k + 1) R2.out.ob)
              have hlnc := hid (ob_len V U' p 68 [] q es (.pointer (some ⟨f, 0, none⟩)) (fl.drop 1) (k + 1) R2.out.ob)
              have hml := fun ty => mt_len R2.out.mp ty
              rw [List.length_map] at hml
              have hbx2 : (V).cell? ⟨w3.heap.size, 0, none⟩ = some (.pointer (some ⟨p, 0, none⟩)) := cell_of_one R2.out.box
              have hle : ¬ q < (sizeE es : Int) := by have := R2.out.sz; omega
              clear kv hmid obv fuv hev0 hU' hcr hpe hbU' k0 hUb hxb hmb hfb hcc her0 hk3 hleft
              go_wp2_with fail
              refine hszc.out.mono ?_
              rintro e v9 ⟨rfl, rfl⟩
              go_wp2_with fail
              refine hlnc.out.mono ?_
              rintro e v9 ⟨rfl, rfl⟩
              go_wp2
              go_roundw
              case rel => exact ⟨i + 1, HLT.out, by go_num, hid ⟨_, _, _, _, _, R2.out⟩⟩
              case measure => simp [intOf]; omega
      · obtain rfl : i = n := by omega
        have har := hid (ob_arm wr U p 68 [] q es (.pointer (some ⟨f, 0, none⟩)) fl k R.out.ob (.pointer none) (.slice none 0 0) [] ⟨_, rfl⟩ (Or.inl ⟨rfl, rfl⟩) (by decide))
        have hris := hid R.out.ob.rising
        have hbx0 : wr.cell? ⟨w3.heap.size, 0, none⟩ = some (.pointer (some ⟨p, 0, none⟩)) := cell_of_one R.out.box
        clear hst rs hlt
        go_wp2_with fail
        refine har.out.mono ?_
        rintro e v1 ⟨rfl, k1, U1, hU1, ob1⟩
        have hpU := R.out.ob.hp
        have hxp : w3.heap.size ≠ p := fun e => R.out.xU.1 (by rw [e]; exact hpU)
        have hbp : w6.heap.size ≠ p := fun e => R.out.bU.1 (by rw [e]; exact hpU)
        have hpl := R.out.low.1 p hpU
        have hbox1 := hid (k1.at R.out.box (by simp; exact hxp))
        have mp1 := R.out.mp.kept k1 (fun x hx hm => by simp at hx hm; exact hbp (by rw [← hx, hm]))
        have kw1 := hid (R.out.kept.trans' k1 (fun x hx hm => by simp at hm; omega))
        have OB1 := hid ob1
        have hsm := hid ob1.small
        have hown : v1.ownsMap Try.prog 9 heldR w6.heap.size (es.map texted).length (DM (es.map texted)) := by
          rcases mp1 with ⟨h1, _⟩ | ⟨b', hb, _, h1⟩
          · cases h1
          · cases hb; exact h1
        obtain ⟨v1', hrg, hra, hgr, hsz⟩ := hown.range str_law Try.underlying49
        have kr : Kept [] v1 v1' := Kept.of_grown hgr (by simp)
        have hS0 := hid (show SumI w v1 p w3.heap.size w6.heap.size q es U1 (.int .i64 0) v1' from ⟨_, _, [], k, hra, Collected.start _, by rw [DM_size]; simp, ob1.kept kr (by simp), by have := R.out.kk; simp; omega, kr.at hbox1.out (by simp), kw1.out.trans kr, kr.size, by simp [sumL]⟩)
        have hown0 := hid hown
        have hx1 := hid (show w3.heap.size < v1.heap.size ∧ w6.heap.size < v1.heap.size ∧ p < v1.heap.size from ⟨lt_of_block hbox1.out, hown.lt, ob1.bound p ob1.hp⟩)
        have hbpx := hid (And.intro hbp hxp)
        have hplw := hid hpl
        clear hown hra hgr hsz kr mp1 k1 hU1 ob1 har hxp hbp hpl hpU hbx0
        go_wp2_with fail
        go_loopw [16] (fun v wr => Hid (SumI w v1 p w3.heap.size w6.heap.size q es U1 v wr)) (fun _ wr => wr.rangeLeft w6.heap.size v1.heap.size)
        case atStart => exact hS0
        case round =>
          clear hS0
          obtain ⟨left, cnt, ss, kk, hra, hcol, hcnt, hob, hkk, hbox, hkw, hsz, rfl⟩ := hrel.out
          have hmeas := hid hra.left_eq
          have hne := hid hra.ne
          have HCOL := hid hcol; have HCNT := hid hcnt; have HOB := hid hob; have HKW := hid hkw; have HBX := hid hbox; have HSZ := hid hsz
          rcases hra.next str_law 0 with ⟨rfl, hl0, hrun⟩ | ⟨key, v1x, kl, y, w2x, cnt', hkey, hlk, hv, hat, hrun, hra2, hlt2, hgr2, hsz2, hen⟩
          · have hsum := hid (show sumL es ss = sizeE es from by
              have h1 := hcol.perm hown0.out str_law Try.underlying9 hl0
              rw [DM_keys] at h1
              have e1 : (es.map texted).map (·.name) = es.map (·.name) := by rw [List.map_map]; rfl
              rw [e1] at h1
              exact sumL_perm hris.out h1)
            rw [hsum.out]
            have hss := hid (ob_size wr U1 p 68 [] q es (.pointer none) [] kk hob)
            have hbx0 : wr.cell? ⟨w3.heap.size, 0, none⟩ = some (.pointer (some ⟨p, 0, none⟩)) := cell_of_one hbox
            clear hra hcol hcnt hob hkk hbox hkw hsz hrel hl0 hmeas hne HCOL HCNT HBX HSZ hsum
            go_wp2_with fail
            refine hss.out.mono ?_
            rintro e v9 ⟨rfl, rfl⟩
            go_wp2
            go_ret
            exact ⟨rfl, HKW.out⟩
          · obtain ⟨x, rfl, rfl, hxl⟩ := Maps.keyOf_str Try.underlying9 hkey
            obtain ⟨en, hfe, rfl⟩ := text_at rfl hv hat
            have hcol2 := hid (hcol.step hlk hat)
            have kx := hid (show Kept [v1.heap.size] wr w2x from Kept.of_grown hgr2 (fun k hk _ => by simp at hk; simp [hk]))
            have hlb : lookB x es = en.b := by unfold lookB; rw [hfe]
            have her : gotE [] es x = 0 := by unfold gotE; rw [hfe]; rfl
            have hgb : gotB [] es x = en.b := by unfold gotB; rw [← hlb]; exact if_pos rfl
            have hfm := find_mem hfe
            have hxn : x.length ≤ 80 := by
              have h1 := hsm.out.2.2 en hfm.1
              unfold okName at h1
              simp at h1
              rw [hfm.2] at h1
              omega
            have hebl := sizeE_mem hfm.1
            have hr0 : v1.heap.size ∉ U1 := fun hm => Nat.lt_irrefl _ (OB1.out.bound _ hm)
            have ob2 := hob.kept kx.out (fun y hy hm => by simp at hm; subst hm; exact hr0 hy)
            have hn4 := hsm.out.2.1
            have hslen : ss.length ≤ 4096 := by have := HCNT.out; simp at this; omega
            have hget := hid (get_own w2x U1 p 68 [] q es kk x (by omega) ob2 (by omega) 0 her en.b hgb en.b.length rfl)
            have hbx2 := hid (kx.out.at hbox (by simp; have := hx1.out.1; omega))
            have hbx0 : w2x.cell? ⟨w3.heap.size, 0, none⟩ = some (.pointer (some ⟨p, 0, none⟩)) := cell_of_one hbx2.out
            have hsl := sumL_le es ss
            have hse := R.out.sm
            have hnl := R.out.kk
            have hsum2 := hid (show sumL es (ss ++ [x]) = sumL es ss + en.b.length from by unfold sumL; simp [hlb])
            have hss2 : sumL es ss ≤ 4096 * sizeE es := Nat.le_trans hsl (Nat.mul_le_mul_right _ hslen)
            have hse2 : sizeE es ≤ 12000 := by omega
            have hra2' := hid hra2
            have hlt' := hid hlt2
            rw [encS] at hrun hen
            have hm2 := hid hra2.left_eq
            have hkk2 := hid hkk
            have hkw2 := hid (show Kept [] w w2x from hkw.trans' kx.out (fun z hz hm => by simp at hm; have := kw1.out.size; omega))
            have hsz3 := hid (show w2x.heap.size = wr.heap.size from hsz2)
            obtain ⟨eb, heb⟩ : ∃ eb, eb = en.b := ⟨_, rfl⟩
            rw [← heb] at hget hen hrun hsum2 hebl
            obtain ⟨el, hel⟩ : ∃ el, el = eb.length := ⟨_, rfl⟩
            have HEL := hid hel
            rw [← hel] at hget hsum2 hebl
            obtain ⟨sm, hsm2⟩ : ∃ sm, sm = sumL es ss := ⟨_, rfl⟩
            rw [← hsm2] at hsum2 hss2 ⊢
            have hsm3 : sm ≤ 100000000 := by omega
            have hel3 : el ≤ 12000 := by omega
            clear hkey hlk hv hat hra hra2 hlt2 hgr2 hcol hrel hxl hsz2 hcnt hob hkk hbox hkw hsz hfe hlb her hgb hfm hxn hebl hr0 ob2 hn4 hsl hse hnl hss2 hse2 heb hel hsm2 hslen
            go_wp2_with fail
            refine hget.out.mono ?_
            rintro e w4x ⟨ga, gc, rfl, k4, ob4, og⟩
            have K4 := hid k4; have OB4 := hid ob4
            have hcv := bytes_back2 w4x ga gc eb (by have h := src_own og; rw [HEL.out] at h; exact h)
            rw [← HEL.out] at hcv
            have hra4 := hra2'.out.kept (w' := w4x) (row := some p) ⟨k4.os, k4.tape, k4.output, k4.size, fun k h1 h2 => k4.block k h1 (fun hm => by simp at hm; subst hm; exact h2 rfl)⟩ (fun e => by simp at e; exact hbpx.out.1 e) (fun e => by simp at e; have := hx1.out.2.2; omega)
            have hI := hid (show SumI w v1 p w3.heap.size w6.heap.size q es U1 (.int .i64 ((sm : Int) + (el : Int))) w4x from ⟨_, cnt', ss ++ [x], kk + 1, hra4, hcol2.out, by have := hlt'.out; have := HCNT.out; simp at *; omega, ob4, by have := hkk2.out; simp; omega, k4.at hbx2.out (by simp; exact hbpx.out.2), hkw2.out.trans' k4 (fun z hz hm => by simp at hm; have := hplw.out; omega), by have := HSZ.out; have := hsz3.out; have := k4.size; omega, by rw [hsum2.out]; simp⟩)
            have hms := hid (show w4x.rangeLeft w6.heap.size v1.heap.size < wr.rangeLeft w6.heap.size v1.heap.size from by rw [hra4.left_eq, hmeas.out]; exact hlt'.out)
            clear k4 ob4 og hra4 hget hrun hen hbx0
            go_wp2
            go_roundw
            case rel => exact hI
            case measure => exact hms.out
  · have hq1' := hq1
    by_cases hf1 : Few ops
    · rw [decide_eq_true hf1] at hcf
      by_cases hf2 : fl0.length ≤ 60
      · have hq : q < 0 := by
          rcases Int.lt_or_le q 0 with h | h
          · exact h
          · exact absurd ⟨hf1, hf2, h⟩ hfew
        have hf3 : ¬ (60 : Int) < (fl0.length : Int) := by omega
        clear hfew hf1 hf2 hfl
        go_enter Try.func4, Try.ntmps4
        go_wp2_with fail
        refine hal.out.mono ?_
        rintro e w1 ⟨rfl, k1⟩
        have K1 := hid k1
        clear k1
        go_wp2_with fail
        refine (hcf.out w1 K1.out).mono ?_
        rintro e w2 ⟨rfl, k2⟩
        have K2 := hid (K1.out.trans k2)
        clear k2
        go_wp2
        go_ret
        exact ⟨rfl, K2.out⟩
      · have hf3 : (60 : Int) < (fl0.length : Int) := by omega
        clear hfew hf1 hf2 hfl
        go_enter Try.func4, Try.ntmps4
        go_wp2_with fail
        refine hal.out.mono ?_
        rintro e w1 ⟨rfl, k1⟩
        have K1 := hid k1
        clear k1
        go_wp2_with fail
        refine (hcf.out w1 K1.out).mono ?_
        rintro e w2 ⟨rfl, k2⟩
        have K2 := hid (K1.out.trans k2)
        clear k2
        go_wp2
        go_ret
        exact ⟨rfl, K2.out⟩
    · rw [decide_eq_false hf1] at hcf
      clear hfew hf1 hfl
      go_enter Try.func4, Try.ntmps4
      go_wp2_with fail
      refine hal.out.mono ?_
      rintro e w1 ⟨rfl, k1⟩
      have K1 := hid k1
      clear k1
      go_wp2_with fail
      refine (hcf.out w1 K1.out).mono ?_
      rintro e w2 ⟨rfl, k2⟩
      have K2 := hid (K1.out.trans k2)
      clear k2
      go_wp2
      go_ret
      exact ⟨rfl, K2.out⟩
end Go.Proofs.Ytnegpggikllopaa
