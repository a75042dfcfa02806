import Derived.Test.YtmkdjonlfkfnlaaDoorMD

/- The reference's cache: Get, as far as what it finds. -/
namespace Go.Proofs.YtmkdjonlfkfnlaaDoor
open Go.RowKit Go.Lib Go.Maps

/-- Where a call on a cache's value stands: the cache's box, other boxes, the row. -/
structure BoxS (w W : World) (X : List (Nat × Obj)) (lim : Int) (rv0 : Value) (es0 : List KE) (rv : Value) (es : List KE) : Prop where
  nx : Nx w W rv0 rv es
  bx : W.heap[w.heap.size]? = some (.cells [rv, .int .i64 lim].toArray 29 (0, 0))
  xs : ∀ y ∈ X, W.heap[y.1]? = some y.2 ∧ w.heap.size < y.1
  rb : ∀ g, rv.ownBlock = some g → g ≠ w.heap.size ∧ ∀ y ∈ X, g ≠ y.1
  ev : ∀ f ∈ es, f ∈ es0
  lo : ∀ f ∈ es0, f.b ≠ [] → ∀ g, f.v.ownBlock = some g → g < w.heap.size
variable {w W W' V : World} {X : List (Nat × Obj)} {lim : Int} {rv0 rv rv' : Value} {es0 es es' : List KE}
theorem BoxS.keep (h : BoxS w W X lim rv0 es0 rv es) (hk : Kept [] W W') : BoxS w W' X lim rv0 es0 rv es := by
  obtain ⟨⟨n1, ⟨b, n2⟩, n3⟩, h1, h2, h3, h4, h5⟩ := h
  exact ⟨⟨n1.trans hk, ⟨b, n2.keep hk⟩, n3⟩, hk.at h1 (by simp), fun y hy => ⟨hk.at (h2 y hy).1 (by simp), (h2 y hy).2⟩, h3, h4, h5⟩
theorem BoxS.turn (h : BoxS w W X lim rv0 es0 rv es) (hn : Nx W W' rv rv' es') (he : ∀ f ∈ es', f ∈ es0)
    (k1 : Kept [w.heap.size] W' V) (hv : V.heap[w.heap.size]? = some (.cells [rv', .int .i64 lim].toArray 29 (0, 0))) : BoxS w V X lim rv0 es0 rv' es' := by
  have hs := lt_of_block h.bx
  have h' := h.keep hn.kept
  have hrb : ∀ g, rv'.ownBlock = some g → g ≠ w.heap.size ∧ ∀ y ∈ X, g ≠ y.1 := fun g hg => by
    rcases hn.own g hg with h1 | h1
    · exact h.rb g h1
    · exact ⟨by omega, fun y hy => by have := lt_of_block (h.xs y hy).1; omega⟩
  refine ⟨⟨h'.nx.kept.trans' k1 (fun x hx hm => by simp at hm; omega), ?_, fun g hg => ?_⟩, hv, fun y hy => ⟨k1.at (h'.xs y hy).1 (by have := (h'.xs y hy).2; simp; omega), (h'.xs y hy).2⟩, hrb, he, h.lo⟩
  · obtain ⟨b, hr⟩ := hn.rk
    exact ⟨b, hr.kept k1 (fun g hg hm => by simp at hm; exact (hrb g hg).1 hm) (fun f hf hne g hg hm => by simp at hm; have := h.lo f (he f hf) hne g hg; omega)⟩
  · rcases hn.own g hg with h1 | h1
    · exact h.nx.own g h1
    · have := h.nx.kept.size; right; omega
/-- One box more. -/
theorem BoxS.more (h : BoxS w W X lim rv0 es0 rv es) (hk : Kept [] W V) {g : Nat} {o : Obj} (hg : W.heap.size ≤ g) (ho : V.heap[g]? = some o) : BoxS w V ((g, o) :: X) lim rv0 es0 rv es := by
  have h' := h.keep hk
  have hs := lt_of_block h.bx
  refine ⟨h'.nx, h'.bx, fun y hy => ?_, fun b hb => ⟨(h.rb b hb).1, fun y hy => ?_⟩, h.ev, h.lo⟩
  · rcases List.mem_cons.1 hy with rfl | hy
    · exact ⟨ho, by dsimp only; omega⟩
    · exact h'.xs y hy
  · rcases List.mem_cons.1 hy with rfl | hy
    · obtain ⟨bb, hr⟩ := h.nx.rk
      have := (hr.row.lt b hb).2
      dsimp only
      omega
    · exact (h.rb b hb).2 y hy
/-- Behind the store of a result. -/
theorem BoxS.fin (h : BoxS w W X lim rv0 es0 rv es) {r : Nat} {o : Obj} (hr : (r, o) ∈ X) (hk : Kept [r] W V) : Nx w V rv0 rv es := by
  obtain ⟨b, hk0⟩ := h.nx.rk
  have hlt := (h.xs _ hr).2
  dsimp only at hlt
  exact ⟨h.nx.kept.trans' hk (fun x hx hm => by simp at hm; omega), ⟨b, hk0.kept hk (fun g hg hm => by simp at hm; exact (h.rb g hg).2 _ hr hm) (fun f hf hne g hg hm => by simp at hm; have := h.lo f (h.ev f hf) hne g hg; omega)⟩, h.nx.own⟩
/-- What the reference's Get leaves. -/
def RGet (w : World) (rv : Value) (es : List KE) (lim : Int) (id : List UInt8) (e : Ending) (w' : World) : Prop :=
  ∃ rv' es' v, e = .returned (.tuple #[rK rv' lim, v, .bool (getO id (datE es)).isSome]) ∧ Nx w w' rv rv' es' ∧ datE es' = getL id (datE es) ∧ (∀ f ∈ es', f ∈ es) ∧ ((getO id (datE es) = none ∧ v = .slice none 0 0) ∨ ∃ f ∈ es, f.v = v ∧ getO id (datE es) = some f.b)
theorem getO_not {id : List UInt8} {es : List KE} (h : atK id es = -1) : getO id (datE es) = none := by
  unfold getO
  rw [find_dat, h]
  rfl
theorem getO_at {id : List UInt8} {es : List KE} {i : Nat} {f : KE} (h : atK id es = i) (hf : es[i]? = some f) : getO id (datE es) = if Sha.sum f.b = id then some f.b else none := by
  unfold getO
  rw [find_dat, h, if_neg (by omega)]
  simp [hf]
theorem ke_ld (W : World) (x : Addr) (e : KE) (h32 : e.id.length = 32) (h1 : ∀ (j : Nat) u, (e.id.map B)[j]? = some u → W.cell? (x.add j) = some u) (h2 : W.cell? (x.add 32) = some e.v) : (loadVar 48 x).run Tryd.prog W = .ok (.agg (kE e).toArray) W := by
  refine run_loadVar_cells W _ _ (kE e) _ Tryd.underlying48 rfl (by rw [kE_len]; kernel_rfl) (fun j v hj => ?_)
  rw [kE_of h32] at hj
  by_cases hl : j < 32
  · rw [List.getElem?_append_left (by simp [h32]; exact hl)] at hj
    exact h1 j v hj
  · have h3 := (List.getElem?_eq_some_iff.1 hj).1
    simp [h32] at h3
    obtain rfl : j = 32 := by omega
    rw [List.getElem?_append_right (by simp [h32])] at hj
    simp [h32] at hj
    rw [← hj]
    exact h2
theorem zero_ke (W : World) : (zeroValue 48).run Tryd.prog W = .ok (.agg (zid.map B ++ [Value.slice none 0 0]).toArray) W := by kernel_rfl
/-- What holds as a longer row's parts come up in Get. -/
def Inv8 (w : World) (es : List KE) (ne : KE) (row : Value) (L : List Bool) (vs : List Value) (v : World) : Prop :=
  ∃ v29 v31 v32 v33 v34 v35, vs = [v29, v31, v32, v33, v34, v35] ∧ InvB w es ne (L.getD 0 false) (L.getD 3 false) (L.getD 5 false) (L.getD 6 false) [v29, v32, v34, v35] v ∧ (L.getD 2 false = true → v31 = row) ∧ (L.getD 4 false = true → v33 = .agg (kE ne).toArray)
set_option maxRecDepth 100000 in
set_option maxHeartbeats 8000000 in
theorem rk_get {w : World} {base : Nat} {rv : Value} {es : List KE} {lim : Int} (h : Rk w base rv es) (hnd : (es.map (·.id)).Nodup) (hm : es.length ≤ 1000) (hbl : ∀ f ∈ es, f.b.length ≤ 1000000) (id : List UInt8) (h32 : id.length = 32) :
    Calls Tryd.prog 11 #[rK rv lim, .agg (id.map B).toArray] w (RGet w rv es lim id) := by
  obtain ⟨ra, rc, rfl⟩ := h.slice
  obtain ⟨iv, hiv⟩ : ∃ iv, iv = (id.map B).toArray := ⟨_, rfl⟩
  have HIV := hid hiv
  have L32 := hid h32
  obtain ⟨n, hn⟩ : ∃ n, n = es.length := ⟨_, rfl⟩
  have HN := hid hn
  have H := hid h; have HND := hid hnd; have HM := hid hm; have HBL := hid hbl
  obtain ⟨W, hW⟩ : ∃ W, W = ((w.alloc (.cells #[.slice ra n rc, .int .i64 lim] 29)).alloc (.cells iv 34)).alloc (.cells #[.slice none 0 0, .int .i64 0] 29) := ⟨_, rfl⟩
  have HW := hid hW
  have hids : iv.size = 32 := by rw [hiv]; simp [h32]
  obtain ⟨X, hX⟩ : ∃ X : List (Nat × Obj), X = [(w.heap.size + 1, .cells iv 34 (0, 0)), (w.heap.size + 2, .cells [.slice none 0 0, .int .i64 0].toArray 29 (0, 0))] := ⟨_, rfl⟩
  have HX := hid hX
  have S0 := hid (show BoxS w W X lim (.slice ra n rc) es (.slice ra n rc) es from by
    have hk : Kept [] w W := hW ▸ (((Kept.refl [] w).alloc _).alloc _).alloc _
    have hsz : W.heap.size = w.heap.size + 3 := by rw [hW]; simp
    refine ⟨⟨hk, ⟨base, by rw [hn]; exact h.keep hk⟩, fun g hg => Or.inl hg⟩, hW ▸ heap_alloc_old (heap_alloc_old (heap_alloc_at rfl)), fun y hy => ?_, fun g hg => ?_, fun f hf => hf, h.lt⟩
    · rw [hX] at hy
      simp at hy
      rcases hy with rfl | rfl
      · exact ⟨hW ▸ heap_alloc_old (heap_alloc_at (by simp)), by dsimp only; omega⟩
      · exact ⟨hW ▸ heap_alloc_at (by simp), by dsimp only; omega⟩
    · have h1 := (h.row.lt g (by rw [← hn]; exact hg)).2
      refine ⟨by omega, fun y hy => ?_⟩
      rw [hX] at hy
      simp at hy
      rcases hy with rfl | rfl <;> (dsimp only; omega))
  rw [← hiv, ← hn]
  clear hW h hn hnd hm hbl h32 hX hiv
  have hb1 := hid (fun v {rv'} {es'} (hs : BoxS w v X lim (.slice ra n rc) es rv' es') => (hs.xs (w.heap.size + 1, .cells iv 34 (0, 0)) (by rw [HX.out]; simp)).1)
  have hb2 := hid (fun v {rv'} {es'} (hs : BoxS w v X lim (.slice ra n rc) es rv' es') => (hs.xs (w.heap.size + 2, .cells [.slice none 0 0, .int .i64 0].toArray 29 (0, 0)) (by rw [HX.out]; simp)).1)
  have hld := hid (rk_ld W w.heap.size (.slice ra n rc) lim S0.out.bx)
  unfold rK at hld
  have hlq := hid (show (loadVar 34 ⟨w.heap.size + 1, 0, none⟩).run Tryd.prog W = .ok (.agg iv) W from by rw [HIV.out]; exact ld_idB W _ id L32.out (by rw [← HIV.out]; exact hb1.out W S0.out))
  have hfd := hid (show Calls Tryd.prog 25 #[.agg #[.slice ra n rc, .int .i64 lim], .agg iv] W fun e w' => e = .returned (.int .i64 (atK id es)) ∧ Kept [] W w' from by
    obtain ⟨b, hr⟩ := S0.out.nx.rk
    rw [HIV.out, HN.out]
    rw [HN.out] at hr
    exact rk_find lim hr (by have := HM.out; omega) id L32.out)
  unfold rK
  go_enter Tryd.func11, Tryd.ntmps11
  go_upto_region 1 with fail
  rw [← HW.out]
  go_wp2_with (first | (refine wpList_ldv rfl 29 (.tmp 2) rfl ⟨w.heap.size, 0, none⟩ rfl (.agg #[.slice ra n rc, .int .i64 lim]) hld.out ?_) | (refine wpList_ldv rfl 34 (.tmp 3) rfl ⟨w.heap.size + 1, 0, none⟩ rfl (.agg iv) hlq.out ?_))
  refine hfd.out.mono ?_
  rintro e w2 ⟨rfl, k2⟩
  have S2 := hid (S0.out.keep k2)
  clear hld hlq hfd HW S0 k2
  rcases atK_range id es with h1 | ⟨i, h1, h2, f, h3, h4⟩
  · have HA := hid h1
    rw [h1]
    have hld := hid (rk_ld w2 w.heap.size (.slice ra n rc) lim S2.out.bx)
    unfold rK at hld
    obtain ⟨w3, hw3⟩ : ∃ V, V = w2.setRow (w.heap.size + 2) (splice [.slice none 0 0, .int .i64 0] 0 [.slice ra n rc, .int .i64 lim]).toArray := ⟨_, rfl⟩
    have HW3 := hid hw3
    have hl1 := hid (rk_ld w3 (w.heap.size + 2) (.slice ra n rc) lim (by rw [hw3]; exact setRow_heap _ _ _ _ _ _ (hb2.out w2 S2.out)))
    have kk3 : Kept [w.heap.size + 2] w2 w3 := by rw [hw3]; exact (Kept.refl [w.heap.size + 2] w2).setRow (fun _ => by simp) _
    have hnx := hid (S2.out.fin (r := w.heap.size + 2) (o := .cells [.slice none 0 0, .int .i64 0].toArray 29 (0, 0)) (by rw [HX.out]; simp) kk3)
    have hB2 := hid (hb2.out w2 S2.out)
    clear h1 hw3 kk3
    go_wp2_with (refine wpList_ldv rfl 29 (.tmp 2) rfl ⟨w.heap.size, 0, none⟩ rfl (.agg #[.slice ra n rc, .int .i64 lim]) hld.out ?_; refine halt ?_)
    refine Halt.mk ?_
    go_wp2_with (refine wpList_store_at rfl 29 (.tmp 4) (.tmp 14) rfl (w.heap.size + 2) 0 [.slice ra n rc, .int .i64 lim] rfl rfl 29 [.slice none 0 0, .int .i64 0] hB2.out (by kernel_rfl) (by simp) (k_two _ _ _ _) ?_; refine halt ?_)
    refine Halt.mk ?_
    rw [← HW3.out]
    go_wp2_with fail
    refine bodyPost_ret (v := .tuple #[rK (.slice ra n rc) lim, .slice none 0 0, .bool false]) (k_results3 Tryd.results11 rfl rfl rfl hl1.out) rfl ?_
    have hno := getO_not HA.out
    refine ⟨_, es, _, by rw [hno]; rfl, hnx.out, ?_, fun f hf => hf, Or.inl ⟨hno, rfl⟩⟩
    unfold getL
    rw [hno]
    have e1 : outK id es = es := by unfold outK; rw [HA.out]; rfl
    have e2 := dat_out id es HND.out
    rw [e1] at e2
    exact e2
  · have hf := List.mem_of_getElem? h3
    have HA := hid h1; have HF := hid hf; have HF3 := hid h3; have HFI := hid h4
    have F32 := hid (show f.id.length = 32 from by rw [h4]; exact L32.out)
    obtain ⟨fa, fc, hfv, hfs⟩ := (H.out.th f hf).2
    have HFV := hid hfv; have HFS := hid hfs
    obtain ⟨fl, hfl⟩ : ∃ fl, fl = f.b.length := ⟨_, rfl⟩
    have HFL := hid hfl
    have hflb : fl ≤ 1000000 := by rw [hfl]; exact HBL.out f hf
    obtain ⟨kv, hkv⟩ : ∃ kv, kv = (kE f).toArray := ⟨_, rfl⟩
    have HKV := hid hkv
    obtain ⟨zk, hzk⟩ : ∃ zk, zk = (zid.map B ++ [Value.slice none 0 0]).toArray := ⟨_, rfl⟩
    have hzz : ∀ W, (zeroValue 48).run Tryd.prog W = .ok (.agg zk) W := by rw [hzk]; exact zero_ke
    have hkvs : kv.size = 33 := by rw [hkv]; exact kE_len f
    have HszK := hid (show (Tryd.prog.info? 48).map (·.size) = some kv.size by rw [hkvs]; kernel_rfl)
    have HoldK := hid (show zk.size = kv.size by rw [hkvs, hzk]; simp [zid])
    have HoneK := hid (show kv.all (·.oneCell') = true by rw [hkv, Array.all_eq_true']; intro u hu; exact kC_one [f] (fun e he => by simp at he; subst he; exact ⟨fa, _, fc, hfv⟩) u (by simpa [kC] using hu))
    obtain ⟨x, rfl, q0, q1, _⟩ := (show Rk w base (.slice ra n rc) es from by rw [HN.out]; exact H.out).at i f h3
    obtain ⟨b0, hr2⟩ := S2.out.nx.rk
    have hc2 : w2.cell? ⟨w.heap.size, 0, none⟩ = some (.slice (some x) n rc) := by rw [cell_of_row _ _ 0 _ _ _ S2.out.bx]; rfl
    have hkw2 := S2.out.nx.kept
    have hlk := hid (show (loadVar 48 (x.add (i * 33))).run Tryd.prog w2 = .ok (.agg kv) w2 from by
      rw [hkv]
      refine ke_ld w2 _ f F32.out (fun j u hj => (hkw2.cell (World.block_lt_of_cell? w _ (q0 j u hj)) (by simp)).trans (q0 j u hj)) ?_
      rw [n_add_add]
      obtain ⟨xb, rfl⟩ : ∃ g, x = ⟨g, 0, none⟩ := by
        rcases hr2.row.2 with ⟨hh, _⟩ | ⟨g, cap, cur, hh, _⟩
        · simp at hh
        · simp at hh; exact ⟨g, hh.1⟩
      rw [k_plain] at q1 ⊢
      exact (hkw2.cell (World.block_lt_of_cell? w _ q1) (by simp)).trans q1)
    obtain ⟨q, hq⟩ : ∃ q, q = w2.heap.size := ⟨_, rfl⟩
    obtain ⟨wb, hwb⟩ : ∃ wb, wb = w2.alloc (.cells zk 48) := ⟨_, rfl⟩
    have HQB := hid (show wb.heap[q]? = some (.cells zk 48 (0, 0)) from by rw [hwb, hq]; exact heap_alloc_at rfl)
    obtain ⟨w3, hw3⟩ : ∃ w3, w3 = wb.setRow q kv := ⟨_, rfl⟩
    have k3 : Kept [] w2 w3 := by
      rw [hw3, hwb, hq]
      exact ((Kept.refl [] w2).alloc _).setRow (fun h => absurd h (by omega)) _
    have S3 := hid (S2.out.more (V := w3) k3 (g := q) (o := .cells kv 48 (0, 0)) (by omega) (by rw [hw3]; exact setRow_heap _ _ _ _ _ _ HQB.out))
    have HQ2 := hid (show w.heap.size + 2 < q from by have h1 := lt_of_block (hb2.out w2 S2.out); omega)
    have HQ := hid hq; have HWB := hid hwb; have HW3 := hid hw3
    have hoo := hid (show Calls Tryd.prog 24 #[.agg #[.slice (some x) n rc, .int .i64 lim], .int .i64 i] w3 fun e w' => ∃ rv', e = .returned (rK rv' lim) ∧ Nx w3 w' (.slice (some x) n rc) rv' (outK id es) from by
      obtain ⟨b, hr⟩ := S3.out.nx.rk
      have h5 := rk_out lim hr (by have := HM.out; omega) id
      rw [h1] at h5
      exact h5)
    have hld3 := hid (rk_ld w3 w.heap.size (.slice (some x) n rc) lim S3.out.bx)
    unfold rK at hld3
    have f0 : decide ((i : Int) < 0) = false := decide_eq_false (by omega)
    have hin : i < n := by rw [HN.out]; exact h2
    rw [h1]
    clear h1 h2 h3 h4 hf hfv hfs hfl hkv hzk hkvs q0 q1 hr2 hkw2 hq hwb hw3 k3
    go_wp2_with (first | (refine wpList_ldv rfl 48 (.tmp 18) rfl (x.add (i * 33)) rfl (.agg kv) hlk.out ?_) | (refine wpList_store_row rfl 48 (.tmp 8) (.tmp 19) rfl q kv (by rw [HQ.out]; rfl) rfl _ _ (by rw [← HWB.out]; exact HQB.out) HszK.out HoldK.out HoneK.out ?_; refine halt ?_))
    refine Halt.mk ?_
    rw [← HWB.out, ← HW3.out, ← HQ.out]
    clear HWB HW3 HQB hlk hc2 hzz
    go_wp2_with (refine wpList_ldv rfl 29 (.tmp 2) rfl ⟨w.heap.size, 0, none⟩ rfl (.agg #[.slice (some x) n rc, .int .i64 lim]) hld3.out ?_; refine halt ?_)
    refine Halt.mk ?_
    go_wp2_with fail
    refine hoo.out.mono ?_
    rintro e w4 ⟨rv4, rfl, nx4⟩
    obtain ⟨P5, hP5⟩ : ∃ V, V = w4.setRow w.heap.size [rv4, .int .i64 lim].toArray := ⟨_, rfl⟩
    have hbx4 := nx4.kept.at S3.out.bx (by simp)
    obtain ⟨n1, hn1⟩ : ∃ n1, n1 = (outK id es).length := ⟨_, rfl⟩
    obtain ⟨ra4, rc4, rfl⟩ : ∃ a c, rv4 = .slice a n1 c := by
      obtain ⟨b, hr⟩ := nx4.rk
      obtain ⟨xa, xc, hx⟩ := hr.slice
      exact ⟨xa, xc, by rw [hx, hn1]⟩
    have S5 := S3.out.turn nx4 (fun f hf => mem_out hf) ((Kept.refl [w.heap.size] w4).setRow (fun _ => by simp) [.slice ra4 n1 rc4, .int .i64 lim].toArray) (setRow_heap _ _ _ _ _ _ hbx4)
    rw [← hP5] at S5
    have S5 := hid S5
    have HP5 := hid hP5; have HB4 := hid hbx4; have HN1 := hid hn1
    clear hP5 hbx4 nx4 hn1 hoo hld3 S3 S2
    go_wp2_with (refine wpList_store_at rfl 29 (.tmp 2) (.tmp 22) rfl w.heap.size 0 [.slice ra4 n1 rc4, .int .i64 lim] rfl rfl 29 [.slice (some x) n rc, .int .i64 lim] HB4.out (by kernel_rfl) (by simp) (k_two _ _ _ _) ?_; refine halt ?_)
    refine Halt.mk ?_
    rw [show w4.setRow w.heap.size (splice [.slice (some x) n rc, .int .i64 lim] 0 [.slice ra4 n1 rc4, .int .i64 lim]).toArray = P5 from HP5.out.symm]
    clear HP5 HB4
    obtain ⟨sm, hsm⟩ : ∃ sm, sm = Sha.sum f.b := ⟨_, rfl⟩
    have hsm32 : sm.length = 32 := by rw [hsm]; exact Sha.sum_len _
    obtain ⟨sv, hsv⟩ : ∃ sv, sv = (sm.map B).toArray := ⟨_, rfl⟩
    obtain ⟨qq, hqq⟩ : ∃ qq, qq = !decide (sm = id) := ⟨_, rfl⟩
    have heq := hid (show ∀ v : World, (Op.equalIn 10000 34 (.agg sv) (.agg iv)).run Tryd.prog v = .ok (!qq) v from fun v => by rw [hsv, HIV.out, hqq, Bool.not_not]; exact id_equal _ _ hsm32 L32.out v)
    have HSM := hid hsm; have HQQ := hid hqq
    have hof := hid (fun v (hv : Kept [] P5 v) => (show Calls Tryd.prog 8 #[.slice fa fl fc] v fun e w' => e = .returned (.agg sv) ∧ Kept [] v w' from by
      have h1 := HFS.out.kept (S5.out.keep hv).nx.kept (by simp)
      rw [HFV.out] at h1
      obtain ⟨r1, r2⟩ := reads_srcb h1
      rw [hsv, hsm, HFL.out]
      exact refof_sum fa fc f.b v r1 r2 (by rw [← HFL.out]; omega)))
    have hk1 := hid (fun v (hv : Kept [] P5 v) => (show v.heap[q]? = some (.cells (kE f).toArray 48 (0, 0)) from by
      have h1 := ((S5.out.keep hv).xs (q, .cells kv 48 (0, 0)) (by simp)).1
      rw [← HKV.out]; exact h1))
    have hkc := hid (fun v (hv : Kept [] P5 v) => (show v.cell? ⟨q, 32, none⟩ = some (.slice fa fl fc) from by
      have h1 := hk1.out v hv
      rw [cell_of_row _ _ 32 _ _ _ h1, kE_of F32.out, HFV.out, HFL.out]
      have e : (f.id.map B).length = 32 := by simp [F32.out]
      rw [← e]
      simp))
    have hlq5 := hid (fun v (hv : Kept [] P5 v) => (show (loadVar 34 ⟨w.heap.size + 1, 0, none⟩).run Tryd.prog v = .ok (.agg iv) v from by
      have h1 := ((S5.out.keep hv).xs (w.heap.size + 1, .cells iv 34 (0, 0)) (by rw [HX.out]; simp)).1
      rw [HIV.out] at h1 ⊢
      exact ld_idB v _ id L32.out h1))
    clear hsm hsm32 hsv hqq hb1 hb2
    go_upto_region 6 with fail
    have hH0 : Kept [] P5 P5.drew := (Kept.refl _ P5).drew
    refine wp_region_held_drew (S := fun v => Kept [] P5 v) (by kernel_rfl) hH0 (fun hH => ?_)
    refine takeH 0 (.pointer (some ⟨q, 32, none⟩)) rfl (by kernel_rfl) (by kernel_rfl) (by kernel_rfl) (fun _ _ _ h => h) (by rfl) (fun v hv => by go_simp) hH ?_
    simp only [Act.put, List.setIfInBounds_toArray, List.set_cons_succ, List.set_cons_zero]
    refine takeH 1 (.slice fa fl fc) rfl (by kernel_rfl) (by kernel_rfl) (by kernel_rfl) (fun _ _ _ h => h) (by rfl) (fun v hv => by have h := hkc.out v hv; go_simp) hH ?_
    simp only [Act.put, List.setIfInBounds_toArray, List.set_cons_succ, List.set_cons_zero]
    refine takeH 3 (.agg iv) rfl (by kernel_rfl) (by kernel_rfl) (by kernel_rfl) (fun _ _ _ h => h) (by rfl) (fun v hv => by have h := hlq5.out v hv; unfold execOp; simp [Instr.loadAt, Instr.sureAddr, Sem.run_bind, Sem.run_pure, Result.andThen_ok, Act.eval, h]) hH ?_
    simp only [Act.put, List.setIfInBounds_toArray, List.set_cons_succ, List.set_cons_zero]
    refine callR 2 rfl (by kernel_rfl) (by rfl) 8 #[.slice fa fl fc] (by go_simp) (.agg sv) (fun v => Kept [] P5.drew v) (fun v h => hH0.trans h) (hof.out _ hH0) ?_
    rintro v6 k6
    simp only [Act.put, List.setIfInBounds_toArray, List.set_cons_succ, List.set_cons_zero]
    refine takeH 4 (.bool qq) rfl (by kernel_rfl) (by kernel_rfl) (by kernel_rfl) (fun _ _ _ h => h) (by rfl) (fun v hv => by have h := heq.out v; go_simp) (hH0.trans k6) ?_
    simp only [Act.put, List.setIfInBounds_toArray, List.set_cons_succ, List.set_cons_zero]
    refine wpAnyH_done (by kernel_rfl) ?_ _
    have K6 := hid (hH0.trans k6)
    have S6 := hid (S5.out.keep K6.out)
    clear hH0 k6 hH hof heq hlq5 hkc
    by_cases hqt : qq = true
    · subst hqt
      have hne : ¬ Sha.sum f.b = id := by have := HQQ.out; rw [HSM.out] at this; simpa using this.symm
      have hno := hid (show getO id (datE es) = none from by rw [getO_at HA.out HF3.out, if_neg hne])
      have hld := hid (rk_ld v6 w.heap.size (.slice ra4 n1 rc4) lim S6.out.bx)
      unfold rK at hld
      have hB2 := hid ((S6.out.xs (w.heap.size + 2, .cells [.slice none 0 0, .int .i64 0].toArray 29 (0, 0)) (by rw [HX.out]; simp)).1)
      obtain ⟨w7, hw7⟩ : ∃ V, V = v6.setRow (w.heap.size + 2) (splice [.slice none 0 0, .int .i64 0] 0 [.slice ra4 n1 rc4, .int .i64 lim]).toArray := ⟨_, rfl⟩
      have HW7 := hid hw7
      have hl1 := hid (rk_ld w7 (w.heap.size + 2) (.slice ra4 n1 rc4) lim (by rw [hw7]; exact setRow_heap _ _ _ _ _ _ hB2.out))
      have kk7 : Kept [w.heap.size + 2] v6 w7 := by rw [hw7]; exact (Kept.refl [w.heap.size + 2] v6).setRow (fun _ => by simp) _
      have hnx := hid (S6.out.fin (r := w.heap.size + 2) (o := .cells [.slice none 0 0, .int .i64 0].toArray 29 (0, 0)) (by rw [HX.out]; simp) kk7)
      clear hw7 kk7 hne
      go_wp2_with (refine wpList_ldv rfl 29 (.tmp 2) rfl ⟨w.heap.size, 0, none⟩ rfl (.agg #[.slice ra4 n1 rc4, .int .i64 lim]) hld.out ?_; refine halt ?_)
      refine Halt.mk ?_
      go_wp2_with (refine wpList_store_at rfl 29 (.tmp 4) (.tmp 28) rfl (w.heap.size + 2) 0 [.slice ra4 n1 rc4, .int .i64 lim] rfl rfl 29 [.slice none 0 0, .int .i64 0] hB2.out (by kernel_rfl) (by simp) (k_two _ _ _ _) ?_; refine halt ?_)
      refine Halt.mk ?_
      rw [← HW7.out]
      go_wp2_with fail
      refine bodyPost_ret (v := .tuple #[rK (.slice ra4 n1 rc4) lim, .slice none 0 0, .bool false]) (k_results3 Tryd.results11 rfl rfl rfl hl1.out) rfl ?_
      refine ⟨_, outK id es, _, by rw [hno.out]; rfl, hnx.out, ?_, fun f hf => mem_out hf, Or.inl ⟨hno.out, rfl⟩⟩
      unfold getL
      rw [hno.out]
      exact dat_out id es HND.out
    · have hqf : qq = false := by simpa using hqt
      subst hqf
      have hye : Sha.sum f.b = id := by have := HQQ.out; rw [HSM.out] at this; simpa using this.symm
      have hyes := hid (show getO id (datE es) = some f.b from by rw [getO_at HA.out HF3.out, if_pos hye])
      have hn1b : n1 ≤ 1000 := by rw [HN1.out]; have := len_out id es; have := HM.out; omega
      obtain ⟨es2, hes2⟩ : ∃ es2, es2 = outK id es := ⟨_, rfl⟩
      have HE2 := hid hes2
      rw [← hes2] at S6 HN1
      have hc0 := hid (fun v (hv : Kept [] v6 v) => (show v.cell? ⟨w.heap.size, 0, none⟩ = some (.slice ra4 n1 rc4) from by rw [cell_of_row _ _ 0 _ _ _ (hv.at S6.out.bx (by simp))]; rfl))
      have hlk6 := hid (fun v (hv : Kept [] v6 v) => (show (loadVar 48 ⟨q, 0, none⟩).run Tryd.prog v = .ok (.agg (kE f).toArray) v from by
        have h1 := k_cells_of (hk1.out v (K6.out.trans hv))
        have h5 : (kE f)[32]? = some f.v := by rw [kE_of F32.out, List.getElem?_append_right (by simp [F32.out])]; simp [F32.out]
        exact ke_ld v _ f F32.out (fun j u hj => h1 j u (by rw [kE_of F32.out, List.getElem?_append_left (List.getElem?_eq_some_iff.1 hj).1]; exact hj)) (h1 32 _ h5)))
      have hbs := hid (fun v => bs_ke f F32.out ⟨fa, _, fc, HFV.out⟩ v)
      obtain ⟨i0, hi0, hz0, hz1, hz2⟩ := k_split info_kept
      clear hqt hye hes2 S5 K6
      go_upto_region 8 with fail
      refine wp_region_held_drew (S := fun _ => True) (by kernel_rfl) True.intro (fun _ => ?_)
      refine takeH 1 (.pointer (some ⟨w.heap.size, 0, none⟩)) rfl (by kernel_rfl) (by kernel_rfl) (by kernel_rfl) (fun _ _ _ h => h) (by rfl) (fun v hv => by go_simp) True.intro ?_
      simp only [Act.put, List.setIfInBounds_toArray, List.set_cons_succ, List.set_cons_zero]
      refine region_inv_at [true, true, true, true, true, true, true, false, false] [(0, [(0, false), (3, false), (6, false)]), (2, [(2, false), (3, false), (6, false)]), (3, [(0, true), (2, true), (3, false), (6, false)]), (4, [(5, false), (6, false)]), (5, [(4, true), (5, false), (6, false)]), (6, [(0, true), (3, true), (5, true), (6, false)])] 9 [some 29, some 31, some 32, some 33, some 34, some 35] (Inv8 v6 es2 f (.slice ra4 n1 rc4)) [false, true, false, false, false, false, false, false, false] [undef, undef, undef, undef, undef, undef] rfl rfl rfl (by kernel_rfl) (by kernel_rfl) (fun L vs v hI => True.intro) (fun e he L hlen hdeps vs v hI => ?_) (fun vs v hI => ?_) ⟨_, _, _, _, _, _, rfl, InvB.start _ _ _ _ (Kept.refl _ _).drew, by simp, by simp⟩
      · obtain ⟨v29, v31, v32, v33, v34, v35, rfl, iB, i2, i4⟩ := hI
        simp only [putAll, Act.put, List.setIfInBounds_toArray, List.set_cons_succ, List.set_cons_zero]
        simp only [List.mem_cons, List.not_mem_nil, or_false] at he
        have hv := iB.keptD
        rcases he with rfl | rfl | rfl | rfl | rfl | rfl
        · have d0 : L.getD 0 false = false := hdeps (0, false) (by simp)
          have d3 : L.getD 3 false = false := hdeps (3, false) (by simp)
          have d6 : L.getD 6 false = false := hdeps (6, false) (by simp)
          rw [d0, d3, d6] at iB
          refine wpOp_run 0 rfl (by rfl) (.slice (some ⟨v.heap.size, 0, none⟩) 0 0) (v.alloc (.cells #[] 48)) (by go_simp) ⟨[.slice (some ⟨v.heap.size, 0, none⟩) 0 0, v31, v32, v33, v34, v35], by simp only [putAll, Act.put, List.setIfInBounds_toArray, List.set_cons_succ, List.set_cons_zero], ?_⟩
          unfold Inv8
          simp only [k_gset hlen]
          refine ⟨_, _, _, _, _, _, rfl, ?_, i2, i4⟩
          rw [d3, d6]
          exact iB.s0
        · have hl := hc0.out v hv
          refine wpOp_run 2 rfl (by rfl) (.slice ra4 n1 rc4) v (by go_simp) ⟨[v29, .slice ra4 n1 rc4, v32, v33, v34, v35], by simp only [putAll, Act.put, List.setIfInBounds_toArray, List.set_cons_succ, List.set_cons_zero], ?_⟩
          unfold Inv8
          simp only [k_gset hlen]
          exact ⟨_, _, _, _, _, _, rfl, iB, fun _ => rfl, i4⟩
        · have d0 : L.getD 0 false = true := hdeps (0, true) (by simp)
          have d3 : L.getD 3 false = false := hdeps (3, false) (by simp)
          have d6 : L.getD 6 false = false := hdeps (6, false) (by simp)
          obtain rfl := i2 (hdeps (2, true) (by simp))
          rw [d0, d3, d6] at iB
          obtain ⟨b, hr⟩ := (S6.out.keep hv).nx.rk
          have hro := hr.row
          rw [← HN1.out] at hro
          refine wpOp_append_k 3 rfl rfl _ _ _ rfl v6.heap.size 48 i0 _ 33 56 Tryd.underlying27 hi0 hz0 hz1 hz2 (by simp [Value.cells, zid]) (by decide) v29 0 [] rfl iB.row0 (.slice ra4 n1 rc4) n1 (kC es2) rfl (ke_src hro (by rw [kC_len, HN1.out])) (by rw [kC_len, HN1.out]) (kC_one es2 hr.one) (by unfold maxLen; omega) (by omega) hv.size ?_
          intro v' w' hown hgr hf
          refine ⟨[v29, .slice ra4 n1 rc4, v', v33, v34, v35], by simp only [putAll, Act.put, List.setIfInBounds_toArray, List.set_cons_succ, List.set_cons_zero], ?_⟩
          unfold Inv8
          simp only [k_gset hlen]
          refine ⟨_, _, _, _, _, _, rfl, ?_, fun _ => rfl, i4⟩
          rw [d0, d6]
          rw [Nat.zero_add, List.nil_append, HN1.out] at hown
          exact iB.s1 hown hgr hf
        · have hl := hlk6.out v hv
          refine wpOp_run 4 rfl (by rfl) (.agg (kE f).toArray) v (by unfold execOp; simp [Instr.loadAt, Instr.sureAddr, Sem.run_bind, Sem.run_pure, Result.andThen_ok, Act.eval, hl]) ⟨[v29, v31, v32, .agg (kE f).toArray, v34, v35], by simp only [putAll, Act.put, List.setIfInBounds_toArray, List.set_cons_succ, List.set_cons_zero], ?_⟩
          unfold Inv8
          simp only [k_gset hlen]
          exact ⟨_, _, _, _, _, _, rfl, iB, i2, fun _ => rfl⟩
        · obtain rfl := i4 (hdeps (4, true) (by simp))
          have d5 : L.getD 5 false = false := hdeps (5, false) (by simp)
          have d6 : L.getD 6 false = false := hdeps (6, false) (by simp)
          rw [d5, d6] at iB
          have hb := hbs.out v
          refine wpOp_run 5 rfl (by rfl) (.slice (some ⟨v.heap.size, 0, none⟩) 1 1) (v.alloc (.cells (kE f).toArray 48)) (by unfold execOp; simp [Act.eval, Sem.run_bind, Sem.run_pure, Result.andThen_ok, hb]) ⟨[v29, v31, v32, .agg (kE f).toArray, .slice (some ⟨v.heap.size, 0, none⟩) 1 1, v35], by simp only [putAll, Act.put, List.setIfInBounds_toArray, List.set_cons_succ, List.set_cons_zero], ?_⟩
          unfold Inv8
          simp only [k_gset hlen]
          refine ⟨_, _, _, _, _, _, rfl, ?_, i2, fun _ => rfl⟩
          rw [d6]
          exact iB.s2
        · have d0 : L.getD 0 false = true := hdeps (0, true) (by simp)
          have d3 : L.getD 3 false = true := hdeps (3, true) (by simp)
          have d5 : L.getD 5 false = true := hdeps (5, true) (by simp)
          have d6 : L.getD 6 false = false := hdeps (6, false) (by simp)
          rw [d0, d3, d5, d6] at iB
          obtain ⟨g, rfl, hg⟩ := iB.one2
          have hr1 := iB.row1
          rw [← HN1.out] at hr1
          have hone : ∀ u ∈ kE f, u.oneCell' = true := fun u hu => kC_one [f] (fun e he => by simp at he; subst he; exact ⟨fa, _, fc, HFV.out⟩) u (by simpa [kC] using hu)
          refine wpOp_append_k 6 rfl rfl _ _ _ rfl v6.heap.size 48 i0 _ 33 56 Tryd.underlying27 hi0 hz0 hz1 hz2 (by simp [Value.cells, zid]) (by decide) v32 n1 (kC es2) rfl hr1 (.slice (some ⟨g, 0, none⟩) 1 1) 1 (kE f) rfl (ke_one_src hg) (kE_len f) hone (by unfold maxLen; omega) (by omega) hv.size ?_
          intro v' w' hown hgr hf
          refine ⟨[v29, v31, v32, v33, .slice (some ⟨g, 0, none⟩) 1 1, v'], by simp only [putAll, Act.put, List.setIfInBounds_toArray, List.set_cons_succ, List.set_cons_zero], ?_⟩
          unfold Inv8
          simp only [k_gset hlen]
          refine ⟨_, _, _, _, _, _, rfl, ?_, i2, i4⟩
          rw [d0, d3, d5]
          rw [HN1.out] at hown
          exact iB.s3 hown hgr
      · obtain ⟨v29, v31, v32, v33, v34, v35, rfl, iB, i2, i4⟩ := hI
        have hv := iB.keptD
        have hrow : v.ownsRow v6.heap.size 48 33 v35 (es2.length + 1) (kC (es2 ++ [f])) := InvB.row3 iB
        rw [← HN1.out] at hrow
        obtain ⟨a35, c35, rfl⟩ := owns_slice hrow
        simp only [putAll, Act.put, List.setIfInBounds_toArray, List.set_cons_succ, List.set_cons_zero]
        have hbv := hv.at S6.out.bx (by simp)
        have hr0 := hc0.out v hv
        have hf0 := k_free hbv 0
        obtain ⟨PA, hPA⟩ : ∃ V, V = v.setCell ⟨w.heap.size, 0, none⟩ (.slice a35 (n1 + 1) c35) := ⟨_, rfl⟩
        have SA := hid (show BoxS w PA ((q, .cells kv 48 (0, 0)) :: X) lim (.slice (some x) n rc) es (.slice a35 (n1 + 1) c35) (es2 ++ [f]) from by
          have hlow : v6.heap.size ≤ v.heap.size := hv.size
          rw [hPA]
          refine S6.out.turn (rv' := .slice a35 (n1 + 1) c35) ⟨hv, ⟨v6.heap.size, by simpa [HN1.out] using hrow, fun y hy => ?_, hlow⟩, fun g hg => Or.inr (hrow.lt g hg).1⟩ (fun y hy => ?_) ((Kept.refl [w.heap.size] v).setCell (p := ⟨w.heap.size, 0, none⟩) (fun _ => by simp) _) (by rw [Go.heap_setCell_same v w.heap.size 0 _ _ _ hbv]; rfl)
          · rcases List.mem_append.1 hy with h1 | h1
            · obtain ⟨b, hr⟩ := (S6.out.keep hv).nx.rk
              exact hr.th y h1
            · simp at h1
              subst h1
              exact ⟨F32.out, fa, fc, HFV.out, HFS.out.kept ((S6.out.keep hv).nx.kept) (by simp)⟩
          · rcases List.mem_append.1 hy with h1 | h1
            · exact mem_out (id := id) (by rw [← HE2.out]; exact h1)
            · simp at h1
              subst h1
              exact HF.out)
        have hfc := hid (show PA.cell? ⟨q, 32, none⟩ = some (.slice fa fl fc) from by
          have h1 := (SA.out.xs (q, .cells kv 48 (0, 0)) (by simp)).1
          rw [cell_of_row _ _ 32 _ _ _ h1, HKV.out, kE_of F32.out, HFV.out, HFL.out]
          have e : (f.id.map B).length = 32 := by simp [F32.out]
          rw [← e]
          simp)
        refine takeH 7 (.pointer (some ⟨w.heap.size, 0, none⟩)) rfl (by kernel_rfl) (by kernel_rfl) (by kernel_rfl) (fun _ _ _ h => h) (by rfl) (fun v hv => by go_simp) True.intro ?_
        simp only [Act.put, List.setIfInBounds_toArray, List.set_cons_succ, List.set_cons_zero]
        refine writeH 8 rfl (by kernel_rfl) (by rfl) PA (by rw [hPA]; go_simp) True.intro ?_
        simp only [Act.put, List.setIfInBounds_toArray, List.set_cons_succ, List.set_cons_zero]
        refine wpAnyH_done (by kernel_rfl) ?_ _
        clear hPA hr0 hf0 hbv hrow iB i2 i4 hv hc0 hlk6 hbs S6 hk1
        have hld := hid (fun v (hv : Kept [w.heap.size + 2] PA v) => rk_ld v w.heap.size (.slice a35 (n1 + 1) c35) lim (hv.at SA.out.bx (by simp)))
        unfold rK at hld
        have hB2 := hid ((SA.out.xs (w.heap.size + 2, .cells [.slice none 0 0, .int .i64 0].toArray 29 (0, 0)) (by rw [HX.out]; simp)).1)
        have hqne : q ≠ w.heap.size + 2 := by have h1 := HQ2.out; omega
        have hfcv := hid (fun v (hv : Kept [w.heap.size + 2] PA v) => (hv.cell (World.block_lt_of_cell? PA _ hfc.out) (by simpa using hqne)).trans hfc.out)
        go_upto_region 9 with fail
        have hH0 : Kept [w.heap.size + 2] PA PA.drew := (Kept.refl _ PA).drew
        refine wp_region_held_drew (S := fun v => Kept [w.heap.size + 2] PA v) (by kernel_rfl) hH0 (fun hH => ?_)
        refine takeH 0 (.agg #[.slice a35 (n1 + 1) c35, .int .i64 lim]) rfl (by kernel_rfl) (by kernel_rfl) (by kernel_rfl) (fun _ _ _ h => h) (by rfl) (fun v hv => by have h := hld.out v hv; unfold execOp; simp [Instr.loadAt, Instr.sureAddr, Sem.run_bind, Sem.run_pure, Result.andThen_ok, Act.eval, h]) hH ?_
        simp only [Act.put, List.setIfInBounds_toArray, List.set_cons_succ, List.set_cons_zero]
        refine takeH 1 (.pointer (some ⟨q, 32, none⟩)) rfl (by kernel_rfl) (by kernel_rfl) (by kernel_rfl) (fun _ _ _ h => h) (by rfl) (fun v hv => by go_simp) hH ?_
        simp only [Act.put, List.setIfInBounds_toArray, List.set_cons_succ, List.set_cons_zero]
        refine takeH 2 (.slice fa fl fc) rfl (by kernel_rfl) (by kernel_rfl) (by kernel_rfl) (fun _ _ _ h => h) (by rfl) (fun v hv => by have h := hfcv.out v hv; go_simp) hH ?_
        simp only [Act.put, List.setIfInBounds_toArray, List.set_cons_succ, List.set_cons_zero]
        obtain ⟨w7, hw7⟩ : ∃ V, V = PA.drew.setRow (w.heap.size + 2) [.slice a35 (n1 + 1) c35, .int .i64 lim].toArray := ⟨_, rfl⟩
        have k7 : Kept [w.heap.size + 2] PA w7 := by rw [hw7]; exact hH0.setRow (fun _ => by simp) _
        have b7 : w7.heap[w.heap.size + 2]? = some (.cells [.slice a35 (n1 + 1) c35, .int .i64 lim].toArray 29 (0, 0)) := by rw [hw7]; exact setRow_heap _ _ _ _ _ _ (show PA.drew.heap[w.heap.size + 2]? = _ from hB2.out)
        refine k_storeH 3 rfl (by kernel_rfl) rfl 29 (.tmp 4) (.tmp 37) rfl (w.heap.size + 2) [.slice a35 (n1 + 1) c35, .int .i64 lim] [.slice none 0 0, .int .i64 0] rfl rfl 29 hB2.out (by kernel_rfl) rfl (k_two _ _ _ _) (by rw [← hw7]; exact k7) ?_
        simp only [Act.put, List.setIfInBounds_toArray, List.set_cons_succ, List.set_cons_zero]
        rw [← hw7]
        refine takeH 4 (.slice fa fl fc) rfl (by kernel_rfl) (by kernel_rfl) (by kernel_rfl) (fun _ _ _ h => h) (by rfl) (fun v hv => by go_simp) k7 ?_
        simp only [Act.put, List.setIfInBounds_toArray, List.set_cons_succ, List.set_cons_zero]
        refine takeH 5 (.bool true) rfl (by kernel_rfl) (by kernel_rfl) (by kernel_rfl) (fun _ _ _ h => h) (by rfl) (fun v hv => by go_simp) k7 ?_
        simp only [Act.put, List.setIfInBounds_toArray, List.set_cons_succ, List.set_cons_zero]
        refine wpAnyH_done (by kernel_rfl) ?_ _
        have hl1 := hid (rk_ld w7 (w.heap.size + 2) (.slice a35 (n1 + 1) c35) lim b7)
        have hnx := hid (SA.out.fin (r := w.heap.size + 2) (o := .cells [.slice none 0 0, .int .i64 0].toArray 29 (0, 0)) (by rw [HX.out]; simp) k7)
        clear k7 b7 hw7 hld hfcv hH0 hH
        go_wp2
        refine bodyPost_ret (v := .tuple #[rK (.slice a35 (n1 + 1) c35) lim, .slice fa fl fc, .bool true]) (k_results3 Tryd.results11 rfl rfl rfl hl1.out) rfl ?_
        refine ⟨_, es2 ++ [f], _, by rw [hyes.out]; rfl, hnx.out, ?_, fun y hy => ?_, Or.inr ⟨f, HF.out, by rw [HFV.out, HFL.out], hyes.out⟩⟩
        · unfold getL
          rw [hyes.out, ← dat_out id es HND.out, ← HE2.out]
          unfold datE
          rw [List.map_append, ← HFI.out]
          rfl
        · rcases List.mem_append.1 hy with h1 | h1
          · exact mem_out (id := id) (by rw [← HE2.out]; exact h1)
          · simp at h1
            subst h1
            exact HF.out
end Go.Proofs.YtmkdjonlfkfnlaaDoor
