import Derived.Test.YtmkdjonlfkfnlaaDoorI6

/- The reference's cache: Spoil. -/
namespace Go.Proofs.YtmkdjonlfkfnlaaDoor
open Go.RowKit Go.Lib Go.Maps

/-- What the reference's Spoil leaves. -/
def RSpoil (w : World) (rv : Value) (es : List KE) (lim : Int) (id : List UInt8) (bit : Int) (e : Ending) (w' : World) : Prop :=
  ∃ rv' es', e = .returned (.tuple #[rK rv' lim, .bool (spoilL id bit (datE es)).isSome]) ∧ Nx w w' rv rv' es' ∧ datE es' = (spoilL id bit (datE es)).getD (datE es) ∧ ∀ f ∈ es', f ∈ es ∨ ∀ g, f.v.ownBlock = some g → w.heap.size ≤ g
theorem spoil_not {id : List UInt8} {bit : Int} {es : List KE} (h : atK id es = -1) : spoilL id bit (datE es) = none := by
  unfold spoilL
  rw [find_dat, h]
  rfl
theorem find_at {id : List UInt8} {es : List KE} {i : Nat} {f : KE} (h : atK id es = i) (hf : es[i]? = some f) : findD id (datE es) = some f.b := by
  rw [find_dat, h, if_neg (by omega)]
  simp [hf]
theorem kC_set (es : List KE) (i : Nat) (f : KE) (hf : es[i]? = some f) (v : Value) (bs : List UInt8) : kC (es.set i ⟨f.id, v, bs⟩) = (kC es).set (i * 33 + 32) v := by
  refine List.ext_getElem? (fun j => ?_)
  have hi := (List.getElem?_eq_some_iff.1 hf).1
  by_cases hj : j < es.length * 33
  · have e : j = j / 33 * 33 + j % 33 := by omega
    have hq : j / 33 < es.length := by omega
    have hr : j % 33 < 33 := Nat.mod_lt _ (by decide)
    rw [e]
    by_cases hji : j / 33 = i
    · have hset : (es.set i ⟨f.id, v, bs⟩)[j / 33]? = some ⟨f.id, v, bs⟩ := by rw [hji, List.getElem?_set_self hi]
      have h1 : (kC (es.set i ⟨f.id, v, bs⟩))[j / 33 * 33 + j % 33]? = (kE ⟨f.id, v, bs⟩)[j % 33]? := flat_get kE 33 kE_len _ _ _ _ hset hr
      have h2 : (kC es)[j / 33 * 33 + j % 33]? = (kE f)[j % 33]? := flat_get kE 33 kE_len es _ _ f (by rw [hji]; exact hf) hr
      rw [h1]
      by_cases h32 : j % 33 = 32
      · rw [h32, hji, List.getElem?_set_self (by rw [kC_len]; omega)]
        unfold kE
        rw [List.getElem?_append_right (by rw [e32_len]; exact Nat.le_refl _), e32_len]
        rfl
      · rw [List.getElem?_set_ne (by rw [hji]; omega), h2]
        unfold kE
        rw [List.getElem?_append_left (by rw [e32_len]; omega), List.getElem?_append_left (by rw [e32_len]; omega)]
    · have h0 : es[j / 33]? = some es[j / 33] := by simp
      have hset : (es.set i ⟨f.id, v, bs⟩)[j / 33]? = some es[j / 33] := by rw [List.getElem?_set_ne (Ne.symm hji)]; exact h0
      have h1 : (kC (es.set i ⟨f.id, v, bs⟩))[j / 33 * 33 + j % 33]? = (kE es[j / 33])[j % 33]? := flat_get kE 33 kE_len _ _ _ _ hset hr
      have h2 : (kC es)[j / 33 * 33 + j % 33]? = (kE es[j / 33])[j % 33]? := flat_get kE 33 kE_len es _ _ _ h0 hr
      rw [h1, List.getElem?_set_ne (by omega), h2]
  · rw [List.getElem?_eq_none (by rw [kC_len, List.length_set]; omega), List.getElem?_eq_none (by rw [List.length_set, kC_len]; omega)]
theorem dat_set {id : List UInt8} {es : List KE} {i : Nat} {f : KE} (hf : es[i]? = some f) (hid0 : f.id = id) (hnd : (es.map (·.id)).Nodup) (v : Value) (fl : List UInt8 → List UInt8) :
    datE (es.set i ⟨f.id, v, fl f.b⟩) = (datE es).map fun e => if e.1 = id then (e.1, fl e.2) else e := by
  induction es generalizing i with
  | nil => simp at hf
  | cons y r ih =>
    rw [List.map_cons, List.nodup_cons] at hnd
    cases i with
    | zero =>
      simp at hf
      subst hf
      rw [List.set_cons_zero]
      have e1 : datE (⟨y.id, v, fl y.b⟩ :: r) = (y.id, fl y.b) :: datE r := rfl
      have e2 : datE (y :: r) = (y.id, y.b) :: datE r := rfl
      rw [e1, e2, List.map_cons, if_pos hid0]
      congr 1
      have h3 : ∀ x ∈ datE r, (if x.1 = id then (x.1, fl x.2) else x) = x := fun x hx => by
        unfold datE at hx
        obtain ⟨z, hz, rfl⟩ := List.mem_map.1 hx
        have hne : z.id ≠ id := fun e => hnd.1 (by rw [hid0, ← e]; exact List.mem_map_of_mem hz)
        rw [if_neg hne]
      rw [List.map_congr_left h3, List.map_id']
    | succ i =>
      simp at hf
      have hm : f.id ∈ r.map (·.id) := List.mem_map_of_mem (List.mem_of_getElem? hf)
      have hne : y.id ≠ id := fun e => hnd.1 (by rw [e, ← hid0]; exact hm)
      rw [List.set_cons_succ]
      have e1 : datE (y :: r.set i ⟨f.id, v, fl f.b⟩) = (y.id, y.b) :: datE (r.set i ⟨f.id, v, fl f.b⟩) := rfl
      have e2 : datE (y :: r) = (y.id, y.b) :: datE r := rfl
      rw [e1, e2, List.map_cons, if_neg hne, ih hf hnd.2]
theorem tm_emod (bit : Int) (d : Nat) (hd : 0 < d) : (if bit.tmod (d : Int) < 0 then bit.tmod (d : Int) + d else bit.tmod (d : Int)) = bit % (d : Int) := by
  have h1 := Int.emod_nonneg bit (show (d : Int) ≠ 0 by omega)
  have h2 := Int.emod_lt_of_pos bit (show 0 < (d : Int) by omega)
  have h3 : ((d : Int).natAbs : Int) = d := Int.natAbs_of_nonneg (by omega)
  rw [Int.tmod_eq_emod]
  by_cases hc : 0 ≤ bit ∨ (d : Int) ∣ bit
  · rw [if_pos hc, if_neg (by omega)]
    omega
  · rw [if_neg hc, h3, if_pos (by omega)]
    omega
set_option maxRecDepth 100000 in
set_option maxHeartbeats 8000000 in
theorem rk_spoil {w : World} {base : Nat} {rv : Value} {es : List KE} {lim : Int} (h : Rk w base rv es) (hnd : (es.map (·.id)).Nodup) (hm : es.length ≤ 1000) (hbl : ∀ f ∈ es, f.b.length ≤ 1000000) (id : List UInt8) (h32 : id.length = 32) (bit : Int) (hbt1 : -9223372036854775808 ≤ bit) (hbt2 : bit ≤ 9223372036854775807) :
    Calls Tryd.prog 14 #[rK rv lim, .agg (id.map B).toArray, .int .i64 bit] w (RSpoil w rv es lim id bit) := by
  obtain ⟨ra, rc, rfl⟩ := h.slice
  obtain ⟨iv, hiv⟩ : ∃ iv, iv = (id.map B).toArray := ⟨_, rfl⟩
  have HIV := hid hiv
  have L32 := hid h32
  obtain ⟨n, hn⟩ : ∃ n, n = es.length := ⟨_, rfl⟩
  have HN := hid hn
  have H := hid h; have HND := hid hnd; have HM := hid hm; have HBL := hid hbl
  obtain ⟨W, hW⟩ : ∃ W, W = ((w.alloc (.cells #[.slice ra n rc, .int .i64 lim] 29)).alloc (.cells iv 34)).alloc (.cells #[.slice none 0 0, .int .i64 0] 29) := ⟨_, rfl⟩
  have HW := hid hW
  have hids : iv.size = 32 := by rw [hiv]; simp [h32]
  obtain ⟨X, hX⟩ : ∃ X : List (Nat × Obj), X = [(w.heap.size + 1, .cells iv 34 (0, 0)), (w.heap.size + 2, .cells [.slice none 0 0, .int .i64 0].toArray 29 (0, 0))] := ⟨_, rfl⟩
  have HX := hid hX
  have S0 := hid (show BoxS w W X lim (.slice ra n rc) es (.slice ra n rc) es from by
    have hk : Kept [] w W := hW ▸ (((Kept.refl [] w).alloc _).alloc _).alloc _
    have hsz : W.heap.size = w.heap.size + 3 := by rw [hW]; simp
    refine ⟨⟨hk, ⟨base, by rw [hn]; exact h.keep hk⟩, fun g hg => Or.inl hg⟩, hW ▸ heap_alloc_old (heap_alloc_old (heap_alloc_at rfl)), fun y hy => ?_, fun g hg => ?_, fun f hf => hf, h.lt⟩
    · rw [hX] at hy
      simp at hy
      rcases hy with rfl | rfl
      · exact ⟨hW ▸ heap_alloc_old (heap_alloc_at (by simp)), by dsimp only; omega⟩
      · exact ⟨hW ▸ heap_alloc_at (by simp), by dsimp only; omega⟩
    · have h1 := (h.row.lt g (by rw [← hn]; exact hg)).2
      refine ⟨by omega, fun y hy => ?_⟩
      rw [hX] at hy
      simp at hy
      rcases hy with rfl | rfl <;> (dsimp only; omega))
  rw [← hiv, ← hn]
  clear hW h hn hnd hm hbl h32 hX hiv
  have hld := hid (rk_ld W w.heap.size (.slice ra n rc) lim S0.out.bx)
  unfold rK at hld
  have hlq := hid (show (loadVar 34 ⟨w.heap.size + 1, 0, none⟩).run Tryd.prog W = .ok (.agg iv) W from by
    have h1 := (S0.out.xs (w.heap.size + 1, .cells iv 34 (0, 0)) (by rw [HX.out]; simp)).1
    rw [HIV.out] at h1 ⊢
    exact ld_idB W _ id L32.out h1)
  have hfd := hid (show Calls Tryd.prog 25 #[.agg #[.slice ra n rc, .int .i64 lim], .agg iv] W fun e w' => e = .returned (.int .i64 (atK id es)) ∧ Kept [] W w' from by
    obtain ⟨b, hr⟩ := S0.out.nx.rk
    rw [HIV.out, HN.out]
    rw [HN.out] at hr
    exact rk_find lim hr (by have := HM.out; omega) id L32.out)
  unfold rK
  go_enter Tryd.func14, Tryd.ntmps14
  go_upto_region 1 with fail
  rw [← HW.out]
  go_wp2_with (first | (refine wpList_ldv rfl 29 (.tmp 3) rfl ⟨w.heap.size, 0, none⟩ rfl (.agg #[.slice ra n rc, .int .i64 lim]) hld.out ?_) | (refine wpList_ldv rfl 34 (.tmp 4) rfl ⟨w.heap.size + 1, 0, none⟩ rfl (.agg iv) hlq.out ?_))
  refine hfd.out.mono ?_
  rintro e w2 ⟨rfl, k2⟩
  have S2 := hid (S0.out.keep k2)
  clear hld hlq hfd HW S0 k2
  have hld := hid (rk_ld w2 w.heap.size (.slice ra n rc) lim S2.out.bx)
  unfold rK at hld
  obtain ⟨w3, hw3⟩ : ∃ V, V = w2.setRow (w.heap.size + 2) (splice [.slice none 0 0, .int .i64 0] 0 [.slice ra n rc, .int .i64 lim]).toArray := ⟨_, rfl⟩
  have HW3 := hid hw3
  have hB2 := hid ((S2.out.xs (w.heap.size + 2, .cells [.slice none 0 0, .int .i64 0].toArray 29 (0, 0)) (by rw [HX.out]; simp)).1)
  have hl1 := hid (rk_ld w3 (w.heap.size + 2) (.slice ra n rc) lim (by rw [hw3]; exact setRow_heap _ _ _ _ _ _ hB2.out))
  have kk3 : Kept [w.heap.size + 2] w2 w3 := by rw [hw3]; exact (Kept.refl [w.heap.size + 2] w2).setRow (fun _ => by simp) _
  have hnx := hid (S2.out.fin (r := w.heap.size + 2) (o := .cells [.slice none 0 0, .int .i64 0].toArray 29 (0, 0)) (by rw [HX.out]; simp) kk3)
  clear hw3 kk3
  rcases atK_range id es with h1 | ⟨i, h1, h2, f, h3, h4⟩
  · have hno := hid (spoil_not (bit := bit) h1)
    rw [h1]
    clear h1
    go_wp2_with (refine wpList_ldv rfl 29 (.tmp 3) rfl ⟨w.heap.size, 0, none⟩ rfl (.agg #[.slice ra n rc, .int .i64 lim]) hld.out ?_; refine halt ?_)
    refine Halt.mk ?_
    go_wp2_with (refine wpList_store_at rfl 29 (.tmp 6) (.tmp 26) rfl (w.heap.size + 2) 0 [.slice ra n rc, .int .i64 lim] rfl rfl 29 [.slice none 0 0, .int .i64 0] hB2.out (by kernel_rfl) (by simp) (k_two _ _ _ _) ?_; refine halt ?_)
    refine Halt.mk ?_
    rw [← HW3.out]
    go_wp2_with fail
    refine bodyPost_ret (v := .tuple #[rK (.slice ra n rc) lim, .bool false]) (results_cell2 Tryd.results14 rfl rfl hl1.out) rfl ?_
    exact ⟨_, es, by rw [hno.out]; rfl, hnx.out, by rw [hno.out]; rfl, fun f hf => Or.inl hf⟩
  · have hf := List.mem_of_getElem? h3
    have HA := hid h1; have HF := hid hf; have HF3 := hid h3; have HFI := hid h4
    have hfind := hid (find_at h1 h3)
    obtain ⟨fa, fc, hfv, hfs⟩ := (H.out.th f hf).2
    have HFV := hid hfv; have HFS := hid hfs
    obtain ⟨fl, hfl⟩ : ∃ fl, fl = f.b.length := ⟨_, rfl⟩
    have HFL := hid hfl
    have hflb : fl ≤ 1000000 := by rw [hfl]; exact HBL.out f hf
    obtain ⟨b0, hr2⟩ := S2.out.nx.rk
    have hrow2 := hid hr2
    obtain ⟨x, rfl, _, q1, _⟩ := (show Rk w2 b0 (.slice ra n rc) es from hr2).at i f h3
    rw [hfv, ← hfl] at q1
    have hc2 : w2.cell? ⟨w.heap.size, 0, none⟩ = some (.slice (some x) n rc) := by rw [cell_of_row _ _ 0 _ _ _ S2.out.bx]; rfl
    have f0 : decide ((i : Int) < 0) = false := decide_eq_false (by omega)
    have hin : i < n := by rw [HN.out]; exact h2
    rw [h1]
    have HIN := hid hin
    clear h1 h2 h3 h4 hf hfv hfs hfl hr2
    by_cases hz : fl = 0
    · subst hz
      have hno := hid (show spoilL id bit (datE es) = none from by
        unfold spoilL
        rw [hfind.out]
        have : f.b = [] := List.eq_nil_of_length_eq_zero HFL.out.symm
        simp [this])
      go_wp2_with (refine wpList_ldv rfl 29 (.tmp 3) rfl ⟨w.heap.size, 0, none⟩ rfl (.agg #[.slice (some x) n rc, .int .i64 lim]) hld.out ?_; refine halt ?_)
      refine Halt.mk ?_
      go_wp2_with (refine wpList_store_at rfl 29 (.tmp 6) (.tmp 26) rfl (w.heap.size + 2) 0 [.slice (some x) n rc, .int .i64 lim] rfl rfl 29 [.slice none 0 0, .int .i64 0] hB2.out (by kernel_rfl) (by simp) (k_two _ _ _ _) ?_; refine halt ?_)
      refine Halt.mk ?_
      rw [← HW3.out]
      go_wp2_with fail
      refine bodyPost_ret (v := .tuple #[rK (.slice (some x) n rc) lim, .bool false]) (results_cell2 Tryd.results14 rfl rfl hl1.out) rfl ?_
      exact ⟨_, es, by rw [hno.out]; rfl, hnx.out, by rw [hno.out]; rfl, fun f hf => Or.inl hf⟩
    · have hfz : ((fl : Int) == 0) = false := by simp; omega
      have hfp := hid (show 0 < fl by omega)
      clear hnx hl1 HW3 hld
      obtain ⟨j0, hj0, hz0, hz1, hz2⟩ := info_parts info_u8
      go_upto_region 4 with fail
      obtain ⟨w4, hw4⟩ : ∃ V, V = w2.alloc (.cells #[] 5) := ⟨_, rfl⟩
      have k4 : Kept [] w2 w4 := by rw [hw4]; exact (Kept.refl [] w2).alloc _
      have S4 := hid (S2.out.keep k4)
      have ha4 := hid (show w4.ownsRow w2.heap.size 5 1 (.slice (some ⟨w2.heap.size, 0, none⟩) 0 0) 0 [] from by rw [hw4]; exact World.ownsRow_made w2 (base := w2.heap.size) (e := 5) (size := 1) #[] 0 (Nat.le_refl _) (by decide) (by simp))
      have hsz4 := hid (show w2.heap.size < w4.heap.size from by rw [hw4]; simp)
      have hsr4 := hid (show SrcB w4 (.slice fa fl fc) f.b from by have h5 := HFS.out.kept S4.out.nx.kept (by simp); rw [HFV.out, ← HFL.out] at h5; exact h5)
      have HW4 := hid hw4
      have hc4 : (w2.alloc (.cells #[] 5)).cell? ⟨w.heap.size, 0, none⟩ = some (.slice (some x) n rc) := by rw [← hw4]; exact (k4.cell (World.block_lt_of_cell? w2 _ hc2) (by simp)).trans hc2
      have q14 : (w2.alloc (.cells #[] 5)).cell? ⟨(x.add (i * 33)).block, (x.add (i * 33)).off + 32, none⟩ = some (.slice fa fl fc) := by rw [← hw4]; exact (k4.cell (World.block_lt_of_cell? w2 _ q1) (by simp)).trans q1
      have HC2 := hid hc2; have HQ1 := hid q1
      clear hw4 k4 hc2 q1
      go_wp2_with (at_builtin; refine halt ?_)
      refine Halt.mk ?_
      rw [← HW4.out]
      refine wpList_append_src _ rfl _ _ _ rfl w2.heap.size 5 j0 _ 1 Tryd.underlying30 hj0 hz0 hz1 hz2 rfl (.slice (some ⟨w2.heap.size, 0, none⟩) 0 0) 0 [] rfl ha4.out (.slice fa fl fc) fl (f.b.map B) rfl (by have h5 := hsr4.out; unfold SrcB at h5; rw [← HFL.out] at h5; exact h5) (by simp; exact HFL.out.symm) (B_oneCell f.b) (by unfold maxLen; omega) (by omega) (by have := hsz4.out; omega) ?_
      intro v5 w5 o5 g5 _ f5
      simp only [Nat.zero_add, List.nil_append] at o5
      obtain ⟨a5, c5, rfl⟩ := owns_slice o5
      have k5 := hid (show Kept [] w2 w5 from by
        have k45 : Kept [w2.heap.size] w4 w5 := Kept.of_row g5
        have k24 : Kept [] w2 w4 := by rw [HW4.out]; exact (Kept.refl [] w2).alloc _
        exact k24.trans' k45 (fun y hy hm => by simp at hm; omega))
      have O5 := hid o5
      obtain ⟨g, rfl⟩ : ∃ g, a5 = some ⟨g, 0, none⟩ := by
        rcases o5.2 with ⟨h1, h2⟩ | ⟨g, cap, cur, h1, _⟩
        · exfalso; omega
        · simp at h1; exact ⟨g, h1.1⟩
      have S5 := hid (S2.out.keep k5.out)
      have hgb := hid (O5.out.lt g rfl)
      clear o5 g5 f5 S4 ha4 hsr4 hc4 q14
      obtain ⟨d, hd⟩ : ∃ d : Nat, d = 8 * fl := ⟨_, rfl⟩
      have w1m : IntKind.i64.wrap (8 * (fl : Int)) = (d : Int) := by rw [IntKind.wrap_i64]; omega
      have hd0 : ((d : Int) == 0) = false := by simp; have := hfp.out; omega
      have hd1 : ¬ (d : Int) = 0 := by have := hfp.out; omega
      obtain ⟨T, hT⟩ : ∃ T, T = bit.tmod (d : Int) := ⟨_, rfl⟩
      have hT1 : -(d : Int) < T := by rw [hT]; exact Int.lt_tmod_of_pos bit (by omega)
      have hT2 : T < (d : Int) := by rw [hT]; exact Int.tmod_lt_of_pos bit (by omega)
      have hrem : IntKind.i64.wrap (bit.tmod (d : Int)) = T := by rw [← hT]; exact IntWalk.i64_in _ (by omega)
      have hT' : bit.tmod (d : Int) = T := hT.symm
      have hem := hid (tm_emod bit d (by have := hfp.out; omega))
      rw [hT'] at hem
      have HD := hid hd; have HTB := hid (And.intro hT1 hT2)
      clear hT hd hrem
      by_cases hneg : T < 0
      · have hnd : decide (T < 0) = true := decide_eq_true hneg
        obtain ⟨u, hu⟩ : ∃ u : Nat, (u : Int) = T + d := ⟨(T + d).toNat, by have := HTB.out; omega⟩
        have e7 : IntKind.i64.wrap (T + (d : Int)) = (u : Int) := by rw [hu]; exact IntWalk.i64_in _ (by have := HTB.out; have := HD.out; omega)
        have HU := hid (show (u : Int) = bit % (d : Int) from by have h5 := hem.out; rw [if_pos hneg] at h5; omega)
        have hud : u < 8 * fl := by have := HTB.out; have := HD.out; omega
        have e8 : wrap64 (T + (d : Int)) = (u : Int) := by rw [hu]; unfold wrap64; have := HTB.out; have := HD.out; omega
        clear hu
        go_upto_region 8 with fail
        clear e7 e8
        obtain ⟨sb, hsb⟩ : ∃ sb, f.b[u / 8]? = some sb := ⟨f.b[u / 8]'(by rw [← HFL.out]; omega), by simp⟩
        have gl := O5.out.cellAt (u / 8) (by omega)
        rw [List.getElem?_map, hsb] at gl
        have gld : w5.drew.cell? ⟨g, u / 8, none⟩ = some (.int .u8 (sb.toNat : Int)) := gl
        have gfd : w5.drew.frozen? ⟨g, u / 8, none⟩ = false := O5.out.frozenAt _
        have Hsb := hid hsb
        obtain ⟨kk, hkk⟩ : ∃ kk, kk = u / 8 := ⟨_, rfl⟩
        obtain ⟨rr, hr8⟩ : ∃ rr, rr = u % 8 := ⟨_, rfl⟩
        obtain ⟨b8, hm2, hsh⟩ := sh_u8 rr (by omega)
        rw [← hkk] at gld gfd
        have f1 : (0 : Int) ≤ (kk : Int) := by omega
        have f2 : (kk : Int) < (fl : Int) := by omega
        have f3 : kk < fl := by omega
        obtain ⟨Z, hZ⟩ : ∃ Z : Int, Z = (u : Int) := ⟨_, rfl⟩
        have hZ0 : 0 ≤ Z := by omega
        have d2 : Z.tdiv 8 = (kk : Int) := by rw [Int.tdiv_eq_ediv_of_nonneg hZ0]; omega
        have d3 : Z.tmod 8 = (rr : Int) := by rw [Int.tmod_eq_emod_of_nonneg hZ0]; omega
        have e2 : IntKind.i64.wrap (Z.tdiv 8) = (kk : Int) := by rw [d2]; exact IntWalk.i64_in _ (by omega)
        have e4 : IntKind.i64.wrap (Z.tmod 8) = (rr : Int) := by rw [d3]; exact IntWalk.i64_in _ (by omega)
        rw [← hZ]
        have HKK := hid hkk; have HR8 := hid hr8; have HM2 := hid hm2; have HR9 := hid (show rr < 8 by omega); have HZ := hid hZ
        clear d2 hZ hsb gl hkk hr8 hm2 w1m hd0 hd1
        refine wp_region_still_tail 13 (by kernel_rfl) (by kernel_rfl) ?_
        simp only [List.take_succ_cons, List.take_zero, List.drop_succ_cons, List.drop_zero]
        change wpStill _ _ w5.drew _ _ _
        repeat still_step
        refine wpStill_nil ?_
        go_upto_region 9 with fail
        have hxv := xo_8 sb b8
        have hp8 : (2 : Int) ^ min rr 8 % 256 = (b8.toNat : Int) := by rw [HM2.out]; exact po_8 rr HR9.out
        rw [hp8, hxv]
        generalize IntKind.u8.wrap (2 ^ min rr 8) = z8
        clear e2 e4 hsh d3 f1 f2 f3 gfd gld hxv hp8
        obtain ⟨w6, hw6⟩ : ∃ w6, w6 = (w5.setCell ⟨g, kk, none⟩ (.int .u8 ((sb ^^^ b8).toNat : Int))).drew := ⟨_, rfl⟩
        rw [← hw6]
        have k6 : Kept [g] w5 w6 := by rw [hw6]; exact (kset w5 g kk _).drew
        have k26 : Kept [] w2 w6 := k5.out.trans' k6 (fun x hx hm => by simp at hm; have := hgb.out; omega)
        have S6 := hid (S2.out.keep k26)
        obtain ⟨tx, htx⟩ : ∃ tx, tx = flipB f.b (bitAt bit f.b) := ⟨_, rfl⟩
        have hflip : tx = f.b.set kk (sb ^^^ b8) := by
          have hbu : bitAt bit f.b = u := by
            unfold bitAt
            rw [← HFL.out, ← HD.out, ← HU.out]
            rfl
          rw [htx, hbu]
          unfold flipB
          rw [← HKK.out, HM2.out, HR8.out]
          have h1 := Hsb.out
          rw [← HKK.out] at h1
          rw [List.getD_eq_getElem?_getD, h1]
          rfl
        have HTX := hid htx
        have htl := hid (show tx.length = fl from by rw [hflip, List.length_set, HFL.out])
        have O6 := hid (show w6.ownsRow w2.heap.size 5 1 (.slice (some ⟨g, 0, none⟩) fl c5) fl (tx.map B) from by
          rw [hw6, hflip]
          exact own_sb (w := w5) O5.out kk (sb ^^^ b8))
        have hsz6 := hid k26.size
        have hg6 := hid (show g < w6.heap.size from (O6.out.lt g rfl).2)
        have hw2b := hid (lt_of_block S2.out.bx)
        have hw22 := hid (lt_of_block hB2.out)
        clear hflip htx hw6 k6 S5 O5 k26 S2 HC2 HQ1 hB2 hrow2
        obtain ⟨i0, hi0, hy0, hy1, hy2⟩ := k_split info_kept
        obtain ⟨b6, hr6⟩ := S6.out.nx.rk
        have hrw6 := hr6.row
        rw [← HN.out] at hrw6
        obtain ⟨w7, hw7⟩ : ∃ V, V = w6.alloc (.cells #[] 48) := ⟨_, rfl⟩
        have k7 : Kept [] w6 w7 := by rw [hw7]; exact (Kept.refl [] w6).alloc _
        have S7 := hid (S6.out.keep k7)
        have hc7 : (w6.alloc (.cells #[] 48)).cell? ⟨w.heap.size, 0, none⟩ = some (.slice (some x) n rc) := by rw [← hw7, cell_of_row _ _ 0 _ _ _ S7.out.bx]; rfl
        have ha7 := hid (show w7.ownsRow w6.heap.size 48 33 (.slice (some ⟨w6.heap.size, 0, none⟩) 0 0) 0 [] from by rw [hw7]; exact World.ownsRow_made w6 (base := w6.heap.size) (e := 48) (size := 33) #[] 0 (Nat.le_refl _) (by decide) (by simp))
        have hsz7 := hid (show w6.heap.size < w7.heap.size from by rw [hw7]; simp)
        have hsr7 := hid (show Src w7 (.slice (some x) n rc) n (kC es) from ke_src (k7.owns hrw6 (by simp)) (by rw [kC_len, HN.out]))
        have hone := kC_one es hr6.one
        have HW7 := hid hw7
        have hn5 : n ≤ 1000 := by rw [HN.out]; exact HM.out
        clear hw7 k7 hr6 hrw6
        go_wp2_with (at_builtin; refine halt ?_)
        refine Halt.mk ?_
        rw [← HW7.out]
        refine wpList_append_k _ rfl _ _ _ rfl w6.heap.size 48 i0 _ 33 56 Tryd.underlying27 hi0 hy0 hy1 hy2 (by simp [Value.cells, zid]) (by decide) (.slice (some ⟨w6.heap.size, 0, none⟩) 0 0) 0 [] rfl ha7.out (.slice (some x) n rc) n (kC es) rfl hsr7.out (by rw [kC_len, HN.out]) hone (by unfold maxLen; omega) (by omega) (by have := hsz7.out; omega) ?_
        intro v8 w8 hown8 hgr8 _ hf8
        simp only [Nat.zero_add, List.nil_append] at hown8
        obtain ⟨a8, c8, rfl⟩ := owns_slice hown8
        obtain ⟨g8, rfl⟩ : ∃ g, a8 = some ⟨g, 0, none⟩ := by
          rcases hown8.2 with ⟨h1, h2⟩ | ⟨g, cap, cur, h1, _⟩
          · exfalso; have := HIN.out; omega
          · simp at h1; exact ⟨g, h1.1⟩
        have k68 : Kept [] w6 w8 := by
          have k78 : Kept [w6.heap.size] w7 w8 := Kept.of_row hgr8
          have k67 : Kept [] w6 w7 := by rw [HW7.out]; exact (Kept.refl [] w6).alloc _
          exact k67.trans' k78 (fun y hy hm => by simp at hm; omega)
        have h8b := hid (hown8.lt g8 rfl)
        have hw8b := hid (lt_of_block S6.out.bx)
        have bx8 := k68.at S6.out.bx (by simp)
        obtain ⟨w9, hw9⟩ : ∃ V, V = w8.setCell ⟨w.heap.size, 0, none⟩ (.slice (some ⟨g8, 0, none⟩) n c8) := ⟨_, rfl⟩
        have k89 : Kept [w.heap.size] w8 w9 := by rw [hw9]; exact (Kept.refl [w.heap.size] w8).setCell (p := ⟨w.heap.size, 0, none⟩) (fun _ => by simp) _
        have S9 := hid (show BoxS w w9 X lim (.slice (some x) n rc) es (.slice (some ⟨g8, 0, none⟩) n c8) es from
          S6.out.turn ⟨k68, ⟨w6.heap.size, by simpa [HN.out] using hown8, fun y hy => by
            obtain ⟨b, hr⟩ := (S6.out.keep k68).nx.rk
            exact hr.th y hy, k68.size⟩, fun q hq => Or.inr (hown8.lt q hq).1⟩ (fun y hy => hy) k89 (by rw [hw9, Go.heap_setCell_same w8 w.heap.size 0 _ _ _ bx8]; rfl))
        have O9 := hid (show w9.ownsRow w6.heap.size 48 33 (.slice (some ⟨g8, 0, none⟩) n c8) n (kC es) from k89.owns hown8 (fun q hq hm => by simp at hm; have h1 := (hown8.lt q hq).1; have := hw8b.out; omega))
        have P9 := hid (show w9.ownsRow w2.heap.size 5 1 (.slice (some ⟨g, 0, none⟩) fl c5) fl (tx.map B) from k89.owns (k68.owns O6.out (by simp)) (fun q hq hm => by simp at hm; have h1 := (O6.out.lt q hq).1; have := hw2b.out; omega))
        have hr0 : w8.cell? ⟨w.heap.size, 0, none⟩ = some (.slice (some x) n rc) := by rw [cell_of_row _ _ 0 _ _ _ bx8]; rfl
        have hf0 : w8.frozen? ⟨w.heap.size, 0, none⟩ = false := k_free bx8 0
        have HW9 := hid hw9
        clear hown8 hgr8 hf8 k68 k89 hc7 S7 ha7 hsr7 HW7 hone bx8 hw9
        go_upto_region 10 with fail
        rw [← HW9.out]
        obtain ⟨x8, hx8⟩ : ∃ x8, x8 = (⟨g8, 0, none⟩ : Addr) := ⟨_, rfl⟩
        have HX8 := hid hx8
        have hc9 : w9.cell? ⟨w.heap.size, 0, none⟩ = some (.slice (some x8) n c8) := by rw [hx8, cell_of_row _ _ 0 _ _ _ S9.out.bx]; rfl
        have had : (⟨(x8.add (i * 33)).block, (x8.add (i * 33)).off + 32, none⟩ : Addr) = ⟨g8, i * 33 + 32, none⟩ := by rw [hx8, k_plain]
        have hq9 : w9.cell? ⟨(x8.add (i * 33)).block, (x8.add (i * 33)).off + 32, none⟩ = some f.v := by
          rw [had]
          have h1 := O9.out.cells (g := g8) rfl _ _ (kC_v HF3.out)
          rwa [k_plain] at h1
        have hf9 : w9.frozen? ⟨(x8.add (i * 33)).block, (x8.add (i * 33)).off + 32, none⟩ = false := by rw [had]; exact O9.out.frozenAt _
        obtain ⟨w10, hw10⟩ : ∃ V, V = w9.setCell ⟨(x8.add (i * 33)).block, (x8.add (i * 33)).off + 32, none⟩ (.slice (some ⟨g, 0, none⟩) fl c5) := ⟨_, rfl⟩
        have HW10 := hid hw10
        rw [had] at hw10
        have k10 : Kept [g8] w9 w10 := by rw [hw10]; exact (Kept.refl [g8] w9).setCell (p := ⟨g8, i * 33 + 32, none⟩) (fun _ => by simp) _
        obtain ⟨ne, hne⟩ : ∃ ne : KE, ne = ⟨f.id, .slice (some ⟨g, 0, none⟩) fl c5, tx⟩ := ⟨_, rfl⟩
        have O10 := hid (show w10.ownsRow w6.heap.size 48 33 (.slice (some ⟨g8, 0, none⟩) n c8) n (kC (es.set i ne)) from by
          rw [hw10, hne, kC_set es i f HF3.out]
          exact (O9.out.stored (i * 33 + 32) _).1)
        have P10 := hid (show w10.ownsRow w2.heap.size 5 1 (.slice (some ⟨g, 0, none⟩) fl c5) fl (tx.map B) from k10.owns P9.out (fun q hq hm => by simp at hm; simp [Value.ownBlock] at hq; have := hg6.out; have := h8b.out; omega))
        have hne8 := hid (show g8 ≠ w.heap.size ∧ g8 ≠ w.heap.size + 2 from by
          have h1 := S9.out.rb g8 rfl
          exact ⟨h1.1, h1.2 (w.heap.size + 2, .cells [.slice none 0 0, .int .i64 0].toArray 29 (0, 0)) (by rw [HX.out]; simp)⟩)
        have bx10 := hid (k10.at S9.out.bx (by have := hne8.out.1; simp; omega))
        have rs10 := hid (k10.at (S9.out.xs (w.heap.size + 2, .cells [.slice none 0 0, .int .i64 0].toArray 29 (0, 0)) (by rw [HX.out]; simp)).1 (by have := hne8.out.2; simp; omega))
        have kw10 := hid (show Kept [] w w10 from S9.out.nx.kept.trans' k10 (fun q hq hm => by simp at hm; have := h8b.out; have := hw8b.out; omega))
        have th10 := hid (show ∀ y ∈ es.set i ne, y.id.length = 32 ∧ (∃ a c, y.v = .slice a y.b.length c ∧ SrcB w10 y.v y.b) ∧ (y.b ≠ [] → ∀ q, y.v.ownBlock = some q → q ≠ w.heap.size + 2) ∧ (y ∈ es ∨ ∀ q, y.v.ownBlock = some q → w.heap.size ≤ q) from fun y hy => by
          rcases List.mem_or_eq_of_mem_set hy with h1 | h1
          · obtain ⟨b, hr⟩ := S9.out.nx.rk
            obtain ⟨h32, a, c, e1, e2⟩ := hr.th y h1
            have hlo := S9.out.lo y h1
            exact ⟨h32, ⟨a, c, e1, k_src_kept e2 k10 (fun hne q hq hm => by simp at hm; have := hlo (fun h0 => hne (by rw [h0]; rfl)) q hq; have := h8b.out; have := hw8b.out; omega)⟩, fun hne q hq => by have := hlo hne q hq; omega, Or.inl h1⟩
          · rw [h1, hne]
            refine ⟨by rw [HFI.out]; exact L32.out, ⟨some ⟨g, 0, none⟩, c5, by dsimp only; rw [htl.out], Or.inr ⟨_, _, by dsimp only; rw [htl.out], P10.out.cells (g := g) rfl⟩⟩, fun _ q hq => ?_, Or.inr (fun q hq => ?_)⟩
            · simp [Value.ownBlock] at hq
              have h5 := lt_of_block rs10.out
              have := hgb.out; have := hw22.out
              omega
            · simp [Value.ownBlock] at hq
              have := hgb.out; have := hw2b.out
              omega)
        have hld := hid (rk_ld w10 w.heap.size (.slice (some ⟨g8, 0, none⟩) n c8) lim bx10.out)
        unfold rK at hld
        obtain ⟨w11, hw11⟩ : ∃ V, V = w10.setRow (w.heap.size + 2) (splice [.slice none 0 0, .int .i64 0] 0 [.slice (some ⟨g8, 0, none⟩) n c8, .int .i64 lim]).toArray := ⟨_, rfl⟩
        have HW11 := hid hw11
        have hl1 := hid (rk_ld w11 (w.heap.size + 2) (.slice (some ⟨g8, 0, none⟩) n c8) lim (by rw [hw11]; exact setRow_heap _ _ _ _ _ _ rs10.out))
        have kk11 : Kept [w.heap.size + 2] w10 w11 := by rw [hw11]; exact (Kept.refl [w.heap.size + 2] w10).setRow (fun _ => by simp) _
        have hnx := hid (show Nx w w11 (.slice (some x) n rc) (.slice (some ⟨g8, 0, none⟩) n c8) (es.set i ne) from
          ⟨kw10.out.trans' kk11 (fun q hq hm => by simp at hm; omega), ⟨w6.heap.size, by
            have := kk11.owns O10.out (fun q hq hm => by simp [Value.ownBlock] at hq; simp at hm; exact hne8.out.2 (by omega))
            rw [List.length_set, ← HN.out]; exact this, fun y hy => by
            obtain ⟨h32, ⟨a, c, e1, e2⟩, e3, _⟩ := th10.out y hy
            exact ⟨h32, a, c, e1, k_src_kept e2 kk11 (fun hne q hq hm => by simp at hm; exact e3 (fun h0 => hne (by rw [h0]; rfl)) q hq hm)⟩, by
            have h2 := kk11.size; have h4 := (O10.out.lt g8 rfl).2; have := h8b.out; omega⟩, fun q hq => Or.inr (by simp [Value.ownBlock] at hq; have := h8b.out; have := hw8b.out; omega)⟩)
        have hmem := hid (show ∀ y ∈ es.set i ne, y ∈ es ∨ ∀ q, y.v.ownBlock = some q → w.heap.size ≤ q from fun y hy => (th10.out y hy).2.2.2)
        have hyes := hid (show spoilL id bit (datE es) = some (datE (es.set i ne)) from by
          unfold spoilL
          rw [hfind.out]
          have hb0 : f.b ≠ [] := fun h0 => by have h1 := HFL.out; rw [h0] at h1; simp at h1; have := hfp.out; omega
          dsimp only
          rw [if_neg hb0, hne, HTX.out]
          exact (congrArg some (dat_set HF3.out HFI.out HND.out _ (fun b => flipB b (bitAt bit f.b)))).symm)
        clear hw10 k10 hne O9 P9 S9 th10 hw11 kk11 O10 P10 had hx8 S6 O6
        rw [← HX8.out]
        go_upto_region 11 with fail
        rw [← HW10.out]
        rw [HX8.out]
        clear HW10 hc9 hq9 hf9
        go_wp2_with (refine wpList_ldv rfl 29 (.tmp 3) rfl ⟨w.heap.size, 0, none⟩ rfl (.agg #[.slice (some ⟨g8, 0, none⟩) n c8, .int .i64 lim]) hld.out ?_; refine halt ?_)
        refine Halt.mk ?_
        go_wp2_with (refine wpList_store_at rfl 29 (.tmp 6) (.tmp 71) rfl (w.heap.size + 2) 0 [.slice (some ⟨g8, 0, none⟩) n c8, .int .i64 lim] rfl rfl 29 [.slice none 0 0, .int .i64 0] rs10.out (by kernel_rfl) (by simp) (k_two _ _ _ _) ?_; refine halt ?_)
        refine Halt.mk ?_
        rw [← HW11.out]
        go_wp2_with fail
        refine bodyPost_ret (v := .tuple #[rK (.slice (some ⟨g8, 0, none⟩) n c8) lim, .bool true]) (results_cell2 Tryd.results14 rfl rfl hl1.out) rfl ?_
        exact ⟨_, es.set i ne, by rw [hyes.out]; rfl, hnx.out, by rw [hyes.out]; rfl, hmem.out⟩
      · obtain ⟨u, rfl⟩ : ∃ u : Nat, T = (u : Int) := ⟨T.toNat, by omega⟩
        have HU := hid (show (u : Int) = bit % (d : Int) from by have h5 := hem.out; rw [if_neg hneg] at h5; omega)
        have hud : u < 8 * fl := by have := HTB.out; have := HD.out; omega
        have hnd : decide ((u : Int) < 0) = false := decide_eq_false hneg
        clear hneg
        go_upto_region 8 with fail
        clear hnd
        obtain ⟨sb, hsb⟩ : ∃ sb, f.b[u / 8]? = some sb := ⟨f.b[u / 8]'(by rw [← HFL.out]; omega), by simp⟩
        have gl := O5.out.cellAt (u / 8) (by omega)
        rw [List.getElem?_map, hsb] at gl
        have gld : w5.drew.cell? ⟨g, u / 8, none⟩ = some (.int .u8 (sb.toNat : Int)) := gl
        have gfd : w5.drew.frozen? ⟨g, u / 8, none⟩ = false := O5.out.frozenAt _
        have Hsb := hid hsb
        obtain ⟨kk, hkk⟩ : ∃ kk, kk = u / 8 := ⟨_, rfl⟩
        obtain ⟨rr, hr8⟩ : ∃ rr, rr = u % 8 := ⟨_, rfl⟩
        obtain ⟨b8, hm2, hsh⟩ := sh_u8 rr (by omega)
        rw [← hkk] at gld gfd
        have f1 : (0 : Int) ≤ (kk : Int) := by omega
        have f2 : (kk : Int) < (fl : Int) := by omega
        have f3 : kk < fl := by omega
        obtain ⟨Z, hZ⟩ : ∃ Z : Int, Z = (u : Int) := ⟨_, rfl⟩
        have hZ0 : 0 ≤ Z := by omega
        have d2 : Z.tdiv 8 = (kk : Int) := by rw [Int.tdiv_eq_ediv_of_nonneg hZ0]; omega
        have d3 : Z.tmod 8 = (rr : Int) := by rw [Int.tmod_eq_emod_of_nonneg hZ0]; omega
        have e2 : IntKind.i64.wrap (Z.tdiv 8) = (kk : Int) := by rw [d2]; exact IntWalk.i64_in _ (by omega)
        have e4 : IntKind.i64.wrap (Z.tmod 8) = (rr : Int) := by rw [d3]; exact IntWalk.i64_in _ (by omega)
        rw [← hZ]
        have HKK := hid hkk; have HR8 := hid hr8; have HM2 := hid hm2; have HR9 := hid (show rr < 8 by omega); have HZ := hid hZ
        clear d2 hZ hsb gl hkk hr8 hm2 w1m hd0 hd1
        refine wp_region_still_tail 13 (by kernel_rfl) (by kernel_rfl) ?_
        simp only [List.take_succ_cons, List.take_zero, List.drop_succ_cons, List.drop_zero]
        change wpStill _ _ w5.drew _ _ _
        repeat still_step
        refine wpStill_nil ?_
        go_upto_region 9 with fail
        have hxv := xo_8 sb b8
        have hp8 : (2 : Int) ^ min rr 8 % 256 = (b8.toNat : Int) := by rw [HM2.out]; exact po_8 rr HR9.out
        rw [hp8, hxv]
        generalize IntKind.u8.wrap (2 ^ min rr 8) = z8
        clear e2 e4 hsh d3 f1 f2 f3 gfd gld hxv hp8
        obtain ⟨w6, hw6⟩ : ∃ w6, w6 = (w5.setCell ⟨g, kk, none⟩ (.int .u8 ((sb ^^^ b8).toNat : Int))).drew := ⟨_, rfl⟩
        rw [← hw6]
        have k6 : Kept [g] w5 w6 := by rw [hw6]; exact (kset w5 g kk _).drew
        have k26 : Kept [] w2 w6 := k5.out.trans' k6 (fun x hx hm => by simp at hm; have := hgb.out; omega)
        have S6 := hid (S2.out.keep k26)
        obtain ⟨tx, htx⟩ : ∃ tx, tx = flipB f.b (bitAt bit f.b) := ⟨_, rfl⟩
        have hflip : tx = f.b.set kk (sb ^^^ b8) := by
          have hbu : bitAt bit f.b = u := by
            unfold bitAt
            rw [← HFL.out, ← HD.out, ← HU.out]
            rfl
          rw [htx, hbu]
          unfold flipB
          rw [← HKK.out, HM2.out, HR8.out]
          have h1 := Hsb.out
          rw [← HKK.out] at h1
          rw [List.getD_eq_getElem?_getD, h1]
          rfl
        have HTX := hid htx
        have htl := hid (show tx.length = fl from by rw [hflip, List.length_set, HFL.out])
        have O6 := hid (show w6.ownsRow w2.heap.size 5 1 (.slice (some ⟨g, 0, none⟩) fl c5) fl (tx.map B) from by
          rw [hw6, hflip]
          exact own_sb (w := w5) O5.out kk (sb ^^^ b8))
        have hsz6 := hid k26.size
        have hg6 := hid (show g < w6.heap.size from (O6.out.lt g rfl).2)
        have hw2b := hid (lt_of_block S2.out.bx)
        have hw22 := hid (lt_of_block hB2.out)
        clear hflip htx hw6 k6 S5 O5 k26 S2 HC2 HQ1 hB2 hrow2
        obtain ⟨i0, hi0, hy0, hy1, hy2⟩ := k_split info_kept
        obtain ⟨b6, hr6⟩ := S6.out.nx.rk
        have hrw6 := hr6.row
        rw [← HN.out] at hrw6
        obtain ⟨w7, hw7⟩ : ∃ V, V = w6.alloc (.cells #[] 48) := ⟨_, rfl⟩
        have k7 : Kept [] w6 w7 := by rw [hw7]; exact (Kept.refl [] w6).alloc _
        have S7 := hid (S6.out.keep k7)
        have hc7 : (w6.alloc (.cells #[] 48)).cell? ⟨w.heap.size, 0, none⟩ = some (.slice (some x) n rc) := by rw [← hw7, cell_of_row _ _ 0 _ _ _ S7.out.bx]; rfl
        have ha7 := hid (show w7.ownsRow w6.heap.size 48 33 (.slice (some ⟨w6.heap.size, 0, none⟩) 0 0) 0 [] from by rw [hw7]; exact World.ownsRow_made w6 (base := w6.heap.size) (e := 48) (size := 33) #[] 0 (Nat.le_refl _) (by decide) (by simp))
        have hsz7 := hid (show w6.heap.size < w7.heap.size from by rw [hw7]; simp)
        have hsr7 := hid (show Src w7 (.slice (some x) n rc) n (kC es) from ke_src (k7.owns hrw6 (by simp)) (by rw [kC_len, HN.out]))
        have hone := kC_one es hr6.one
        have HW7 := hid hw7
        have hn5 : n ≤ 1000 := by rw [HN.out]; exact HM.out
        clear hw7 k7 hr6 hrw6
        go_wp2_with (at_builtin; refine halt ?_)
        refine Halt.mk ?_
        rw [← HW7.out]
        refine wpList_append_k _ rfl _ _ _ rfl w6.heap.size 48 i0 _ 33 56 Tryd.underlying27 hi0 hy0 hy1 hy2 (by simp [Value.cells, zid]) (by decide) (.slice (some ⟨w6.heap.size, 0, none⟩) 0 0) 0 [] rfl ha7.out (.slice (some x) n rc) n (kC es) rfl hsr7.out (by rw [kC_len, HN.out]) hone (by unfold maxLen; omega) (by omega) (by have := hsz7.out; omega) ?_
        intro v8 w8 hown8 hgr8 _ hf8
        simp only [Nat.zero_add, List.nil_append] at hown8
        obtain ⟨a8, c8, rfl⟩ := owns_slice hown8
        obtain ⟨g8, rfl⟩ : ∃ g, a8 = some ⟨g, 0, none⟩ := by
          rcases hown8.2 with ⟨h1, h2⟩ | ⟨g, cap, cur, h1, _⟩
          · exfalso; have := HIN.out; omega
          · simp at h1; exact ⟨g, h1.1⟩
        have k68 : Kept [] w6 w8 := by
          have k78 : Kept [w6.heap.size] w7 w8 := Kept.of_row hgr8
          have k67 : Kept [] w6 w7 := by rw [HW7.out]; exact (Kept.refl [] w6).alloc _
          exact k67.trans' k78 (fun y hy hm => by simp at hm; omega)
        have h8b := hid (hown8.lt g8 rfl)
        have hw8b := hid (lt_of_block S6.out.bx)
        have bx8 := k68.at S6.out.bx (by simp)
        obtain ⟨w9, hw9⟩ : ∃ V, V = w8.setCell ⟨w.heap.size, 0, none⟩ (.slice (some ⟨g8, 0, none⟩) n c8) := ⟨_, rfl⟩
        have k89 : Kept [w.heap.size] w8 w9 := by rw [hw9]; exact (Kept.refl [w.heap.size] w8).setCell (p := ⟨w.heap.size, 0, none⟩) (fun _ => by simp) _
        have S9 := hid (show BoxS w w9 X lim (.slice (some x) n rc) es (.slice (some ⟨g8, 0, none⟩) n c8) es from
          S6.out.turn ⟨k68, ⟨w6.heap.size, by simpa [HN.out] using hown8, fun y hy => by
            obtain ⟨b, hr⟩ := (S6.out.keep k68).nx.rk
            exact hr.th y hy, k68.size⟩, fun q hq => Or.inr (hown8.lt q hq).1⟩ (fun y hy => hy) k89 (by rw [hw9, Go.heap_setCell_same w8 w.heap.size 0 _ _ _ bx8]; rfl))
        have O9 := hid (show w9.ownsRow w6.heap.size 48 33 (.slice (some ⟨g8, 0, none⟩) n c8) n (kC es) from k89.owns hown8 (fun q hq hm => by simp at hm; have h1 := (hown8.lt q hq).1; have := hw8b.out; omega))
        have P9 := hid (show w9.ownsRow w2.heap.size 5 1 (.slice (some ⟨g, 0, none⟩) fl c5) fl (tx.map B) from k89.owns (k68.owns O6.out (by simp)) (fun q hq hm => by simp at hm; have h1 := (O6.out.lt q hq).1; have := hw2b.out; omega))
        have hr0 : w8.cell? ⟨w.heap.size, 0, none⟩ = some (.slice (some x) n rc) := by rw [cell_of_row _ _ 0 _ _ _ bx8]; rfl
        have hf0 : w8.frozen? ⟨w.heap.size, 0, none⟩ = false := k_free bx8 0
        have HW9 := hid hw9
        clear hown8 hgr8 hf8 k68 k89 hc7 S7 ha7 hsr7 HW7 hone bx8 hw9
        go_upto_region 10 with fail
        rw [← HW9.out]
        obtain ⟨x8, hx8⟩ : ∃ x8, x8 = (⟨g8, 0, none⟩ : Addr) := ⟨_, rfl⟩
        have HX8 := hid hx8
        have hc9 : w9.cell? ⟨w.heap.size, 0, none⟩ = some (.slice (some x8) n c8) := by rw [hx8, cell_of_row _ _ 0 _ _ _ S9.out.bx]; rfl
        have had : (⟨(x8.add (i * 33)).block, (x8.add (i * 33)).off + 32, none⟩ : Addr) = ⟨g8, i * 33 + 32, none⟩ := by rw [hx8, k_plain]
        have hq9 : w9.cell? ⟨(x8.add (i * 33)).block, (x8.add (i * 33)).off + 32, none⟩ = some f.v := by
          rw [had]
          have h1 := O9.out.cells (g := g8) rfl _ _ (kC_v HF3.out)
          rwa [k_plain] at h1
        have hf9 : w9.frozen? ⟨(x8.add (i * 33)).block, (x8.add (i * 33)).off + 32, none⟩ = false := by rw [had]; exact O9.out.frozenAt _
        obtain ⟨w10, hw10⟩ : ∃ V, V = w9.setCell ⟨(x8.add (i * 33)).block, (x8.add (i * 33)).off + 32, none⟩ (.slice (some ⟨g, 0, none⟩) fl c5) := ⟨_, rfl⟩
        have HW10 := hid hw10
        rw [had] at hw10
        have k10 : Kept [g8] w9 w10 := by rw [hw10]; exact (Kept.refl [g8] w9).setCell (p := ⟨g8, i * 33 + 32, none⟩) (fun _ => by simp) _
        obtain ⟨ne, hne⟩ : ∃ ne : KE, ne = ⟨f.id, .slice (some ⟨g, 0, none⟩) fl c5, tx⟩ := ⟨_, rfl⟩
        have O10 := hid (show w10.ownsRow w6.heap.size 48 33 (.slice (some ⟨g8, 0, none⟩) n c8) n (kC (es.set i ne)) from by
          rw [hw10, hne, kC_set es i f HF3.out]
          exact (O9.out.stored (i * 33 + 32) _).1)
        have P10 := hid (show w10.ownsRow w2.heap.size 5 1 (.slice (some ⟨g, 0, none⟩) fl c5) fl (tx.map B) from k10.owns P9.out (fun q hq hm => by simp at hm; simp [Value.ownBlock] at hq; have := hg6.out; have := h8b.out; omega))
        have hne8 := hid (show g8 ≠ w.heap.size ∧ g8 ≠ w.heap.size + 2 from by
          have h1 := S9.out.rb g8 rfl
          exact ⟨h1.1, h1.2 (w.heap.size + 2, .cells [.slice none 0 0, .int .i64 0].toArray 29 (0, 0)) (by rw [HX.out]; simp)⟩)
        have bx10 := hid (k10.at S9.out.bx (by have := hne8.out.1; simp; omega))
        have rs10 := hid (k10.at (S9.out.xs (w.heap.size + 2, .cells [.slice none 0 0, .int .i64 0].toArray 29 (0, 0)) (by rw [HX.out]; simp)).1 (by have := hne8.out.2; simp; omega))
        have kw10 := hid (show Kept [] w w10 from S9.out.nx.kept.trans' k10 (fun q hq hm => by simp at hm; have := h8b.out; have := hw8b.out; omega))
        have th10 := hid (show ∀ y ∈ es.set i ne, y.id.length = 32 ∧ (∃ a c, y.v = .slice a y.b.length c ∧ SrcB w10 y.v y.b) ∧ (y.b ≠ [] → ∀ q, y.v.ownBlock = some q → q ≠ w.heap.size + 2) ∧ (y ∈ es ∨ ∀ q, y.v.ownBlock = some q → w.heap.size ≤ q) from fun y hy => by
          rcases List.mem_or_eq_of_mem_set hy with h1 | h1
          · obtain ⟨b, hr⟩ := S9.out.nx.rk
            obtain ⟨h32, a, c, e1, e2⟩ := hr.th y h1
            have hlo := S9.out.lo y h1
            exact ⟨h32, ⟨a, c, e1, k_src_kept e2 k10 (fun hne q hq hm => by simp at hm; have := hlo (fun h0 => hne (by rw [h0]; rfl)) q hq; have := h8b.out; have := hw8b.out; omega)⟩, fun hne q hq => by have := hlo hne q hq; omega, Or.inl h1⟩
          · rw [h1, hne]
            refine ⟨by rw [HFI.out]; exact L32.out, ⟨some ⟨g, 0, none⟩, c5, by dsimp only; rw [htl.out], Or.inr ⟨_, _, by dsimp only; rw [htl.out], P10.out.cells (g := g) rfl⟩⟩, fun _ q hq => ?_, Or.inr (fun q hq => ?_)⟩
            · simp [Value.ownBlock] at hq
              have h5 := lt_of_block rs10.out
              have := hgb.out; have := hw22.out
              omega
            · simp [Value.ownBlock] at hq
              have := hgb.out; have := hw2b.out
              omega)
        have hld := hid (rk_ld w10 w.heap.size (.slice (some ⟨g8, 0, none⟩) n c8) lim bx10.out)
        unfold rK at hld
        obtain ⟨w11, hw11⟩ : ∃ V, V = w10.setRow (w.heap.size + 2) (splice [.slice none 0 0, .int .i64 0] 0 [.slice (some ⟨g8, 0, none⟩) n c8, .int .i64 lim]).toArray := ⟨_, rfl⟩
        have HW11 := hid hw11
        have hl1 := hid (rk_ld w11 (w.heap.size + 2) (.slice (some ⟨g8, 0, none⟩) n c8) lim (by rw [hw11]; exact setRow_heap _ _ _ _ _ _ rs10.out))
        have kk11 : Kept [w.heap.size + 2] w10 w11 := by rw [hw11]; exact (Kept.refl [w.heap.size + 2] w10).setRow (fun _ => by simp) _
        have hnx := hid (show Nx w w11 (.slice (some x) n rc) (.slice (some ⟨g8, 0, none⟩) n c8) (es.set i ne) from
          ⟨kw10.out.trans' kk11 (fun q hq hm => by simp at hm; omega), ⟨w6.heap.size, by
            have := kk11.owns O10.out (fun q hq hm => by simp [Value.ownBlock] at hq; simp at hm; exact hne8.out.2 (by omega))
            rw [List.length_set, ← HN.out]; exact this, fun y hy => by
            obtain ⟨h32, ⟨a, c, e1, e2⟩, e3, _⟩ := th10.out y hy
            exact ⟨h32, a, c, e1, k_src_kept e2 kk11 (fun hne q hq hm => by simp at hm; exact e3 (fun h0 => hne (by rw [h0]; rfl)) q hq hm)⟩, by
            have h2 := kk11.size; have h4 := (O10.out.lt g8 rfl).2; have := h8b.out; omega⟩, fun q hq => Or.inr (by simp [Value.ownBlock] at hq; have := h8b.out; have := hw8b.out; omega)⟩)
        have hmem := hid (show ∀ y ∈ es.set i ne, y ∈ es ∨ ∀ q, y.v.ownBlock = some q → w.heap.size ≤ q from fun y hy => (th10.out y hy).2.2.2)
        have hyes := hid (show spoilL id bit (datE es) = some (datE (es.set i ne)) from by
          unfold spoilL
          rw [hfind.out]
          have hb0 : f.b ≠ [] := fun h0 => by have h1 := HFL.out; rw [h0] at h1; simp at h1; have := hfp.out; omega
          dsimp only
          rw [if_neg hb0, hne, HTX.out]
          exact (congrArg some (dat_set HF3.out HFI.out HND.out _ (fun b => flipB b (bitAt bit f.b)))).symm)
        clear hw10 k10 hne O9 P9 S9 th10 hw11 kk11 O10 P10 had hx8 S6 O6
        rw [← HX8.out]
        go_upto_region 11 with fail
        rw [← HW10.out]
        rw [HX8.out]
        clear HW10 hc9 hq9 hf9
        go_wp2_with (refine wpList_ldv rfl 29 (.tmp 3) rfl ⟨w.heap.size, 0, none⟩ rfl (.agg #[.slice (some ⟨g8, 0, none⟩) n c8, .int .i64 lim]) hld.out ?_; refine halt ?_)
        refine Halt.mk ?_
        go_wp2_with (refine wpList_store_at rfl 29 (.tmp 6) (.tmp 71) rfl (w.heap.size + 2) 0 [.slice (some ⟨g8, 0, none⟩) n c8, .int .i64 lim] rfl rfl 29 [.slice none 0 0, .int .i64 0] rs10.out (by kernel_rfl) (by simp) (k_two _ _ _ _) ?_; refine halt ?_)
        refine Halt.mk ?_
        rw [← HW11.out]
        go_wp2_with fail
        refine bodyPost_ret (v := .tuple #[rK (.slice (some ⟨g8, 0, none⟩) n c8) lim, .bool true]) (results_cell2 Tryd.results14 rfl rfl hl1.out) rfl ?_
        exact ⟨_, es.set i ne, by rw [hyes.out]; rfl, hnx.out, by rw [hyes.out]; rfl, hmem.out⟩
end Go.Proofs.YtmkdjonlfkfnlaaDoor


/- CachePlays: the cache and its reference, side by side. -/
namespace Go.Proofs.YtmkdjonlfkfnlaaDoor
open Go.RowKit Go.Lib Go.Maps

/-- The cache holds l, its reference es, in its own row, whose box is xb. -/
structure PC (w W : World) (p : Nat) (lm : Int) (xb : Nat) (U : List Nat) (l : List (List UInt8 × List UInt8)) (rv : Value) (es : List KE) : Prop where
  cs : CS w W U p lm l
  rk : ∃ base, Rk W base rv es
  rb : ∀ g, rv.ownBlock = some g → g ∉ U ∧ g ≠ xb ∧ w.heap.size ≤ g
  th : ∀ e ∈ es, e.b ≠ [] → ∀ g, e.v.ownBlock = some g → g ∉ U ∧ g ≠ xb
  bx : W.heap[xb]? = some (.cells [rv, .int .i64 lm].toArray 29 (0, 0))
  xU : xb ∉ U ∧ w.heap.size ≤ xb
variable {w W W' V : World} {p xb : Nat} {lm : Int} {U U' : List Nat} {l l' : List (List UInt8 × List UInt8)} {rv rv' : Value} {es es' : List KE}
theorem PC.nodup (h : PC w W p lm xb U l rv es) : (l.map (·.1)).Nodup := by
  obtain ⟨ns, h1, h2⟩ := h.cs.ca
  rw [← h2, ids_dat]
  exact h1.ids
theorem PC.lt (h : PC w W p lm xb U l rv es) : xb < W.heap.size := lt_of_block h.bx
theorem PC.kept {S : List Nat} (h : PC w W p lm xb U l rv es) (hk : Kept S W W') (hS : ∀ x ∈ S, x ∉ U ∧ x ≠ xb ∧ w.heap.size ≤ x ∧ rv.ownBlock ≠ some x) (hT : ∀ x ∈ S, ∀ e ∈ es, e.b ≠ [] → e.v.ownBlock ≠ some x) : PC w W' p lm xb U l rv es := by
  obtain ⟨h1, ⟨b, h2⟩, h3, h4, h5, h6⟩ := h
  exact ⟨h1.keep hk (fun x hx hm => (hS x hm).1 hx) (fun x hx => (hS x hx).2.2.1), ⟨b, h2.kept hk (fun g hg hm => (hS g hm).2.2.2 hg) (fun e he hne g hg hm => hT g hm e he hne hg)⟩, h3, h4, hk.at h5 (fun hm => (hS xb hm).2.1 rfl), h6⟩
theorem PC.keep (h : PC w W p lm xb U l rv es) (hk : Kept [] W W') : PC w W' p lm xb U l rv es := h.kept hk (by simp) (by simp)
/-- What lies behind all that there was is apart. -/
theorem PC.fresh {g : Nat} (h : PC w W p lm xb U l rv es) (hg : W.heap.size ≤ g) : g ∉ U ∧ g ≠ xb ∧ w.heap.size ≤ g ∧ rv.ownBlock ≠ some g ∧ ∀ e ∈ es, e.b ≠ [] → e.v.ownBlock ≠ some g := by
  have h1 := h.lt
  obtain ⟨b, hr⟩ := h.rk
  refine ⟨fun hm => by have := (h.cs.bound _ hm).2; omega, by omega, by have := h.cs.kept.size; omega, fun hm => by have := (hr.row.lt g hm).2; omega, fun e he hne hm => by have := hr.lt e he hne g hm; omega⟩
/-- The reference turned, its box written. -/
theorem PC.turn (h : PC w W p lm xb U l rv es) (hn : Nx W W' rv rv' es') (hv : ∀ e ∈ es', e ∈ es ∨ ∀ g, e.v.ownBlock = some g → (e.b ≠ [] → g < w.heap.size) ∨ W.heap.size ≤ g)
    (k1 : Kept [xb] W' V) (hb : V.heap[xb]? = some (.cells [rv', .int .i64 lm].toArray 29 (0, 0))) : PC w V p lm xb U l rv' es' := by
  have hx := h.lt
  have hc := h.cs.keep0 hn.kept
  have hth : ∀ e ∈ es', e.b ≠ [] → ∀ g, e.v.ownBlock = some g → g ∉ U ∧ g ≠ xb := fun e he hne g hg => by
    rcases hv e he with h1 | h1
    · exact h.th e h1 hne g hg
    · rcases h1 g hg with h2 | h2
      · have h2 := h2 hne
        exact ⟨fun hm => by have := (h.cs.bound _ hm).1; omega, by have := h.xU.2; omega⟩
      · exact ⟨fun hm => by have := (h.cs.bound _ hm).2; omega, by omega⟩
  have hrb : ∀ g, rv'.ownBlock = some g → g ∉ U ∧ g ≠ xb ∧ w.heap.size ≤ g := fun g hg => by
    rcases hn.own g hg with h1 | h1
    · exact h.rb g h1
    · exact ⟨fun hm => by have := (h.cs.bound _ hm).2; omega, by omega, by have := h.cs.kept.size; omega⟩
  obtain ⟨b, hr⟩ := hn.rk
  exact ⟨hc.keep k1 (fun y hy hm => by simp at hm; rw [hm] at hy; exact h.xU.1 hy) (fun y hy => by simp at hy; rw [hy]; exact h.xU.2), ⟨b, hr.kept k1 (fun g hg hm => by simp at hm; exact (hrb g hg).2.1 hm) (fun e he hne g hg hm => by simp at hm; exact (hth e he hne g hg).2 hm)⟩, hrb, hth, hb, h.xU⟩
/-- The cache turned. -/
theorem PC.cache (h : PC w W p lm xb U l rv es) (hk : Kept U W V) (hm : More W V U U') (hc : CS w V U' p lm l') : PC w V p lm xb U' l' rv es := by
  have hx := h.lt
  obtain ⟨b, hr⟩ := h.rk
  refine ⟨hc, ⟨b, hr.kept hk (fun g hg hm => (h.rb g hg).1 hm) (fun e he hne g hg hm => (h.th e he hne g hg).1 hm)⟩, fun g hg => ⟨fun hq => ?_, (h.rb g hg).2⟩, fun e he hne g hg => ⟨fun hq => ?_, (h.th e he hne g hg).2⟩, hk.at h.bx h.xU.1, ⟨fun hq => ?_, h.xU.2⟩⟩
  · rcases hm.1 _ hq with h1 | h1
    · exact (h.rb g hg).1 h1
    · have := (hr.row.lt g hg).2; omega
  · rcases hm.1 _ hq with h1 | h1
    · exact (h.th e he hne g hg).1 h1
    · have := hr.lt e he hne g hg; omega
  · rcases hm.1 _ hq with h1 | h1
    · exact h.xU.1 h1
    · omega
/-- Behind i steps. -/
structure PI (w W : World) (p : Nat) (lm : Int) (xb i : Nat) : Prop where
  ex : ∃ U rv es, PC w W p lm xb U (datE es) rv es ∧ szD (datE es) ≤ 100 * i ∧ es.length ≤ i ∧ (∀ e ∈ es, e.b.length ≤ 100)
theorem PC.nd (h : PC w W p lm xb U (datE es) rv es) : (es.map (·.id)).Nodup := by
  have h1 := h.nodup
  unfold datE at h1
  rw [List.map_map] at h1
  exact h1
theorem k_flip_len (bs : List UInt8) (u : Nat) : (flipB bs u).length = bs.length := by unfold flipB; rw [List.length_set]
theorem spoil_lens (id : List UInt8) (bit : Int) (l : List (List UInt8 × List UInt8)) : ((spoilL id bit l).getD l).map (·.2.length) = l.map (·.2.length) := by
  unfold spoilL
  cases h : findD id l with
  | none => rfl
  | some bs =>
    dsimp only
    by_cases hb : bs = []
    · rw [if_pos hb]; rfl
    · rw [if_neg hb]
      simp only [Option.getD_some, List.map_map]
      refine List.map_congr_left (fun e _ => ?_)
      simp only [Function.comp]
      split
      · exact k_flip_len _ _
      · rfl
theorem len_of_dat {es : List KE} {l : List (List UInt8 × List UInt8)} (h : datE es = l) : es.length = l.length := by rw [← h]; unfold datE; simp
theorem bl_of_lens {es es' : List KE} (h : (datE es').map (·.2.length) = (datE es).map (·.2.length)) (hb : ∀ e ∈ es, e.b.length ≤ 100) : ∀ e ∈ es', e.b.length ≤ 100 := by
  intro e he
  have h1 : e.b.length ∈ (datE es').map (·.2.length) := by unfold datE; rw [List.map_map]; exact List.mem_map.2 ⟨e, he, rfl⟩
  rw [h] at h1
  unfold datE at h1
  rw [List.map_map] at h1
  obtain ⟨f, hf, he2⟩ := List.mem_map.1 h1
  rw [← he2]
  exact hb f hf
theorem k_kept_cells (b : Nat) : ∀ (vs : List Value) (o : Nat) (w : World), Kept [b] w (w.setCells b o vs)
  | [], o, w => Kept.refl _ _
  | v :: r, o, w => ((Kept.refl [b] w).setCell (p := ⟨b, o, none⟩) (fun _ => by simp) v).trans (k_kept_cells b r (o + 1) _)
/-- A row of bytes of the call's own is cleared. -/
theorem k_clear (w : World) {base : Nat} {a : Option Addr} {n c : Nat} {xs : List Value} (h : w.ownsRow base 5 1 (.slice a n c) n xs) :
    ∃ w', (∀ ty, (Builtin.clear_ #[30] ty #[.slice a n c]).run Tryd.prog w = .ok (.tuple #[]) w') ∧ Kept (Value.slice a n c).ownBlock.toList w w' := by
  have hu : (underlying 30).run Tryd.prog w = .ok (.slice 5) w := run_underlying Tryd.underlying30 w
  rcases h.2 with ⟨h1, h2⟩ | ⟨g, cap, cur, h1, hb, hh, h3, h4, h5, _⟩
  · simp at h1; obtain ⟨rfl, rfl, rfl⟩ := h1
    exact ⟨w, fun ty => by unfold Builtin.clear_; simp [Sem.run_bind, hu, Result.andThen_ok, Sem.run_pure], Kept.refl _ _⟩
  · simp at h1; obtain ⟨rfl, rfl⟩ := h1
    by_cases hn : 0 < n
    · refine ⟨_, fun ty => Lib.run_clear_slice w 30 5 ty (.int .u8 0) Tryd.underlying30 (fun w => by kernel_rfl) rfl rfl g 0 n c hn (fun j hj => ?_) (fun j hj => ?_), ?_⟩
      · rw [cell_of_row w _ _ _ _ _ hh]; simp; omega
      · exact k_free hh _
      · simpa [Value.ownBlock] using k_kept_cells g _ 0 w
    · obtain rfl : n = 0 := by omega
      exact ⟨w, fun ty => by unfold Builtin.clear_; simp [Sem.run_bind, hu, Result.andThen_ok, Sem.run_pure], Kept.refl _ _⟩
theorem getL_lens_le (id : List UInt8) (es es' : List KE) (hd : datE es' = getL id (datE es)) (hm : ∀ f ∈ es', f ∈ es) (hb : ∀ e ∈ es, e.b.length ≤ 100) : szD (datE es') ≤ szD (datE es) ∧ es'.length ≤ es.length ∧ ∀ e ∈ es', e.b.length ≤ 100 := by
  have h := getL_size id (datE es)
  have h2 := len_of_dat hd
  have h3 : (datE es).length = es.length := by unfold datE; simp
  exact ⟨by rw [hd]; exact h.1, by omega, fun e he => hb e (hm e he)⟩
theorem k_putD_grow (lim : Int) (l : List (List UInt8 × List UInt8)) (ys : List UInt8) : szD (putD lim l ys) ≤ szD l + ys.length := by
  have h1 := szD_drop (Sha.sum ys) l
  unfold putD
  split
  · omega
  · have h2 := szD_evict lim ys.length (dropD (Sha.sum ys) l)
    rw [szD_app]
    simp [szD] at h1 h2 ⊢
    omega
end Go.Proofs.YtmkdjonlfkfnlaaDoor
