import Derived.Test.YtkabfdclecbnpaaMLG
import Derived.Sort.CutIn

/- retain.Keep: the walk. -/
namespace Go.Proofs.Ytkabfdclecbnpaa
open Go.RowKit Go.Lib Go.Sort Go.Shelf
attribute [local go_sem] Oper.semAt_some

section
variable {P : Program} {md : Region.Mode} {Q : Exit → Act → World → Prop} {S : World → Prop} {l rest : List Oper} {oi : Oper} {fuel : Nat} {listed : Array Bool} {a : Act} {w : World}
theorem skipC' (i : Nat) (hi : l.drop i = oi :: rest) (hr : Region.ready md l.toArray listed = [i]) (hw : Region.wanted oi (yielded l.toArray a.tmps) = false) (hS : S w)
    (h : wpAnyH P md l.toArray Q S fuel (listed.setIfInBounds i true) (a.put oi.dst undef) w) : wpAnyH P md l.toArray Q S (fuel + 1) listed a w := by
  refine wpAnyH_ready hr (by simp) (AllReadyH.cons (getL_of_drop hi) (fun K hK => ?_) AllReadyH.nil)
  rw [if_neg (by simp [hw])]
  exact hK.out _ _ hS (fun _ => h)
end
theorem elem_i64 : (Try.prog.elem 33) = 2 := by simp [Program.elem, Try.underlying33]
theorem i64_sz (W : World) : (sizeOf 2).run Try.prog W = .ok 1 W := by kernel_rfl
theorem add_z (z : Addr) : z.add 0 = z := by simp [Addr.add]
theorem slice_tail (z : Addr) (m c : Nat) (hm : 1 ≤ m) (hc : m ≤ c) (hx : c ≤ 9223372036854775807) (W : World) : (Instr.sliceAt 33 (.slice (some z) m c) (some (.int .i64 1)) none none).run Try.prog W = .ok (.slice (some (if c = 1 then z else z.add 1)) (m - 1) (c - 1)) W := by
  rw [run_sliceAt_slice W 33 _ _ _ _ (by simp [Program.elem, Try.underlying33])]
  rw [run_slice_l W 33 _ _ _ (by simp [Program.elem, Try.underlying33]) .i64 1 (by omega) (by omega)]
  rw [elem_i64, i64_sz]
  simp [Result.andThen, sliced]
  split <;> simp_all
theorem downs_at {n i : Nat} {pre : List Nat} (h : pre ++ [i] <+: downs n) : i + 1 + pre.length = n := by
  obtain ⟨r, hr⟩ := h
  have h1 : (downs n)[pre.length]? = some i := by rw [← hr]; simp
  unfold downs at h1
  obtain ⟨h2, h3⟩ := List.getElem?_eq_some_iff.1 h1
  rw [List.getElem_reverse] at h3
  simp at h2 h3
  omega
theorem snapsAt_get (xs : List Sq) : ∀ (qs : List Nat), (∀ q ∈ qs, q < xs.length) → ∀ k : Nat, (snapsAt xs qs)[k]? = (qs[k]?).bind (fun q => xs[q]?)
  | [], _, k => by simp [snapsAt]
  | q :: r, h, k => by
    have hq := h q (by simp)
    have e : snapsAt xs (q :: r) = xs[q] :: snapsAt xs r := by unfold snapsAt; rw [List.filterMap_cons, List.getElem?_eq_getElem hq]
    rw [e]
    cases k with
    | zero => simp [hq]
    | succ k => simp only [List.getElem?_cons_succ]; exact snapsAt_get xs r (fun q hm => h q (by simp [hm])) k
theorem cmp_time (x y : Sp) (h : x.time ≠ y.time) : x.cmp y < 0 ↔ x.time < y.time := by
  unfold Sp.cmp
  have h1 : cmpI x.time y.time ≠ 0 ∧ (cmpI x.time y.time < 0 ↔ x.time < y.time) := by
    unfold cmpI
    by_cases h1 : x.time < y.time
    · simp [h1]
    · have h2 : y.time < x.time := by omega
      simp [h1, h2]
  simp [orL, h1.1, h1.2]
theorem ahead_time {xs : List Sq} {i j : Nat} {x y : Sq} (h : ahead xs i j = true) (hi : xs[i]? = some x) (hj : xs[j]? = some y) : x.1.time ≤ y.1.time := by
  unfold ahead at h
  rw [hi, hj] at h
  simp only [Bool.or_eq_true, decide_eq_true_eq, Bool.and_eq_true] at h
  rcases h with h | ⟨rfl, _⟩
  · by_cases e : x.1.time = y.1.time
    · omega
    · have := (cmp_time x.1 y.1 e).1 h
      omega
  · omega
/-- What a round reads. -/
theorem round_facts {xs : List Sq} {ps qs : List Nat} {ss : List Sq} {n k i : Nat} (ho : Ordered xs ps) (hn : n = xs.length) (hq : qs = ps.reverse) (hs : ss = snapsAt xs qs) (hi : i + 1 + k = n) :
    ∃ q s q0 s0, (ps[i]?).getD 0 = q ∧ ps[i]? = some q ∧ qs[k]? = some q ∧ q < n ∧ xs[q]? = some s ∧ ss[k]? = some s ∧ ps[n - 1]? = some q0 ∧ xs[q0]? = some s0 ∧ (ss.head?.map (·.1.time)).getD 0 = s0.1.time ∧ s.1.time ≤ s0.1.time := by
  have hl : ps.length = n := by rw [ho.perm.length_eq, List.length_range, hn]
  have hb : ∀ q ∈ ps, q < xs.length := fun q hm => by have := ho.perm.mem_iff.1 hm; simpa using this
  have hbq : ∀ q ∈ qs, q < xs.length := fun q hm => hb q (by rw [hq] at hm; simpa using hm)
  have h1 : ps[i]? = some ps[i] := List.getElem?_eq_getElem (by omega)
  have h2 : ps[n - 1]? = some (ps[n - 1]'(by omega)) := List.getElem?_eq_getElem _
  have hq1 := hb ps[i] (List.getElem_mem _)
  have hq2 := hb (ps[n - 1]'(by omega)) (List.getElem_mem _)
  have hk : qs[k]? = some ps[i] := by
    rw [hq, List.getElem?_reverse (by omega), show ps.length - 1 - k = i by omega]; exact h1
  have hk0 : qs[0]? = some (ps[n - 1]'(by omega)) := by
    rw [hq, List.getElem?_reverse (by omega), show ps.length - 1 - 0 = n - 1 by omega]; exact h2
  refine ⟨ps[i], xs[ps[i]], ps[n - 1]'(by omega), xs[ps[n - 1]'(by omega)], by rw [h1]; rfl, h1, hk, by omega, List.getElem?_eq_getElem _, ?_, h2, List.getElem?_eq_getElem _, ?_, ?_⟩
  · rw [hs, snapsAt_get xs qs hbq, hk]; exact List.getElem?_eq_getElem _
  · have : ss.head? = some (xs[ps[n - 1]'(by omega)]) := by
      rw [List.head?_eq_getElem?, hs, snapsAt_get xs qs hbq, hk0]; exact List.getElem?_eq_getElem _
    rw [this]; rfl
  · by_cases e : i = n - 1
    · subst e; exact Int.le_refl _
    · have hp := ho.up
      rw [List.pairwise_iff_getElem] at hp
      exact ahead_time (hp i (n - 1) (by omega) (by omega) (by omega)) (List.getElem?_eq_getElem _) (List.getElem?_eq_getElem _)

set_option maxRecDepth 100000 in
set_option maxHeartbeats 8000000 in
theorem keep_go (a : Option Addr) (c : Nat) (xs : List Sq) (p : Pol) (hp : p.ok) (w : World) (h : Snaps w a c xs) (hl : xs.length ≤ 1000) :
    Calls Try.prog 9 #[.slice a xs.length c, .agg p.cells.toArray] w fun e w' => ∃ v ps ds ks, e = .returned v ∧ Kept [] w w' ∧ Kpt xs p ps ds ks ∧ w'.ownsRow w.heap.size 4 1 v xs.length (ks.map bv) := by
  obtain ⟨n, hn⟩ : ∃ n, n = xs.length := ⟨_, rfl⟩
  have HN := hid hn
  obtain ⟨cp, hcp⟩ : ∃ cp, cp = p.cells := ⟨_, rfl⟩
  have HCP := hid hcp
  obtain ⟨R0, hR0⟩ : ∃ R0, R0 = madeCells #[.bool false] n := ⟨_, rfl⟩
  have HR0 := hid hR0
  obtain ⟨W0, hW0⟩ : ∃ W0, W0 = (((w.alloc (.cells #[.slice a n c] 22)).alloc (.cells cp.toArray 24)).alloc (.cells R0 4)).alloc (.cells #[.slice (some ⟨w.heap.size + 2, 0, none⟩) n n] 26) := ⟨_, rfl⟩
  have K0 := hid (show Kept [] w W0 from hW0 ▸ ((((Kept.refl [] w).alloc _).alloc _).alloc _).alloc _)
  have q1 := hid (show W0.heap[w.heap.size]? = some (.cells #[.slice a n c] 22 (0, 0)) by rw [hW0]; exact heap_alloc_old (heap_alloc_old (heap_alloc_old (heap_alloc_at rfl))))
  have q2 := hid (show W0.heap[w.heap.size + 1]? = some (.cells cp.toArray 24 (0, 0)) by rw [hW0]; exact heap_alloc_old (heap_alloc_old (heap_alloc_at (by simp))))
  have q3 := hid (show W0.heap[w.heap.size + 2]? = some (.cells R0 4 (0, 0)) by rw [hW0]; exact heap_alloc_old (heap_alloc_at (by simp)))
  have q4 := hid (show W0.heap[w.heap.size + 3]? = some (.cells #[.slice (some ⟨w.heap.size + 2, 0, none⟩) n n] 26 (0, 0)) by rw [hW0]; exact heap_alloc_at (by simp))
  have hz0 := hid (show W0.heap.size = w.heap.size + 4 by rw [hW0]; simp)
  have H := hid (fun V (hk : Kept [] w V) => h.kept' hk (by simp))
  have hor := hid (fun V (hk : Kept [] w V) => order_any a c xs V (h.kept' hk (by simp)) hl)
  have hla := hid (fun V (hk : Kept [] w V) => last_any a c xs p hp V (h.kept' hk (by simp)) hl)
  have Hlow := hid (fun x (hx : a = some x) (hne : xs ≠ []) => (show x.block < w.heap.size from by subst hx; exact snaps_low h hne)); have Hp := hid hp
  rw [← hn] at hor hla hl ⊢
  rw [← hcp] at hla ⊢
  have hmk := fun W => make_bools n W (by omega)
  rw [← hR0] at hmk
  have HW0 := hid hW0
  clear hn hcp hR0 hW0 h hp
  refine (callsIn_wide (n := 4)).1 ?_
  refine callsIn_of_wp_marks Try.func9 rfl trivial ?_ rfl
  simp only [Try.ntmps9, List.size_toArray, List.length_cons, List.length_nil, Nat.reduceAdd, Nat.reduceSub, Array.replicate_succ, Array.replicate_zero, List.push_toArray, List.append_toArray, List.nil_append, List.cons_append]
  gi_wp2_with (refine ⟨trivial, ?_⟩; gi_at_call 17; refine halt ?_)
  rw [show w.heap.size + 1 + 1 + 1 = w.heap.size + 3 by omega, show w.heap.size + 1 + 1 = w.heap.size + 2 by omega, ← HW0.out]
  refine Halt.mk ?_
  refine (callsIn_wide.2 (hor.out _ K0.out)).mono ?_
  rintro e w1 ⟨v, ps, rfl, k1, hord, hown, hvn⟩
  obtain ⟨la, lc, rfl⟩ : ∃ la lc, v = .slice la n lc := by
    rcases hown.2 with ⟨h1, h2⟩ | ⟨g, cap, cur, h1, _⟩
    · exact ⟨none, 0, by rw [h1, h2]⟩
    · exact ⟨_, _, h1⟩
  obtain ⟨W1, hW1⟩ : ∃ W1, W1 = w1.alloc (.cells #[.slice la n lc] 32) := ⟨_, rfl⟩
  have K1 := hid k1
  have K11 := hid (show Kept [] w1 W1 from hW1 ▸ (Kept.refl [] w1).alloc _)
  have q6 := hid (show W1.heap[w1.heap.size]? = some (.cells #[.slice la n lc] 32 (0, 0)) by rw [hW1]; exact heap_alloc_at rfl)
  have hz1 := hid (show W1.heap.size = w1.heap.size + 1 by rw [hW1]; simp)
  have HW1 := hid hW1; have HO1 := hid hown; have HORD := hid hord
  have K01 := hid (show Kept [] W0 W1 from K1.out.trans K11.out)
  have c1 : ∀ V, Kept [] W0 V → V.cell? ⟨w.heap.size, 0, none⟩ = some (.slice a n c) := fun V hk => by rw [cell_of_row V _ 0 _ _ _ (hk.at q1.out (by simp))]; rfl
  have C1 := hid c1
  have c1a : w1.cell? ⟨w.heap.size, 0, none⟩ = some (.slice a n c) := c1 w1 k1
  have c1b : W1.cell? ⟨w.heap.size, 0, none⟩ = some (.slice a n c) := c1 W1 K01.out
  have hcl := hid (show cp.length = 5 by rw [HCP.out]; rfl)
  have lpol := hid (show ∀ (j : Nat) u, cp[j]? = some u → W1.cell? ((⟨w.heap.size + 1, 0, none⟩ : Addr).add j) = some u from fun j u hj => by
    have e : (⟨w.heap.size + 1, 0, none⟩ : Addr).add j = ⟨w.heap.size + 1, j, none⟩ := by unfold Addr.add; split <;> simp_all
    rw [e, cell_of_row W1 _ j _ _ _ (K01.out.at q2.out (by simp))]; simpa using hj)
  have hszp := hid (show (Try.prog.info? 24).map (·.size) = some cp.length by rw [hcl.out]; exact info_pol)
  rw [hW1] at c1b
  clear k1 hord hown hor c1 hW1
  gi_wp2_with (first | (refine wpListIn_load_k rfl 24 (.tmp 3) rfl ⟨w.heap.size + 1, 0, none⟩ rfl cp _ Try.underlying24 rfl hszp.out (by rw [← HW1.out]; exact lpol.out) ?_) | (refine ⟨trivial, ?_⟩; gi_at_call 18; refine halt ?_))
  rw [← HW1.out]
  refine Halt.mk ?_
  refine (callsIn_wide.2 (hla.out W1 (K0.out.trans K01.out))).mono ?_
  rintro e w2 ⟨da, dc, ds, rfl, k2, hdl, hdd, hkc, hcm, hdn, hdx⟩
  obtain ⟨dk, hdk⟩ : ∃ dk, dk = kd p ds.length := ⟨_, rfl⟩
  rw [← hdk] at hkc ⊢
  obtain ⟨W2, hW2⟩ : ∃ W2, W2 = w2.alloc (.cells #[.slice da dk dc] 33) := ⟨_, rfl⟩
  have K2 := hid k2
  have K22 := hid (show Kept [] w2 W2 from hW2 ▸ (Kept.refl [] w2).alloc _)
  have q7 := hid (show W2.heap[w2.heap.size]? = some (.cells #[.slice da dk dc] 33 (0, 0)) by rw [hW2]; exact heap_alloc_at rfl)
  have hz2 := hid (show W2.heap.size = w2.heap.size + 1 by rw [hW2]; simp)
  have HW2 := hid hW2; have HDK := hid hdk; have HDL := hid hdl; have HDD := hid hdd; have HKC := hid hkc; have HCM := hid hcm; have HDN := hid hdn; have HDX := hid hdx
  have K12 := hid (show Kept [] W1 W2 from K2.out.trans K22.out)
  have c6 : W2.cell? ⟨w1.heap.size, 0, none⟩ = some (.slice la n lc) := by rw [cell_of_row W2 _ 0 _ _ _ (K12.out.at q6.out (by simp))]; rfl
  rw [hW2] at c6
  have hbk := hid (fun V => backward_any la lc n V)
  clear k2 hla hdk hdl hdd hkc hcm hdn hdx hW2 c1a c1b
  gi_wp2_with (refine ⟨trivial, ?_⟩; gi_at_call 19; refine halt ?_)
  rw [← HW2.out]
  refine Halt.mk ?_
  refine (callsIn_wide.2 (hbk.out W2)).mono ?_
  rintro e w3 ⟨rfl, hw3⟩
  have K33 := hid (show Kept [] W2 w3 from hw3 ▸ (Kept.refl [] W2).alloc _)
  have q8 := hid (show w3.heap[W2.heap.size]? = some (.cells #[.slice la n lc] 32 (0, 0)) by rw [hw3]; exact heap_alloc_at rfl)
  have hz3 := hid (show w3.heap.size = W2.heap.size + 1 by rw [hw3]; simp)
  clear hw3 hbk c6
  obtain ⟨b1, hb1⟩ : ∃ b, b = w.heap.size := ⟨_, rfl⟩
  obtain ⟨b6, hb6⟩ : ∃ b, b = w1.heap.size := ⟨_, rfl⟩
  obtain ⟨b7, hb7⟩ : ∃ b, b = w2.heap.size := ⟨_, rfl⟩
  obtain ⟨b8, hb8⟩ : ∃ b, b = W2.heap.size := ⟨_, rfl⟩
  have hsz := hid (show b1 = w.heap.size ∧ W0.heap.size = b1 + 4 ∧ b6 = w1.heap.size ∧ W0.heap.size ≤ b6 ∧ W1.heap.size = b6 + 1 ∧ b7 = w2.heap.size ∧ W1.heap.size ≤ b7 ∧ W2.heap.size = b7 + 1 ∧ b8 = W2.heap.size ∧ w3.heap.size = b8 + 1 from by
    have s1 := hz0.out; have s2 := hz1.out; have s3 := hz2.out; have s4 := hz3.out; have s5 := K1.out.size; have s6 := K2.out.size
    refine ⟨hb1, by omega, hb6, by omega, by omega, hb7, by omega, by omega, hb8, by omega⟩)
  have hlb := hid (show ∀ x, la = some x → W0.heap.size ≤ x.block ∧ x.block < b6 from fun x hx => by
    subst hx
    rcases HO1.out.2 with ⟨h1, _⟩ | ⟨g, cap, cur, h1, h2, h3, _⟩
    · simp at h1
    · simp at h1; rw [h1.1]; rw [hb6]; exact ⟨h2, lt_of_block h3⟩)
  obtain ⟨dg, hdg⟩ : ∃ dg, (∀ x, da = some x → x.block = dg) ∧ (dg = b1 ∨ (W1.heap.size ≤ dg ∧ dg < b7)) := by
    cases da with
    | none => exact ⟨b1, fun x hx => by simp at hx, Or.inl rfl⟩
    | some x => exact ⟨x.block, fun y hy => by simp at hy; rw [hy], Or.inr (by have := HDX.out x rfl; rw [hb7]; exact ⟨this.1, this.2.1⟩)⟩
  have HDG := hid hdg
  have K03 := hid (show Kept [] W0 w3 from K01.out.trans (K12.out.trans K33.out))
  have HC : KC w3 (b1 + 2) b1 (b1 + 1) (b1 + 3) b6 b7 dg a c n xs cp la lc ps := by
    have s := hsz.out; have sd := HDG.out.2
    refine ⟨fun W hk => ?_, fun W hk => ?_, fun W hk => ?_, fun W hk j u hj => ?_, fun W hk => ?_, fun W hk => ?_, by omega, by omega⟩
    · rw [cell_of_row W _ 0 _ _ _ (hk.at (K03.out.at (by rw [hb1]; exact q1.out) (by simp)) (by simp; omega))]; rfl
    · rw [cell_of_row W _ 0 _ _ _ (hk.at (K03.out.at (by rw [hb1]; exact q4.out) (by simp)) (by simp; omega)), hb1]; rfl
    · rw [cell_of_row W _ 0 _ _ _ (hk.at (K33.out.at (K12.out.at (by rw [hb6]; exact q6.out) (by simp)) (by simp)) (by simp; omega))]; rfl
    · rw [cell_of_row W _ j _ _ _ (hk.at (K03.out.at (by rw [hb1]; exact q2.out) (by simp)) (by simp; omega))]; simpa using hj
    · exact (H.out w3 (K0.out.trans K03.out)).kept0 hk (fun x hx hne => by have := Hlow.out x hx hne; simp; omega)
    · have h1 : Plc w1 la lc ps := plc_of_row HO1.out (by rw [HN.out, HORD.out.perm.length_eq, List.length_range])
      exact ((h1.kept (K11.out.trans (K12.out.trans K33.out)) (by simp)).kept hk (fun x hx => by have := hlb.out x hx; simp; omega))
  rw [← hb8, ← hb7, ← hb6, ← hb1]
  obtain ⟨qs, hqs⟩ : ∃ qs, qs = ps.reverse := ⟨_, rfl⟩
  obtain ⟨ss, hss⟩ : ∃ ss, ss = snapsAt xs qs := ⟨_, rfl⟩
  obtain ⟨nw, hnw⟩ : ∃ nw, nw = (ss.head?.map (·.1.time)).getD 0 := ⟨_, rfl⟩
  have HQS := hid hqs; have HSS := hid hss; have HNW := hid hnw
  obtain ⟨dsk, hdsk⟩ : ∃ dsk : Nat → List Int, ∀ k, dsk k = runD p.day (ds.take dk) (ss.take k) := ⟨_, fun _ => rfl⟩
  obtain ⟨val, hval⟩ : ∃ val : Nat → Bool, ∀ k, val k = valK p nw (ds.take dk) ss k := ⟨_, fun _ => rfl⟩
  have HDSK := hid hdsk; have HVAL := hid hval
  have hpl := hid (show ps.length = n by rw [HORD.out.perm.length_eq, List.length_range, HN.out])
  have hst : KSt w3 (b1 + 2) b7 dg n val dsk qs 0 w3 := by
    have s := hsz.out
    refine ⟨Kept.refl _ _, ⟨List.replicate n false, ?_, by simp, fun j q hj => by omega⟩, ⟨da, dk, dc, ?_, ?_⟩⟩
    · rw [← made_bools, ← HR0.out, hb1]; exact K03.out.at q3.out (by simp)
    · rw [hb7]; exact K33.out.at q7.out (by simp)
    · rw [hdsk]
      have e1 : (ds.take dk).length = dk := by rw [List.length_take, HDK.out]; unfold kd; omega
      refine ⟨?_, HKC.out, HCM.out, fun h => ?_, HDG.out.1, fun x hx j k hj => ?_⟩
      · show dk = (ds.take dk).length; rw [e1]
      · show ds.take dk = []; rw [(HDN.out h).1]; simp
      · have hj' : (ds.take dk)[j]? = some k := hj
        have h2 := (HDX.out x hx)
        have h3 : ds[j]? = some k := by
          rw [List.getElem?_take] at hj'
          split at hj'
          · exact hj'
          · simp at hj'
        exact ((K22.out.trans K33.out).cell (by rw [add_block]; exact h2.2.1) (by simp)).trans (h2.2.2.2.2 j k h3)
  have HST := hid hst; have HCC := hid HC
  have hbk : BkAt w3 b8 la lc ps := ⟨by rw [hb8, hpl.out]; exact q8.out, HC.pl w3 (Kept.refl _ _)⟩
  have HBK := hid hbk
  have hneed := hid (show ∀ k, BkNeed b8 la k → k < w3.heap.size ∧ k ≠ b1 + 2 ∧ k ≠ b7 from by
    have s := hsz.out
    rintro k (rfl | ⟨x, h1, rfl⟩)
    · omega
    · have := hlb.out x h1; omega)
  have Kw3 := hid (K0.out.trans K03.out)
  clear hb1 hb6 hb7 hb8 hqs hss hnw hdsk hval hst HC hbk hdg hmk hvn q1 q2 q3 q4 q6 q7 q8 K0 K1 K11 K01 K2 K22 K12 K33 hz0 hz1 hz2 hz3 HW0 HW1 HW2 HO1 C1 lpol hszp H HKC HCM HDN HDX hlb HR0 HDL K03
  gi_wp2_with fail
  refine range_le rfl (by omega) (gf := 40) (lb := #[.pointer (some ⟨b8, 0, none⟩)]) rfl trivial (enters_of Try.func40 (by kernel_rfl) rfl)
    (back_seq (4 - 1) (by omega) b8 la lc ps w3 HBK.out (by rw [hpl.out]; omega)) (fun k hk => (hneed.out k hk).1) (fun _ => rfl) (fun x A B hf hk => by unfold BkFt at hf ⊢; have := hk.size; omega)
    (fun pre W => pre <+: downs ps.length ∧ KSt w3 (b1 + 2) b7 dg n val dsk qs pre.length W) (fun _ _ => False) ?hI ?hIx ?h0 ?a1 ?assign ?body ?fs ?done ?stop
  case assign =>
    intro l x W K hK
    dsimp only [bvals]
    gi_wp2
    exact hK
  case hI =>
    rintro s A B ⟨h1, h2⟩ hkk
    exact ⟨h1, h2.keep hkk (fun x hx => by simp at hx; omega) HCC.out.lt⟩
  case hIx => exact fun _ _ _ h _ => h
  case h0 => exact ⟨List.nil_prefix, HST.out⟩
  case fs => exact fun x A h => h
  case stop => exact fun _ _ _ h => h.elim
  case done =>
    intro xs' W hxs ⟨_, hS⟩ hdf
    rw [hxs, show (downs ps.length).length = n by simp [downs, hpl.out]] at hS
    have c5 := HCC.out.c5 W hS.kept
    have HSS2 := hid hS; have HDF := hid hdf
    clear hS hdf
    gi_wp2
    refine ⟨by simp, .inl ⟨_, _, rfl, run_takeDeferred HDF.out, ?_⟩⟩
    have hkd := kept_putObj W w3.heap.size (.deferred none)
    obtain ⟨ks, h1, h2, h3⟩ := HSS2.out.row
    have hsz' := hsz.out
    have hlt := HCC.out.lt
    refine ⟨.slice (some ⟨b1 + 2, 0, none⟩) n n, by simp [results, Try.f9, go_sem], _, ps, ds, ks, rfl, ?_, ?_, ?_⟩
    · exact ((Kw3.out.trans' HSS2.out.kept (fun x hx hm => by simp at hm; omega))).trans' hkd (fun x hx hm => by simp at hm; have := Kw3.out.size; omega)
    · refine ⟨HORD.out, HDD.out, by rw [h2, HN.out], fun k q s hk hq => ?_⟩
      have hkn : k < n := by
        have := (List.getElem?_eq_some_iff.1 hk).1
        rw [List.length_reverse, hpl.out] at this; exact this
      have h4 := h3 k q hkn (by rw [HQS.out]; exact hk)
      rw [h4, HVAL.out, HNW.out, HSS.out, HQS.out, HDK.out]
    · refine ⟨by rw [List.length_map, h2, Nat.mul_one], Or.inr ⟨b1 + 2, n, (ks.map bv).toArray, rfl, by omega, hkd.at h1 (by simp; omega), Nat.le_refl _, by unfold maxLen; omega, by simp [h2], by simp only [Nat.mul_one]; rw [List.take_of_length_le (by simp [h2])]⟩⟩
  case body =>
    rintro l pre i W ⟨hpp, hS⟩ hft hzp hsW
    rw [hpl.out] at hzp
    have hik := downs_at hzp
    obtain ⟨k, hk⟩ : ∃ k, k = pre.length := ⟨_, rfl⟩
    have HK := hid hk; have HZP := hid hzp
    rw [← hk] at hS hik
    obtain ⟨q, s, q0, s0, e1, e2, e3, e4, e5, e6, e7, e8, e9, e10⟩ := round_facts HORD.out HN.out HQS.out HSS.out hik
    rw [e1, show pv q = Value.int .i64 (q : Int) from rfl]
    have E := hid (And.intro e2 (And.intro e3 (And.intro e5 (And.intro e6 (And.intro e7 (And.intro e8 (And.intro (HNW.out.trans e9) e10)))))))
    cases a with
    | none => exact absurd ((HCC.out.sn W hS.kept).nil rfl).1 (fun e => by have := HN.out; rw [e] at this; simp at this; omega)
    | some x =>
    cases la with
    | none => exact absurd ((HCC.out.pl W hS.kept).nil rfl) (fun e => by have := hpl.out; rw [e] at this; simp at this; omega)
    | some y =>
    have HS := hid hS
    have kW := hid (fun V (hv : Kept [] W V) => (show Kept [b1 + 2, b7] w3 V from HS.out.kept.trans' hv (by simp)))
    have f1 := hid (fun V (hv : Kept [] W V) => HCC.out.c1 V (kW.out V hv))
    have f6 := hid (fun V (hv : Kept [] W V) => HCC.out.c6 V (kW.out V hv))
    obtain ⟨cs, hcs⟩ : ∃ cs, cs = encQ s := ⟨_, rfl⟩
    have HCS := hid hcs
    have lcs := hid (show cs.length = 37 by rw [hcs, encQ_len])
    have hsz2 := hid (show (Try.prog.info? 42).map (·.size) = some cs.length by rw [lcs.out]; exact snap_info)
    have fs := hid (fun V (hv : Kept [] W V) => (show (loadVar 42 (x.add (q * 37))).run Try.prog V = .ok (.agg cs.toArray) V from run_loadVar_cells V _ _ cs _ Try.underlying42 rfl hsz2.out (fun j u hj => by
      rw [snap_add_add]; exact (HCC.out.sn V (kW.out V hv)).at_ x rfl q s E.out.2.2.1 j u (by rw [← hcs]; exact hj))))
    have fp := hid (fun V (hv : Kept [] W V) => (show V.cell? (y.add (n - 1)) = some (.int .i64 (q0 : Int)) from (HCC.out.pl V (kW.out V hv)).at_ y rfl (n - 1) q0 E.out.2.2.2.2.1))
    have ft := hid (fun V (hv : Kept [] W V) => (show V.cell? (x.add (q0 * 37)) = some (.int .i64 nw) from by
      have := (HCC.out.sn V (kW.out V hv)).at_ x rfl q0 s0 E.out.2.2.2.2.2.1 0 _ (Sp.c0 s0.1)
      rw [E.out.2.2.2.2.2.2.1]; simpa using this))
    have hn1 : 1 ≤ n := by omega
    have hqz : (q : Int) < (n : Int) := by omega
    have hq0z : (q0 : Int) < (n : Int) := by
      have := (List.getElem?_eq_some_iff.1 E.out.2.2.2.2.2.1).1
      rw [← HN.out] at this; omega
    have wn1 : IntKind.i64.wrap ((n : Int) - 1) = ((n - 1 : Nat) : Int) := by rw [IntKind.wrap_i64]; omega
    obtain ⟨n1, hn1'⟩ : ∃ n1, n1 = n - 1 := ⟨_, rfl⟩
    rw [← hn1'] at wn1 fp
    have hn1z : (n1 : Int) < (n : Int) := by omega
    have HN1 := hid hn1'
    have hH0 : Kept [] W W.drew := (Kept.refl [] W).drew
    have hzv := zero_snap
    obtain ⟨V1, hV1⟩ : ∃ V1, V1 = W.drew.alloc (.cells zSnap.toArray 42) := ⟨_, rfl⟩
    have k1 : Kept [] W V1 := hV1 ▸ hH0.alloc _
    have hg1 : V1.heap[W.heap.size]? = some (.cells zSnap.toArray 42 (0, 0)) := by rw [hV1]; exact heap_alloc_at rfl
    obtain ⟨V2, hV2⟩ : ∃ V2, V2 = V1.setRow W.heap.size cs.toArray := ⟨_, rfl⟩
    have k2 : Kept [] W V2 := by rw [hV2]; exact k1.setRow (fun h => absurd h (Nat.lt_irrefl _)) _
    have hg2 := hid (show V2.heap[W.heap.size]? = some (.cells cs.toArray 42 (0, 0)) by rw [hV2]; exact setRow_heap _ _ _ _ _ _ hg1)
    have hst := run_storeVar_at (P := Try.prog) V1 W.heap.size 0 42 42 zSnap cs hg1 hsz2.out (by rw [lcs.out, zSnap_len]; decide) (by rw [hcs]; exact s.1.one)
    rw [splice36 zSnap cs (by rw [lcs.out, zSnap_len]), ← hV2] at hst
    clear hV2 hg1 e1 e2 e3 e4 e5 e6 e7 e8 e9 e10 hft hzp hpp hS hk hn1' hn1
    clear hcs
    gi_wp2_with fail
    refine regionIn_h (S := fun v => Kept [] W v) (by kernel_rfl) (by kernel_rfl) hH0 (fun hH => ?_)
    refine takeH 0 (.slice (some x) n c) rfl (by kernel_rfl) (by kernel_rfl) (by kernel_rfl) (fun _ _ _ h => h) (by rfl) (fun v hv => by have h := f1.out v hv; go_simp) hH ?_
    simp only [Act.put, List.setIfInBounds_toArray, List.set_cons_succ, List.set_cons_zero]
    refine takeH 1 (.int .i64 (q : Int)) rfl (by kernel_rfl) (by kernel_rfl) (by kernel_rfl) (fun _ _ _ h => h) (by rfl) (fun v hv => by go_simp) hH ?_
    simp only [Act.put, List.setIfInBounds_toArray, List.set_cons_succ, List.set_cons_zero]
    refine takeH 2 (.pointer (some (x.add (q * 37)))) rfl (by kernel_rfl) (by kernel_rfl) (by kernel_rfl) (fun _ _ _ h => h) (by rfl) (fun v hv => by go_simp) hH ?_
    simp only [Act.put, List.setIfInBounds_toArray, List.set_cons_succ, List.set_cons_zero]
    refine takeH 3 (.agg cs.toArray) rfl (by kernel_rfl) (by kernel_rfl) (by kernel_rfl) (fun _ _ _ h => h) (by rfl) (fun v hv => by have h := fs.out v hv; unfold execOp; simp [Instr.loadAt, Instr.sureAddr, Sem.run_bind, Sem.run_pure, Result.andThen_ok, Act.eval, h]) hH ?_
    simp only [Act.put, List.setIfInBounds_toArray, List.set_cons_succ, List.set_cons_zero]
    refine takeH 4 (.slice (some x) n c) rfl (by kernel_rfl) (by kernel_rfl) (by kernel_rfl) (fun _ _ _ h => h) (by rfl) (fun v hv => by have h := f1.out v hv; go_simp) hH ?_
    simp only [Act.put, List.setIfInBounds_toArray, List.set_cons_succ, List.set_cons_zero]
    refine takeH 5 (.slice (some y) n lc) rfl (by kernel_rfl) (by kernel_rfl) (by kernel_rfl) (fun _ _ _ h => h) (by rfl) (fun v hv => by have h := f6.out v hv; go_simp) hH ?_
    simp only [Act.put, List.setIfInBounds_toArray, List.set_cons_succ, List.set_cons_zero]
    refine takeH 6 (.slice (some y) n lc) rfl (by kernel_rfl) (by kernel_rfl) (by kernel_rfl) (fun _ _ _ h => h) (by rfl) (fun v hv => by have h := f6.out v hv; go_simp) hH ?_
    simp only [Act.put, List.setIfInBounds_toArray, List.set_cons_succ, List.set_cons_zero]
    refine takeH 7 (.int .i64 (n : Int)) rfl (by kernel_rfl) (by kernel_rfl) (by kernel_rfl) (fun _ _ _ h => h) (by rfl) (fun v hv => by go_simp) hH ?_
    simp only [Act.put, List.setIfInBounds_toArray, List.set_cons_succ, List.set_cons_zero]
    refine takeH 8 (.int .i64 (n1 : Int)) rfl (by kernel_rfl) (by kernel_rfl) (by kernel_rfl) (fun _ _ _ h => h) (by rfl) (fun v hv => by go_simp) hH ?_
    simp only [Act.put, List.setIfInBounds_toArray, List.set_cons_succ, List.set_cons_zero]
    refine takeH 9 (.pointer (some (y.add n1))) rfl (by kernel_rfl) (by kernel_rfl) (by kernel_rfl) (fun _ _ _ h => h) (by rfl) (fun v hv => by go_simp) hH ?_
    simp only [Act.put, List.setIfInBounds_toArray, List.set_cons_succ, List.set_cons_zero]
    refine takeH 10 (.int .i64 (q0 : Int)) rfl (by kernel_rfl) (by kernel_rfl) (by kernel_rfl) (fun _ _ _ h => h) (by rfl) (fun v hv => by have h := fp.out v hv; go_simp) hH ?_
    simp only [Act.put, List.setIfInBounds_toArray, List.set_cons_succ, List.set_cons_zero]
    refine takeH 11 (.pointer (some (x.add (q0 * 37)))) rfl (by kernel_rfl) (by kernel_rfl) (by kernel_rfl) (fun _ _ _ h => h) (by rfl) (fun v hv => by go_simp) hH ?_
    simp only [Act.put, List.setIfInBounds_toArray, List.set_cons_succ, List.set_cons_zero]
    refine takeH 12 (.pointer (some (x.add (q0 * 37)))) rfl (by kernel_rfl) (by kernel_rfl) (by kernel_rfl) (fun _ _ _ h => h) (by rfl) (fun v hv => by go_simp) hH ?_
    simp only [Act.put, List.setIfInBounds_toArray, List.set_cons_succ, List.set_cons_zero]
    refine takeH 13 (.int .i64 nw) rfl (by kernel_rfl) (by kernel_rfl) (by kernel_rfl) (fun _ _ _ h => h) (by rfl) (fun v hv => by have h := ft.out v hv; go_simp) hH ?_
    simp only [Act.put, List.setIfInBounds_toArray, List.set_cons_succ, List.set_cons_zero]
    refine runH 14 rfl (by kernel_rfl) (by rfl) (.pointer (some ⟨W.heap.size, 0, none⟩)) (V1) (by rw [hV1]; go_simp) (k1) ?_
    simp only [Act.put, List.setIfInBounds_toArray, List.set_cons_succ, List.set_cons_zero]
    refine writeH 15 rfl (by kernel_rfl) (by rfl) (V2) (by have h := hst; unfold execOp; simp [Instr.storeAt, Instr.sureAddr, Act.eval, Sem.run_bind, Sem.run_pure, Result.andThen_ok, h]) (k2) ?_
    simp only [Act.put, List.setIfInBounds_toArray, List.set_cons_succ, List.set_cons_zero]
    refine takeH 16 (.int .i64 nw) rfl (by kernel_rfl) (by kernel_rfl) (by kernel_rfl) (fun _ _ _ h => h) (by rfl) (fun v hv => by go_simp) k2 ?_
    simp only [Act.put, List.setIfInBounds_toArray, List.set_cons_succ, List.set_cons_zero]
    refine wpAnyH_done (by kernel_rfl) ?_ _
    simp only [OnlyN]
    have K2 := hid k2
    have c6 := f6.out V2 k2
    have hp0 := hid (fun V (hv : Kept [] W V) => (show V.cell? ⟨b1 + 1, 0, none⟩ = some (.int .i64 p.last) from HCC.out.pol V (kW.out V hv) 0 _ (by rw [HCP.out]; rfl)))
    have hp2 := hid (fun V (hv : Kept [] W V) => (show V.cell? ⟨b1 + 1, 2, none⟩ = some (.int .i64 p.day) from HCC.out.pol V (kW.out V hv) 2 _ (by rw [HCP.out]; rfl)))
    have cp0 := hp0.out V2 k2
    obtain ⟨k1, hk1⟩ : ∃ k1, k1 = k + 1 := ⟨_, rfl⟩
    have wsub : IntKind.i64.wrap ((n : Int) - (i : Int)) = (k1 : Int) := by rw [IntKind.wrap_i64]; omega
    obtain ⟨bL, hbL⟩ : ∃ bL, decide ((k1 : Int) ≤ p.last) = bL := ⟨_, rfl⟩
    have HBL := hid hbL
    have HK1 := hid hk1
    clear hk1 hst k2
    gi_upto_region 9 with fail
    obtain ⟨da', m, dc', hd1, hd2⟩ := HS.out.days
    have hlt7 := HCC.out.lt; have hne7 := HCC.out.ne
    have fd := hid (fun V (hv : Kept [] W V) => (show V.cell? ⟨b7, 0, none⟩ = some (.slice da' m dc') from by
      rw [cell_of_row V _ 0 _ _ _ (hv.at hd1 (by simp))]; rfl))
    have HD2 := hid hd2
    have HD7 := hid (fun V (hv : Kept [] W V) => hv.at hd1 (by simp))
    obtain ⟨bD, hbD⟩ : ∃ bD, bD = daily p.day (dsk k) s := ⟨_, rfl⟩
    have HBD := hid hbD
    have fb := hid (fun V (hv : Kept [] V2 V) => (show V.cell? ⟨W.heap.size, 0, none⟩ = some (.int .i64 s.1.time) from by
      rw [cell_of_row V _ 0 _ _ _ (hv.at hg2.out (by simp))]; rw [HCS.out]; exact Sp.c0 s.1))
    have hday := hid (show ∀ d t, dsk k = d :: t → 1 ≤ p.day from fun d t e => by
      by_cases h : p.day < 1
      · exfalso
        have h1 := HDD.out
        rw [if_pos h] at h1
        have h2 := HDSK.out k
        rw [h1, e] at h2
        obtain ⟨j, _, e3⟩ := runD_drop p.day (([] : List Int).take dk) (ss.take k)
        rw [e3] at h2
        simp at h2
      · omega)
    have hH0 : Kept [] V2 V2.drew := (Kept.refl [] V2).drew
    clear hd1 hd2 hbD hbL c6 cp0 hlt7 hne7
    gi_cut [13] from 40 (fun s13 wx => s13 = .bool bD ∧ Hid (Kept [] V2 wx))
    case first =>
      cases hdl : dsk k with
      | nil =>
        have hm0 : m = 0 := by rw [HD2.out.len, hdl]; rfl
        have hb0 : bD = false := by rw [HBD.out, hdl]; rfl
        subst hm0
        clear hdl
        refine regionIn_h (S := fun v => Kept [] V2 v) (by kernel_rfl) (by kernel_rfl) hH0 (fun hH => ?_)
        refine takeH 0 (.slice da' 0 dc') rfl (by kernel_rfl) (by kernel_rfl) (by kernel_rfl) (fun _ _ _ h => h) (by rfl) (fun v hv => by have h := fd.out v (K2.out.trans hv); go_simp) hH ?_
        simp only [Act.put, List.setIfInBounds_toArray, List.set_cons_succ, List.set_cons_zero]
        refine takeH 1 (.int .i64 0) rfl (by kernel_rfl) (by kernel_rfl) (by kernel_rfl) (fun _ _ _ h => h) (by rfl) (fun v hv => by go_simp) hH ?_
        simp only [Act.put, List.setIfInBounds_toArray, List.set_cons_succ, List.set_cons_zero]
        refine takeH 2 (.bool false) rfl (by kernel_rfl) (by kernel_rfl) (by kernel_rfl) (fun _ _ _ h => h) (by rfl) (fun v hv => by go_simp) hH ?_
        simp only [Act.put, List.setIfInBounds_toArray, List.set_cons_succ, List.set_cons_zero]
        refine takeH 3 (.bool false) rfl (by kernel_rfl) (by kernel_rfl) (by kernel_rfl) (fun _ _ _ h => h) (by rfl) (fun v hv => by go_simp) hH ?_
        simp only [Act.put, List.setIfInBounds_toArray, List.set_cons_succ, List.set_cons_zero]
        refine skipH 4 rfl (by kernel_rfl) (by kernel_rfl) (by kernel_rfl) (fun _ _ _ h => h) (by rfl) hH ?_
        simp only [Act.put, List.setIfInBounds_toArray, List.set_cons_succ, List.set_cons_zero]
        refine skipH 5 rfl (by kernel_rfl) (by kernel_rfl) (by kernel_rfl) (fun _ _ _ h => h) (by rfl) hH ?_
        simp only [Act.put, List.setIfInBounds_toArray, List.set_cons_succ, List.set_cons_zero]
        refine skipH 6 rfl (by kernel_rfl) (by kernel_rfl) (by kernel_rfl) (fun _ _ _ h => h) (by rfl) hH ?_
        simp only [Act.put, List.setIfInBounds_toArray, List.set_cons_succ, List.set_cons_zero]
        refine skipH 7 rfl (by kernel_rfl) (by kernel_rfl) (by kernel_rfl) (fun _ _ _ h => h) (by rfl) hH ?_
        simp only [Act.put, List.setIfInBounds_toArray, List.set_cons_succ, List.set_cons_zero]
        refine skipH 9 rfl (by kernel_rfl) (by kernel_rfl) (by kernel_rfl) (fun _ _ _ h => h) (by rfl) hH ?_
        simp only [Act.put, List.setIfInBounds_toArray, List.set_cons_succ, List.set_cons_zero]
        refine skipH 10 rfl (by kernel_rfl) (by kernel_rfl) (by kernel_rfl) (fun _ _ _ h => h) (by rfl) hH ?_
        simp only [Act.put, List.setIfInBounds_toArray, List.set_cons_succ, List.set_cons_zero]
        refine skipH 11 rfl (by kernel_rfl) (by kernel_rfl) (by kernel_rfl) (fun _ _ _ h => h) (by rfl) hH ?_
        simp only [Act.put, List.setIfInBounds_toArray, List.set_cons_succ, List.set_cons_zero]
        refine skipC' 8 rfl (by kernel_rfl) (by rfl) hH ?_
        simp only [Act.put, List.setIfInBounds_toArray, List.set_cons_succ, List.set_cons_zero]
        refine skipH 12 rfl (by kernel_rfl) (by kernel_rfl) (by kernel_rfl) (fun _ _ _ h => h) (by rfl) hH ?_
        simp only [Act.put, List.setIfInBounds_toArray, List.set_cons_succ, List.set_cons_zero]
        refine takeH 13 (.bool false) rfl (by kernel_rfl) (by kernel_rfl) (by kernel_rfl) (fun _ _ _ h => h) (by rfl) (fun v hv => by go_simp) hH ?_
        simp only [Act.put, List.setIfInBounds_toArray, List.set_cons_succ, List.set_cons_zero]
        refine takeH 14 (.bool false) rfl (by kernel_rfl) (by kernel_rfl) (by kernel_rfl) (fun _ _ _ h => h) (by rfl) (fun v hv => by go_simp) hH ?_
        simp only [Act.put, List.setIfInBounds_toArray, List.set_cons_succ, List.set_cons_zero]
        refine wpAnyH_done (by kernel_rfl) ?_ _
        simp only [OnlyN]
        gi_wp2_with fail
        gi_meet
        case rel => exact ⟨by rw [hb0], hid hH⟩
      | cons d t =>
        cases da' with
        | none => exact absurd (HD2.out.nil rfl) (by rw [hdl]; simp)
        | some z =>
        have hmz : 0 < m := by have := HD2.out.len; rw [hdl] at this; simp at this; omega
        have fz := hid (fun V (hv : Kept [] V2 V) => (show V.cell? z = some (.int .i64 d) from by
          have h1 := (HD2.out.kept (K2.out.trans hv) (by simp)).at_ z rfl 0 d (by rw [hdl]; rfl)
          rw [add_z] at h1; exact h1))
        have fb2 := hid (fun V (hv : Kept [] V2 V) => hp2.out V (K2.out.trans hv))
        obtain ⟨qd, hqd⟩ : ∃ qd, qd = s.1.time / p.day := ⟨_, rfl⟩
        have hbd : (qd == d) = bD := by rw [HBD.out, hdl, hqd]; simp [daily, Bool.beq_eq_decide_eq]
        have hcall := hid (fun V => day_of s.1.time p.day (hday.out d t hdl) Hp.out.day.2 ⟨s.2.t1, s.2.t2⟩ V)
        rw [← hqd] at hcall
        obtain ⟨tm, htm⟩ : ∃ tm, tm = s.1.time := ⟨_, rfl⟩
        rw [← htm] at hcall fb
        clear hdl hqd htm
        refine regionIn_h (S := fun v => Kept [] V2 v) (by kernel_rfl) (by kernel_rfl) hH0 (fun hH => ?_)
        refine takeH 0 (.slice (some z) m dc') rfl (by kernel_rfl) (by kernel_rfl) (by kernel_rfl) (fun _ _ _ h => h) (by rfl) (fun v hv => by have h := fd.out v (K2.out.trans hv); go_simp) hH ?_
        simp only [Act.put, List.setIfInBounds_toArray, List.set_cons_succ, List.set_cons_zero]
        refine takeH 1 (.int .i64 (m : Int)) rfl (by kernel_rfl) (by kernel_rfl) (by kernel_rfl) (fun _ _ _ h => h) (by rfl) (fun v hv => by go_simp) hH ?_
        simp only [Act.put, List.setIfInBounds_toArray, List.set_cons_succ, List.set_cons_zero]
        refine takeH 2 (.bool true) rfl (by kernel_rfl) (by kernel_rfl) (by kernel_rfl) (fun _ _ _ h => h) (by rfl) (fun v hv => by go_simp) hH ?_
        simp only [Act.put, List.setIfInBounds_toArray, List.set_cons_succ, List.set_cons_zero]
        refine takeH 3 (.bool true) rfl (by kernel_rfl) (by kernel_rfl) (by kernel_rfl) (fun _ _ _ h => h) (by rfl) (fun v hv => by go_simp) hH ?_
        simp only [Act.put, List.setIfInBounds_toArray, List.set_cons_succ, List.set_cons_zero]
        refine takeH 4 (.pointer (some ⟨W.heap.size, 0, none⟩)) rfl (by kernel_rfl) (by kernel_rfl) (by kernel_rfl) (fun _ _ _ h => h) (by rfl) (fun v hv => by go_simp) hH ?_
        simp only [Act.put, List.setIfInBounds_toArray, List.set_cons_succ, List.set_cons_zero]
        refine takeH 5 (.int .i64 tm) rfl (by kernel_rfl) (by kernel_rfl) (by kernel_rfl) (fun _ _ _ h => h) (by rfl) (fun v hv => by have h := fb.out v hv; go_simp) hH ?_
        simp only [Act.put, List.setIfInBounds_toArray, List.set_cons_succ, List.set_cons_zero]
        refine takeH 6 (.pointer (some ⟨b1 + 1, 2, none⟩)) rfl (by kernel_rfl) (by kernel_rfl) (by kernel_rfl) (fun _ _ _ h => h) (by rfl) (fun v hv => by go_simp) hH ?_
        simp only [Act.put, List.setIfInBounds_toArray, List.set_cons_succ, List.set_cons_zero]
        refine takeH 7 (.int .i64 p.day) rfl (by kernel_rfl) (by kernel_rfl) (by kernel_rfl) (fun _ _ _ h => h) (by rfl) (fun v hv => by have h := fb2.out v hv; go_simp) hH ?_
        simp only [Act.put, List.setIfInBounds_toArray, List.set_cons_succ, List.set_cons_zero]
        refine takeH 9 (.slice (some z) m dc') rfl (by kernel_rfl) (by kernel_rfl) (by kernel_rfl) (fun _ _ _ h => h) (by rfl) (fun v hv => by have h := fd.out v (K2.out.trans hv); go_simp) hH ?_
        simp only [Act.put, List.setIfInBounds_toArray, List.set_cons_succ, List.set_cons_zero]
        refine takeH 10 (.pointer (some z)) rfl (by kernel_rfl) (by kernel_rfl) (by kernel_rfl) (fun _ _ _ h => h) (by rfl) (fun v hv => by go_simp) hH ?_
        simp only [Act.put, List.setIfInBounds_toArray, List.set_cons_succ, List.set_cons_zero]
        refine takeH 11 (.int .i64 d) rfl (by kernel_rfl) (by kernel_rfl) (by kernel_rfl) (fun _ _ _ h => h) (by rfl) (fun v hv => by have h := fz.out v hv; go_simp) hH ?_
        simp only [Act.put, List.setIfInBounds_toArray, List.set_cons_succ, List.set_cons_zero]
        refine callR 8 rfl (by kernel_rfl) (by rfl) 20 #[.int .i64 tm, .int .i64 p.day] (by go_simp) (.int .i64 qd) (fun v => Kept [] V2 v) (fun v h => h) ((hcall.out _).mono (fun e w' hh => ⟨hh.1, by rw [hh.2]; exact hH⟩)) ?_
        rintro v8 k8
        simp only [Act.put, List.setIfInBounds_toArray, List.set_cons_succ, List.set_cons_zero]
        refine takeH 12 (.bool bD) rfl (by kernel_rfl) (by kernel_rfl) (by kernel_rfl) (fun _ _ _ h => h) (by rfl) (fun v hv => by go_simp) k8 ?_
        simp only [Act.put, List.setIfInBounds_toArray, List.set_cons_succ, List.set_cons_zero]
        refine takeH 13 (.bool bD) rfl (by kernel_rfl) (by kernel_rfl) (by kernel_rfl) (fun _ _ _ h => h) (by rfl) (fun v hv => by go_simp) k8 ?_
        simp only [Act.put, List.setIfInBounds_toArray, List.set_cons_succ, List.set_cons_zero]
        refine takeH 14 (.bool bD) rfl (by kernel_rfl) (by kernel_rfl) (by kernel_rfl) (fun _ _ _ h => h) (by rfl) (fun v hv => by go_simp) k8 ?_
        simp only [Act.put, List.setIfInBounds_toArray, List.set_cons_succ, List.set_cons_zero]
        refine wpAnyH_done (by kernel_rfl) ?_ _
        simp only [OnlyN]
        gi_wp2_with fail
        gi_meet
        case rel => exact ⟨rfl, hid k8⟩
    case rest =>
    obtain ⟨rfl, HKx⟩ := hcut
    have htk := hid (show ss.take (k + 1) = ss.take k ++ [s] by rw [List.take_add_one, E.out.2.2.2.1]; rfl)
    have hdn := hid (show dsk (k + 1) = (if bD then (dsk k).tail else dsk k) by
      rw [HDSK.out, htk.out, runD_snoc, HBD.out, HDSK.out])
    have fdc := fd.out wc (K2.out.trans HKx.out)
    clear hH0 hzv
    gi_upto_if 61 with fail
    gi_cut [] from 40 (fun wx => Hid (Kept [b7] V2 wx) ∧ Hid (∃ da m dc, wx.heap[b7]? = some (.cells #[.slice da m dc] 33 (0, 0)) ∧ DR wx dg da m dc (dsk (k + 1))))
    case first =>
      have hd7 := HD7.out wc (K2.out.trans HKx.out)
      cases bD
      · gi_wp2_with fail
        gi_meet
        case rel =>
          refine ⟨hid (HKx.out.wider (fun _ _ h => by simp at h)), hid ⟨da', m, dc', hd7, ?_⟩⟩
          rw [hdn.out]
          exact HD2.out.kept (K2.out.trans HKx.out) (by simp)
      · cases da' with
        | none =>
          exfalso
          have h1 := HBD.out
          rw [HD2.out.nil rfl] at h1
          simp [daily] at h1
        | some z =>
        obtain ⟨d, td, hdl⟩ : ∃ d td, dsk k = d :: td := by
          cases e : dsk k with
          | nil => have h1 := HBD.out; rw [e] at h1; simp [daily] at h1
          | cons d td => exact ⟨d, td, rfl⟩
        have hml : m = td.length + 1 := by have := HD2.out.len; rw [hdl] at this; simpa using this
        have hmc := HD2.out.le
        have hsl := slice_tail z m dc' (by omega) hmc HD2.out.max
        obtain ⟨z', hz'⟩ : ∃ z', z' = (if dc' = 1 then z else z.add 1) := ⟨_, rfl⟩
        rw [← hz'] at hsl
        have ff : wc.frozen? ⟨b7, 0, none⟩ = false := free_of_one hd7
        have HZ := hid hz'; have HDL := hid hdl; have HML := hid hml; have H7 := hid hd7
        obtain ⟨m', hm'⟩ : ∃ m', m' = m - 1 := ⟨_, rfl⟩
        obtain ⟨c', hc'⟩ : ∃ c', c' = dc' - 1 := ⟨_, rfl⟩
        rw [← hm', ← hc'] at hsl
        have HMC := hid (And.intro hm' hc')
        clear hz' hdl hml hd7 hm' hc'
        gi_wp2_with fail
        gi_meet
        case rel =>
          refine ⟨hid ((HKx.out.wider (T := [b7]) (fun _ _ h => by simp at h)).setCell (p := ⟨b7, 0, none⟩) (fun _ => by simp) _), hid ⟨some z', m', c', one_setCell H7.out, ?_⟩⟩
          have hlen := HD2.out.len; have hmx := HD2.out.max
          rw [hdn.out, HDL.out]
          refine ⟨by rw [HMC.out.1, HML.out]; rfl, by rw [HMC.out.1, HMC.out.2]; omega, by rw [HMC.out.2]; omega, fun h => by simp at h, fun x' hx' => ?_, fun x' hx' j kk hj => ?_⟩
          · simp at hx'; subst hx'
            rw [HZ.out]
            split
            · exact HD2.out.blk z rfl
            · rw [add_block]; exact HD2.out.blk z rfl
          · simp at hx'; subst hx'
            have hj0 : td[j]? = some kk := hj
            have hjl := (List.getElem?_eq_some_iff.1 hj0).1
            have hc1 : ¬ dc' = 1 := by have := HML.out; omega
            rw [HZ.out, if_neg hc1, snap_add_add]
            have h5 := HD2.out.at_ z rfl (1 + j) kk (by rw [HDL.out, Nat.add_comm]; simpa using hj0)
            have hb5 : (z.add (1 + j)).block = dg := by rw [add_block]; exact HD2.out.blk z rfl
            have hne := HCC.out.ne
            refine (World.cell?_setCell_other _ _ _ _ (by intro e; have := congrArg Addr.block e; rw [hb5] at this; simp at this; omega)).trans ?_
            exact ((K2.out.trans HKx.out).cell (World.block_lt_of_cell? W _ h5) (by simp)).trans h5
    case rest =>
    obtain ⟨HK7, HDS⟩ := hcut
    have hne := HCC.out.ne; have hlt := HCC.out.lt
    have kA := hid (show Kept [b1 + 2, b7] w3 wc from (HS.out.kept.trans' K2.out (by simp)).trans' HK7.out (fun x _ h => by simp at h; simp [h]))
    have kX := hid (fun V (hv : Kept [b1 + 2] wc V) => (show Kept [b1 + 2, b7] w3 V from kA.out.trans' hv (fun x _ h => by simp at h; simp [h])))
    have f5 := hid (fun V (hv : Kept [b1 + 2] wc V) => HCC.out.c5 V (kX.out V hv))
    have fbx := hid (fun V (hv : Kept [b1 + 2] wc V) => (show V.heap[W.heap.size]? = some (.cells cs.toArray 42 (0, 0)) from hv.at (HK7.out.at hg2.out (by simp; omega)) (by simp; omega)))
    have fbt := hid (fun V (hv : Kept [b1 + 2] wc V) => (show V.cell? ⟨W.heap.size, 0, none⟩ = some (.int .i64 s.1.time) from by
      rw [cell_of_row V _ 0 _ _ _ (fbx.out V hv)]; rw [HCS.out]; exact Sp.c0 s.1))
    have fbl := hid (fun V (hv : Kept [b1 + 2] wc V) => (show (loadVar 42 ⟨W.heap.size, 0, none⟩).run Try.prog V = .ok (.agg cs.toArray) V from run_loadVar_cells V _ _ cs _ Try.underlying42 rfl hsz2.out (fun j u hj => by
      have e : (⟨W.heap.size, 0, none⟩ : Addr).add j = ⟨W.heap.size, j, none⟩ := by unfold Addr.add; split <;> simp_all
      rw [e, cell_of_row V _ j _ _ _ (fbx.out V hv)]; simpa using hj)))
    have fpw := hid (fun V (hv : Kept [b1 + 2] wc V) => (show V.cell? ⟨b1 + 1, 3, none⟩ = some (.int .i64 p.within) from HCC.out.pol V (kX.out V hv) 3 _ (by rw [HCP.out]; rfl)))
    have fpt := hid (fun V (hv : Kept [b1 + 2] wc V) => (show V.cell? ⟨b1 + 1, 4, none⟩ = some (.string (S p.tag)) from HCC.out.pol V (kX.out V hv) 4 _ (by rw [HCP.out]; rfl)))
    obtain ⟨ks, hr1, hr2, hr3⟩ := HS.out.row
    have HR := hid (fun V (hv : Kept [] wc V) => (show V.heap[b1 + 2]? = some (.cells (ks.map bv).toArray 4 (0, 0)) from hv.at (HK7.out.at (K2.out.at hr1 (by simp)) (by simp; omega)) (by simp)))
    have HR2 := hid hr2; have HR3 := hid hr3
    obtain ⟨bW, hbW⟩ : ∃ bW, bW = near p nw s := ⟨_, rfl⟩
    obtain ⟨bT, hbT⟩ : ∃ bT, bT = tagged p s := ⟨_, rfl⟩
    have hv2 := hid (show val k = (bL || bD || bW || bT) by
      rw [HVAL.out]; unfold valK; rw [E.out.2.2.2.1]
      show (decide (((k + 1 : Nat) : Int) ≤ p.last) || daily p.day (runD p.day (ds.take dk) (ss.take k)) s || near p nw s || tagged p s) = _
      rw [← HDSK.out k, ← HBD.out, hbW, hbT, ← HBL.out, HK1.out])
    have hcW := hid (fun V => (show Calls Try.prog 21 #[.int .i64 s.1.time, .int .i64 nw, .int .i64 p.within] V fun e w' => e = .returned (.bool bW) ∧ w' = V from by
      rw [hbW, E.out.2.2.2.2.2.2.1]; exact within_of s.1.time s0.1.time p.within ⟨s.2.t1, s.2.t2⟩ ⟨s0.2.t1, s0.2.t2⟩ Hp.out.within E.out.2.2.2.2.2.2.2 V))
    have hcT := hid (fun V => (show Calls Try.prog 22 #[.agg cs.toArray, .string (S p.tag)] V fun e w' => e = .returned (.bool bT) ∧ Kept [] V w' from by
      rw [hbT, HCS.out]; exact tagged_of s p.tag V))
    obtain ⟨tm, htm⟩ : ∃ tm, tm = s.1.time := ⟨_, rfl⟩
    rw [← htm] at fbt hcW
    have hqn : q < ks.length := by rw [HR2.out]; omega
    have hrowS := hid (fun V b (hv : Kept [] wc V) => (show (V.setCell ⟨b1 + 2, q, none⟩ (.bool b)).heap[b1 + 2]? = some (.cells ((ks.set q b).map bv).toArray 4 (0, 0)) from by
      rw [Go.heap_setCell_same V (b1 + 2) q _ _ _ (HR.out V hv), List.setIfInBounds_toArray, List.map_set]; rfl))
    have hcS := hid (fun V (hv : Kept [] wc V) => (show (∃ u, V.cell? ⟨b1 + 2, q, none⟩ = some u) ∧ V.frozen? ⟨b1 + 2, q, none⟩ = false from by
      refine ⟨⟨bv ks[q], ?_⟩, by simp [World.frozen?, HR.out V hv]⟩
      rw [cell_of_row V _ q _ _ _ (HR.out V hv)]; simp [hqn]))
    have hH0 : Kept [b1 + 2] wc wc.drew := (Kept.refl _ wc).drew
    have hs0 : Kept [] wc wc.drew := (Kept.refl _ wc).drew
    clear hbW hbT htm hr1 hr2 hr3 fdc hne hlt
    have hend := hid (show ∀ wx, Kept [b1 + 2] wc wx → wx.heap[b1 + 2]? = some (.cells ((ks.set q (val k)).map bv).toArray 4 (0, 0)) → Keep (fun k => BkNeed b8 (some y) k ∨ k = w3.heap.size ∨ k = w3.heap.size + 1 ∨ k = w3.heap.size + 2) W wx ∧ pre ++ [i] <+: downs ps.length ∧ KSt w3 (b1 + 2) b7 dg n val dsk qs (pre ++ [i]).length wx from fun wx hkx hrx => by
      have hlen : (pre ++ [i]).length = k + 1 := by rw [List.length_append, ← HK.out]; rfl
      have hWx : Kept [b1 + 2, b7] W wx := (((K2.out.wider (T := [b1 + 2, b7]) (fun _ _ h => by simp at h)).trans' HK7.out (fun x _ h => by simp at h; simp [h])).trans' hkx (fun x _ h => by simp at h; simp [h]))
      refine ⟨hWx.keep fun kk hkk hB => ?_, by rw [hpl.out]; exact HZP.out, ?_⟩
      · have h7 := HCC.out.lt
        rcases hB with h | h | h | h
        · have := hneed.out kk h; simp; omega
        · simp; omega
        · simp; omega
        · simp; omega
      · rw [hlen]
        refine ⟨kX.out wx hkx, ⟨ks.set q (val k), hrx, by rw [List.length_set]; exact HR2.out, fun j qq hj hjq => ?_⟩, ?_⟩
        · by_cases hjk : j = k
          · subst hjk
            have e : qq = q := by have := E.out.2.1; rw [hjq] at this; simpa using this
            subst e
            rw [List.getElem?_set_self hqn]
          · have hne : q ≠ qq := fun e => hjk (by
              have hnd : qs.Nodup := by rw [HQS.out]; exact (List.reverse_perm ps).nodup_iff.2 ((HORD.out.perm.nodup_iff).2 List.nodup_range)
              have h1 := E.out.2.1
              rw [e] at h1
              exact (List.getElem?_inj (List.getElem?_eq_some_iff.1 hjq).1 hnd).1 (hjq.trans h1.symm))
            rw [List.getElem?_set_ne hne]
            exact HR3.out j qq (by omega) hjq
        · obtain ⟨da2, m2, dc2, e1, e2⟩ := HDS.out
          have h7 := HCC.out.ne
          exact ⟨da2, m2, dc2, hkx.at e1 (by simp; omega), e2.kept hkx (by simp; omega)⟩)
    gi_upto_region 12 with fail
    cases bL
    rotate_left 1
    · skip
      refine regionIn_h (S := fun v => Kept [b1 + 2] wc v) (by kernel_rfl) (by kernel_rfl) hH0 (fun hH => ?_)
      refine takeH 0 (.slice (some ⟨b1 + 2, 0, none⟩) n n) rfl (by kernel_rfl) (by kernel_rfl) (by kernel_rfl) (fun _ _ _ h => h) (by rfl) (fun v hv => by have h := f5.out v hv; go_simp) hH ?_
      simp only [Act.put, List.setIfInBounds_toArray, List.set_cons_succ, List.set_cons_zero]
      refine takeH 1 (.int .i64 (q : Int)) rfl (by kernel_rfl) (by kernel_rfl) (by kernel_rfl) (fun _ _ _ h => h) (by rfl) (fun v hv => by go_simp) hH ?_
      simp only [Act.put, List.setIfInBounds_toArray, List.set_cons_succ, List.set_cons_zero]
      refine takeH 2 (.bool true) rfl (by kernel_rfl) (by kernel_rfl) (by kernel_rfl) (fun _ _ _ h => h) (by rfl) (fun v hv => by go_simp) hH ?_
      simp only [Act.put, List.setIfInBounds_toArray, List.set_cons_succ, List.set_cons_zero]
      refine takeH 3 (.bool true) rfl (by kernel_rfl) (by kernel_rfl) (by kernel_rfl) (fun _ _ _ h => h) (by rfl) (fun v hv => by go_simp) hH ?_
      simp only [Act.put, List.setIfInBounds_toArray, List.set_cons_succ, List.set_cons_zero]
      refine skipH 4 rfl (by kernel_rfl) (by kernel_rfl) (by kernel_rfl) (fun _ _ _ h => h) (by rfl) hH ?_
      simp only [Act.put, List.setIfInBounds_toArray, List.set_cons_succ, List.set_cons_zero]
      refine takeH 5 (.bool true) rfl (by kernel_rfl) (by kernel_rfl) (by kernel_rfl) (fun _ _ _ h => h) (by rfl) (fun v hv => by go_simp) hH ?_
      simp only [Act.put, List.setIfInBounds_toArray, List.set_cons_succ, List.set_cons_zero]
      refine takeH 6 (.bool true) rfl (by kernel_rfl) (by kernel_rfl) (by kernel_rfl) (fun _ _ _ h => h) (by rfl) (fun v hv => by go_simp) hH ?_
      simp only [Act.put, List.setIfInBounds_toArray, List.set_cons_succ, List.set_cons_zero]
      refine skipH 7 rfl (by kernel_rfl) (by kernel_rfl) (by kernel_rfl) (fun _ _ _ h => h) (by rfl) hH ?_
      simp only [Act.put, List.setIfInBounds_toArray, List.set_cons_succ, List.set_cons_zero]
      refine skipH 8 rfl (by kernel_rfl) (by kernel_rfl) (by kernel_rfl) (fun _ _ _ h => h) (by rfl) hH ?_
      simp only [Act.put, List.setIfInBounds_toArray, List.set_cons_succ, List.set_cons_zero]
      refine skipH 9 rfl (by kernel_rfl) (by kernel_rfl) (by kernel_rfl) (fun _ _ _ h => h) (by rfl) hH ?_
      simp only [Act.put, List.setIfInBounds_toArray, List.set_cons_succ, List.set_cons_zero]
      refine skipH 10 rfl (by kernel_rfl) (by kernel_rfl) (by kernel_rfl) (fun _ _ _ h => h) (by rfl) hH ?_
      simp only [Act.put, List.setIfInBounds_toArray, List.set_cons_succ, List.set_cons_zero]
      refine skipH 11 rfl (by kernel_rfl) (by kernel_rfl) (by kernel_rfl) (fun _ _ _ h => h) (by rfl) hH ?_
      simp only [Act.put, List.setIfInBounds_toArray, List.set_cons_succ, List.set_cons_zero]
      refine skipC' 12 rfl (by kernel_rfl) (by rfl) hH ?_
      simp only [Act.put, List.setIfInBounds_toArray, List.set_cons_succ, List.set_cons_zero]
      refine takeH 13 (.bool true) rfl (by kernel_rfl) (by kernel_rfl) (by kernel_rfl) (fun _ _ _ h => h) (by rfl) (fun v hv => by go_simp) hH ?_
      simp only [Act.put, List.setIfInBounds_toArray, List.set_cons_succ, List.set_cons_zero]
      refine takeH 14 (.bool true) rfl (by kernel_rfl) (by kernel_rfl) (by kernel_rfl) (fun _ _ _ h => h) (by rfl) (fun v hv => by go_simp) hH ?_
      simp only [Act.put, List.setIfInBounds_toArray, List.set_cons_succ, List.set_cons_zero]
      refine skipH 15 rfl (by kernel_rfl) (by kernel_rfl) (by kernel_rfl) (fun _ _ _ h => h) (by rfl) hH ?_
      simp only [Act.put, List.setIfInBounds_toArray, List.set_cons_succ, List.set_cons_zero]
      refine skipH 16 rfl (by kernel_rfl) (by kernel_rfl) (by kernel_rfl) (fun _ _ _ h => h) (by rfl) hH ?_
      simp only [Act.put, List.setIfInBounds_toArray, List.set_cons_succ, List.set_cons_zero]
      refine skipH 17 rfl (by kernel_rfl) (by kernel_rfl) (by kernel_rfl) (fun _ _ _ h => h) (by rfl) hH ?_
      simp only [Act.put, List.setIfInBounds_toArray, List.set_cons_succ, List.set_cons_zero]
      refine skipC' 18 rfl (by kernel_rfl) (by rfl) hH ?_
      simp only [Act.put, List.setIfInBounds_toArray, List.set_cons_succ, List.set_cons_zero]
      refine takeH 19 (.bool true) rfl (by kernel_rfl) (by kernel_rfl) (by kernel_rfl) (fun _ _ _ h => h) (by rfl) (fun v hv => by go_simp) hH ?_
      simp only [Act.put, List.setIfInBounds_toArray, List.set_cons_succ, List.set_cons_zero]
      refine takeH 20 (.pointer (some ⟨b1 + 2, q, none⟩)) rfl (by kernel_rfl) (by kernel_rfl) (by kernel_rfl) (fun _ _ _ h => h) (by rfl) (fun v hv => by go_simp) hH ?_
      simp only [Act.put, List.setIfInBounds_toArray, List.set_cons_succ, List.set_cons_zero]
      have hkx : Kept [] wc wc.drew := hs0
      obtain ⟨⟨u9, cu⟩, fu⟩ := hcS.out _ hkx
      have hrow9 := hrowS.out _ true hkx
      have hk9 : Kept [b1 + 2] wc ((wc.drew).setCell ⟨b1 + 2, q, none⟩ (.bool true)) := (hkx.wider (T := [b1 + 2]) (fun _ _ h => by simp at h)).setCell (p := ⟨b1 + 2, q, none⟩) (fun _ => by simp) _
      refine writeH 21 rfl (by kernel_rfl) (by rfl) ((wc.drew).setCell ⟨b1 + 2, q, none⟩ (.bool true)) (by go_simp) (hk9) ?_
      simp only [Act.put, List.setIfInBounds_toArray, List.set_cons_succ, List.set_cons_zero]
      refine wpAnyH_done (by kernel_rfl) ?_ _
      simp only [OnlyN]
      gi_wp2
      have e9 : val k = true := by rw [hv2.out]; simp
      exact hend.out _ hk9 (by rw [e9]; exact hrow9)
    cases bD
    rotate_left 1
    · skip
      refine regionIn_h (S := fun v => Kept [b1 + 2] wc v) (by kernel_rfl) (by kernel_rfl) hH0 (fun hH => ?_)
      refine takeH 0 (.slice (some ⟨b1 + 2, 0, none⟩) n n) rfl (by kernel_rfl) (by kernel_rfl) (by kernel_rfl) (fun _ _ _ h => h) (by rfl) (fun v hv => by have h := f5.out v hv; go_simp) hH ?_
      simp only [Act.put, List.setIfInBounds_toArray, List.set_cons_succ, List.set_cons_zero]
      refine takeH 1 (.int .i64 (q : Int)) rfl (by kernel_rfl) (by kernel_rfl) (by kernel_rfl) (fun _ _ _ h => h) (by rfl) (fun v hv => by go_simp) hH ?_
      simp only [Act.put, List.setIfInBounds_toArray, List.set_cons_succ, List.set_cons_zero]
      refine takeH 2 (.bool false) rfl (by kernel_rfl) (by kernel_rfl) (by kernel_rfl) (fun _ _ _ h => h) (by rfl) (fun v hv => by go_simp) hH ?_
      simp only [Act.put, List.setIfInBounds_toArray, List.set_cons_succ, List.set_cons_zero]
      refine takeH 3 (.bool false) rfl (by kernel_rfl) (by kernel_rfl) (by kernel_rfl) (fun _ _ _ h => h) (by rfl) (fun v hv => by go_simp) hH ?_
      simp only [Act.put, List.setIfInBounds_toArray, List.set_cons_succ, List.set_cons_zero]
      refine takeH 4 (.bool true) rfl (by kernel_rfl) (by kernel_rfl) (by kernel_rfl) (fun _ _ _ h => h) (by rfl) (fun v hv => by go_simp) hH ?_
      simp only [Act.put, List.setIfInBounds_toArray, List.set_cons_succ, List.set_cons_zero]
      refine takeH 5 (.bool true) rfl (by kernel_rfl) (by kernel_rfl) (by kernel_rfl) (fun _ _ _ h => h) (by rfl) (fun v hv => by go_simp) hH ?_
      simp only [Act.put, List.setIfInBounds_toArray, List.set_cons_succ, List.set_cons_zero]
      refine takeH 6 (.bool true) rfl (by kernel_rfl) (by kernel_rfl) (by kernel_rfl) (fun _ _ _ h => h) (by rfl) (fun v hv => by go_simp) hH ?_
      simp only [Act.put, List.setIfInBounds_toArray, List.set_cons_succ, List.set_cons_zero]
      refine skipH 7 rfl (by kernel_rfl) (by kernel_rfl) (by kernel_rfl) (fun _ _ _ h => h) (by rfl) hH ?_
      simp only [Act.put, List.setIfInBounds_toArray, List.set_cons_succ, List.set_cons_zero]
      refine skipH 8 rfl (by kernel_rfl) (by kernel_rfl) (by kernel_rfl) (fun _ _ _ h => h) (by rfl) hH ?_
      simp only [Act.put, List.setIfInBounds_toArray, List.set_cons_succ, List.set_cons_zero]
      refine skipH 9 rfl (by kernel_rfl) (by kernel_rfl) (by kernel_rfl) (fun _ _ _ h => h) (by rfl) hH ?_
      simp only [Act.put, List.setIfInBounds_toArray, List.set_cons_succ, List.set_cons_zero]
      refine skipH 10 rfl (by kernel_rfl) (by kernel_rfl) (by kernel_rfl) (fun _ _ _ h => h) (by rfl) hH ?_
      simp only [Act.put, List.setIfInBounds_toArray, List.set_cons_succ, List.set_cons_zero]
      refine skipH 11 rfl (by kernel_rfl) (by kernel_rfl) (by kernel_rfl) (fun _ _ _ h => h) (by rfl) hH ?_
      simp only [Act.put, List.setIfInBounds_toArray, List.set_cons_succ, List.set_cons_zero]
      refine skipC' 12 rfl (by kernel_rfl) (by rfl) hH ?_
      simp only [Act.put, List.setIfInBounds_toArray, List.set_cons_succ, List.set_cons_zero]
      refine takeH 13 (.bool true) rfl (by kernel_rfl) (by kernel_rfl) (by kernel_rfl) (fun _ _ _ h => h) (by rfl) (fun v hv => by go_simp) hH ?_
      simp only [Act.put, List.setIfInBounds_toArray, List.set_cons_succ, List.set_cons_zero]
      refine takeH 14 (.bool true) rfl (by kernel_rfl) (by kernel_rfl) (by kernel_rfl) (fun _ _ _ h => h) (by rfl) (fun v hv => by go_simp) hH ?_
      simp only [Act.put, List.setIfInBounds_toArray, List.set_cons_succ, List.set_cons_zero]
      refine skipH 15 rfl (by kernel_rfl) (by kernel_rfl) (by kernel_rfl) (fun _ _ _ h => h) (by rfl) hH ?_
      simp only [Act.put, List.setIfInBounds_toArray, List.set_cons_succ, List.set_cons_zero]
      refine skipH 16 rfl (by kernel_rfl) (by kernel_rfl) (by kernel_rfl) (fun _ _ _ h => h) (by rfl) hH ?_
      simp only [Act.put, List.setIfInBounds_toArray, List.set_cons_succ, List.set_cons_zero]
      refine skipH 17 rfl (by kernel_rfl) (by kernel_rfl) (by kernel_rfl) (fun _ _ _ h => h) (by rfl) hH ?_
      simp only [Act.put, List.setIfInBounds_toArray, List.set_cons_succ, List.set_cons_zero]
      refine skipC' 18 rfl (by kernel_rfl) (by rfl) hH ?_
      simp only [Act.put, List.setIfInBounds_toArray, List.set_cons_succ, List.set_cons_zero]
      refine takeH 19 (.bool true) rfl (by kernel_rfl) (by kernel_rfl) (by kernel_rfl) (fun _ _ _ h => h) (by rfl) (fun v hv => by go_simp) hH ?_
      simp only [Act.put, List.setIfInBounds_toArray, List.set_cons_succ, List.set_cons_zero]
      refine takeH 20 (.pointer (some ⟨b1 + 2, q, none⟩)) rfl (by kernel_rfl) (by kernel_rfl) (by kernel_rfl) (fun _ _ _ h => h) (by rfl) (fun v hv => by go_simp) hH ?_
      simp only [Act.put, List.setIfInBounds_toArray, List.set_cons_succ, List.set_cons_zero]
      have hkx : Kept [] wc wc.drew := hs0
      obtain ⟨⟨u9, cu⟩, fu⟩ := hcS.out _ hkx
      have hrow9 := hrowS.out _ true hkx
      have hk9 : Kept [b1 + 2] wc ((wc.drew).setCell ⟨b1 + 2, q, none⟩ (.bool true)) := (hkx.wider (T := [b1 + 2]) (fun _ _ h => by simp at h)).setCell (p := ⟨b1 + 2, q, none⟩) (fun _ => by simp) _
      refine writeH 21 rfl (by kernel_rfl) (by rfl) ((wc.drew).setCell ⟨b1 + 2, q, none⟩ (.bool true)) (by go_simp) (hk9) ?_
      simp only [Act.put, List.setIfInBounds_toArray, List.set_cons_succ, List.set_cons_zero]
      refine wpAnyH_done (by kernel_rfl) ?_ _
      simp only [OnlyN]
      gi_wp2
      have e9 : val k = true := by rw [hv2.out]; simp
      exact hend.out _ hk9 (by rw [e9]; exact hrow9)
    · skip
      refine regionIn_h (S := fun v => Kept [b1 + 2] wc v) (by kernel_rfl) (by kernel_rfl) hH0 (fun hH => ?_)
      refine takeH 0 (.slice (some ⟨b1 + 2, 0, none⟩) n n) rfl (by kernel_rfl) (by kernel_rfl) (by kernel_rfl) (fun _ _ _ h => h) (by rfl) (fun v hv => by have h := f5.out v hv; go_simp) hH ?_
      simp only [Act.put, List.setIfInBounds_toArray, List.set_cons_succ, List.set_cons_zero]
      refine takeH 1 (.int .i64 (q : Int)) rfl (by kernel_rfl) (by kernel_rfl) (by kernel_rfl) (fun _ _ _ h => h) (by rfl) (fun v hv => by go_simp) hH ?_
      simp only [Act.put, List.setIfInBounds_toArray, List.set_cons_succ, List.set_cons_zero]
      refine takeH 2 (.bool false) rfl (by kernel_rfl) (by kernel_rfl) (by kernel_rfl) (fun _ _ _ h => h) (by rfl) (fun v hv => by go_simp) hH ?_
      simp only [Act.put, List.setIfInBounds_toArray, List.set_cons_succ, List.set_cons_zero]
      refine takeH 3 (.bool false) rfl (by kernel_rfl) (by kernel_rfl) (by kernel_rfl) (fun _ _ _ h => h) (by rfl) (fun v hv => by go_simp) hH ?_
      simp only [Act.put, List.setIfInBounds_toArray, List.set_cons_succ, List.set_cons_zero]
      refine takeH 4 (.bool false) rfl (by kernel_rfl) (by kernel_rfl) (by kernel_rfl) (fun _ _ _ h => h) (by rfl) (fun v hv => by go_simp) hH ?_
      simp only [Act.put, List.setIfInBounds_toArray, List.set_cons_succ, List.set_cons_zero]
      refine takeH 5 (.bool false) rfl (by kernel_rfl) (by kernel_rfl) (by kernel_rfl) (fun _ _ _ h => h) (by rfl) (fun v hv => by go_simp) hH ?_
      simp only [Act.put, List.setIfInBounds_toArray, List.set_cons_succ, List.set_cons_zero]
      refine takeH 6 (.bool false) rfl (by kernel_rfl) (by kernel_rfl) (by kernel_rfl) (fun _ _ _ h => h) (by rfl) (fun v hv => by go_simp) hH ?_
      simp only [Act.put, List.setIfInBounds_toArray, List.set_cons_succ, List.set_cons_zero]
      refine takeH 7 (.pointer (some ⟨W.heap.size, 0, none⟩)) rfl (by kernel_rfl) (by kernel_rfl) (by kernel_rfl) (fun _ _ _ h => h) (by rfl) (fun v hv => by go_simp) hH ?_
      simp only [Act.put, List.setIfInBounds_toArray, List.set_cons_succ, List.set_cons_zero]
      refine takeH 8 (.int .i64 tm) rfl (by kernel_rfl) (by kernel_rfl) (by kernel_rfl) (fun _ _ _ h => h) (by rfl) (fun v hv => by have h := fbt.out v hv; go_simp) hH ?_
      simp only [Act.put, List.setIfInBounds_toArray, List.set_cons_succ, List.set_cons_zero]
      refine takeH 9 (.int .i64 nw) rfl (by kernel_rfl) (by kernel_rfl) (by kernel_rfl) (fun _ _ _ h => h) (by rfl) (fun v hv => by go_simp) hH ?_
      simp only [Act.put, List.setIfInBounds_toArray, List.set_cons_succ, List.set_cons_zero]
      refine takeH 10 (.pointer (some ⟨b1 + 1, 3, none⟩)) rfl (by kernel_rfl) (by kernel_rfl) (by kernel_rfl) (fun _ _ _ h => h) (by rfl) (fun v hv => by go_simp) hH ?_
      simp only [Act.put, List.setIfInBounds_toArray, List.set_cons_succ, List.set_cons_zero]
      refine takeH 11 (.int .i64 p.within) rfl (by kernel_rfl) (by kernel_rfl) (by kernel_rfl) (fun _ _ _ h => h) (by rfl) (fun v hv => by have h := fpw.out v hv; go_simp) hH ?_
      simp only [Act.put, List.setIfInBounds_toArray, List.set_cons_succ, List.set_cons_zero]
      refine callR 12 rfl (by kernel_rfl) (by rfl) 21 #[.int .i64 tm, .int .i64 nw, .int .i64 p.within] (by go_simp) (.bool bW) (fun v => Kept [] wc v) (fun v h => h.wider (fun _ _ h => by simp at h)) ((hcW.out _).mono (fun e w' hh => ⟨hh.1, by rw [hh.2]; exact hs0⟩)) ?_
      rintro v12 k12
      simp only [Act.put, List.setIfInBounds_toArray, List.set_cons_succ, List.set_cons_zero]
      have hH12 : Kept [b1 + 2] wc v12 := k12.wider (fun _ _ h => by simp at h)
      cases bW
      rotate_left 1
      · skip
        refine takeH 13 (.bool true) rfl (by kernel_rfl) (by kernel_rfl) (by kernel_rfl) (fun _ _ _ h => h) (by rfl) (fun v hv => by go_simp) hH12 ?_
        simp only [Act.put, List.setIfInBounds_toArray, List.set_cons_succ, List.set_cons_zero]
        refine takeH 14 (.bool true) rfl (by kernel_rfl) (by kernel_rfl) (by kernel_rfl) (fun _ _ _ h => h) (by rfl) (fun v hv => by go_simp) hH12 ?_
        simp only [Act.put, List.setIfInBounds_toArray, List.set_cons_succ, List.set_cons_zero]
        refine skipH 15 rfl (by kernel_rfl) (by kernel_rfl) (by kernel_rfl) (fun _ _ _ h => h) (by rfl) hH12 ?_
        simp only [Act.put, List.setIfInBounds_toArray, List.set_cons_succ, List.set_cons_zero]
        refine skipH 16 rfl (by kernel_rfl) (by kernel_rfl) (by kernel_rfl) (fun _ _ _ h => h) (by rfl) hH12 ?_
        simp only [Act.put, List.setIfInBounds_toArray, List.set_cons_succ, List.set_cons_zero]
        refine skipH 17 rfl (by kernel_rfl) (by kernel_rfl) (by kernel_rfl) (fun _ _ _ h => h) (by rfl) hH12 ?_
        simp only [Act.put, List.setIfInBounds_toArray, List.set_cons_succ, List.set_cons_zero]
        refine skipC' 18 rfl (by kernel_rfl) (by rfl) hH12 ?_
        simp only [Act.put, List.setIfInBounds_toArray, List.set_cons_succ, List.set_cons_zero]
        refine takeH 19 (.bool true) rfl (by kernel_rfl) (by kernel_rfl) (by kernel_rfl) (fun _ _ _ h => h) (by rfl) (fun v hv => by go_simp) hH12 ?_
        simp only [Act.put, List.setIfInBounds_toArray, List.set_cons_succ, List.set_cons_zero]
        refine takeH 20 (.pointer (some ⟨b1 + 2, q, none⟩)) rfl (by kernel_rfl) (by kernel_rfl) (by kernel_rfl) (fun _ _ _ h => h) (by rfl) (fun v hv => by go_simp) hH12 ?_
        simp only [Act.put, List.setIfInBounds_toArray, List.set_cons_succ, List.set_cons_zero]
        have hkx : Kept [] wc v12 := k12
        obtain ⟨⟨u9, cu⟩, fu⟩ := hcS.out _ hkx
        have hrow9 := hrowS.out _ true hkx
        have hk9 : Kept [b1 + 2] wc ((v12).setCell ⟨b1 + 2, q, none⟩ (.bool true)) := (hkx.wider (T := [b1 + 2]) (fun _ _ h => by simp at h)).setCell (p := ⟨b1 + 2, q, none⟩) (fun _ => by simp) _
        refine writeH 21 rfl (by kernel_rfl) (by rfl) ((v12).setCell ⟨b1 + 2, q, none⟩ (.bool true)) (by go_simp) (hk9) ?_
        simp only [Act.put, List.setIfInBounds_toArray, List.set_cons_succ, List.set_cons_zero]
        refine wpAnyH_done (by kernel_rfl) ?_ _
        simp only [OnlyN]
        gi_wp2
        have e9 : val k = true := by rw [hv2.out]; simp
        exact hend.out _ hk9 (by rw [e9]; exact hrow9)
      · skip
        refine takeH 13 (.bool false) rfl (by kernel_rfl) (by kernel_rfl) (by kernel_rfl) (fun _ _ _ h => h) (by rfl) (fun v hv => by go_simp) hH12 ?_
        simp only [Act.put, List.setIfInBounds_toArray, List.set_cons_succ, List.set_cons_zero]
        refine takeH 14 (.bool false) rfl (by kernel_rfl) (by kernel_rfl) (by kernel_rfl) (fun _ _ _ h => h) (by rfl) (fun v hv => by go_simp) hH12 ?_
        simp only [Act.put, List.setIfInBounds_toArray, List.set_cons_succ, List.set_cons_zero]
        refine takeH 15 (.agg cs.toArray) rfl (by kernel_rfl) (by kernel_rfl) (by kernel_rfl) (fun _ _ _ h => h) (by rfl) (fun v hv => by have h := fbl.out v hv; unfold execOp; simp [Instr.loadAt, Instr.sureAddr, Sem.run_bind, Sem.run_pure, Result.andThen_ok, Act.eval, h]) hH12 ?_
        simp only [Act.put, List.setIfInBounds_toArray, List.set_cons_succ, List.set_cons_zero]
        refine takeH 16 (.pointer (some ⟨b1 + 1, 4, none⟩)) rfl (by kernel_rfl) (by kernel_rfl) (by kernel_rfl) (fun _ _ _ h => h) (by rfl) (fun v hv => by go_simp) hH12 ?_
        simp only [Act.put, List.setIfInBounds_toArray, List.set_cons_succ, List.set_cons_zero]
        refine takeH 17 (.string (S p.tag)) rfl (by kernel_rfl) (by kernel_rfl) (by kernel_rfl) (fun _ _ _ h => h) (by rfl) (fun v hv => by have h := fpt.out v hv; go_simp) hH12 ?_
        simp only [Act.put, List.setIfInBounds_toArray, List.set_cons_succ, List.set_cons_zero]
        refine callR 18 rfl (by kernel_rfl) (by rfl) 22 #[.agg cs.toArray, .string (S p.tag)] (by go_simp) (.bool bT) (fun v => Kept [] wc v) (fun v h => h.wider (fun _ _ h => by simp at h)) ((hcT.out _).mono (fun e w' hh => ⟨hh.1, k12.trans hh.2⟩)) ?_
        rintro v18 k18
        simp only [Act.put, List.setIfInBounds_toArray, List.set_cons_succ, List.set_cons_zero]
        have hH18 : Kept [b1 + 2] wc v18 := k18.wider (fun _ _ h => by simp at h)
        refine takeH 19 (.bool bT) rfl (by kernel_rfl) (by kernel_rfl) (by kernel_rfl) (fun _ _ _ h => h) (by rfl) (fun v hv => by go_simp) hH18 ?_
        simp only [Act.put, List.setIfInBounds_toArray, List.set_cons_succ, List.set_cons_zero]
        refine takeH 20 (.pointer (some ⟨b1 + 2, q, none⟩)) rfl (by kernel_rfl) (by kernel_rfl) (by kernel_rfl) (fun _ _ _ h => h) (by rfl) (fun v hv => by go_simp) hH18 ?_
        simp only [Act.put, List.setIfInBounds_toArray, List.set_cons_succ, List.set_cons_zero]
        have hkx : Kept [] wc v18 := k18
        obtain ⟨⟨u9, cu⟩, fu⟩ := hcS.out _ hkx
        have hrow9 := hrowS.out _ bT hkx
        have hk9 : Kept [b1 + 2] wc ((v18).setCell ⟨b1 + 2, q, none⟩ (.bool bT)) := (hkx.wider (T := [b1 + 2]) (fun _ _ h => by simp at h)).setCell (p := ⟨b1 + 2, q, none⟩) (fun _ => by simp) _
        refine writeH 21 rfl (by kernel_rfl) (by rfl) ((v18).setCell ⟨b1 + 2, q, none⟩ (.bool bT)) (by go_simp) (hk9) ?_
        simp only [Act.put, List.setIfInBounds_toArray, List.set_cons_succ, List.set_cons_zero]
        refine wpAnyH_done (by kernel_rfl) ?_ _
        simp only [OnlyN]
        gi_wp2
        have e9 : val k = bT := by rw [hv2.out]; simp
        exact hend.out _ hk9 (by rw [e9]; exact hrow9)
end Go.Proofs.Ytkabfdclecbnpaa
