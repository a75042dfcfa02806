/- coldstorelaw03.ShaTexts, walked. -/
import Derived.Test.YtplnfadonbhcoaaDoorHE
import Derived.Deep.DeepCutAuto
namespace Go.Proofs.YtplnfadonbhcoaaDoor
open Go.RowKit

theorem hexOf_inj (x y : List UInt8) (hx : x.length = 32) (hy : y.length = 32) (h : hexOf x = hexOf y) : x = y := by
  rw [← (parse_text x hx).1, ← (parse_text y hy).1, h]
theorem hexd_lt (i j : Nat) (hi : i < 16) (hj : j < 16) : decide (hexd i < hexd j) = decide (i < j) := by
  have : ∀ i j : Fin 16, decide (hexd i.val < hexd j.val) = decide (i.val < j.val) := by decide +kernel
  exact this ⟨i, hi⟩ ⟨j, hj⟩
theorem bytesLess_lessL : ∀ x y : List UInt8, Op.bytesLess x y = lessL x y
  | [], [] => by simp [Op.bytesLess, lessL]
  | [], _ :: _ => by simp [Op.bytesLess, lessL]
  | _ :: _, [] => by simp [Op.bytesLess, lessL]
  | a :: x, b :: y => by
    have ih := bytesLess_lessL x y
    unfold Op.bytesLess lessL
    rw [ih]
    by_cases h1 : a < b
    · simp [h1]
    · by_cases h2 : b < a
      · simp [h1, h2]
        try exact fun h => absurd h (by rintro rfl; exact absurd h2 (by simp))
      · have : a = b := UInt8.le_antisymm (by simpa using h2) (by simpa using h1)
        simp [this]
theorem lessL_hexOf : ∀ x y : List UInt8, lessL (hexOf x) (hexOf y) = lessL x y
  | [], [] => rfl
  | [], _ :: _ => rfl
  | _ :: _, [] => rfl
  | a :: x, b :: y => by
    have ih := lessL_hexOf x y
    have ha := a.toNat_lt
    have hb := b.toNat_lt
    have k1 := hexd_lt (a.toNat / 16) (b.toNat / 16) (by omega) (by omega)
    have k2 := hexd_lt (b.toNat / 16) (a.toNat / 16) (by omega) (by omega)
    have k3 := hexd_lt (a.toNat % 16) (b.toNat % 16) (by omega) (by omega)
    have k4 := hexd_lt (b.toNat % 16) (a.toNat % 16) (by omega) (by omega)
    simp only [decide_eq_decide] at k1 k2 k3 k4
    show lessL (hexd (a.toNat / 16) :: hexd (a.toNat % 16) :: hexOf x) (hexd (b.toNat / 16) :: hexd (b.toNat % 16) :: hexOf y) = _
    simp only [lessL, k1, k2, k3, k4, ih, UInt8.lt_iff_toNat_lt]
    repeat' split
    all_goals first | rfl | omega
theorem okHex_set (t : List UInt8) (i : Nat) (c : UInt8) (ht : okHex t = true) (hi : i < 64) : okHex (t.set i c) = decide (0 ≤ dig c) := by
  unfold okHex at ht ⊢
  simp only [Bool.and_eq_true, beq_iff_eq, List.all_eq_true, decide_eq_true_eq] at ht
  obtain ⟨hl, ha⟩ := ht
  rw [Bool.eq_iff_iff]
  simp only [Bool.and_eq_true, beq_iff_eq, List.all_eq_true, decide_eq_true_eq, List.length_set]
  constructor
  · rintro ⟨_, h⟩
    exact h c (List.mem_iff_getElem.2 ⟨i, by simp; omega, by simp⟩)
  · intro h
    refine ⟨hl, fun u hu => ?_⟩
    rcases List.mem_or_eq_of_mem_set hu with h1 | h1
    · exact ha u h1
    · exact h1 ▸ h
theorem hexOf_unhex (t : List UInt8) (ht : okHex t = true) : hexOf (unhex t 32) = t := by
  have ht' := ht
  unfold okHex at ht'
  simp only [Bool.and_eq_true, beq_iff_eq, List.all_eq_true, decide_eq_true_eq] at ht'
  obtain ⟨hl, ha⟩ := ht'
  have hul := unhex_len t 32
  apply List.ext_getElem (by rw [hexOf_len, hul, hl])
  intro k h1 h2
  have hk : k < 64 := by omega
  have ev : ∀ j, j < 32 → (unhex t 32).getD j 0 = UInt8.ofNat (dig (t.getD (2 * j) 0) * 16 + dig (t.getD (2 * j + 1) 0)).toNat := fun j hj => by
    simp [unhex, hj]
  have gt : ∀ k, k < 64 → 0 ≤ dig (t.getD k 0) := fun k hk => by
    have : t.getD k 0 = t[k]'(by omega) := by simp [hl, hk]
    rw [this]; exact ha _ (List.getElem_mem _)
  obtain ⟨e1, e2⟩ := hexOf_get (unhex t 32) (k / 2) (by omega)
  rw [ev (k / 2) (by omega)] at e1 e2
  have g1 := gt (2 * (k / 2)) (by omega)
  have g2 := gt (2 * (k / 2) + 1) (by omega)
  have l1 := dig_lt (t.getD (2 * (k / 2)) 0)
  have l2 := dig_lt (t.getD (2 * (k / 2) + 1) 0)
  have hv : (UInt8.ofNat (dig (t.getD (2 * (k / 2)) 0) * 16 + dig (t.getD (2 * (k / 2) + 1) 0)).toNat).toNat = (dig (t.getD (2 * (k / 2)) 0) * 16 + dig (t.getD (2 * (k / 2) + 1) 0)).toNat := by
    rw [UInt8.toNat_ofNat']; exact Nat.mod_eq_of_lt (by omega)
  rw [hv] at e1 e2
  have q1 : (dig (t.getD (2 * (k / 2)) 0) * 16 + dig (t.getD (2 * (k / 2) + 1) 0)).toNat / 16 = (dig (t.getD (2 * (k / 2)) 0)).toNat := by omega
  have q2 : (dig (t.getD (2 * (k / 2)) 0) * 16 + dig (t.getD (2 * (k / 2) + 1) 0)).toNat % 16 = (dig (t.getD (2 * (k / 2) + 1) 0)).toNat := by omega
  rw [q1, hexd_dig _ g1] at e1
  rw [q2, hexd_dig _ g2] at e2
  have hlen : (hexOf (unhex t 32)).length = 64 := by rw [hexOf_len, hul]
  rcases Nat.mod_two_eq_zero_or_one k with hm | hm
  · have hk2 : 2 * (k / 2) = k := by omega
    rw [hk2] at e1
    simpa [hlen, hl, hk] using e1
  · have hk2 : 2 * (k / 2) + 1 = k := by omega
    rw [hk2] at e2
    simpa [hlen, hl, hk] using e2
theorem parsed_set (x : List UInt8) (hx : x.length = 32) (i : Nat) (hi : i < 64) (c : UInt8) (hc : 0 ≤ dig c) : parsedE ((hexOf x).set i c) = 0 ∧ decide (parsedL ((hexOf x).set i c) = x) = decide ((hexOf x).getD i 0 = c) := by
  have hok : okHex ((hexOf x).set i c) = true := by rw [okHex_set _ _ _ (hexOf_ok x hx) hi]; simpa using hc
  have hlen : (hexOf x).length = 64 := by rw [hexOf_len, hx]
  refine ⟨by unfold parsedE; rw [if_pos hok], ?_⟩
  rw [decide_eq_decide]
  constructor
  · intro h
    have h2 : hexOf (parsedL ((hexOf x).set i c)) = (hexOf x).set i c := by unfold parsedL; rw [if_pos hok]; exact hexOf_unhex _ hok
    rw [h] at h2
    have := congrArg (fun l => l.getD i 0) h2
    simpa [hlen, hi] using this
  · rintro rfl
    have e : (hexOf x).set i ((hexOf x).getD i 0) = hexOf x := by
      apply List.ext_getElem (by simp)
      intro k h1 h2
      rw [List.getElem_set]
      split
      · rename_i h; subst h; simp [h2]
      · rfl
    rw [e]; exact (parse_text x hx).1
theorem parsed_set_not (x : List UInt8) (hx : x.length = 32) (i : Nat) (hi : i < 64) (c : UInt8) (hc : ¬ 0 ≤ dig c) : parsedE ((hexOf x).set i c) = 21 ∧ parsedL ((hexOf x).set i c) = List.replicate 32 0 := by
  have hok : okHex ((hexOf x).set i c) = false := by rw [okHex_set _ _ _ (hexOf_ok x hx) hi]; simpa using hc
  unfold parsedE parsedL
  rw [hok]; simp

theorem runH {P : Program} {md : Region.Mode} {Q : Exit → Act → World → Prop} {S : World → Prop} {l rest : List Oper} {oi : Oper} {fuel : Nat} {listed : Array Bool} {a : Act} {w : World} (i : Nat) (hi : l.drop i = oi :: rest) (hr : Region.ready md l.toArray listed = [i]) (hw : Region.wanted oi (yielded l.toArray a.tmps) = true)
    (v : Value) (w' : World) (hrun : (execOp a.eval oi).run P w = .ok (.value v) w') (hS' : S w') (h : wpAnyH P md l.toArray Q S fuel (listed.setIfInBounds i true) (a.put oi.dst v) w') : wpAnyH P md l.toArray Q S (fuel + 1) listed a w := by
  refine wpAnyH_ready hr (by simp) (AllReadyH.cons (getL_of_drop hi) (fun K hK => ?_) AllReadyH.nil)
  rw [if_pos hw]
  unfold Oper.wp
  rw [hrun]
  exact hK.out _ _ hS' (fun _ => h)

section
variable {P : Program} {md : Region.Mode} {Q : Exit → Act → World → Prop} {S : World → Prop} {l rest rest' : List Oper} {oi oj : Oper} {fuel : Nat} {listed : Array Bool} {a : Act} {w : World}
theorem bothH (i j : Nat) (hi : l.drop i = oi :: rest) (hj : l.drop j = oj :: rest') (hr : Region.ready md l.toArray listed = [i, j]) (hwi : Region.wanted oi (yielded l.toArray a.tmps) = true) (hwj : Region.wanted oj (yielded l.toArray a.tmps) = true)
    (vi : Value) (wi : World) (hri : (execOp a.eval oi).run P w = .ok (.value vi) wi) (hSi : S wi) (vj : Value) (wj : World) (hrj : (execOp a.eval oj).run P w = .ok (.value vj) wj) (hSj : S wj)
    (h1 : wpAnyH P md l.toArray Q S fuel (listed.setIfInBounds i true) (a.put oi.dst vi) wi) (h2 : wpAnyH P md l.toArray Q S fuel (listed.setIfInBounds j true) (a.put oj.dst vj) wj) : wpAnyH P md l.toArray Q S (fuel + 1) listed a w := by
  refine wpAnyH_ready hr (by simp) (AllReadyH.cons (getL_of_drop hi) (fun K hK => ?_) (AllReadyH.cons (getL_of_drop hj) (fun K hK => ?_) AllReadyH.nil))
  · rw [if_pos hwi]; unfold Oper.wp; rw [hri]; exact hK.out _ _ hSi (fun _ => h1)
  · rw [if_pos hwj]; unfold Oper.wp; rw [hrj]; exact hK.out _ _ hSj (fun _ => h2)
theorem callR (i : Nat) (hi : l.drop i = oi :: rest) (hr : Region.ready md l.toArray listed = [i]) (hw : Region.wanted oi (yielded l.toArray a.tmps) = true) (f : FuncId) (args : Array Value)
    (hrun : (execOp a.eval oi).run P w = .ok (.enter f args) w) (val : Value) (R : World → Prop) (hRS : ∀ w', R w' → S w') (hc : Calls P f args w fun e w' => e = .returned val ∧ R w')
    (h : ∀ w', R w' → wpAnyH P md l.toArray Q S fuel (listed.setIfInBounds i true) (a.put oi.dst val) w') : wpAnyH P md l.toArray Q S (fuel + 1) listed a w := by
  refine wpAnyH_ready hr (by simp) (AllReadyH.cons (getL_of_drop hi) (fun K hK => ?_) AllReadyH.nil)
  rw [if_pos hw]; unfold Oper.wp; rw [hrun]
  refine hc.mono ?_
  rintro e w' ⟨rfl, hS'⟩
  exact hK.out _ _ (hRS _ hS') (fun _ => h w' hS')
theorem callOrH (i j : Nat) (hi : l.drop i = oi :: rest) (hj : l.drop j = oj :: rest') (hr : Region.ready md l.toArray listed = [i, j]) (hwi : Region.wanted oi (yielded l.toArray a.tmps) = true) (hwj : Region.wanted oj (yielded l.toArray a.tmps) = true) (f : FuncId) (args : Array Value)
    (hrun : (execOp a.eval oi).run P w = .ok (.enter f args) w) (val : Value) (R : World → Prop) (hRS : ∀ w', R w' → S w') (hc : Calls P f args w fun e w' => e = .returned val ∧ R w')
    (vj : Value) (wj : World) (hrj : (execOp a.eval oj).run P w = .ok (.value vj) wj) (hSj : S wj)
    (h1 : ∀ w', R w' → wpAnyH P md l.toArray Q S fuel (listed.setIfInBounds i true) (a.put oi.dst val) w') (h2 : wpAnyH P md l.toArray Q S fuel (listed.setIfInBounds j true) (a.put oj.dst vj) wj) : wpAnyH P md l.toArray Q S (fuel + 1) listed a w := by
  refine wpAnyH_ready hr (by simp) (AllReadyH.cons (getL_of_drop hi) (fun K hK => ?_) (AllReadyH.cons (getL_of_drop hj) (fun K hK => ?_) AllReadyH.nil))
  · rw [if_pos hwi]; unfold Oper.wp; rw [hrun]
    refine hc.mono ?_
    rintro e w' ⟨rfl, hS'⟩
    exact hK.out _ _ (hRS _ hS') (fun _ => h1 w' hS')
  · rw [if_pos hwj]; unfold Oper.wp; rw [hrj]; exact hK.out _ _ hSj (fun _ => h2)
theorem storeH (i : Nat) (hi : l.drop i = oi :: rest) (hr : Region.ready md l.toArray listed = [i]) (hg0 : oi.guard = none) (ty : TypeId) (x y : Operand) (ho : oi.op = .store ty x y)
    (g : Nat) (cells cur : List Value) (hx : a.eval x = .pointer (some ⟨g, 0, none⟩)) (hy : a.eval y = .agg cells.toArray) (t : TypeId) (hg : w.heap[g]? = some (.cells cur.toArray t (0, 0))) (hinf : (P.info? ty).map (·.size) = some cells.length)
    (hfit : cur.length = cells.length) (h1 : ∀ v ∈ cells, v.oneCell' = true) (hS : S (w.setRow g cells.toArray)) (h : wpAnyH P md l.toArray Q S fuel (listed.setIfInBounds i true) (a.put oi.dst undef) (w.setRow g cells.toArray)) : wpAnyH P md l.toArray Q S (fuel + 1) listed a w := by
  refine wpAnyH_ready hr (by simp) (AllReadyH.cons (getL_of_drop hi) (fun K hK => ?_) AllReadyH.nil)
  refine step_store_at hg0 ty x y ho g 0 cells hx hy t cur hg hinf (by omega) h1 ?_
  rw [splice_all cur cells hfit]
  exact hK.out _ _ hS (fun _ => h)
end

theorem i64_and63 (n : Int) : bits .and .i64 n 63 = n % 64 := by
  have h7 : (BitVec.ofInt 64 63).toNat = 2 ^ 6 - 1 := by decide
  have key : (BitVec.ofInt 64 n &&& BitVec.ofInt 64 63).toNat = (n % ((2 ^ 64 : Nat) : Int)).toNat % 2 ^ 6 := by
    rw [BitVec.toNat_and, BitVec.toNat_ofInt, h7, Nat.and_two_pow_sub_one_eq_mod]
  show IntKind.i64.wrap ((BitVec.ofInt 64 n &&& BitVec.ofInt 64 63).toNat : Nat) = n % 64
  rw [key, IntKind.wrap_i64]
  omega

/-- Two sums at g and behind it. -/
def Ab (w : World) (g : Nat) (x y : List UInt8) (v : World) : Prop := Kept [] w v ∧ v.rangeAt g 0 (x.map B) ∧ v.rangeAt (g + 1) 0 (y.map B)
theorem Ab.next {w v v' : World} {g : Nat} {x y : List UInt8} (h : Ab w g x y v) (hk : Kept [] v v') : Ab w g x y v' :=
  ⟨h.1.trans hk, fun j u hj => by have := h.2.1 j u hj; rw [hk.cell (World.block_lt_of_cell? v _ this) (by simp)]; exact this, fun j u hj => by have := h.2.2 j u hj; rw [hk.cell (World.block_lt_of_cell? v _ this) (by simp)]; exact this⟩
theorem Ab.lt {w v : World} {g : Nat} {x y : List UInt8} (h : Ab w g x y v) (hy : y.length = 32) : g + 1 < v.heap.size := by
  have := h.2.2 0 (B (y[0]'(by omega))) (by rw [List.getElem?_map, List.getElem?_eq_getElem (by omega)]; rfl)
  exact World.block_lt_of_cell? v _ this
theorem Ab.setRow {w v : World} {g q : Nat} {x y : List UInt8} (h : Ab w g x y v) (hg : g = w.heap.size) (hq : g + 1 < q) (cs : Array Value) : Ab w g x y (v.setRow q cs) := by
  have hk : Kept [q] v (v.setRow q cs) := (Kept.refl [q] v).setRow (fun _ => by simp) cs
  refine ⟨h.1.trans' hk (fun z hz hm => by simp at hm; omega), fun j u hj => ?_, fun j u hj => ?_⟩
  · have := h.2.1 j u hj; rw [hk.cell (World.block_lt_of_cell? v _ this) (by simp; omega)]; exact this
  · have := h.2.2 j u hj; rw [hk.cell (World.block_lt_of_cell? v _ this) (by simp; omega)]; exact this
theorem parsedL_len (t : List UInt8) : (parsedL t).length = 32 := by
  unfold parsedL
  split
  · exact unhex_len t 32
  · simp
theorem conv_one (v : World) (n : Nat) (cb : UInt8) (h : v.heap[n]? = some (.cells #[.int .u8 (cb.toNat : Int)] 5 (0, 0))) : (convert 22 9 (.slice (some ⟨n, 0, none⟩) 1 1)).run Tryd.prog v = .ok (.string ⟨[cb].toArray⟩) v :=
  text_bytes v ⟨n, 0, none⟩ 1 [cb] (fun j u hj => by
    rw [plain_add, Nat.zero_add, cell_of_row v _ _ _ _ _ h]
    rcases j with _ | j
    · exact hj
    · simp at hj)
theorem dig_of (cb : UInt8) : decide (0 ≤ dig cb) = ((decide (48 ≤ cb.toNat) && decide (cb.toNat ≤ 57)) || (decide (97 ≤ cb.toNat) && decide (cb.toNat ≤ 102))) := by
  rw [Bool.eq_iff_iff]
  unfold dig
  simp only [decide_eq_true_eq, Bool.or_eq_true, Bool.and_eq_true]
  split <;> (try split) <;> omega
theorem ab_call {w v : World} {g : Nat} {x y : List UInt8} {f : FuncId} {args : Array Value} {val : Value} (h : Ab w g x y v) (hc : Calls Tryd.prog f args v fun e w' => e = .returned val ∧ Kept [] v w') :
    Calls Tryd.prog f args v fun e w' => e = .returned val ∧ Ab w g x y w' :=
  hc.mono fun _ _ h' => ⟨h'.1, h.next h'.2⟩
theorem row_range {v : World} {g : Nat} {x : List UInt8} (h : v.heap[g]? = some (.cells (x.map B).toArray 24 (0, 0))) : v.rangeAt g 0 (x.map B) := fun j u hj => by
  rw [Nat.zero_add, cell_of_row v _ _ _ _ _ h]
  simpa using hj
theorem Ab.cx {w v : World} {g : Nat} {x y : List UInt8} (h : Ab w g x y v) : ∀ (j : Nat) u, (x.map B)[j]? = some u → v.cell? ((⟨g, 0, none⟩ : Addr).add j) = some u := fun j u hj => by
  rw [plain_add]; exact h.2.1 j u hj
theorem Ab.cy {w v : World} {g : Nat} {x y : List UInt8} (h : Ab w g x y v) : ∀ (j : Nat) u, (y.map B)[j]? = some u → v.cell? ((⟨g + 1, 0, none⟩ : Addr).add j) = some u := fun j u hj => by
  rw [plain_add]; exact h.2.2 j u hj
theorem wpList_load_if {P : Program} {ops : Array Oper} {rest : List Oper} {o : Oper} {a : Act} {w : World} {Q : Exit → Act → World → Prop} (hw : Region.wanted o (yielded ops a.tmps) = true) (ty : TypeId) (x : Operand) (ho : o.op = .load ty x)
    (ad : Addr) (hx : a.eval x = .pointer (some ad)) (cs : List Value) (d : TypeDesc) (hu : P.underlying ty = some d) (hd : (match d with | .struct _ | .array _ _ => true | _ => false) = true)
    (hi : (P.info? ty).map (·.size) = some cs.length) (hc : ∀ (j : Nat) v, cs[j]? = some v → w.cell? (ad.add j) = some v)
    (h : wpList P ops Q rest (a.put o.dst (.agg cs.toArray)) w) : wpList P ops Q (o :: rest) a w := by
  unfold wpList
  rw [if_pos hw]
  refine Or.inl ?_
  unfold Oper.wp execOp
  simp only [ho, hx, Instr.loadAt, Instr.sureAddr, Sem.run_bind, Sem.run_pure, Result.andThen_ok, run_loadVar_cells w ty ad cs d hu hd hi hc]
  exact h
theorem bytes_toList (l : List UInt8) : (⟨l.toArray⟩ : ByteArray).toList = l := by simp [ByteArray.toList_eq]

set_option maxRecDepth 100000 in
set_option maxHeartbeats 4000000 in
theorem sha_texts (x y : List UInt8) (at0 : Int) (cb : UInt8) (w : World) (hx : x.length = 32) (hy : y.length = 32) (ht : Tabs w) :
    Calls Tryd.prog 5 #[.agg (x.map B).toArray, .agg (y.map B).toArray, .int .i64 at0, B cb] w fun e w' => e = .returned (.bool true) ∧ Kept [] w w' := by
  obtain ⟨W, hW⟩ : ∃ W, W = (w.alloc (.cells (x.map B).toArray 24)).alloc (.cells (y.map B).toArray 24) := ⟨_, rfl⟩
  have hAb : Hid (Ab w w.heap.size x y W) := hid ⟨by rw [hW]; exact ((Kept.refl _ _).alloc _).alloc _, row_range (by rw [hW]; exact heap_alloc_old (heap_alloc_at rfl)), row_range (by rw [hW]; exact heap_alloc_at (by simp))⟩
  have hal := hid (alive03 W (ht.kept hAb.out.1 (by simp) (by simp)))
  have hu := Tryd.underlying24
  have hix : (Tryd.prog.info? 24).map (·.size) = some (x.map B).length := by rw [List.length_map, hx]; exact info_id
  have hiy : (Tryd.prog.info? 24).map (·.size) = some (y.map B).length := by rw [List.length_map, hy]; exact info_id
  obtain ⟨c, hc⟩ : ∃ c : Nat, c = cb.toNat := ⟨_, rfl⟩
  have hc256 : c < 256 := by have := cb.toNat_lt; omega
  have Hc := hid hc
  rw [show B cb = .int .u8 (c : Int) by rw [hc]; rfl]
  clear hc
  have Ht := hid ht; have Hx := hid hx; have Hy := hid hy
  obtain ⟨s, hs⟩ : ∃ s, s = hexOf x := ⟨_, rfl⟩
  obtain ⟨u, hu2⟩ : ∃ u, u = hexOf y := ⟨_, rfl⟩
  have hsl : (s.length : Int) = 64 := by rw [hs, hexOf_len, hx]; rfl
  have hul : (u.length : Int) = 64 := by rw [hu2, hexOf_len, hy]; rfl
  have Hs := hid hs; have Hu := hid hu2
  obtain ⟨lt, hlt⟩ : ∃ lt, lt = lessL x y := ⟨_, rfl⟩
  obtain ⟨eb, heb⟩ : ∃ eb, eb = decide (x = y) := ⟨_, rfl⟩
  have hbl : Op.bytesLess s u = lt := by rw [hs, hu2, bytesLess_lessL, lessL_hexOf, hlt]
  have hbe : (s == u) = eb := by
    rw [hs, hu2, heb]
    by_cases h : x = y
    · rw [h]; simp
    · rw [decide_eq_false h]
      simp only [beq_eq_false_iff_ne, ne_eq]
      exact fun h2 => h (hexOf_inj x y hx hy h2)
  have tls := bytes_toList s
  have tlu := bytes_toList u
  have tx := hid (fun (v : World) (h : Ab w w.heap.size x y v) => ab_call h (show Calls Tryd.prog 14 #[.agg (x.map B).toArray] v fun e w' => e = .returned (.string ⟨s.toArray⟩) ∧ Kept [] v w' by rw [hs]; exact text_any x hx v))
  have ty := hid (fun (v : World) (h : Ab w w.heap.size x y v) => ab_call h (show Calls Tryd.prog 14 #[.agg (y.map B).toArray] v fun e w' => e = .returned (.string ⟨u.toArray⟩) ∧ Kept [] v w' by rw [hu2]; exact text_any y hy v))
  have Hlt := hid hlt; have Heb := hid heb
  obtain ⟨g, hg⟩ : ∃ g, g = w.heap.size := ⟨_, rfl⟩
  rw [← hg] at hAb tx ty
  have Hg := hid hg
  clear ht hx hy hs hu2 hlt heb
  go_enter Tryd.func5, Tryd.ntmps5
  go_wp2_with fail
  rw [← hW, ← hg]
  clear hW hg
  refine hal.out.mono ?_
  rintro e w1 ⟨rfl, hk1⟩
  have Hr1 := hid (hAb.out.next hk1)
  clear hk1 hal hAb
  have HS := hid (Hr1.out.next (Kept.of_drew [] w1))
  clear Hr1
  go_wp2_with fail
  refine wp_region_held_drew (S := Ab w g x y) (by kernel_rfl) HS.out (fun hH => ?_)
  refine loadH 0 (x.map B) rfl (by kernel_rfl) (by kernel_rfl) (by kernel_rfl) (fun _ _ _ h => h) (by rfl) 24 (.tmp 4) rfl (g) 0 rfl _ (fun v h => h.2.1) hu rfl hix hH ?_
  simp only [Act.put, List.setIfInBounds_toArray, List.set_cons_succ, List.set_cons_zero]
  refine loadH 2 (y.map B) rfl (by kernel_rfl) (by kernel_rfl) (by kernel_rfl) (fun _ _ _ h => h) (by rfl) 24 (.tmp 5) rfl ((g + 1)) 0 rfl _ (fun v h => h.2.2) hu rfl hiy hH ?_
  simp only [Act.put, List.setIfInBounds_toArray, List.set_cons_succ, List.set_cons_zero]
  refine callH 1 rfl (by kernel_rfl) (by rfl) 14 #[.agg (x.map B).toArray] (by go_simp) (.string ⟨s.toArray⟩) hH (tx.out _) ?_
  clear hH
  intro vv hH
  simp only [Act.put, List.setIfInBounds_toArray, List.set_cons_succ, List.set_cons_zero]
  refine callH 3 rfl (by kernel_rfl) (by rfl) 14 #[.agg (y.map B).toArray] (by go_simp) (.string ⟨u.toArray⟩) hH (ty.out _) ?_
  clear hH
  intro vv hH
  simp only [Act.put, List.setIfInBounds_toArray, List.set_cons_succ, List.set_cons_zero]
  refine takeH 4 (.string ⟨s.toArray⟩) rfl (by kernel_rfl) (by kernel_rfl) (by kernel_rfl) (fun _ _ _ h => h) (by rfl) (fun w hSw => by go_simp) hH ?_
  simp only [Act.put, List.setIfInBounds_toArray, List.set_cons_succ, List.set_cons_zero]
  refine takeH 5 (.string ⟨u.toArray⟩) rfl (by kernel_rfl) (by kernel_rfl) (by kernel_rfl) (fun _ _ _ h => h) (by rfl) (fun w hSw => by go_simp) hH ?_
  simp only [Act.put, List.setIfInBounds_toArray, List.set_cons_succ, List.set_cons_zero]
  refine wpAnyH_done (by kernel_rfl) ?_ _
  rename_i vz
  have Hr2 := hid hH
  clear hH HS
  have cx := hid Hr2.out.cx
  have cy := hid Hr2.out.cy
  have heq := fun W => id_equal x y Hx.out Hy.out W
  rw [← Heb.out] at heq
  go_wp2_with (first
    | (refine wpList_load_if (by rfl) 24 (.tmp 4) rfl ⟨g, 0, none⟩ rfl (x.map B) _ hu rfl hix cx.out ?_)
    | (refine wpList_load_if (by rfl) 24 (.tmp 5) rfl ⟨g + 1, 0, none⟩ rfl (y.map B) _ hu rfl hiy cy.out ?_))
  refine (ab_call Hr2.out (show Calls Tryd.prog 12 #[.agg (x.map B).toArray, .agg (y.map B).toArray] vv fun e w' => e = .returned (.bool lt) ∧ Kept [] vv w' by rw [Hlt.out]; exact less_any x y Hx.out Hy.out vv)).mono ?_
  rintro e w3 ⟨rfl, hr3⟩
  have Hr3 := hid hr3
  clear cx cy Hr2 hr3 tx ty
  have cx := hid Hr3.out.cx
  have cy := hid Hr3.out.cy
  obtain ⟨i, hi64⟩ : ∃ i : Nat, at0 % 64 = (i : Int) := ⟨(at0 % 64).toNat, by omega⟩
  have hi : i < 64 := by omega
  have hand : bits .and .i64 at0 63 = (i : Int) := (i64_and63 at0).trans hi64
  have HS := hid (Hr3.out.next (Kept.of_drew [] w3))
  clear hi64
  go_upto_region 7 with (first
    | (refine wpList_load_if (by rfl) 24 (.tmp 4) rfl ⟨g, 0, none⟩ rfl (x.map B) _ hu rfl hix cx.out ?_)
    | (refine wpList_load_if (by rfl) 24 (.tmp 5) rfl ⟨g + 1, 0, none⟩ rfl (y.map B) _ hu rfl hiy cy.out ?_))
  clear cx cy hbl hbe tls tlu hul Hu heq hand
  obtain ⟨ts, hts⟩ : ∃ ts, ts = s.set i cb := ⟨_, rfl⟩
  obtain ⟨pl, hpl⟩ : ∃ pl, pl = parsedL ts := ⟨_, rfl⟩
  obtain ⟨pe, hpe⟩ : ∃ pe, pe = parsedE ts := ⟨_, rfl⟩
  have hsn : s.length = 64 := by omega
  have Hsn := hid hsn
  have Hts := hid hts; have Hpl := hid hpl; have Hpe := hid hpe
  clear hts hpl hpe hsn
  have hpc := hid (show ∀ v, Calls Tryd.prog 8 #[.string ⟨ts.toArray⟩] v fun e w' => e = .returned (.tuple #[.agg (pl.map B).toArray, .int .i64 pe]) ∧ Kept [] v w' from fun v => by
    rw [Hpl.out, Hpe.out]; exact parse_any ts (by rw [Hts.out]; simp; have := Hsn.out; omega) v)
  go_cut [11, 12] (fun s11 s12 wx => ∃ q : Nat, s11 = .pointer (some ⟨q, 0, none⟩) ∧ s12 = .int .i64 pe ∧ Hid (Ab w g x y wx ∧ wx.heap[q]? = some (.cells (pl.map B).toArray 24 (0, 0))))
  case first =>
    refine wp_region_held_drew (S := Ab w g x y) (by kernel_rfl) HS.out (fun hH => ?_)
    have hct := fun W => cut_to s i (by have := Hsn.out; omega) W
    have hcf := fun W => cut_from s (i + 1) (by have := Hsn.out; omega) W
    rw [show ((i + 1 : Nat) : Int) = (i : Int) + 1 by omega] at hcf
    have hip : (Tryd.prog.info? 24).map (·.size) = some (pl.map B).length := by rw [List.length_map, Hpl.out, parsedL_len]; exact info_id
    have hpll : pl.length = 32 := by rw [Hpl.out]; exact parsedL_len _
    have ha1 := fun W => run_string_add_lists (P := Tryd.prog) (w := W) (s.take i) [cb] (by simp; omega) (by simp)
    have ha2 := fun W => run_string_add_lists (P := Tryd.prog) (w := W) (s.take i ++ [cb]) (s.drop (i + 1)) (by simp; omega) (by simp; have := Hsn.out; omega)
    have hts2 : s.take i ++ [cb] ++ s.drop (i + 1) = ts := by rw [Hts.out, List.set_eq_take_append_cons_drop, if_pos (by have := Hsn.out; omega)]; simp
    rw [hts2] at ha2
    have hwi : IntKind.i64.wrap ((i : Int) + 1) = (i : Int) + 1 := by rw [IntKind.wrap_i64]; omega
    have Hip := hid hip; have Hpll := hid hpll
    clear hts2 hip hpll
    obtain ⟨zl, hzl⟩ : ∃ zl, zl = (List.replicate 32 (0 : UInt8)).map B := ⟨_, rfl⟩
    have hz : ∀ W, (zeroValue 24).run Tryd.prog W = .ok (.agg zl.toArray) W := by rw [hzl]; exact fun W => by kernel_rfl
    have Hzl := hid (show zl.length = 32 by rw [hzl]; simp)
    clear hzl
    obtain ⟨V, hV⟩ : ∃ V, V = w3.drew := ⟨_, rfl⟩
    rw [← hV] at hH ⊢
    have hVl := hH.lt Hy.out
    clear hV
    refine takeH 0 (.string ⟨s.toArray⟩) rfl (by kernel_rfl) (by kernel_rfl) (by kernel_rfl) (fun _ _ _ h => h) (by rfl) (fun w hSw => by go_simp) hH ?_
    simp only [Act.put, List.setIfInBounds_toArray, List.set_cons_succ, List.set_cons_zero]
    refine takeH 1 (.int .i64 (i : Int)) rfl (by kernel_rfl) (by kernel_rfl) (by kernel_rfl) (fun _ _ _ h => h) (by rfl) (fun w hSw => by go_simp) hH ?_
    simp only [Act.put, List.setIfInBounds_toArray, List.set_cons_succ, List.set_cons_zero]
    refine takeH 2 (.string ⟨(s.take i).toArray⟩) rfl (by kernel_rfl) (by kernel_rfl) (by kernel_rfl) (fun _ _ _ h => h) (by rfl) (fun w hSw => by go_simp) hH ?_
    simp only [Act.put, List.setIfInBounds_toArray, List.set_cons_succ, List.set_cons_zero]
    refine takeH 3 (.int .u8 (c : Int)) rfl (by kernel_rfl) (by kernel_rfl) (by kernel_rfl) (fun _ _ _ h => h) (by rfl) (fun w hSw => by go_simp) hH ?_
    simp only [Act.put, List.setIfInBounds_toArray, List.set_cons_succ, List.set_cons_zero]
    refine takeH 7 (.string ⟨s.toArray⟩) rfl (by kernel_rfl) (by kernel_rfl) (by kernel_rfl) (fun _ _ _ h => h) (by rfl) (fun w hSw => by go_simp) hH ?_
    simp only [Act.put, List.setIfInBounds_toArray, List.set_cons_succ, List.set_cons_zero]
    refine takeH 8 (.int .i64 (i : Int)) rfl (by kernel_rfl) (by kernel_rfl) (by kernel_rfl) (fun _ _ _ h => h) (by rfl) (fun w hSw => by go_simp) hH ?_
    simp only [Act.put, List.setIfInBounds_toArray, List.set_cons_succ, List.set_cons_zero]
    refine takeH 9 (.int .i64 ((i : Int) + 1)) rfl (by kernel_rfl) (by kernel_rfl) (by kernel_rfl) (fun _ _ _ h => h) (by rfl) (fun w hSw => by go_simp) hH ?_
    simp only [Act.put, List.setIfInBounds_toArray, List.set_cons_succ, List.set_cons_zero]
    refine takeH 10 (.string ⟨(s.drop (i + 1)).toArray⟩) rfl (by kernel_rfl) (by kernel_rfl) (by kernel_rfl) (fun _ _ _ h => h) (by rfl) (fun w hSw => by go_simp) hH ?_
    simp only [Act.put, List.setIfInBounds_toArray, List.set_cons_succ, List.set_cons_zero]
    refine bothH 4 16 rfl rfl (by kernel_rfl) (by rfl) (by rfl) (.slice (some ⟨V.heap.size, 0, none⟩) 1 1) (V.alloc (.cells #[.int .u8 (c : Int)] 5)) (by go_simp) (hH.next ((Kept.refl [] _).alloc _)) (.pointer (some ⟨V.heap.size, 0, none⟩)) (V.alloc (.cells zl.toArray 24)) (by go_simp) (hH.next ((Kept.refl [] _).alloc _)) ?_ ?_
    · simp only [Act.put, List.setIfInBounds_toArray, List.set_cons_succ, List.set_cons_zero]
      have hH := hH.next ((Kept.refl [] V).alloc (.cells #[.int .u8 (c : Int)] 5))
      have hcv := conv_one (V.alloc (.cells #[.int .u8 (c : Int)] 5)) (V.heap.size) cb (by rw [← Hc.out]; exact heap_alloc_at rfl)
      refine bothH 5 16 rfl rfl (by kernel_rfl) (by rfl) (by rfl) (.string ⟨[cb].toArray⟩) (V.alloc (.cells #[.int .u8 (c : Int)] 5)) (by go_simp) (hH) (.pointer (some ⟨(V.alloc (.cells #[.int .u8 (c : Int)] 5)).heap.size, 0, none⟩)) ((V.alloc (.cells #[.int .u8 (c : Int)] 5)).alloc (.cells zl.toArray 24)) (by go_simp) (hH.next ((Kept.refl [] _).alloc _)) ?_ ?_
      · simp only [Act.put, List.setIfInBounds_toArray, List.set_cons_succ, List.set_cons_zero]
        refine takeH 6 (.string ⟨(s.take i ++ [cb]).toArray⟩) rfl (by kernel_rfl) (by kernel_rfl) (by kernel_rfl) (fun _ _ _ h => h) (by rfl) (fun w hSw => by go_simp) hH ?_
        simp only [Act.put, List.setIfInBounds_toArray, List.set_cons_succ, List.set_cons_zero]
        refine takeH 11 (.string ⟨ts.toArray⟩) rfl (by kernel_rfl) (by kernel_rfl) (by kernel_rfl) (fun _ _ _ h => h) (by rfl) (fun w hSw => by go_simp) hH ?_
        simp only [Act.put, List.setIfInBounds_toArray, List.set_cons_succ, List.set_cons_zero]
        refine callOrH 12 16 rfl rfl (by kernel_rfl) (by rfl) (by rfl) 8 #[.string ⟨ts.toArray⟩] (by go_simp) (.tuple #[.agg (pl.map B).toArray, .int .i64 pe]) (Ab w g x y) (fun _ h => h) ((hpc.out _).mono fun e v h => ⟨h.1, hH.next h.2⟩) (.pointer (some ⟨(V.alloc (.cells #[.int .u8 (c : Int)] 5)).heap.size, 0, none⟩)) ((V.alloc (.cells #[.int .u8 (c : Int)] 5)).alloc (.cells zl.toArray 24)) (by go_simp) (hH.next ((Kept.refl [] _).alloc _)) ?_ ?_
        · clear hH
          intro vu hH
          simp only [Act.put, List.setIfInBounds_toArray, List.set_cons_succ, List.set_cons_zero]
          refine takeH 13 (.tuple #[.agg (pl.map B).toArray, .int .i64 pe]) rfl (by kernel_rfl) (by kernel_rfl) (by kernel_rfl) (fun _ _ _ h => h) (by rfl) (fun w hSw => by go_simp) hH ?_
          simp only [Act.put, List.setIfInBounds_toArray, List.set_cons_succ, List.set_cons_zero]
          refine takeH 14 (.agg (pl.map B).toArray) rfl (by kernel_rfl) (by kernel_rfl) (by kernel_rfl) (fun _ _ _ h => h) (by rfl) (fun w hSw => by go_simp) hH ?_
          simp only [Act.put, List.setIfInBounds_toArray, List.set_cons_succ, List.set_cons_zero]
          refine takeH 15 (.int .i64 pe) rfl (by kernel_rfl) (by kernel_rfl) (by kernel_rfl) (fun _ _ _ h => h) (by rfl) (fun w hSw => by go_simp) hH ?_
          simp only [Act.put, List.setIfInBounds_toArray, List.set_cons_succ, List.set_cons_zero]
          refine runH 16 rfl (by kernel_rfl) (by rfl) (.pointer (some ⟨vu.heap.size, 0, none⟩)) (vu.alloc (.cells zl.toArray 24)) (by go_simp) (hH.next ((Kept.refl [] _).alloc _)) ?_
          simp only [Act.put, List.setIfInBounds_toArray, List.set_cons_succ, List.set_cons_zero]
          have hul := hH.lt Hy.out
          have hq : (vu.alloc (.cells zl.toArray 24)).heap[vu.heap.size]? = some (.cells zl.toArray 24 (0, 0)) := heap_alloc_at rfl
          have hH := hH.next ((Kept.refl [] vu).alloc (.cells zl.toArray 24))
          obtain ⟨vv, hvv⟩ : ∃ vv, vv = vu.alloc (.cells zl.toArray 24) := ⟨_, rfl⟩
          rw [← hvv] at hq hH ⊢
          have hpll := Hpll.out
          have hip := Hip.out
          refine storeH 17 rfl (by kernel_rfl) rfl 24 (.tmp 11) (.tmp 62) rfl vu.heap.size (pl.map B) zl rfl rfl _ hq hip (by simp [hpll, Hzl.out]) (B_one pl) (hH.setRow Hg.out (by omega) _) ?_
          simp only [Act.put, List.setIfInBounds_toArray, List.set_cons_succ, List.set_cons_zero]
          have hfin := hid (show Ab w g x y (vv.setRow vu.heap.size (pl.map B).toArray) ∧ (vv.setRow vu.heap.size (pl.map B).toArray).heap[vu.heap.size]? = some (.cells (pl.map B).toArray 24 (0, 0)) from ⟨hH.setRow Hg.out (by omega) _, setRow_heap vv vu.heap.size _ _ _ _ hq⟩)
          have hH := hfin.out.1
          refine takeH 18 (.int .i64 pe) rfl (by kernel_rfl) (by kernel_rfl) (by kernel_rfl) (fun _ _ _ h => h) (by rfl) (fun w hSw => by go_simp) hH ?_
          simp only [Act.put, List.setIfInBounds_toArray, List.set_cons_succ, List.set_cons_zero]
          refine wpAnyH_done (by kernel_rfl) ?_ _
          go_wp2_with fail
          go_meet
          exact ⟨vu.heap.size, rfl, rfl, hfin⟩
        · simp only [Act.put, List.setIfInBounds_toArray, List.set_cons_succ, List.set_cons_zero]
          obtain ⟨q, hqe⟩ : ∃ q, q = (V.alloc (.cells #[.int .u8 (c : Int)] 5)).heap.size := ⟨_, rfl⟩
          have hq : ((V.alloc (.cells #[.int .u8 (c : Int)] 5)).alloc (.cells zl.toArray 24)).heap[q]? = some (.cells zl.toArray 24 (0, 0)) := by rw [hqe]; exact heap_alloc_at rfl
          have hgq : g + 1 < q := by rw [hqe]; first | exact hVl | (rw [World.size_alloc]; omega)
          rw [← hqe]
          clear hqe
          have hH := hH.next ((Kept.refl [] _).alloc (.cells zl.toArray 24))
          refine callR 12 rfl (by kernel_rfl) (by rfl) 8 #[.string ⟨ts.toArray⟩] (by go_simp) (.tuple #[.agg (pl.map B).toArray, .int .i64 pe]) (fun v => Ab w g x y v ∧ v.heap[q]? = some (.cells zl.toArray 24 (0, 0))) (fun _ h => h.1) ((hpc.out _).mono fun e v h => ⟨h.1, hH.next h.2, h.2.at hq (by simp)⟩) ?_
          clear hH hq
          rintro vv ⟨hH, hq⟩
          simp only [Act.put, List.setIfInBounds_toArray, List.set_cons_succ, List.set_cons_zero]
          refine takeH 13 (.tuple #[.agg (pl.map B).toArray, .int .i64 pe]) rfl (by kernel_rfl) (by kernel_rfl) (by kernel_rfl) (fun _ _ _ h => h) (by rfl) (fun w hSw => by go_simp) hH ?_
          simp only [Act.put, List.setIfInBounds_toArray, List.set_cons_succ, List.set_cons_zero]
          refine takeH 14 (.agg (pl.map B).toArray) rfl (by kernel_rfl) (by kernel_rfl) (by kernel_rfl) (fun _ _ _ h => h) (by rfl) (fun w hSw => by go_simp) hH ?_
          simp only [Act.put, List.setIfInBounds_toArray, List.set_cons_succ, List.set_cons_zero]
          refine takeH 15 (.int .i64 pe) rfl (by kernel_rfl) (by kernel_rfl) (by kernel_rfl) (fun _ _ _ h => h) (by rfl) (fun w hSw => by go_simp) hH ?_
          simp only [Act.put, List.setIfInBounds_toArray, List.set_cons_succ, List.set_cons_zero]
          have hpll := Hpll.out
          have hip := Hip.out
          refine storeH 17 rfl (by kernel_rfl) rfl 24 (.tmp 11) (.tmp 62) rfl q (pl.map B) zl rfl rfl _ hq hip (by simp [hpll, Hzl.out]) (B_one pl) (hH.setRow Hg.out (by omega) _) ?_
          simp only [Act.put, List.setIfInBounds_toArray, List.set_cons_succ, List.set_cons_zero]
          have hfin := hid (show Ab w g x y (vv.setRow q (pl.map B).toArray) ∧ (vv.setRow q (pl.map B).toArray).heap[q]? = some (.cells (pl.map B).toArray 24 (0, 0)) from ⟨hH.setRow Hg.out (by omega) _, setRow_heap vv q _ _ _ _ hq⟩)
          have hH := hfin.out.1
          refine takeH 18 (.int .i64 pe) rfl (by kernel_rfl) (by kernel_rfl) (by kernel_rfl) (fun _ _ _ h => h) (by rfl) (fun w hSw => by go_simp) hH ?_
          simp only [Act.put, List.setIfInBounds_toArray, List.set_cons_succ, List.set_cons_zero]
          refine wpAnyH_done (by kernel_rfl) ?_ _
          go_wp2_with fail
          go_meet
          exact ⟨q, rfl, rfl, hfin⟩
      · simp only [Act.put, List.setIfInBounds_toArray, List.set_cons_succ, List.set_cons_zero]
        obtain ⟨q, hqe⟩ : ∃ q, q = (V.alloc (.cells #[.int .u8 (c : Int)] 5)).heap.size := ⟨_, rfl⟩
        have hq : ((V.alloc (.cells #[.int .u8 (c : Int)] 5)).alloc (.cells zl.toArray 24)).heap[q]? = some (.cells zl.toArray 24 (0, 0)) := by rw [hqe]; exact heap_alloc_at rfl
        have hgq : g + 1 < q := by rw [hqe]; first | exact hVl | (rw [World.size_alloc]; omega)
        rw [← hqe]
        clear hqe
        have hH := hH.next ((Kept.refl [] _).alloc (.cells zl.toArray 24))
        clear hcv
        have hcv := conv_one ((V.alloc (.cells #[.int .u8 (c : Int)] 5)).alloc (.cells zl.toArray 24)) (V.heap.size) cb (by rw [← Hc.out]; exact heap_alloc_old (heap_alloc_at rfl))
        refine runH 5 rfl (by kernel_rfl) (by rfl) (.string ⟨[cb].toArray⟩) ((V.alloc (.cells #[.int .u8 (c : Int)] 5)).alloc (.cells zl.toArray 24)) (by go_simp) hH ?_
        simp only [Act.put, List.setIfInBounds_toArray, List.set_cons_succ, List.set_cons_zero]
        refine takeH 6 (.string ⟨(s.take i ++ [cb]).toArray⟩) rfl (by kernel_rfl) (by kernel_rfl) (by kernel_rfl) (fun _ _ _ h => h) (by rfl) (fun w hSw => by go_simp) hH ?_
        simp only [Act.put, List.setIfInBounds_toArray, List.set_cons_succ, List.set_cons_zero]
        refine takeH 11 (.string ⟨ts.toArray⟩) rfl (by kernel_rfl) (by kernel_rfl) (by kernel_rfl) (fun _ _ _ h => h) (by rfl) (fun w hSw => by go_simp) hH ?_
        simp only [Act.put, List.setIfInBounds_toArray, List.set_cons_succ, List.set_cons_zero]
        refine callR 12 rfl (by kernel_rfl) (by rfl) 8 #[.string ⟨ts.toArray⟩] (by go_simp) (.tuple #[.agg (pl.map B).toArray, .int .i64 pe]) (fun v => Ab w g x y v ∧ v.heap[q]? = some (.cells zl.toArray 24 (0, 0))) (fun _ h => h.1) ((hpc.out _).mono fun e v h => ⟨h.1, hH.next h.2, h.2.at hq (by simp)⟩) ?_
        clear hH hq
        rintro vv ⟨hH, hq⟩
        simp only [Act.put, List.setIfInBounds_toArray, List.set_cons_succ, List.set_cons_zero]
        refine takeH 13 (.tuple #[.agg (pl.map B).toArray, .int .i64 pe]) rfl (by kernel_rfl) (by kernel_rfl) (by kernel_rfl) (fun _ _ _ h => h) (by rfl) (fun w hSw => by go_simp) hH ?_
        simp only [Act.put, List.setIfInBounds_toArray, List.set_cons_succ, List.set_cons_zero]
        refine takeH 14 (.agg (pl.map B).toArray) rfl (by kernel_rfl) (by kernel_rfl) (by kernel_rfl) (fun _ _ _ h => h) (by rfl) (fun w hSw => by go_simp) hH ?_
        simp only [Act.put, List.setIfInBounds_toArray, List.set_cons_succ, List.set_cons_zero]
        refine takeH 15 (.int .i64 pe) rfl (by kernel_rfl) (by kernel_rfl) (by kernel_rfl) (fun _ _ _ h => h) (by rfl) (fun w hSw => by go_simp) hH ?_
        simp only [Act.put, List.setIfInBounds_toArray, List.set_cons_succ, List.set_cons_zero]
        have hpll := Hpll.out
        have hip := Hip.out
        refine storeH 17 rfl (by kernel_rfl) rfl 24 (.tmp 11) (.tmp 62) rfl q (pl.map B) zl rfl rfl _ hq hip (by simp [hpll, Hzl.out]) (B_one pl) (hH.setRow Hg.out (by omega) _) ?_
        simp only [Act.put, List.setIfInBounds_toArray, List.set_cons_succ, List.set_cons_zero]
        have hfin := hid (show Ab w g x y (vv.setRow q (pl.map B).toArray) ∧ (vv.setRow q (pl.map B).toArray).heap[q]? = some (.cells (pl.map B).toArray 24 (0, 0)) from ⟨hH.setRow Hg.out (by omega) _, setRow_heap vv q _ _ _ _ hq⟩)
        have hH := hfin.out.1
        refine takeH 18 (.int .i64 pe) rfl (by kernel_rfl) (by kernel_rfl) (by kernel_rfl) (fun _ _ _ h => h) (by rfl) (fun w hSw => by go_simp) hH ?_
        simp only [Act.put, List.setIfInBounds_toArray, List.set_cons_succ, List.set_cons_zero]
        refine wpAnyH_done (by kernel_rfl) ?_ _
        go_wp2_with fail
        go_meet
        exact ⟨q, rfl, rfl, hfin⟩
    · simp only [Act.put, List.setIfInBounds_toArray, List.set_cons_succ, List.set_cons_zero]
      obtain ⟨q, hqe⟩ : ∃ q, q = V.heap.size := ⟨_, rfl⟩
      have hq : ((V.alloc (.cells zl.toArray 24)).alloc (.cells #[.int .u8 (c : Int)] 5)).heap[q]? = some (.cells zl.toArray 24 (0, 0)) := by rw [hqe]; exact heap_alloc_old (heap_alloc_at rfl)
      have hgq : g + 1 < q := by rw [hqe]; first | exact hVl | (rw [World.size_alloc]; omega)
      rw [← hqe]
      clear hqe
      have hH := hH.next ((Kept.refl [] _).alloc (.cells zl.toArray 24))
      refine runH 4 rfl (by kernel_rfl) (by rfl) (.slice (some ⟨(V.alloc (.cells zl.toArray 24)).heap.size, 0, none⟩) 1 1) ((V.alloc (.cells zl.toArray 24)).alloc (.cells #[.int .u8 (c : Int)] 5)) (by go_simp) (hH.next ((Kept.refl [] _).alloc _)) ?_
      simp only [Act.put, List.setIfInBounds_toArray, List.set_cons_succ, List.set_cons_zero]
      have hH := hH.next ((Kept.refl [] _).alloc (.cells #[.int .u8 (c : Int)] 5))
      have hcv := conv_one ((V.alloc (.cells zl.toArray 24)).alloc (.cells #[.int .u8 (c : Int)] 5)) (V.heap.size + 1) cb (by rw [← Hc.out]; exact heap_alloc_at (by rw [World.size_alloc]))
      refine runH 5 rfl (by kernel_rfl) (by rfl) (.string ⟨[cb].toArray⟩) ((V.alloc (.cells zl.toArray 24)).alloc (.cells #[.int .u8 (c : Int)] 5)) (by go_simp) hH ?_
      simp only [Act.put, List.setIfInBounds_toArray, List.set_cons_succ, List.set_cons_zero]
      refine takeH 6 (.string ⟨(s.take i ++ [cb]).toArray⟩) rfl (by kernel_rfl) (by kernel_rfl) (by kernel_rfl) (fun _ _ _ h => h) (by rfl) (fun w hSw => by go_simp) hH ?_
      simp only [Act.put, List.setIfInBounds_toArray, List.set_cons_succ, List.set_cons_zero]
      refine takeH 11 (.string ⟨ts.toArray⟩) rfl (by kernel_rfl) (by kernel_rfl) (by kernel_rfl) (fun _ _ _ h => h) (by rfl) (fun w hSw => by go_simp) hH ?_
      simp only [Act.put, List.setIfInBounds_toArray, List.set_cons_succ, List.set_cons_zero]
      refine callR 12 rfl (by kernel_rfl) (by rfl) 8 #[.string ⟨ts.toArray⟩] (by go_simp) (.tuple #[.agg (pl.map B).toArray, .int .i64 pe]) (fun v => Ab w g x y v ∧ v.heap[q]? = some (.cells zl.toArray 24 (0, 0))) (fun _ h => h.1) ((hpc.out _).mono fun e v h => ⟨h.1, hH.next h.2, h.2.at hq (by simp)⟩) ?_
      clear hH hq
      rintro vv ⟨hH, hq⟩
      simp only [Act.put, List.setIfInBounds_toArray, List.set_cons_succ, List.set_cons_zero]
      refine takeH 13 (.tuple #[.agg (pl.map B).toArray, .int .i64 pe]) rfl (by kernel_rfl) (by kernel_rfl) (by kernel_rfl) (fun _ _ _ h => h) (by rfl) (fun w hSw => by go_simp) hH ?_
      simp only [Act.put, List.setIfInBounds_toArray, List.set_cons_succ, List.set_cons_zero]
      refine takeH 14 (.agg (pl.map B).toArray) rfl (by kernel_rfl) (by kernel_rfl) (by kernel_rfl) (fun _ _ _ h => h) (by rfl) (fun w hSw => by go_simp) hH ?_
      simp only [Act.put, List.setIfInBounds_toArray, List.set_cons_succ, List.set_cons_zero]
      refine takeH 15 (.int .i64 pe) rfl (by kernel_rfl) (by kernel_rfl) (by kernel_rfl) (fun _ _ _ h => h) (by rfl) (fun w hSw => by go_simp) hH ?_
      simp only [Act.put, List.setIfInBounds_toArray, List.set_cons_succ, List.set_cons_zero]
      have hpll := Hpll.out
      have hip := Hip.out
      refine storeH 17 rfl (by kernel_rfl) rfl 24 (.tmp 11) (.tmp 62) rfl q (pl.map B) zl rfl rfl _ hq hip (by simp [hpll, Hzl.out]) (B_one pl) (hH.setRow Hg.out (by omega) _) ?_
      simp only [Act.put, List.setIfInBounds_toArray, List.set_cons_succ, List.set_cons_zero]
      have hfin := hid (show Ab w g x y (vv.setRow q (pl.map B).toArray) ∧ (vv.setRow q (pl.map B).toArray).heap[q]? = some (.cells (pl.map B).toArray 24 (0, 0)) from ⟨hH.setRow Hg.out (by omega) _, setRow_heap vv q _ _ _ _ hq⟩)
      have hH := hfin.out.1
      refine takeH 18 (.int .i64 pe) rfl (by kernel_rfl) (by kernel_rfl) (by kernel_rfl) (fun _ _ _ h => h) (by rfl) (fun w hSw => by go_simp) hH ?_
      simp only [Act.put, List.setIfInBounds_toArray, List.set_cons_succ, List.set_cons_zero]
      refine wpAnyH_done (by kernel_rfl) ?_ _
      go_wp2_with fail
      go_meet
      exact ⟨q, rfl, rfl, hfin⟩
  case rest =>
    obtain ⟨q, rfl, rfl, hr7⟩ := hcut
    obtain ⟨dg, hdg⟩ : ∃ dg, dg = decide (0 ≤ dig cb) := ⟨_, rfl⟩
    have Hdg := hid hdg
    clear hdg HS Hr3
    go_upto_region 8 with fail
    go_cut [13] (fun s13 w8 => s13 = .bool dg ∧ Hid (Ab w g x y w8 ∧ w8.heap[q]? = some (.cells (pl.map B).toArray 24 (0, 0))))
    case first =>
      have hcase : c < 48 ∨ (48 ≤ c ∧ c ≤ 57) ∨ (57 < c ∧ c < 97) ∨ (97 ≤ c ∧ c ≤ 102) ∨ 102 < c := by omega
      have hd := dig_of cb
      rw [← Hdg.out, ← Hc.out] at hd
      rcases hcase with h | h | h | h | h
      all_goals
        have b1 : decide ((48 : Int) ≤ (c : Int)) = decide (48 ≤ c) := by rw [decide_eq_decide]; omega
        have b2 : decide ((c : Int) ≤ 57) = decide (c ≤ 57) := by rw [decide_eq_decide]; omega
        have b3 : decide ((97 : Int) ≤ (c : Int)) = decide (97 ≤ c) := by rw [decide_eq_decide]; omega
        have b4 : decide ((c : Int) ≤ 102) = decide (c ≤ 102) := by rw [decide_eq_decide]; omega
        first | rw [decide_eq_true (show 48 ≤ c by omega)] at b1 hd | rw [decide_eq_false (show ¬ 48 ≤ c by omega)] at b1 hd
        first | rw [decide_eq_true (show c ≤ 57 by omega)] at b2 hd | rw [decide_eq_false (show ¬ c ≤ 57 by omega)] at b2 hd
        first | rw [decide_eq_true (show 97 ≤ c by omega)] at b3 hd | rw [decide_eq_false (show ¬ 97 ≤ c by omega)] at b3 hd
        first | rw [decide_eq_true (show c ≤ 102 by omega)] at b4 hd | rw [decide_eq_false (show ¬ c ≤ 102 by omega)] at b4 hd
        have Hd := hid hd
        clear hd h
        go_wp2_with fail
        go_meet
        exact ⟨by rw [Hd.out]; rfl, hr7⟩
    case rest =>
      obtain ⟨rfl, hr8⟩ := hcut
      have HS9 := hid (show Kept [] w wc.drew ∧ wc.drew.rangeAt g 0 (x.map B) ∧ wc.drew.rangeAt q 0 (pl.map B) from ⟨(hr8.out.1.next (Kept.of_drew [] wc)).1, (hr8.out.1.next (Kept.of_drew [] wc)).2.1, row_range hr8.out.2⟩)
      have hpll : pl.length = 32 := by rw [Hpl.out]; exact parsedL_len _
      have hip : (Tryd.prog.info? 24).map (·.size) = some (pl.map B).length := by rw [List.length_map, hpll]; exact info_id
      obtain ⟨k, hk⟩ : ∃ k, k = (s.getD i 0).toNat := ⟨_, rfl⟩
      have hsi := fun W => str_index s i (by have := Hsn.out; omega) W
      rw [← hk] at hsi
      clear hr7 hr8 hpc
      by_cases hdc : 0 ≤ dig cb
      · obtain ⟨hp1, hp2⟩ := parsed_set x Hx.out i hi cb hdc
        rw [← Hs.out, ← Hts.out, ← Hpe.out] at hp1
        rw [← Hs.out, ← Hts.out, ← Hpl.out] at hp2
        have hdg : dg = true := by rw [Hdg.out]; simpa using hdc
        obtain ⟨e1, he1⟩ : ∃ e1, e1 = decide (pl = x) := ⟨_, rfl⟩
        have heq := fun W => id_equal pl x hpll Hx.out W
        rw [← he1] at heq
        have hck : decide ((c : Int) = (k : Int)) = e1 := by
          rw [he1, hp2, hk, Hc.out, decide_eq_decide]
          constructor
          · intro h; exact (UInt8.toNat_inj.1 (by omega)).symm
          · intro h; rw [h]
        have hck2 : ((c : Int) == (k : Int)) = e1 := hck
        clear Hpe Hdg hp2 he1 hk Hpl hpll
        subst hp1 hdg
        go_wp2_with fail
        refine wp_region_held_drew (S := fun v => Kept [] w v ∧ v.rangeAt g 0 (x.map B) ∧ v.rangeAt q 0 (pl.map B)) (by kernel_rfl) HS9.out (fun hH => ?_)
        refine takeH 0 (.int .i64 0) rfl (by kernel_rfl) (by kernel_rfl) (by kernel_rfl) (fun _ _ _ h => h) (by rfl) (fun w hSw => by go_simp) hH ?_
        simp only [Act.put, List.setIfInBounds_toArray, List.set_cons_succ, List.set_cons_zero]
        refine takeH 1 (Value.bool true) rfl (by kernel_rfl) (by kernel_rfl) (by kernel_rfl) (fun _ _ _ h => h) (by rfl) (fun w hSw => by go_simp) hH ?_
        simp only [Act.put, List.setIfInBounds_toArray, List.set_cons_succ, List.set_cons_zero]
        refine takeH 2 (Value.bool true) rfl (by kernel_rfl) (by kernel_rfl) (by kernel_rfl) (fun _ _ _ h => h) (by rfl) (fun w hSw => by go_simp) hH ?_
        simp only [Act.put, List.setIfInBounds_toArray, List.set_cons_succ, List.set_cons_zero]
        refine takeH 3 (Value.bool true) rfl (by kernel_rfl) (by kernel_rfl) (by kernel_rfl) (fun _ _ _ h => h) (by rfl) (fun w hSw => by go_simp) hH ?_
        simp only [Act.put, List.setIfInBounds_toArray, List.set_cons_succ, List.set_cons_zero]
        refine takeH 4 (Value.bool true) rfl (by kernel_rfl) (by kernel_rfl) (by kernel_rfl) (fun _ _ _ h => h) (by rfl) (fun w hSw => by go_simp) hH ?_
        simp only [Act.put, List.setIfInBounds_toArray, List.set_cons_succ, List.set_cons_zero]
        refine loadH 5 (pl.map B) rfl (by kernel_rfl) (by kernel_rfl) (by kernel_rfl) (fun _ _ _ h => h) (by rfl) 24 (.tmp 11) rfl (q) 0 rfl _ (fun v h => h.2.2) hu rfl hip hH ?_
        simp only [Act.put, List.setIfInBounds_toArray, List.set_cons_succ, List.set_cons_zero]
        refine loadH 6 (x.map B) rfl (by kernel_rfl) (by kernel_rfl) (by kernel_rfl) (fun _ _ _ h => h) (by rfl) 24 (.tmp 4) rfl (g) 0 rfl _ (fun v h => h.2.1) hu rfl hix hH ?_
        simp only [Act.put, List.setIfInBounds_toArray, List.set_cons_succ, List.set_cons_zero]
        refine takeH 7 (.bool e1) rfl (by kernel_rfl) (by kernel_rfl) (by kernel_rfl) (fun _ _ _ h => h) (by rfl) (fun w hSw => by go_simp) hH ?_
        simp only [Act.put, List.setIfInBounds_toArray, List.set_cons_succ, List.set_cons_zero]
        refine takeH 8 (Value.bool true) rfl (by kernel_rfl) (by kernel_rfl) (by kernel_rfl) (fun _ _ _ h => h) (by rfl) (fun w hSw => by go_simp) hH ?_
        simp only [Act.put, List.setIfInBounds_toArray, List.set_cons_succ, List.set_cons_zero]
        refine takeH 9 (Value.bool true) rfl (by kernel_rfl) (by kernel_rfl) (by kernel_rfl) (fun _ _ _ h => h) (by rfl) (fun w hSw => by go_simp) hH ?_
        simp only [Act.put, List.setIfInBounds_toArray, List.set_cons_succ, List.set_cons_zero]
        refine takeH 10 (.int .u8 (c : Int)) rfl (by kernel_rfl) (by kernel_rfl) (by kernel_rfl) (fun _ _ _ h => h) (by rfl) (fun w hSw => by go_simp) hH ?_
        simp only [Act.put, List.setIfInBounds_toArray, List.set_cons_succ, List.set_cons_zero]
        refine takeH 11 (.string ⟨s.toArray⟩) rfl (by kernel_rfl) (by kernel_rfl) (by kernel_rfl) (fun _ _ _ h => h) (by rfl) (fun w hSw => by go_simp) hH ?_
        simp only [Act.put, List.setIfInBounds_toArray, List.set_cons_succ, List.set_cons_zero]
        refine takeH 12 (.int .i64 (i : Int)) rfl (by kernel_rfl) (by kernel_rfl) (by kernel_rfl) (fun _ _ _ h => h) (by rfl) (fun w hSw => by go_simp) hH ?_
        simp only [Act.put, List.setIfInBounds_toArray, List.set_cons_succ, List.set_cons_zero]
        refine takeH 13 (.int .u8 (k : Int)) rfl (by kernel_rfl) (by kernel_rfl) (by kernel_rfl) (fun _ _ _ h => h) (by rfl) (fun w hSw => by go_simp) hH ?_
        simp only [Act.put, List.setIfInBounds_toArray, List.set_cons_succ, List.set_cons_zero]
        refine takeH 14 (.bool e1) rfl (by kernel_rfl) (by kernel_rfl) (by kernel_rfl) (fun _ _ _ h => h) (by rfl) (fun w hSw => by go_simp) hH ?_
        simp only [Act.put, List.setIfInBounds_toArray, List.set_cons_succ, List.set_cons_zero]
        refine takeH 15 (.bool e1) rfl (by kernel_rfl) (by kernel_rfl) (by kernel_rfl) (fun _ _ _ h => h) (by rfl) (fun w hSw => by go_simp) hH ?_
        simp only [Act.put, List.setIfInBounds_toArray, List.set_cons_succ, List.set_cons_zero]
        refine takeH 16 (Value.bool true) rfl (by kernel_rfl) (by kernel_rfl) (by kernel_rfl) (fun _ _ _ h => h) (by rfl) (fun w hSw => by go_simp) hH ?_
        simp only [Act.put, List.setIfInBounds_toArray, List.set_cons_succ, List.set_cons_zero]
        refine takeH 17 (Value.bool true) rfl (by kernel_rfl) (by kernel_rfl) (by kernel_rfl) (fun _ _ _ h => h) (by rfl) (fun w hSw => by go_simp) hH ?_
        simp only [Act.put, List.setIfInBounds_toArray, List.set_cons_succ, List.set_cons_zero]
        refine takeH 18 (Value.bool true) rfl (by kernel_rfl) (by kernel_rfl) (by kernel_rfl) (fun _ _ _ h => h) (by rfl) (fun w hSw => by go_simp) hH ?_
        simp only [Act.put, List.setIfInBounds_toArray, List.set_cons_succ, List.set_cons_zero]
        refine skipH 19 rfl (by kernel_rfl) (by kernel_rfl) (by kernel_rfl) (fun _ _ _ h => h) (by rfl) hH ?_
        simp only [Act.put, List.setIfInBounds_toArray, List.set_cons_succ, List.set_cons_zero]
        refine skipH 20 rfl (by kernel_rfl) (by kernel_rfl) (by kernel_rfl) (fun _ _ _ h => h) (by rfl) hH ?_
        simp only [Act.put, List.setIfInBounds_toArray, List.set_cons_succ, List.set_cons_zero]
        refine skipH 21 rfl (by kernel_rfl) (by kernel_rfl) (by kernel_rfl) (fun _ _ _ h => h) (by rfl) hH ?_
        simp only [Act.put, List.setIfInBounds_toArray, List.set_cons_succ, List.set_cons_zero]
        refine skipH 22 rfl (by kernel_rfl) (by kernel_rfl) (by kernel_rfl) (fun _ _ _ h => h) (by rfl) hH ?_
        simp only [Act.put, List.setIfInBounds_toArray, List.set_cons_succ, List.set_cons_zero]
        refine skipH 23 rfl (by kernel_rfl) (by kernel_rfl) (by kernel_rfl) (fun _ _ _ h => h) (by rfl) hH ?_
        simp only [Act.put, List.setIfInBounds_toArray, List.set_cons_succ, List.set_cons_zero]
        refine skipH 24 rfl (by kernel_rfl) (by kernel_rfl) (by kernel_rfl) (fun _ _ _ h => h) (by rfl) hH ?_
        simp only [Act.put, List.setIfInBounds_toArray, List.set_cons_succ, List.set_cons_zero]
        refine skipH 25 rfl (by kernel_rfl) (by kernel_rfl) (by kernel_rfl) (fun _ _ _ h => h) (by rfl) hH ?_
        simp only [Act.put, List.setIfInBounds_toArray, List.set_cons_succ, List.set_cons_zero]
        refine skipH 26 rfl (by kernel_rfl) (by kernel_rfl) (by kernel_rfl) (fun _ _ _ h => h) (by rfl) hH ?_
        simp only [Act.put, List.setIfInBounds_toArray, List.set_cons_succ, List.set_cons_zero]
        refine skipH 27 rfl (by kernel_rfl) (by kernel_rfl) (by kernel_rfl) (fun _ _ _ h => h) (by rfl) hH ?_
        simp only [Act.put, List.setIfInBounds_toArray, List.set_cons_succ, List.set_cons_zero]
        refine skipH 28 rfl (by kernel_rfl) (by kernel_rfl) (by kernel_rfl) (fun _ _ _ h => h) (by rfl) hH ?_
        simp only [Act.put, List.setIfInBounds_toArray, List.set_cons_succ, List.set_cons_zero]
        refine skipH 29 rfl (by kernel_rfl) (by kernel_rfl) (by kernel_rfl) (fun _ _ _ h => h) (by rfl) hH ?_
        simp only [Act.put, List.setIfInBounds_toArray, List.set_cons_succ, List.set_cons_zero]
        refine skipH 30 rfl (by kernel_rfl) (by kernel_rfl) (by kernel_rfl) (fun _ _ _ h => h) (by rfl) hH ?_
        simp only [Act.put, List.setIfInBounds_toArray, List.set_cons_succ, List.set_cons_zero]
        refine takeH 31 (Value.bool true) rfl (by kernel_rfl) (by kernel_rfl) (by kernel_rfl) (fun _ _ _ h => h) (by rfl) (fun w hSw => by go_simp) hH ?_
        simp only [Act.put, List.setIfInBounds_toArray, List.set_cons_succ, List.set_cons_zero]
        refine takeH 32 (Value.bool true) rfl (by kernel_rfl) (by kernel_rfl) (by kernel_rfl) (fun _ _ _ h => h) (by rfl) (fun w hSw => by go_simp) hH ?_
        simp only [Act.put, List.setIfInBounds_toArray, List.set_cons_succ, List.set_cons_zero]
        refine wpAnyH_done (by kernel_rfl) ?_ _
        have hfin := hid hH.1
        go_wp2_with fail
        go_ret
        exact ⟨rfl, hfin.out⟩
      · obtain ⟨hp1, hp2⟩ := parsed_set_not x Hx.out i hi cb hdc
        rw [← Hs.out, ← Hts.out, ← Hpe.out] at hp1
        rw [← Hs.out, ← Hts.out, ← Hpl.out] at hp2
        have hdg : dg = false := by rw [Hdg.out]; simpa using hdc
        have heq := fun W => id_equal pl x hpll Hx.out W
        by_cases hpx : pl = x
        · rw [decide_eq_true hpx] at heq
          have heqz := fun W => id_equal x (List.replicate 32 0) Hx.out (by simp) W
          rw [decide_eq_true (hpx.symm.trans hp2)] at heqz
          obtain ⟨zf, hzf⟩ : ∃ zf, zf = ((List.replicate 32 (0 : UInt8)).map B).toArray := ⟨_, rfl⟩
          rw [← hzf] at heqz
          have Hzf := hid hzf
          clear hzf
          have Heq := hid heq; have Heqz := hid heqz
          clear Hpe Hdg hp2 hk Hpl hpll hpx heq heqz
          subst hp1 hdg
          go_wp2_with fail
          have heq := Heq.out
          have heqz := Heqz.out
          refine wp_region_held_drew (S := fun v => Kept [] w v ∧ v.rangeAt g 0 (x.map B) ∧ v.rangeAt q 0 (pl.map B)) (by kernel_rfl) HS9.out (fun hH => ?_)
          refine takeH 0 (.int .i64 21) rfl (by kernel_rfl) (by kernel_rfl) (by kernel_rfl) (fun _ _ _ h => h) (by rfl) (fun w hSw => by go_simp) hH ?_
          simp only [Act.put, List.setIfInBounds_toArray, List.set_cons_succ, List.set_cons_zero]
          refine takeH 1 (Value.bool false) rfl (by kernel_rfl) (by kernel_rfl) (by kernel_rfl) (fun _ _ _ h => h) (by rfl) (fun w hSw => by go_simp) hH ?_
          simp only [Act.put, List.setIfInBounds_toArray, List.set_cons_succ, List.set_cons_zero]
          refine takeH 2 (Value.bool false) rfl (by kernel_rfl) (by kernel_rfl) (by kernel_rfl) (fun _ _ _ h => h) (by rfl) (fun w hSw => by go_simp) hH ?_
          simp only [Act.put, List.setIfInBounds_toArray, List.set_cons_succ, List.set_cons_zero]
          refine takeH 3 (Value.bool true) rfl (by kernel_rfl) (by kernel_rfl) (by kernel_rfl) (fun _ _ _ h => h) (by rfl) (fun w hSw => by go_simp) hH ?_
          simp only [Act.put, List.setIfInBounds_toArray, List.set_cons_succ, List.set_cons_zero]
          refine takeH 4 (Value.bool true) rfl (by kernel_rfl) (by kernel_rfl) (by kernel_rfl) (fun _ _ _ h => h) (by rfl) (fun w hSw => by go_simp) hH ?_
          simp only [Act.put, List.setIfInBounds_toArray, List.set_cons_succ, List.set_cons_zero]
          refine loadH 5 (pl.map B) rfl (by kernel_rfl) (by kernel_rfl) (by kernel_rfl) (fun _ _ _ h => h) (by rfl) 24 (.tmp 11) rfl (q) 0 rfl _ (fun v h => h.2.2) hu rfl hip hH ?_
          simp only [Act.put, List.setIfInBounds_toArray, List.set_cons_succ, List.set_cons_zero]
          refine loadH 6 (x.map B) rfl (by kernel_rfl) (by kernel_rfl) (by kernel_rfl) (fun _ _ _ h => h) (by rfl) 24 (.tmp 4) rfl (g) 0 rfl _ (fun v h => h.2.1) hu rfl hix hH ?_
          simp only [Act.put, List.setIfInBounds_toArray, List.set_cons_succ, List.set_cons_zero]
          refine takeH 7 (Value.bool true) rfl (by kernel_rfl) (by kernel_rfl) (by kernel_rfl) (fun _ _ _ h => h) (by rfl) (fun w hSw => by go_simp) hH ?_
          simp only [Act.put, List.setIfInBounds_toArray, List.set_cons_succ, List.set_cons_zero]
          refine takeH 8 (Value.bool false) rfl (by kernel_rfl) (by kernel_rfl) (by kernel_rfl) (fun _ _ _ h => h) (by rfl) (fun w hSw => by go_simp) hH ?_
          simp only [Act.put, List.setIfInBounds_toArray, List.set_cons_succ, List.set_cons_zero]
          refine takeH 9 (Value.bool false) rfl (by kernel_rfl) (by kernel_rfl) (by kernel_rfl) (fun _ _ _ h => h) (by rfl) (fun w hSw => by go_simp) hH ?_
          simp only [Act.put, List.setIfInBounds_toArray, List.set_cons_succ, List.set_cons_zero]
          refine skipH 10 rfl (by kernel_rfl) (by kernel_rfl) (by kernel_rfl) (fun _ _ _ h => h) (by rfl) hH ?_
          simp only [Act.put, List.setIfInBounds_toArray, List.set_cons_succ, List.set_cons_zero]
          refine skipH 11 rfl (by kernel_rfl) (by kernel_rfl) (by kernel_rfl) (fun _ _ _ h => h) (by rfl) hH ?_
          simp only [Act.put, List.setIfInBounds_toArray, List.set_cons_succ, List.set_cons_zero]
          refine skipH 12 rfl (by kernel_rfl) (by kernel_rfl) (by kernel_rfl) (fun _ _ _ h => h) (by rfl) hH ?_
          simp only [Act.put, List.setIfInBounds_toArray, List.set_cons_succ, List.set_cons_zero]
          refine skipH 13 rfl (by kernel_rfl) (by kernel_rfl) (by kernel_rfl) (fun _ _ _ h => h) (by rfl) hH ?_
          simp only [Act.put, List.setIfInBounds_toArray, List.set_cons_succ, List.set_cons_zero]
          refine skipH 14 rfl (by kernel_rfl) (by kernel_rfl) (by kernel_rfl) (fun _ _ _ h => h) (by rfl) hH ?_
          simp only [Act.put, List.setIfInBounds_toArray, List.set_cons_succ, List.set_cons_zero]
          refine takeH 15 (Value.bool false) rfl (by kernel_rfl) (by kernel_rfl) (by kernel_rfl) (fun _ _ _ h => h) (by rfl) (fun w hSw => by go_simp) hH ?_
          simp only [Act.put, List.setIfInBounds_toArray, List.set_cons_succ, List.set_cons_zero]
          refine takeH 16 (Value.bool false) rfl (by kernel_rfl) (by kernel_rfl) (by kernel_rfl) (fun _ _ _ h => h) (by rfl) (fun w hSw => by go_simp) hH ?_
          simp only [Act.put, List.setIfInBounds_toArray, List.set_cons_succ, List.set_cons_zero]
          refine takeH 17 (Value.bool false) rfl (by kernel_rfl) (by kernel_rfl) (by kernel_rfl) (fun _ _ _ h => h) (by rfl) (fun w hSw => by go_simp) hH ?_
          simp only [Act.put, List.setIfInBounds_toArray, List.set_cons_succ, List.set_cons_zero]
          refine takeH 18 (Value.bool false) rfl (by kernel_rfl) (by kernel_rfl) (by kernel_rfl) (fun _ _ _ h => h) (by rfl) (fun w hSw => by go_simp) hH ?_
          simp only [Act.put, List.setIfInBounds_toArray, List.set_cons_succ, List.set_cons_zero]
          refine takeH 19 (Value.bool false) rfl (by kernel_rfl) (by kernel_rfl) (by kernel_rfl) (fun _ _ _ h => h) (by rfl) (fun w hSw => by go_simp) hH ?_
          simp only [Act.put, List.setIfInBounds_toArray, List.set_cons_succ, List.set_cons_zero]
          refine takeH 20 (Value.bool true) rfl (by kernel_rfl) (by kernel_rfl) (by kernel_rfl) (fun _ _ _ h => h) (by rfl) (fun w hSw => by go_simp) hH ?_
          simp only [Act.put, List.setIfInBounds_toArray, List.set_cons_succ, List.set_cons_zero]
          refine takeH 21 (Value.bool true) rfl (by kernel_rfl) (by kernel_rfl) (by kernel_rfl) (fun _ _ _ h => h) (by rfl) (fun w hSw => by go_simp) hH ?_
          simp only [Act.put, List.setIfInBounds_toArray, List.set_cons_succ, List.set_cons_zero]
          refine loadH 22 (x.map B) rfl (by kernel_rfl) (by kernel_rfl) (by kernel_rfl) (fun _ _ _ h => h) (by rfl) 24 (.tmp 4) rfl (g) 0 rfl _ (fun v h => h.2.1) hu rfl hix hH ?_
          simp only [Act.put, List.setIfInBounds_toArray, List.set_cons_succ, List.set_cons_zero]
          refine takeH 23 (.agg zf) rfl (by kernel_rfl) (by kernel_rfl) (by kernel_rfl) (fun _ _ _ h => h) (by rfl) (fun w hSw => by rw [Hzf.out]; go_simp; rfl) hH ?_
          simp only [Act.put, List.setIfInBounds_toArray, List.set_cons_succ, List.set_cons_zero]
          refine takeH 24 (Value.bool true) rfl (by kernel_rfl) (by kernel_rfl) (by kernel_rfl) (fun _ _ _ h => h) (by rfl) (fun w hSw => by go_simp) hH ?_
          simp only [Act.put, List.setIfInBounds_toArray, List.set_cons_succ, List.set_cons_zero]
          refine takeH 25 (Value.bool true) rfl (by kernel_rfl) (by kernel_rfl) (by kernel_rfl) (fun _ _ _ h => h) (by rfl) (fun w hSw => by go_simp) hH ?_
          simp only [Act.put, List.setIfInBounds_toArray, List.set_cons_succ, List.set_cons_zero]
          refine takeH 26 (Value.bool true) rfl (by kernel_rfl) (by kernel_rfl) (by kernel_rfl) (fun _ _ _ h => h) (by rfl) (fun w hSw => by go_simp) hH ?_
          simp only [Act.put, List.setIfInBounds_toArray, List.set_cons_succ, List.set_cons_zero]
          refine loadH 27 (pl.map B) rfl (by kernel_rfl) (by kernel_rfl) (by kernel_rfl) (fun _ _ _ h => h) (by rfl) 24 (.tmp 11) rfl (q) 0 rfl _ (fun v h => h.2.2) hu rfl hip hH ?_
          simp only [Act.put, List.setIfInBounds_toArray, List.set_cons_succ, List.set_cons_zero]
          refine loadH 28 (x.map B) rfl (by kernel_rfl) (by kernel_rfl) (by kernel_rfl) (fun _ _ _ h => h) (by rfl) 24 (.tmp 4) rfl (g) 0 rfl _ (fun v h => h.2.1) hu rfl hix hH ?_
          simp only [Act.put, List.setIfInBounds_toArray, List.set_cons_succ, List.set_cons_zero]
          refine takeH 29 (Value.bool true) rfl (by kernel_rfl) (by kernel_rfl) (by kernel_rfl) (fun _ _ _ h => h) (by rfl) (fun w hSw => by go_simp) hH ?_
          simp only [Act.put, List.setIfInBounds_toArray, List.set_cons_succ, List.set_cons_zero]
          refine takeH 30 (Value.bool true) rfl (by kernel_rfl) (by kernel_rfl) (by kernel_rfl) (fun _ _ _ h => h) (by rfl) (fun w hSw => by go_simp) hH ?_
          simp only [Act.put, List.setIfInBounds_toArray, List.set_cons_succ, List.set_cons_zero]
          refine takeH 31 (Value.bool true) rfl (by kernel_rfl) (by kernel_rfl) (by kernel_rfl) (fun _ _ _ h => h) (by rfl) (fun w hSw => by go_simp) hH ?_
          simp only [Act.put, List.setIfInBounds_toArray, List.set_cons_succ, List.set_cons_zero]
          refine takeH 32 (Value.bool true) rfl (by kernel_rfl) (by kernel_rfl) (by kernel_rfl) (fun _ _ _ h => h) (by rfl) (fun w hSw => by go_simp) hH ?_
          simp only [Act.put, List.setIfInBounds_toArray, List.set_cons_succ, List.set_cons_zero]
          refine wpAnyH_done (by kernel_rfl) ?_ _
          have hfin := hid hH.1
          go_wp2_with fail
          go_ret
          exact ⟨rfl, hfin.out⟩
        · rw [decide_eq_false hpx] at heq
          clear Hpe Hdg hp2 hk Hpl hpll hpx
          subst hp1 hdg
          go_wp2_with fail
          refine wp_region_held_drew (S := fun v => Kept [] w v ∧ v.rangeAt g 0 (x.map B) ∧ v.rangeAt q 0 (pl.map B)) (by kernel_rfl) HS9.out (fun hH => ?_)
          refine takeH 0 (.int .i64 21) rfl (by kernel_rfl) (by kernel_rfl) (by kernel_rfl) (fun _ _ _ h => h) (by rfl) (fun w hSw => by go_simp) hH ?_
          simp only [Act.put, List.setIfInBounds_toArray, List.set_cons_succ, List.set_cons_zero]
          refine takeH 1 (Value.bool false) rfl (by kernel_rfl) (by kernel_rfl) (by kernel_rfl) (fun _ _ _ h => h) (by rfl) (fun w hSw => by go_simp) hH ?_
          simp only [Act.put, List.setIfInBounds_toArray, List.set_cons_succ, List.set_cons_zero]
          refine takeH 2 (Value.bool false) rfl (by kernel_rfl) (by kernel_rfl) (by kernel_rfl) (fun _ _ _ h => h) (by rfl) (fun w hSw => by go_simp) hH ?_
          simp only [Act.put, List.setIfInBounds_toArray, List.set_cons_succ, List.set_cons_zero]
          refine takeH 3 (Value.bool true) rfl (by kernel_rfl) (by kernel_rfl) (by kernel_rfl) (fun _ _ _ h => h) (by rfl) (fun w hSw => by go_simp) hH ?_
          simp only [Act.put, List.setIfInBounds_toArray, List.set_cons_succ, List.set_cons_zero]
          refine takeH 4 (Value.bool true) rfl (by kernel_rfl) (by kernel_rfl) (by kernel_rfl) (fun _ _ _ h => h) (by rfl) (fun w hSw => by go_simp) hH ?_
          simp only [Act.put, List.setIfInBounds_toArray, List.set_cons_succ, List.set_cons_zero]
          refine loadH 5 (pl.map B) rfl (by kernel_rfl) (by kernel_rfl) (by kernel_rfl) (fun _ _ _ h => h) (by rfl) 24 (.tmp 11) rfl (q) 0 rfl _ (fun v h => h.2.2) hu rfl hip hH ?_
          simp only [Act.put, List.setIfInBounds_toArray, List.set_cons_succ, List.set_cons_zero]
          refine loadH 6 (x.map B) rfl (by kernel_rfl) (by kernel_rfl) (by kernel_rfl) (fun _ _ _ h => h) (by rfl) 24 (.tmp 4) rfl (g) 0 rfl _ (fun v h => h.2.1) hu rfl hix hH ?_
          simp only [Act.put, List.setIfInBounds_toArray, List.set_cons_succ, List.set_cons_zero]
          refine takeH 7 (Value.bool false) rfl (by kernel_rfl) (by kernel_rfl) (by kernel_rfl) (fun _ _ _ h => h) (by rfl) (fun w hSw => by go_simp) hH ?_
          simp only [Act.put, List.setIfInBounds_toArray, List.set_cons_succ, List.set_cons_zero]
          refine takeH 8 (Value.bool false) rfl (by kernel_rfl) (by kernel_rfl) (by kernel_rfl) (fun _ _ _ h => h) (by rfl) (fun w hSw => by go_simp) hH ?_
          simp only [Act.put, List.setIfInBounds_toArray, List.set_cons_succ, List.set_cons_zero]
          refine takeH 9 (Value.bool false) rfl (by kernel_rfl) (by kernel_rfl) (by kernel_rfl) (fun _ _ _ h => h) (by rfl) (fun w hSw => by go_simp) hH ?_
          simp only [Act.put, List.setIfInBounds_toArray, List.set_cons_succ, List.set_cons_zero]
          refine skipH 10 rfl (by kernel_rfl) (by kernel_rfl) (by kernel_rfl) (fun _ _ _ h => h) (by rfl) hH ?_
          simp only [Act.put, List.setIfInBounds_toArray, List.set_cons_succ, List.set_cons_zero]
          refine skipH 11 rfl (by kernel_rfl) (by kernel_rfl) (by kernel_rfl) (fun _ _ _ h => h) (by rfl) hH ?_
          simp only [Act.put, List.setIfInBounds_toArray, List.set_cons_succ, List.set_cons_zero]
          refine skipH 12 rfl (by kernel_rfl) (by kernel_rfl) (by kernel_rfl) (fun _ _ _ h => h) (by rfl) hH ?_
          simp only [Act.put, List.setIfInBounds_toArray, List.set_cons_succ, List.set_cons_zero]
          refine skipH 13 rfl (by kernel_rfl) (by kernel_rfl) (by kernel_rfl) (fun _ _ _ h => h) (by rfl) hH ?_
          simp only [Act.put, List.setIfInBounds_toArray, List.set_cons_succ, List.set_cons_zero]
          refine skipH 14 rfl (by kernel_rfl) (by kernel_rfl) (by kernel_rfl) (fun _ _ _ h => h) (by rfl) hH ?_
          simp only [Act.put, List.setIfInBounds_toArray, List.set_cons_succ, List.set_cons_zero]
          refine takeH 15 (Value.bool false) rfl (by kernel_rfl) (by kernel_rfl) (by kernel_rfl) (fun _ _ _ h => h) (by rfl) (fun w hSw => by go_simp) hH ?_
          simp only [Act.put, List.setIfInBounds_toArray, List.set_cons_succ, List.set_cons_zero]
          refine takeH 16 (Value.bool true) rfl (by kernel_rfl) (by kernel_rfl) (by kernel_rfl) (fun _ _ _ h => h) (by rfl) (fun w hSw => by go_simp) hH ?_
          simp only [Act.put, List.setIfInBounds_toArray, List.set_cons_succ, List.set_cons_zero]
          refine takeH 17 (Value.bool true) rfl (by kernel_rfl) (by kernel_rfl) (by kernel_rfl) (fun _ _ _ h => h) (by rfl) (fun w hSw => by go_simp) hH ?_
          simp only [Act.put, List.setIfInBounds_toArray, List.set_cons_succ, List.set_cons_zero]
          refine takeH 18 (Value.bool true) rfl (by kernel_rfl) (by kernel_rfl) (by kernel_rfl) (fun _ _ _ h => h) (by rfl) (fun w hSw => by go_simp) hH ?_
          simp only [Act.put, List.setIfInBounds_toArray, List.set_cons_succ, List.set_cons_zero]
          refine skipH 19 rfl (by kernel_rfl) (by kernel_rfl) (by kernel_rfl) (fun _ _ _ h => h) (by rfl) hH ?_
          simp only [Act.put, List.setIfInBounds_toArray, List.set_cons_succ, List.set_cons_zero]
          refine skipH 20 rfl (by kernel_rfl) (by kernel_rfl) (by kernel_rfl) (fun _ _ _ h => h) (by rfl) hH ?_
          simp only [Act.put, List.setIfInBounds_toArray, List.set_cons_succ, List.set_cons_zero]
          refine skipH 21 rfl (by kernel_rfl) (by kernel_rfl) (by kernel_rfl) (fun _ _ _ h => h) (by rfl) hH ?_
          simp only [Act.put, List.setIfInBounds_toArray, List.set_cons_succ, List.set_cons_zero]
          refine skipH 22 rfl (by kernel_rfl) (by kernel_rfl) (by kernel_rfl) (fun _ _ _ h => h) (by rfl) hH ?_
          simp only [Act.put, List.setIfInBounds_toArray, List.set_cons_succ, List.set_cons_zero]
          refine skipH 23 rfl (by kernel_rfl) (by kernel_rfl) (by kernel_rfl) (fun _ _ _ h => h) (by rfl) hH ?_
          simp only [Act.put, List.setIfInBounds_toArray, List.set_cons_succ, List.set_cons_zero]
          refine skipH 24 rfl (by kernel_rfl) (by kernel_rfl) (by kernel_rfl) (fun _ _ _ h => h) (by rfl) hH ?_
          simp only [Act.put, List.setIfInBounds_toArray, List.set_cons_succ, List.set_cons_zero]
          refine skipH 25 rfl (by kernel_rfl) (by kernel_rfl) (by kernel_rfl) (fun _ _ _ h => h) (by rfl) hH ?_
          simp only [Act.put, List.setIfInBounds_toArray, List.set_cons_succ, List.set_cons_zero]
          refine skipH 26 rfl (by kernel_rfl) (by kernel_rfl) (by kernel_rfl) (fun _ _ _ h => h) (by rfl) hH ?_
          simp only [Act.put, List.setIfInBounds_toArray, List.set_cons_succ, List.set_cons_zero]
          refine skipH 27 rfl (by kernel_rfl) (by kernel_rfl) (by kernel_rfl) (fun _ _ _ h => h) (by rfl) hH ?_
          simp only [Act.put, List.setIfInBounds_toArray, List.set_cons_succ, List.set_cons_zero]
          refine skipH 28 rfl (by kernel_rfl) (by kernel_rfl) (by kernel_rfl) (fun _ _ _ h => h) (by rfl) hH ?_
          simp only [Act.put, List.setIfInBounds_toArray, List.set_cons_succ, List.set_cons_zero]
          refine skipH 29 rfl (by kernel_rfl) (by kernel_rfl) (by kernel_rfl) (fun _ _ _ h => h) (by rfl) hH ?_
          simp only [Act.put, List.setIfInBounds_toArray, List.set_cons_succ, List.set_cons_zero]
          refine skipH 30 rfl (by kernel_rfl) (by kernel_rfl) (by kernel_rfl) (fun _ _ _ h => h) (by rfl) hH ?_
          simp only [Act.put, List.setIfInBounds_toArray, List.set_cons_succ, List.set_cons_zero]
          refine takeH 31 (Value.bool true) rfl (by kernel_rfl) (by kernel_rfl) (by kernel_rfl) (fun _ _ _ h => h) (by rfl) (fun w hSw => by go_simp) hH ?_
          simp only [Act.put, List.setIfInBounds_toArray, List.set_cons_succ, List.set_cons_zero]
          refine takeH 32 (Value.bool true) rfl (by kernel_rfl) (by kernel_rfl) (by kernel_rfl) (fun _ _ _ h => h) (by rfl) (fun w hSw => by go_simp) hH ?_
          simp only [Act.put, List.setIfInBounds_toArray, List.set_cons_succ, List.set_cons_zero]
          refine wpAnyH_done (by kernel_rfl) ?_ _
          have hfin := hid hH.1
          go_wp2_with fail
          go_ret
          exact ⟨rfl, hfin.out⟩
end Go.Proofs.YtplnfadonbhcoaaDoor
