import Derived.Test.YtkabfdclecbnpaaMLJ

/- retain: one order, one row of days; what Keep says is one row. -/
namespace Go.Proofs.Ytkabfdclecbnpaa
open Go.RowKit Go.Lib Go.Sort

theorem ahead_asym {xs : List Sq} {i j : Nat} (h : ahead xs i j = true) : ahead xs j i = false := by
  cases hb : ahead xs j i with
  | false => rfl
  | true =>
    exfalso
    unfold ahead at h hb
    cases hi : xs[i]? with
    | none => rw [hi] at h; simp at h
    | some x =>
      cases hj : xs[j]? with
      | none => rw [hi, hj] at h; simp at h
      | some y =>
        rw [hi, hj] at h hb
        simp only [Bool.or_eq_true, decide_eq_true_eq, Bool.and_eq_true] at h hb
        rcases cmp_tri x y with ⟨c1, c2, c3⟩ | ⟨c1, c2, c3⟩ | ⟨c1, c2, c3⟩
        · rcases hb with hb | ⟨hb, _⟩
          · exact c2 hb
          · exact c3 hb.symm
        · rcases h with h | ⟨h, _⟩
          · exact c1 h
          · exact c3 h
        · rcases h with h | ⟨_, h⟩
          · exact c1 h
          · rcases hb with hb | ⟨_, hb⟩
            · exact c2 hb
            · omega
theorem strict_one {α : Type} {R : α → α → Bool} (hR : ∀ x y, R x y = true → R y x = false) : ∀ {ys zs : List α}, ys.Perm zs → ys.Pairwise (fun p q => R p q = true) → zs.Pairwise (fun p q => R p q = true) → ys = zs
  | [], zs, hp, _, _ => (List.nil_perm.1 hp).symm
  | y :: ys, [], hp, _, _ => by have := hp.length_eq; simp at this
  | y :: ys, z :: zs, hp, h1, h2 => by
    have e : y = z := by
      have my : y ∈ z :: zs := hp.mem_iff.1 (by simp)
      have mz : z ∈ y :: ys := hp.mem_iff.2 (by simp)
      rcases List.mem_cons.1 my with e | my
      · exact e
      · rcases List.mem_cons.1 mz with e | mz
        · exact e.symm
        · have a1 := (List.pairwise_cons.1 h1).1 z mz
          have a2 := (List.pairwise_cons.1 h2).1 y my
          rw [hR _ _ a1] at a2; cases a2
    subst e
    rw [strict_one hR (List.perm_cons _ |>.1 hp) (List.pairwise_cons.1 h1).2 (List.pairwise_cons.1 h2).2]
theorem ordered_one {xs : List Sq} {ps qs : List Nat} (h1 : Ordered xs ps) (h2 : Ordered xs qs) : ps = qs :=
  strict_one (R := ahead xs) (fun x y h => ahead_asym h) (h1.perm.trans h2.perm.symm) h1.up h2.up
theorem down_one : ∀ (a b : List Int), a.Pairwise (· > ·) → b.Pairwise (· > ·) → (∀ k, k ∈ a ↔ k ∈ b) → a = b
  | [], b, _, _, h => by
    cases b with
    | nil => rfl
    | cons x t => have := (h x).2 (by simp); simp at this
  | x :: a, [], _, _, h => by have := (h x).1 (by simp); simp at this
  | x :: a, y :: b, h1, h2, h => by
    have e : x = y := by
      have mx : x ∈ y :: b := (h x).1 (by simp)
      have my : y ∈ x :: a := (h y).2 (by simp)
      rcases List.mem_cons.1 mx with e | mx
      · exact e
      · rcases List.mem_cons.1 my with e | my
        · exact e.symm
        · have a1 : x > y := (List.pairwise_cons.1 h1).1 y my
          have a2 : y > x := (List.pairwise_cons.1 h2).1 x mx
          omega
    subst e
    have hnot1 : x ∉ a := fun hm => by have : x > x := (List.pairwise_cons.1 h1).1 x hm; omega
    have hnot2 : x ∉ b := fun hm => by have : x > x := (List.pairwise_cons.1 h2).1 x hm; omega
    rw [down_one a b (List.pairwise_cons.1 h1).2 (List.pairwise_cons.1 h2).2 (fun k => by
      have := h k
      simp only [List.mem_cons] at this
      constructor
      · intro hm
        rcases this.1 (Or.inr hm) with e | hk
        · subst e; exact absurd hm hnot1
        · exact hk
      · intro hm
        rcases this.2 (Or.inr hm) with e | hk
        · subst e; exact absurd hm hnot2
        · exact hk)]
theorem days_one {xs : List Sq} {d : Int} {a b : List Int} (h1 : DaysOf xs d a) (h2 : DaysOf xs d b) : a = b :=
  down_one a b h1.down h2.down (fun k => by rw [h1.mem, h2.mem])
/-- What Keep says is one row. -/
theorem kpt_at {xs : List Sq} {p : Pol} {ps ps0 : List Nat} {ds ds0 : List Int} {ks : List Bool} (h : Kpt xs p ps ds ks) (ho : Ordered xs ps0) (hd : if p.day < 1 then ds0 = [] else DaysOf xs p.day ds0) : Kpt xs p ps0 ds0 ks := by
  have e1 := ordered_one h.ord ho
  have e2 : ds = ds0 := by
    have := h.days
    split at this
    · rename_i hc; rw [if_pos hc] at hd; rw [this, hd]
    · rename_i hc; rw [if_neg hc] at hd; exact days_one this hd
  rw [← e1, ← e2]; exact h
theorem kpt_one {xs : List Sq} {p : Pol} {ps ps' : List Nat} {ds ds' : List Int} {ks ks' : List Bool} (h : Kpt xs p ps ds ks) (h' : Kpt xs p ps' ds' ks') : ks = ks' := by
  have h2 := kpt_at h' h.ord h.days
  apply List.ext_getElem?
  intro q
  by_cases hq : q < xs.length
  · have hm : q ∈ ps := h.ord.perm.mem_iff.2 (by simpa using hq)
    have hm2 : q ∈ ps.reverse := by simpa using hm
    obtain ⟨k, hk, e⟩ := List.getElem_of_mem hm2
    have hk' : ps.reverse[k]? = some q := by rw [List.getElem?_eq_getElem hk, e]
    rw [h.at_ k q _ hk' (List.getElem?_eq_getElem hq), h2.at_ k q _ hk' (List.getElem?_eq_getElem hq)]
  · rw [List.getElem?_eq_none (by rw [h.len]; omega), List.getElem?_eq_none (by rw [h'.len]; omega)]

/-! The document's example. -/
def r0 : Sp := ⟨5, [], [], List.replicate 32 0, 0, 0⟩
def r1 : Sp := ⟨25, [], [], List.replicate 32 0, 0, 0⟩
def r2 : Sp := ⟨12, [], [120], List.replicate 32 0, 0, 0⟩
def r3 : Sp := ⟨21, [], [], List.replicate 32 0, 0, 0⟩
theorem r0_ok : r0.ok := ⟨by simp [r0], by decide, by decide, by decide, by decide, by decide, by decide⟩
theorem r1_ok : r1.ok := ⟨by simp [r1], by decide, by decide, by decide, by decide, by decide, by decide⟩
theorem r2_ok : r2.ok := ⟨by simp [r2], by decide, by decide, by decide, by decide, by decide, by decide⟩
theorem r3_ok : r3.ok := ⟨by simp [r3], by decide, by decide, by decide, by decide, by decide, by decide⟩
def exL : List Sq := [⟨r0, r0_ok⟩, ⟨r1, r1_ok⟩, ⟨r2, r2_ok⟩, ⟨r3, r3_ok⟩]
theorem cmp_lt_time (x y : Sq) (h : x.1.time < y.1.time) : cmpQ x y < 0 := (cmp_time x.1 y.1 (by omega)).2 h
theorem ahead_lt {xs : List Sq} {i j : Nat} {x y : Sq} (hi : xs[i]? = some x) (hj : xs[j]? = some y) (h : x.1.time < y.1.time) : ahead xs i j = true := by
  unfold ahead; rw [hi, hj]; simp [cmp_lt_time x y h]
theorem ex_ord : Ordered exL [0, 2, 3, 1] := by
  refine ⟨by decide, ?_⟩
  have a : ∀ i j x y, exL[i]? = some x → exL[j]? = some y → x.1.time < y.1.time → ahead exL i j = true := fun i j x y hi hj h => ahead_lt hi hj h
  simp only [List.pairwise_cons, List.mem_cons, List.not_mem_nil, or_false, forall_eq_or_imp, forall_eq, List.Pairwise.nil, and_true, false_imp_iff, implies_true]
  exact ⟨⟨a 0 2 _ _ rfl rfl (by decide), a 0 3 _ _ rfl rfl (by decide), a 0 1 _ _ rfl rfl (by decide)⟩, ⟨a 2 3 _ _ rfl rfl (by decide), a 2 1 _ _ rfl rfl (by decide)⟩, a 3 1 _ _ rfl rfl (by decide)⟩
theorem ex_days : DaysOf exL 10 [2, 1, 0] := by
  refine ⟨by decide, fun k => ?_⟩
  simp only [exL, List.mem_cons, List.not_mem_nil, or_false, exists_eq_or_imp, exists_eq_left, r0, r1, r2, r3]
  omega
def pA : Pol := ⟨1, 0, 0, 0, []⟩
def pB : Pol := ⟨0, 2, 10, 0, []⟩
def pC : Pol := ⟨0, 0, 0, 5, [120]⟩
theorem pA_ok : pA.ok := ⟨⟨by decide, by decide⟩, ⟨by decide, by decide⟩, ⟨by decide, by decide⟩, ⟨by decide, by decide⟩⟩
theorem pB_ok : pB.ok := ⟨⟨by decide, by decide⟩, ⟨by decide, by decide⟩, ⟨by decide, by decide⟩, ⟨by decide, by decide⟩⟩
theorem pC_ok : pC.ok := ⟨⟨by decide, by decide⟩, ⟨by decide, by decide⟩, ⟨by decide, by decide⟩, ⟨by decide, by decide⟩⟩
/-- The value of a place, all told. -/
def exV (p : Pol) (ds : List Int) (k : Nat) : Bool := valK p (((snapsAt exL [0, 2, 3, 1].reverse).head?.map (·.1.time)).getD 0) (ds.take (kd p ds.length)) (snapsAt exL [0, 2, 3, 1].reverse) k
theorem ex_keep {p : Pol} {ps : List Nat} {ds ds0 : List Int} {ks : List Bool} (h : Kpt exL p ps ds ks) (hd : if p.day < 1 then ds0 = [] else DaysOf exL p.day ds0) : ks = [exV p ds0 3, exV p ds0 0, exV p ds0 2, exV p ds0 1] := by
  have h2 := kpt_at h ex_ord hd
  have a0 : ks[0]? = some (exV p ds0 3) := h2.at_ 3 0 _ rfl rfl
  have a1 : ks[1]? = some (exV p ds0 0) := h2.at_ 0 1 _ rfl rfl
  have a2 : ks[2]? = some (exV p ds0 2) := h2.at_ 2 2 _ rfl rfl
  have a3 : ks[3]? = some (exV p ds0 1) := h2.at_ 1 3 _ rfl rfl
  have hl : ks.length = 4 := h2.len
  match ks, hl with
  | [x0, x1, x2, x3], _ => simp at a0 a1 a2 a3; subst a0; subst a1; subst a2; subst a3; rfl
theorem exA : [exV pA [] 3, exV pA [] 0, exV pA [] 2, exV pA [] 1] = [false, true, false, false] := by decide
theorem exB : [exV pB [2, 1, 0] 3, exV pB [2, 1, 0] 0, exV pB [2, 1, 0] 2, exV pB [2, 1, 0] 1] = [false, true, true, false] := by decide
theorem exC : [exV pC [] 3, exV pC [] 0, exV pC [] 2, exV pC [] 1] = [false, true, true, true] := by decide
theorem build_r0 (W : World) : (Instr.build 42 #[(0, .int .i64 5)]).run Try.prog W = .ok (.agg r0.cells.toArray) W := by kernel_rfl
theorem build_r1 (W : World) : (Instr.build 42 #[(0, .int .i64 25)]).run Try.prog W = .ok (.agg r1.cells.toArray) W := by kernel_rfl
theorem build_r2 (W : World) : (Instr.build 42 #[(0, .int .i64 12), (2, .string ⟨#[120]⟩)]).run Try.prog W = .ok (.agg r2.cells.toArray) W := by kernel_rfl
theorem build_r3 (W : World) : (Instr.build 42 #[(0, .int .i64 21)]).run Try.prog W = .ok (.agg r3.cells.toArray) W := by kernel_rfl
theorem build_ex (W : World) : (Instr.buildSlice 22 4 #[(0, .agg r0.cells.toArray), (1, .agg r1.cells.toArray), (2, .agg r2.cells.toArray), (3, .agg r3.cells.toArray)]).run Try.prog W = .ok (.slice (some ⟨W.heap.size, 0, none⟩) 4 4) (W.alloc (.cells (exL.flatMap encQ).toArray 42)) := by kernel_rfl
theorem build_pA (W : World) : (Instr.build 24 #[(0, .int .i64 1)]).run Try.prog W = .ok (.agg pA.cells.toArray) W := by kernel_rfl
theorem build_pB (W : World) : (Instr.build 24 #[(1, .int .i64 2), (2, .int .i64 10)]).run Try.prog W = .ok (.agg pB.cells.toArray) W := by kernel_rfl
theorem build_pC (W : World) : (Instr.build 24 #[(3, .int .i64 5), (4, .string ⟨#[120]⟩)]).run Try.prog W = .ok (.agg pC.cells.toArray) W := by kernel_rfl
end Go.Proofs.Ytkabfdclecbnpaa


/- coldstorelaw19.alive. -/
namespace Go.Proofs.Ytkabfdclecbnpaa
open Go.RowKit Go.Lib Go.Sort Go.Shelf

section
variable {P : Program} {ops : Array Oper} {rest : List Oper} {o : Oper} {a : Act} {w : World} {Q : Exit → Act → World → Prop}
theorem wpList_build_r (hgd : o.guard = none) (t : TypeId) (parts : Array (Nat × Operand)) (ho : o.op = .build t parts) (v : Value) (w' : World)
    (hrun : (execOp a.eval o).run P w = .ok (.value v) w') (h : wpList P ops Q rest (a.put o.dst v) w') : wpList P ops Q (o :: rest) a w := by
  refine wpList_plain hgd fun K hK => ?_
  unfold Oper.wp
  rw [hrun]
  exact hK _ _ h
theorem wpList_buildSlice_r (hgd : o.guard = none) (t k : Nat) (parts : Array (Nat × Operand)) (ho : o.op = .buildSlice t k parts) (v : Value) (w' : World)
    (hrun : (execOp a.eval o).run P w = .ok (.value v) w') (h : wpList P ops Q rest (a.put o.dst v) w') : wpList P ops Q (o :: rest) a w := by
  refine wpList_plain hgd fun K hK => ?_
  unfold Oper.wp
  rw [hrun]
  exact hK _ _ h
end
theorem snaps_of_heap {W : World} {g : Nat} {xs : List Sq} (hx : xs.length ≤ 1000000) (hg : W.heap[g]? = some (.cells (xs.flatMap encQ).toArray 42 (0, 0))) : Snaps W (some ⟨g, 0, none⟩) xs.length xs := by
  refine ⟨Nat.le_refl _, by omega, fun h => by simp at h, fun x hx i s hs j v hj => ?_⟩
  simp at hx; subst hx
  have e : (⟨g, 0, none⟩ : Addr).add (i * 37 + j) = ⟨g, i * 37 + j, none⟩ := by rw [plain_add, Nat.zero_add]
  rw [e, cell_of_row W _ _ _ _ _ hg]
  have h := flat_get encQ 37 encQ_len xs i j s hs (by rw [← encQ_len s]; exact (List.getElem?_eq_some_iff.1 hj).1)
  rw [List.getElem?_toArray]
  exact h.trans hj

theorem tru4 {w : World} {base : Nat} {v : Value} {b0 b1 b2 b3 : Bool} (h : w.ownsRow base 4 1 v 4 ([b0, b1, b2, b3].map bv)) : ∃ g c, v = .slice (some ⟨g, 0, none⟩) 4 c ∧ w.cell? ⟨g, 0, none⟩ = some (.bool b0) ∧ w.cell? ⟨g, 1, none⟩ = some (.bool b1) ∧ w.cell? ⟨g, 2, none⟩ = some (.bool b2) ∧ w.cell? ⟨g, 3, none⟩ = some (.bool b3) := by
  rcases h.2 with ⟨_, h2⟩ | ⟨g, cap, cur, h1, _⟩
  · cases h2
  · subst h1
    exact ⟨g, cap, rfl, h.cells (g := g) rfl 0 _ rfl, h.cells (g := g) rfl 1 _ rfl, h.cells (g := g) rfl 2 _ rfl, h.cells (g := g) rfl 3 _ rfl⟩
theorem int3 {w : World} {base : Nat} {v : Value} {b0 b1 b2 : Int} (h : w.ownsRow base 2 1 v 3 ([b0, b1, b2].map iv)) : ∃ g c, v = .slice (some ⟨g, 0, none⟩) 3 c ∧ w.cell? ⟨g, 0, none⟩ = some (.int .i64 b0) := by
  rcases h.2 with ⟨_, h2⟩ | ⟨g, cap, cur, h1, _⟩
  · cases h2
  · subst h1
    exact ⟨g, cap, rfl, h.cells (g := g) rfl 0 _ rfl⟩
set_option maxRecDepth 100000 in
set_option maxHeartbeats 4000000 in
theorem alive19 (w : World) : Calls Try.prog 8 #[] w fun e w' => e = .returned (.bool true) ∧ Kept [] w w' := by
  obtain ⟨W, hW⟩ : ∃ W, W = w.alloc (.cells (exL.flatMap encQ).toArray 42) := ⟨_, rfl⟩
  have KW := hid (show Kept [] w W by rw [hW]; exact (Kept.refl [] w).alloc _)
  have hg := hid (show W.heap[w.heap.size]? = some (.cells (exL.flatMap encQ).toArray 42 (0, 0)) by rw [hW]; exact heap_alloc_at rfl)
  have hS := hid (fun V (hk : Kept [] W V) => (show Snaps V (some ⟨w.heap.size, 0, none⟩) 4 exL from (snaps_of_heap (by decide) (hg.out)).kept' hk (by simp)))
  have hA := hid (fun V (hk : Kept [] W V) => (keep_go (some ⟨w.heap.size, 0, none⟩) 4 exL pA pA_ok V (hS.out V hk) (by decide)).mono (R' := fun e w' => ∃ v, e = .returned v ∧ Kept [] V w' ∧ w'.ownsRow V.heap.size 4 1 v 4 ([false, true, false, false].map bv)) (by
    rintro e w' ⟨v, ps, ds, ks, h1, h2, h3, h4⟩
    rw [ex_keep h3 (ds0 := []) (by rw [if_pos (by decide)]), exA] at h4
    exact ⟨v, h1, h2, h4⟩))
  have hB := hid (fun V (hk : Kept [] W V) => (keep_go (some ⟨w.heap.size, 0, none⟩) 4 exL pB pB_ok V (hS.out V hk) (by decide)).mono (R' := fun e w' => ∃ v, e = .returned v ∧ Kept [] V w' ∧ w'.ownsRow V.heap.size 4 1 v 4 ([false, true, true, false].map bv)) (by
    rintro e w' ⟨v, ps, ds, ks, h1, h2, h3, h4⟩
    rw [ex_keep h3 (ds0 := [2, 1, 0]) (by rw [if_neg (by decide)]; exact ex_days), exB] at h4
    exact ⟨v, h1, h2, h4⟩))
  have hC := hid (fun V (hk : Kept [] W V) => (keep_go (some ⟨w.heap.size, 0, none⟩) 4 exL pC pC_ok V (hS.out V hk) (by decide)).mono (R' := fun e w' => ∃ v, e = .returned v ∧ Kept [] V w' ∧ w'.ownsRow V.heap.size 4 1 v 4 ([false, true, true, true].map bv)) (by
    rintro e w' ⟨v, ps, ds, ks, h1, h2, h3, h4⟩
    rw [ex_keep h3 (ds0 := []) (by rw [if_pos (by decide)]), exC] at h4
    exact ⟨v, h1, h2, h4⟩))
  have hD := hid (fun V (hk : Kept [] W V) => (days_any (some ⟨w.heap.size, 0, none⟩) 4 exL 10 V (hS.out V hk) (by decide) ⟨by decide, by decide⟩).mono (R' := fun e w' => ∃ v, e = .returned v ∧ Kept [] V w' ∧ w'.ownsRow V.heap.size 2 1 v 3 ([2, 1, 0].map iv)) (by
    rintro e w' ⟨v, ds, h1, h2, _, h4, h5⟩
    rw [if_neg (by decide)] at h5
    rw [days_one h5 ex_days] at h4
    exact ⟨v, h1, h2, h4⟩))
  have hG := hid (fun V (hk : Kept [] W V) => (law_gone (some ⟨w.heap.size, 0, none⟩) 4 exL pA pA_ok 9 V (hS.out V hk) (by decide) (by decide) (by decide)).mono (R' := fun e w' => ∃ v, e = .returned v ∧ Kept [] V w' ∧ ∃ a c, v = .slice a 3 c) (by
    rintro e w' ⟨v, ps, ds, ks, h1, h2, h3, h4⟩
    rw [ex_keep h3 (ds0 := []) (by rw [if_pos (by decide)]), exA] at h4
    exact ⟨v, h1, h2, row_slice h4⟩))
  have hel : exL.length = 4 := rfl
  rw [hel] at hA hB hC hD hG
  have b0 := build_r0; have b1 := build_r1; have b2 := build_r2; have b3 := build_r3; have bx := build_ex w; have bA := build_pA; have bB := build_pB; have bC := build_pC
  rw [← hW] at bx
  obtain ⟨c0, hc0⟩ : ∃ c, c = r0.cells := ⟨_, rfl⟩
  obtain ⟨c1, hc1⟩ : ∃ c, c = r1.cells := ⟨_, rfl⟩
  obtain ⟨c2, hc2⟩ : ∃ c, c = r2.cells := ⟨_, rfl⟩
  obtain ⟨c3, hc3⟩ : ∃ c, c = r3.cells := ⟨_, rfl⟩
  rw [← hc0] at b0 bx; rw [← hc1] at b1 bx; rw [← hc2] at b2 bx; rw [← hc3] at b3 bx
  have B0 := hid b0; have B1 := hid b1; have B2 := hid b2; have B3 := hid b3; have BX := hid bx; have BA := hid bA; have BB := hid bB; have BC := hid bC
  have S0 := hid (show (zSnap.set 0 (Value.int .i64 5)) = c0 by rw [hc0]; rfl)
  have S1 := hid (show (zSnap.set 0 (Value.int .i64 25)) = c1 by rw [hc1]; rfl)
  have S2 := hid (show ((zSnap.set 0 (Value.int .i64 12)).set 2 (Value.string ⟨#[120]⟩)) = c2 by rw [hc2]; rfl)
  have S3 := hid (show (zSnap.set 0 (Value.int .i64 21)) = c3 by rw [hc3]; rfl)
  clear hc0 hc1 hc2 hc3 b0 b1 b2 b3 bx bA bB bC hW hel hS
  go_enter Try.func8, Try.ntmps8
  have hzv := zero_snap
  have s0 : (zSnap.set 0 (Value.int .i64 5)) = c0 := S0.out
  have s1 : (zSnap.set 0 (Value.int .i64 25)) = c1 := S1.out
  have s2 : ((zSnap.set 0 (Value.int .i64 12)).set 2 (Value.string ⟨#[120]⟩)) = c2 := S2.out
  have s3 : (zSnap.set 0 (Value.int .i64 21)) = c3 := S3.out
  go_wp2_with (refine wpList_buildSlice_r rfl 22 4 _ rfl (.slice (some ⟨w.heap.size, 0, none⟩) 4 4) W (by have h := BX.out; unfold execOp; simp [Act.eval, Act.put, h]) ?_; refine halt ?_)
  refine Halt.mk ?_
  clear hzv s0 s1 s2 s3
  go_wp2_with fail
  refine (hA.out W (Kept.refl _ _)).mono ?_
  rintro e w1 ⟨v1, rfl, k1, o1⟩
  have K1 := hid k1; have O1 := hid o1
  clear k1 o1
  go_wp2_with fail
  refine (hB.out w1 K1.out).mono ?_
  rintro e w2 ⟨v2, rfl, k2, o2⟩
  have K2 := hid (K1.out.trans k2); have O2 := hid o2; have O12 := hid (k2.owns O1.out (by simp))
  clear k2 o2
  go_wp2_with fail
  refine (hC.out w2 K2.out).mono ?_
  rintro e w3 ⟨v3, rfl, k3, o3⟩
  have K3 := hid (K2.out.trans k3); have O3 := hid o3; have O13 := hid (k3.owns O12.out (by simp)); have O23 := hid (k3.owns O2.out (by simp))
  clear k3 o3
  go_wp2_with fail
  refine (hD.out w3 K3.out).mono ?_
  rintro e w4 ⟨v4, rfl, k4, o4⟩
  have K4 := hid (K3.out.trans k4); have O4 := hid o4; have O14 := hid (k4.owns O13.out (by simp)); have O24 := hid (k4.owns O23.out (by simp)); have O34 := hid (k4.owns O3.out (by simp))
  clear k4 o4
  obtain ⟨g1, p1, rfl, r1⟩ := tru4 O14.out
  obtain ⟨g2, p2, rfl, r2⟩ := tru4 O24.out
  obtain ⟨g3, p3, rfl, r3⟩ := tru4 O34.out
  obtain ⟨g4, p4, rfl, r4⟩ := int3 O4.out
  go_wp2_with fail
  refine (hG.out w4 K4.out).mono ?_
  rintro e w5 ⟨v5, rfl, k5, a9, c9, rfl⟩
  have K5 := hid (KW.out.trans (K4.out.trans k5))
  clear k5
  go_wp2
  go_ret
  exact ⟨rfl, K5.out⟩
end Go.Proofs.Ytkabfdclecbnpaa


/- coldstorelaw19.RetainTags: what its policies keep; its first loop. -/
namespace Go.Proofs.Ytkabfdclecbnpaa
open Go.RowKit Go.Lib Go.Sort Go.Shelf

theorem and50 (n : Int) : bits .and .i64 n 1125899906842623 = n % 1125899906842624 := by
  have h7 : (BitVec.ofInt 64 1125899906842623).toNat = 2 ^ 50 - 1 := by decide
  have key : (BitVec.ofInt 64 n &&& BitVec.ofInt 64 1125899906842623).toNat = (n % ((2 ^ 64 : Nat) : Int)).toNat % 2 ^ 50 := by
    rw [BitVec.toNat_and, BitVec.toNat_ofInt, h7, Nat.and_two_pow_sub_one_eq_mod]
  show IntKind.i64.wrap ((BitVec.ofInt 64 n &&& BitVec.ofInt 64 1125899906842623).toNat : Nat) = n % 1125899906842624
  rw [key, IntKind.wrap_i64]
  omega
/-- A snapshot whose time is cut to fifty bits. -/
def mask (s : Sq) : Sq := ⟨{ s.1 with time := s.1.time % 1125899906842624 }, ⟨s.2.root, by show _ ≤ s.1.time % 1125899906842624; omega, by show s.1.time % 1125899906842624 ≤ _; omega, s.2.f1, s.2.f2, s.2.b1, s.2.b2⟩⟩
theorem mask_cells (s : Sq) : (encQ s).set 0 (.int .i64 (s.1.time % 1125899906842624)) = encQ (mask s) := rfl
theorem mask_time (s : Sq) : (mask s).1.time = s.1.time % 1125899906842624 := rfl
/-- The greatest time, or nought. -/
def topT (xs : List Sq) : Int := xs.foldl (fun m s => max m s.1.time) 0
theorem topT_snoc (xs : List Sq) (s : Sq) : topT (xs ++ [s]) = max (topT xs) s.1.time := by unfold topT; rw [List.foldl_append]; rfl
theorem foldl_ge : ∀ (xs : List Sq) (m : Int), m ≤ xs.foldl (fun m s => max m s.1.time) m ∧ (∀ s ∈ xs, s.1.time ≤ xs.foldl (fun m s => max m s.1.time) m) ∧ (xs.foldl (fun m s => max m s.1.time) m = m ∨ ∃ s ∈ xs, xs.foldl (fun m s => max m s.1.time) m = s.1.time)
  | [], m => ⟨Int.le_refl _, by simp, Or.inl rfl⟩
  | x :: r, m => by
    obtain ⟨h1, h2, h3⟩ := foldl_ge r (max m x.1.time)
    simp only [List.foldl_cons]
    refine ⟨by omega, fun s hs => ?_, ?_⟩
    · rcases List.mem_cons.1 hs with rfl | hs
      · omega
      · exact h2 s hs
    · rcases h3 with h | ⟨s, hs, h⟩
      · by_cases hm : m ≤ x.1.time
        · exact Or.inr ⟨x, by simp, by rw [h]; omega⟩
        · exact Or.inl (by rw [h]; omega)
      · exact Or.inr ⟨s, by simp [hs], h⟩
/-- A policy without a last one, nor days: nearness and tags alone. -/
theorem keep_plain {xs : List Sq} {p : Pol} {ps : List Nat} {ds : List Int} {ks : List Bool} (h : Kpt xs p ps ds ks) (hl : p.last = 0) (hd : p.day < 1) (h0 : ∀ s ∈ xs, 0 ≤ s.1.time) (q : Nat) (s : Sq) (hq : xs[q]? = some s) :
    ks[q]? = some (near p (topT xs) s || tagged p s) := by
  have hqn := (List.getElem?_eq_some_iff.1 hq).1
  have hm : q ∈ ps.reverse := by have : q ∈ ps := h.ord.perm.mem_iff.2 (by simpa using hqn); simpa using this
  obtain ⟨k, hk, e⟩ := List.getElem_of_mem hm
  have hk' : ps.reverse[k]? = some q := by rw [List.getElem?_eq_getElem hk, e]
  have hlen : ps.length = xs.length := by rw [h.ord.perm.length_eq, List.length_range]
  have hkl : k < xs.length := by simpa [hlen] using hk
  obtain ⟨q', s', q0, s0, e1, e2, e3, e4, e5, e6, e7, e8, e9, e10⟩ := round_facts (i := xs.length - 1 - k) (k := k) h.ord rfl rfl rfl (by omega)
  have hqq : q' = q := by rw [hk'] at e3; simpa using e3.symm
  subst hqq
  have hss : s' = s := by rw [hq] at e5; simpa using e5.symm
  subst hss
  rw [h.at_ k q' s' hk' hq]
  have hds : ds = [] := by have := h.days; rwa [if_pos hd] at this
  subst hds
  unfold valK
  rw [e6, e9]
  have hr : runD p.day (([] : List Int).take (kd p ([] : List Int).length)) ((snapsAt xs ps.reverse).take k) = [] := by
    obtain ⟨j, _, e⟩ := runD_drop p.day (([] : List Int).take (kd p ([] : List Int).length)) ((snapsAt xs ps.reverse).take k)
    rw [e]; simp
  have htop : topT xs = s0.1.time := by
    obtain ⟨g1, g2, g3⟩ := foldl_ge xs 0
    have m0 : s0 ∈ xs := List.mem_of_getElem? e8
    have g4 := g2 s0 m0
    have hmax : ∀ s ∈ xs, s.1.time ≤ s0.1.time := fun s hs => by
      obtain ⟨j, hj, ej⟩ := List.getElem_of_mem hs
      have hmj : j ∈ ps.reverse := by have : j ∈ ps := h.ord.perm.mem_iff.2 (by simpa using hj); simpa using this
      obtain ⟨k2, hk2, e2'⟩ := List.getElem_of_mem hmj
      have hk2l : k2 < xs.length := by simpa [hlen] using hk2
      obtain ⟨q2, s2, q02, s02, f1, f2, f3, f4, f5, f6, f7, f8, f9, f10⟩ := round_facts (i := xs.length - 1 - k2) (k := k2) h.ord rfl rfl rfl (by omega)
      have : q02 = q0 := by rw [e7] at f7; simpa using f7.symm
      subst this
      have : s02 = s0 := by rw [e8] at f8; simpa using f8.symm
      subst this
      have hq2 : q2 = j := by rw [List.getElem?_eq_getElem hk2, e2'] at f3; simpa using f3.symm
      subst hq2
      have : s2 = s := by rw [List.getElem?_eq_getElem hj, ej] at f5; simpa using f5.symm
      subst this
      exact f10
    show xs.foldl (fun m s => max m s.1.time) 0 = s0.1.time
    rcases g3 with g | ⟨s, hs, g⟩
    · have := h0 s0 m0; omega
    · have := hmax s hs; omega
  rw [htop, hr, hl]
  have hz : decide (((k + 1 : Nat) : Int) ≤ 0) = false := decide_eq_false (by omega)
  simp only [hz, daily, Bool.false_or]
/-- The slice's own snapshots. -/
theorem snaps_of_own {W : World} {base : Nat} {a : Option Addr} {c n : Nat} {xs : List Sq} (ho : W.ownsRow base 42 37 (.slice a n c) n (xs.flatMap encQ)) (hn : n = xs.length) : Snaps W a c xs ∧ ∀ x, a = some x → x.block < W.heap.size := by
  subst hn
  rcases ho.2 with ⟨h1, h2⟩ | ⟨g, cap, cur, hv, hg, hh, hc, hm, hs, ht⟩
  · simp at h1
    obtain ⟨rfl, _, rfl⟩ := h1
    have h3 : xs = [] := List.eq_nil_of_length_eq_zero h2
    subst h3
    exact ⟨⟨by simp, by omega, fun _ => ⟨rfl, rfl⟩, fun x hx => by simp at hx⟩, fun x hx => by simp at hx⟩
  · simp at hv
    obtain ⟨rfl, rfl⟩ := hv
    refine ⟨⟨hc, by unfold maxLen at hm; omega, fun h => by simp at h, fun x hx i s hs' j v hv => ?_⟩, fun x hx => by simp at hx; subst hx; exact lt_of_block hh⟩
    simp at hx; subst hx
    have hj : j < 37 := by have := (List.getElem?_eq_some_iff.1 hv).1; rw [encQ_len] at this; exact this
    exact ho.cells (g := g) rfl _ _ (by rw [flat_get encQ 37 encQ_len xs i j s hs' hj]; exact hv)
set_option maxRecDepth 100000 in
theorem build_sn' (t f b : Int) (h g : ByteArray) (b0 b1 b2 b3 b4 b5 b6 b7 b8 b9 b10 b11 b12 b13 b14 b15 b16 b17 b18 b19 b20 b21 b22 b23 b24 b25 b26 b27 b28 b29 b30 b31 : UInt8) (W : World) :
    (Instr.buildSlice 22 1 #[(0, .agg ([Value.int .i64 t, .string h, .string g] ++ [b0, b1, b2, b3, b4, b5, b6, b7, b8, b9, b10, b11, b12, b13, b14, b15, b16, b17, b18, b19, b20, b21, b22, b23, b24, b25, b26, b27, b28, b29, b30, b31].map B ++ [Value.int .i64 f, Value.int .i64 b]).toArray)]).run Try.prog W = .ok (.slice (some ⟨W.heap.size, 0, none⟩) 1 1) (W.alloc (.cells ([Value.int .i64 t, .string h, .string g] ++ [b0, b1, b2, b3, b4, b5, b6, b7, b8, b9, b10, b11, b12, b13, b14, b15, b16, b17, b18, b19, b20, b21, b22, b23, b24, b25, b26, b27, b28, b29, b30, b31].map B ++ [Value.int .i64 f, Value.int .i64 b]).toArray 42)) := by kernel_rfl
theorem build_sn (s : Sp) (h : s.root.length = 32) (W : World) : (Instr.buildSlice 22 1 #[(0, .agg s.cells.toArray)]).run Try.prog W = .ok (.slice (some ⟨W.heap.size, 0, none⟩) 1 1) (W.alloc (.cells s.cells.toArray 42)) := by
  obtain ⟨t, host, tag, root, f, b⟩ := s
  unfold Sp.cells
  match root, h with
  | [b0, b1, b2, b3, b4, b5, b6, b7, b8, b9, b10, b11, b12, b13, b14, b15, b16, b17, b18, b19, b20, b21, b22, b23, b24, b25, b26, b27, b28, b29, b30, b31], _ => exact build_sn' t f b (S host) (S tag) b0 b1 b2 b3 b4 b5 b6 b7 b8 b9 b10 b11 b12 b13 b14 b15 b16 b17 b18 b19 b20 b21 b22 b23 b24 b25 b26 b27 b28 b29 b30 b31 W
end Go.Proofs.Ytkabfdclecbnpaa
