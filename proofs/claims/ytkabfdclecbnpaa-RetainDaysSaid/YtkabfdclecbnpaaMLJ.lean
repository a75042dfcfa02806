import Derived.Test.YtkabfdclecbnpaaLI

/- retain.Gone: its iterator. -/
namespace Go.Proofs.Ytkabfdclecbnpaa
open Go.RowKit Go.Lib
attribute [local go_sem] Oper.semAt_some

/-- Truths in memory. -/
structure Tru (w : World) (a : Option Addr) (c : Nat) (ks : List Bool) : Prop where
  le : ks.length ≤ c
  max : c ≤ 9223372036854775807
  nil : a = none → ks = []
  at_ : ∀ x, a = some x → ∀ (i : Nat) b, ks[i]? = some b → w.cell? (x.add i) = some (bv b)
  lt : ∀ x, a = some x → x.block < w.heap.size
theorem Tru.keep {Bk : Nat → Prop} {w w' : World} {a : Option Addr} {c : Nat} {ks : List Bool} (h : Tru w a c ks) (hk : Keep Bk w w') (hL : ∀ x, a = some x → Bk x.block) : Tru w' a c ks :=
  ⟨h.le, h.max, h.nil, fun x hx i p hi => by
    have h2 := h.at_ x hx i p hi
    have e : (x.add i).block = x.block := add_block _ _
    unfold World.cell? at h2 ⊢
    rw [e] at h2 ⊢
    rw [hk.block _ (hL x hx) (h.lt x hx)]
    exact h2, fun x hx => by have := h.lt x hx; have := hk.size; omega⟩
theorem Tru.kept {S : List Nat} {W W' : World} {a : Option Addr} {c : Nat} {ks : List Bool} (h : Tru W a c ks) (hk : Kept S W W') (hS : ∀ x, a = some x → x.block ∉ S) : Tru W' a c ks :=
  ⟨h.le, h.max, h.nil, fun x hx j k hj => by
    have hc := h.at_ x hx j k hj
    refine (hk.cell (World.block_lt_of_cell? W _ hc) ?_).trans hc
    rw [add_block]; exact hS x hx, fun x hx => by have := h.lt x hx; have := hk.size; omega⟩
theorem tru_of_row {W : World} {base : Nat} {a : Option Addr} {c n : Nat} {ks : List Bool} (ho : W.ownsRow base 4 1 (.slice a n c) n (ks.map bv)) (hn : n = ks.length) : Tru W a c ks := by
  subst hn
  rcases ho.2 with ⟨h1, h2⟩ | ⟨g, cap, cur, hv, hg, hh, hc, hm, hs, ht⟩
  · simp at h1
    obtain ⟨rfl, _, rfl⟩ := h1
    have h3 : ks = [] := List.eq_nil_of_length_eq_zero h2
    subst h3
    exact ⟨by simp, by omega, fun _ => rfl, fun x hx => by simp at hx, fun x hx => by simp at hx⟩
  · simp at hv
    obtain ⟨rfl, rfl⟩ := hv
    refine ⟨hc, by unfold maxLen at hm; omega, fun h => by simp at h, fun x hx i p hi => ?_, fun x hx => by simp at hx; subst hx; exact lt_of_block hh⟩
    simp at hx; subst hx
    exact ho.cells (g := g) rfl i (bv p) (by rw [List.getElem?_map, hi]; rfl)
structure GoAt (w : World) (b : Nat) (pa : Option Addr) (pc : Nat) (ks : List Bool) : Prop where
  box : w.heap[b]? = some (.cells #[.slice pa ks.length pc] 26 (0, 0))
  row : Tru w pa pc ks
theorem GoAt.keep {w w' : World} {b : Nat} {pa : Option Addr} {pc : Nat} {ks : List Bool} (h : GoAt w b pa pc ks) (hk : Keep (BkNeed b pa) w w') : GoAt w' b pa pc ks :=
  ⟨hk.at h.box (Or.inl rfl), h.row.keep hk (fun x hx => Or.inr ⟨x, hx, rfl⟩)⟩
/-- The places of those that aren't kept, of the first j. -/
def outU (ks : List Bool) (j : Nat) : List Nat := (List.range j).filter fun i => !((ks[i]?).getD false)
def outK (ks : List Bool) : List Nat := outU ks ks.length
theorem outU_succ (ks : List Bool) (j : Nat) : outU ks (j + 1) = outU ks j ++ (if (ks[j]?).getD false then [] else [j]) := by
  unfold outU
  rw [List.range_succ, List.filter_append]
  congr 1
  cases h : (ks[j]?).getD false <;> simp [h]
theorem outU_prefix (ks : List Bool) : ∀ (d j : Nat), outU ks j <+: outU ks (j + d)
  | 0, j => List.prefix_refl _
  | d + 1, j => by
    rw [← Nat.add_assoc, outU_succ]
    exact (outU_prefix ks d j).trans (List.prefix_append _ _)
def gvals (i : Nat) : Array Value := #[.int .i64 (i : Int)]

set_option maxRecDepth 100000 in
set_option maxHeartbeats 4000000 in
theorem gone_in (n : Nat) (hn : 1 ≤ n) (l b : Nat) (pa : Option Addr) (pc : Nat) (ks : List Bool) (W : World) (h : GoAt W b pa pc ks) (hl : ks.length ≤ 100000000) (J Jx : List Nat → World → Prop)
    (hY : ∀ pre x A, J pre A → BkFt W.heap.size x A → pre ++ [x] <+: outK ks → YieldAt Fence.wide (n - 1) Try.prog l (gvals x) A fun e B =>
      (e = .returned (.bool true) ∧ J (pre ++ [x]) B ∧ Keep (fun k => BkNeed b pa k ∨ k = W.heap.size) A B) ∨ (e = .returned (.bool false) ∧ Jx (pre ++ [x]) B)) (h0 : J [] W) :
    CallsIn Fence.wide n Try.prog 45 #[.func (.yield l) #[] #[], .pointer (some ⟨b, 0, none⟩)] W fun e B => (∃ v, e = .returned v) ∧ ((∃ xs, xs = outK ks ∧ J xs B) ∨ (∃ pre, pre <+: outK ks ∧ Jx pre B)) := by
  obtain ⟨m, hm⟩ : ∃ m, m = ks.length := ⟨_, rfl⟩
  have HM := hid hm
  have g1 : W.cell? ⟨b, 0, none⟩ = some (.slice pa m pc) := by rw [hm]; exact cell_of_one h.box
  have hle := h.row.le
  rw [← hm] at hl hle
  have hst0 := hid (show J (outU ks 0) W ∧ Keep (BkNeed b pa) W W from ⟨by simpa [outU] using h0, Keep.refl _ _⟩)
  have H := hid h; have HY := hid hY
  clear h hY h0 hm
  refine callsIn_of_wp Try.func45 rfl trivial ?_ rfl
  simp only [Try.ntmps45, List.size_toArray, List.length_cons, List.length_nil, Nat.reduceAdd, Nat.reduceSub, Array.replicate_succ, Array.replicate_zero, List.push_toArray, List.append_toArray, List.nil_append, List.cons_append]
  gi_wp2_with fail
  gi_loopw [7] (fun s wr => ∃ j : Nat, j ≤ m ∧ s = .int .i64 j ∧ Hid (J (outU ks j) wr ∧ Keep (BkNeed b pa) W wr)) (fun s _ => m - (intOf s).toNat)
  case atStart => exact ⟨0, Nat.zero_le _, rfl, hst0⟩
  case round =>
    clear hst0
    obtain ⟨j, hj, rfl, hst⟩ := hrel
    have HS := hid hst.out.1; have HKp := hid hst.out.2
    clear hst g1
    by_cases hlt : j < m
    · have hb := (H.out.keep HKp.out)
      cases pa with
      | none => exact absurd (H.out.row.nil rfl) (fun e => by have := HM.out; rw [e] at this; simp at this; omega)
      | some x =>
        have hj2 : j < ks.length := by rw [← HM.out]; exact hlt
        obtain ⟨bj, hbj⟩ : ∃ bj, ks[j]? = some bj := ⟨ks[j], List.getElem?_eq_getElem hj2⟩
        have g2 : wr.cell? (x.add j) = some (.bool bj) := hb.row.at_ x rfl j bj hbj
        have hsu := hid (show outU ks (j + 1) = outU ks j ++ (if bj then [] else [j]) by rw [outU_succ, hbj]; rfl)
        have hpf := hid (show outU ks (j + 1) <+: outK ks by
          have := outU_prefix ks (ks.length - (j + 1)) (j + 1)
          rwa [show j + 1 + (ks.length - (j + 1)) = ks.length by omega] at this)
        have hjz : (j : Int) < (m : Int) := by omega
        have HLT := hid hlt
        clear hbj hb hj2 hlt
        cases bj
        · have hsW := hid (show W.heap.size ≤ wr.heap.size from HKp.out.size)
          rw [if_neg (by simp)] at hsu
          obtain ⟨fn, tmps, assign, body, hy, hR⟩ := HY.out (outU ks j) j wr HS.out hsW.out (by rw [← hsu.out]; exact hpf.out)
          unfold gvals at hy
          gi_wp2
          refine hR.mono ?_
          rintro e W' (⟨rfl, hJ', hk⟩ | ⟨rfl, hJx'⟩)
          · gi_wp2
            have hkk := hid hk
            have hJJ := hid hJ'
            clear hk hJ'
            go_roundw
            case rel => exact ⟨j + 1, HLT.out, by go_num, hid ⟨by rw [hsu.out]; exact hJJ.out, HKp.out.trans (hkk.out.less fun k _ hk => .inl hk)⟩⟩
            case measure => have := HLT.out; simp [intOf]; omega
          · gi_wp2
            refine bodyPost_ret (results_none rfl _ _ _) rfl ?_
            exact ⟨⟨_, rfl⟩, .inr ⟨outU ks j ++ [j], by rw [← hsu.out]; exact hpf.out, hJx'⟩⟩
        · rw [if_pos rfl, List.append_nil] at hsu
          gi_wp2
          refine ⟨fun f hf => (by cases hf), ?_⟩
          gi_wp2
          go_roundw
          case rel => exact ⟨j + 1, HLT.out, by go_num, hid ⟨by rw [hsu.out]; exact HS.out, HKp.out⟩⟩
          case measure => have := HLT.out; simp [intOf]; omega
    · have hjm : j = m := by omega
      have hz : ¬ (j : Int) < (m : Int) := by omega
      have HE := hid hjm
      clear hlt hjm hj
      gi_wp2
      go_end0
      refine ⟨⟨_, rfl⟩, .inl ?_⟩
      have := HS.out
      rw [HE.out, HM.out] at this
      exact this
theorem gone_seq (n : Nat) (hn : 1 ≤ n) (b : Nat) (pa : Option Addr) (pc : Nat) (ks : List Bool) (w : World) (h : GoAt w b pa pc ks) (hl : ks.length ≤ 100000000) :
    SeqW Fence.wide n Try.prog 45 #[.pointer (some ⟨b, 0, none⟩)] gvals BkFt (BkNeed b pa) (fun xs => xs = outK ks) (fun pre => pre <+: outK ks) w :=
  fun l J Jx W hW hJ _ hY h0 => gone_in n hn l b pa pc ks W (h.keep ((Kept.of_below (S := []) hW).keep fun k _ _ => by simp)) hl J Jx hY h0

set_option maxRecDepth 100000 in
set_option maxHeartbeats 4000000 in
theorem gone_any (a : Option Addr) (c : Nat) (xs : List Sq) (p : Pol) (hp : p.ok) (w : World) (h : Snaps w a c xs) (hl : xs.length ≤ 1000) :
    Calls Try.prog 33 #[.slice a xs.length c, .agg p.cells.toArray] w fun e w' => ∃ b pa pc ps ds ks, e = .returned (.func (.func 45) #[] #[.pointer (some ⟨b, 0, none⟩)]) ∧ Kept [] w w' ∧ Kpt xs p ps ds ks ∧ GoAt w' b pa pc ks ∧ w.heap.size ≤ b ∧ b < w'.heap.size ∧ ∀ x, pa = some x → w.heap.size ≤ x.block := by
  have hmf : ∀ (fn : Fn) (first cap : Array Value) (w : World), (Instr.makeFunc fn first cap).run Try.prog w = .ok (.func fn first cap) w := fun _ _ _ _ => rfl
  obtain ⟨n, hn⟩ : ∃ n, n = xs.length := ⟨_, rfl⟩
  have HN := hid hn
  obtain ⟨cp, hcp⟩ : ∃ cp, cp = p.cells := ⟨_, rfl⟩
  obtain ⟨W, hW⟩ : ∃ W, W = w.alloc (.cells cp.toArray 24) := ⟨_, rfl⟩
  have K := hid (show Kept [] w W by rw [hW]; exact (Kept.refl [] w).alloc _)
  have hk := hid (keep_go a c xs p hp W (h.kept' K.out (by simp)) hl)
  have hszp := hid (show (Try.prog.info? 24).map (·.size) = some cp.length by rw [hcp]; exact info_pol)
  have hrd := hid (show ∀ (j : Nat) u, cp[j]? = some u → W.cell? ((⟨w.heap.size, 0, none⟩ : Addr).add j) = some u from fun j u hj => by
    have e : (⟨w.heap.size, 0, none⟩ : Addr).add j = ⟨w.heap.size, j, none⟩ := by unfold Addr.add; split <;> simp_all
    rw [e, hW, cell_of_row _ _ j _ _ _ (heap_alloc_at rfl)]; simpa using hj)
  rw [← hn] at hk hl ⊢
  rw [← hcp] at hk ⊢
  have HW := hid hW
  clear hn hcp hW h hp
  go_enter Try.func33, Try.ntmps33
  go_wp2_with (refine wpList_load_cells rfl 24 (.tmp 3) rfl ⟨w.heap.size, 0, none⟩ rfl cp _ Try.underlying24 rfl hszp.out (by rw [← HW.out]; exact hrd.out) ?_)
  rw [← HW.out]
  refine hk.out.mono ?_
  rintro e w1 ⟨v, ps, ds, ks, rfl, k1, hkpt, hown⟩
  obtain ⟨la, lc, rfl⟩ : ∃ la lc, v = .slice la n lc := by
    rcases hown.2 with ⟨h1, h2⟩ | ⟨g, cap, cur, h1, _⟩
    · exact ⟨none, 0, by rw [h1, h2]⟩
    · exact ⟨_, _, h1⟩
  have K1 := hid k1; have HP := hid hkpt; have HO := hid hown
  clear k1 hkpt hown hk
  go_wp2
  go_ret
  have hkl : n = ks.length := by rw [HP.out.len, HN.out]
  have KA : Kept [] w1 (w1.alloc (.cells #[.slice la n lc] 26)) := (Kept.refl [] w1).alloc _
  refine ⟨w1.heap.size, la, lc, ps, ds, ks, rfl, K.out.trans (K1.out.trans KA), HP.out, ⟨by rw [← hkl]; exact heap_alloc_at rfl, (tru_of_row HO.out hkl).kept KA (by simp)⟩, ?_, by simp, fun x hx => ?_⟩
  · have := K.out.size; have := K1.out.size; omega
  · subst hx
    rcases HO.out.2 with ⟨h1, _⟩ | ⟨g, cap, cur, h1, h2, _⟩
    · simp at h1
    · simp at h1; rw [h1.1]; have := K.out.size; show w.heap.size ≤ g; omega
end Go.Proofs.Ytkabfdclecbnpaa


/- coldstorelaw19.gone: up to so many of those that aren't kept. -/
namespace Go.Proofs.Ytkabfdclecbnpaa
open Go.RowKit Go.Lib
attribute [local go_sem] Oper.semAt_some

section
variable {F : Fence} {n : Nat} {P : Program}
theorem wpListIn_append_r (w : World) {ops : Array Oper} {rest : List Oper} {o : Oper} {a : Act} {Q : Exit → Act → World → Prop} (hgd : o.guard = none) (s x : Operand) (t : TypeId)
    (ho : o.op = .call { callee := .builtin .append, args := #[s, x], argTypes := #[t, t] }) (base : Nat) (e : TypeId) (i : TypeInfo) (z : Value) (size bytes : Nat) (ht : P.underlying t = some (.slice e)) (hi : P.info? e = some i) (hz : i.zero = some z)
    (hsize : i.size = size) (hby : i.bytes = bytes) (hzs : z.cells.size = size) (hsz : 0 < size) (v : Value) (k : Nat) (xs : List Value) (hs : a.eval s = v) (hown : w.ownsRow base e size v k xs)
    (sv : Value) (m : Nat) (news : List Value) (hx : a.eval x = sv) (hsrc : Src w sv m news) (hl : news.length = m * size) (h1 : ∀ u ∈ news, u.oneCell' = true)
    (h63 : k + m ≤ maxLen) (hbytes : (k + m) * bytes ≤ 140737488355328) (hbase : base ≤ w.heap.size)
    (h : ∀ v' w', w'.ownsRow base e size v' (k + m) (xs ++ news) → w.grownBy w' v.ownBlock → (∀ g, v'.ownBlock = some g → v.ownBlock = some g ∨ w.heap.size ≤ g) → wpListIn F n P ops Q rest (a.put o.dst v') w') :
    wpListIn F n P ops Q (o :: rest) a w := by
  obtain ⟨v', w', hr, h2, h3, _, h5⟩ := run_append_k (P := P) w t o.type base e i z size bytes ht hi hz hsize hby hzs hsz v k xs hown sv m news hsrc hl h1 h63 hbytes hbase
  refine wpListIn_plain hgd fun K hK => ?_
  unfold Oper.wpIn
  constructor
  · simp [Oper.about, ho, resolve, Target.leads, Sem.run_pure]
  · rw [Oper.semAt_plain F _ _ (by rw [ho]; intro c hc; cases hc)]
    simp [execOp, ho, resolve, invoke, builtin, hs, hx, hr, Result.andThen]
    exact hK _ _ (h v' w' h2 h3 h5)
theorem wpListIn_buildSlice_r {ops : Array Oper} {rest : List Oper} {o : Oper} {a : Act} {w : World} {Q : Exit → Act → World → Prop} (hgd : o.guard = none) (t k : Nat) (parts : Array (Nat × Operand)) (ho : o.op = .buildSlice t k parts) (v : Value) (w' : World)
    (hrun : (execOp a.eval o).run P w = .ok (.value v) w') (h : wpListIn F n P ops Q rest (a.put o.dst v) w') : wpListIn F n P ops Q (o :: rest) a w := by
  refine wpListIn_plain hgd fun K hK => ?_
  unfold Oper.wpIn
  constructor
  · simp [Oper.about, ho, resolve, Target.leads, Sem.run_pure]
  · rw [Oper.semAt_plain F _ _ (by rw [ho]; intro c hc; cases hc)]
    rw [hrun]
    exact hK _ _ h

end
/-- The call's own variables: s is the first block. -/
structure GnB (s : Nat) (v : Value) (most : Nat) (W : World) : Prop where
  most : W.heap[s + 1]? = some (.cells #[.int .i64 (most : Int)] 3 (0, 0))
  res : W.heap[s + 2]? = some (.cells #[.slice none 0 0] 32 (0, 0))
  out : W.heap[s + 4]? = some (.cells #[v] 32 (0, 0))
theorem GnB.kept {S : List Nat} {s most : Nat} {v : Value} {W W' : World} (h : GnB s v most W) (hk : Kept S W W') (hS : s + 1 ∉ S ∧ s + 2 ∉ S ∧ s + 4 ∉ S) : GnB s v most W' :=
  ⟨hk.at h.most hS.1, hk.at h.res hS.2.1, hk.at h.out hS.2.2⟩
structure GnI (w : World) (D : Nat) (v : Value) (pre : List Nat) (W : World) : Prop where
  row : W.ownsRow w.heap.size 3 1 v pre.length (pre.map pv)
  kept : Kept [] w W
  own : ∀ g, v.ownBlock = some g → g = w.heap.size + 3 ∨ D + 2 < g
theorem GnI.keep {S : List Nat} {w : World} {D : Nat} {v : Value} {pre : List Nat} {W W' : World} (h : GnI w D v pre W) (hk : Kept S W W') (hS : ∀ k ∈ S, k ≠ w.heap.size + 3 ∧ w.heap.size ≤ k ∧ k ≤ D + 2) : GnI w D v pre W' :=
  ⟨hk.owns h.row (fun g hg hm => by rcases h.own g hg with e | e <;> have := hS g hm <;> omega), h.kept.trans' hk (fun k hl hm => by have := hS k hm; omega), h.own⟩
theorem row_slice {w : World} {base : Nat} {e : TypeId} {size : Nat} {v : Value} {n : Nat} {xs : List Value} (h : w.ownsRow base e size v n xs) : ∃ a c, v = .slice a n c := by
  rcases h.2 with ⟨h1, h2⟩ | ⟨g, cap, cur, h1, _⟩
  · exact ⟨none, 0, by rw [h1, h2]⟩
  · exact ⟨_, _, h1⟩
theorem pv_one (p : Nat) : ∀ v ∈ [pv p], v.oneCell' = true := by intro v hv; simp at hv; subst hv; rfl

set_option maxRecDepth 100000 in
set_option maxHeartbeats 4000000 in
theorem law_gone (a : Option Addr) (c : Nat) (xs : List Sq) (p : Pol) (hp : p.ok) (most : Nat) (w : World) (h : Snaps w a c xs) (hl : xs.length ≤ 1000) (hm1 : 1 ≤ most) (hm2 : most ≤ 2000000000) :
    Calls Try.prog 15 #[.slice a xs.length c, .agg p.cells.toArray, .int .i64 (most : Int)] w fun e w' => ∃ v ps ds ks, e = .returned v ∧ Kept [] w w' ∧ Kpt xs p ps ds ks ∧ w'.ownsRow w.heap.size 3 1 v ((outK ks).take most).length (((outK ks).take most).map pv) := by
  have h0 : ¬ ((most : Int) ≤ 0) := by omega
  obtain ⟨n, hn⟩ : ∃ n, n = xs.length := ⟨_, rfl⟩
  have HN := hid hn
  obtain ⟨cp, hcp⟩ : ∃ cp, cp = p.cells := ⟨_, rfl⟩
  obtain ⟨W0, hW0⟩ : ∃ W0, W0 = ((((w.alloc (.cells cp.toArray 24)).alloc (.cells #[.int .i64 (most : Int)] 3)).alloc (.cells #[.slice none 0 0] 32)).alloc (.cells #[] 3)).alloc (.cells #[.slice (some ⟨w.heap.size + 3, 0, none⟩) 0 0] 32) := ⟨_, rfl⟩
  have k00 : Kept [] w W0 := hW0 ▸ (((((Kept.refl [] w).alloc _).alloc _).alloc _).alloc _).alloc _
  have hB0 : GnB w.heap.size (.slice (some ⟨w.heap.size + 3, 0, none⟩) 0 0) most W0 := by
    rw [hW0]
    refine ⟨?_, ?_, ?_⟩
    · exact heap_alloc_old (heap_alloc_old (heap_alloc_old (heap_alloc_at (by simp))))
    · exact heap_alloc_old (heap_alloc_old (heap_alloc_at (by simp)))
    · exact heap_alloc_at (by simp)
  have hr0 : W0.heap[w.heap.size + 3]? = some (.cells #[] 3 (0, 0)) := by
    rw [hW0]; exact heap_alloc_old (heap_alloc_at (by simp))
  have hs0 : W0.heap.size = w.heap.size + 5 := by rw [hW0]; simp
  have hszp := hid (show (Try.prog.info? 24).map (·.size) = some cp.length by rw [hcp]; exact info_pol)
  have hrd := hid (show ∀ (j : Nat) u, cp[j]? = some u → W0.cell? ((⟨w.heap.size, 0, none⟩ : Addr).add j) = some u from fun j u hj => by
    have e : (⟨w.heap.size, 0, none⟩ : Addr).add j = ⟨w.heap.size, j, none⟩ := by unfold Addr.add; split <;> simp_all
    have hh : W0.heap[w.heap.size]? = some (.cells cp.toArray 24 (0, 0)) := by rw [hW0]; exact heap_alloc_old (heap_alloc_old (heap_alloc_old (heap_alloc_old (heap_alloc_at rfl))))
    rw [e, cell_of_row _ _ j _ _ _ hh]; simpa using hj)
  have hgo := hid (gone_any a c xs p hp W0 (h.kept' k00 (by simp)) hl)
  rw [← hn] at hgo hl ⊢
  rw [← hcp] at hgo ⊢
  have HW0 := hid hW0; have K00 := hid k00; have HB0 := hid hB0; have HR0 := hid hr0; have HS0 := hid hs0
  clear hn hcp hW0 h hp k00 hB0 hr0 hs0
  refine (callsIn_wide (n := 4)).1 ?_
  refine callsIn_of_wp_marks Try.func15 rfl trivial ?_ rfl
  simp only [Try.ntmps15, List.size_toArray, List.length_cons, List.length_nil, Nat.reduceAdd, Nat.reduceSub, Array.replicate_succ, Array.replicate_zero, List.push_toArray, List.append_toArray, List.nil_append, List.cons_append]
  gi_wp2_with (first | (refine wpListIn_load_k rfl 24 (.tmp 4) rfl ⟨w.heap.size, 0, none⟩ rfl cp _ Try.underlying24 rfl hszp.out (by have := hrd.out; rw [HW0.out] at this; exact this) ?_) | (refine ⟨trivial, ?_⟩; gi_at_call 33; refine halt ?_))
  rw [show w.heap.size + 1 + 1 + 1 + 1 = w.heap.size + 4 by omega, show w.heap.size + 1 + 1 + 1 = w.heap.size + 3 by omega, show w.heap.size + 1 + 1 = w.heap.size + 2 by omega, ← HW0.out]
  refine Halt.mk ?_
  refine (callsIn_wide.2 hgo.out).mono ?_
  rintro e w1 ⟨b, pa, pc, ps, ds, ks, rfl, k1, hkpt, hgat, hb, hbl, hx⟩
  have hs0 := HS0.out
  rw [hs0] at hb hx
  have hk01 := hid (K00.out.trans k1)
  have hB1 := hid (HB0.out.kept k1 (by simp))
  have hr1 := hid (k1.at HR0.out (by simp))
  have HG := hid hgat; have HKP := hid hkpt
  have hkl := hid (show ks.length = n by rw [hkpt.len, HN.out])
  have hneed := hid (show ∀ k, BkNeed b pa k → k < w1.heap.size ∧ w.heap.size + 5 ≤ k from by
    rintro k (rfl | ⟨x, h1, rfl⟩)
    · exact ⟨hbl, hb⟩
    · exact ⟨hgat.row.lt x h1, hx x h1⟩)
  have hw1 : w.heap.size + 5 ≤ w1.heap.size := by omega
  clear k1 hb hbl hx hgat hkpt hs0 hgo HW0 hrd hszp HB0 HR0 K00 HS0
  obtain ⟨i0, hi0, hz0, hz1, hz2⟩ := info_sp info_int_r
  gi_wp2_with fail
  refine range_le rfl (by omega) (gf := 45) (lb := #[.pointer (some ⟨b, 0, none⟩)]) rfl trivial (enters_of Try.func45 (by kernel_rfl) rfl)
    (gone_seq (4 - 1) (by omega) b pa pc ks w1 HG.out (by rw [hkl.out]; omega)) (fun k hk => (hneed.out k hk).1) (fun _ => rfl) (fun x A B hf hk => by unfold BkFt at hf ⊢; have := hk.size; omega)
    (fun pre W => pre.length < most ∧ pre.length ≤ n ∧ ∃ v, GnB w.heap.size v most W ∧ GnI w w1.heap.size v pre W)
    (fun pre W => pre.length = most ∧ ∃ v, W.heap[w.heap.size + 2]? = some (.cells #[v] 32 (0, 0)) ∧ GnI w w1.heap.size v pre W) ?hI ?hIx ?h0 ?a1 ?assign ?body ?fs ?done ?stop
  case assign =>
    intro l x W K hK
    dsimp only [gvals]
    gi_wp2
    exact hK
  case hI =>
    rintro s A B ⟨hlt, hle, v, hb, hi⟩ hkk
    exact ⟨hlt, hle, v, hb.kept hkk (by simp; omega), hi.keep hkk (fun k hk => by simp at hk; omega)⟩
  case hIx =>
    rintro s A B ⟨hlt, v, hb1, hi⟩ hkk
    exact ⟨hlt, v, hkk.at hb1 (by simp; omega), hi.keep hkk (fun k hk => by simp at hk; omega)⟩
  case h0 =>
    refine ⟨by show 0 < most; omega, by simp, _, hB1.out, ⟨⟨by simp, Or.inr ⟨w.heap.size + 3, 0, #[], rfl, by omega, hr1.out, by simp, by unfold maxLen; omega, by simp, by simp⟩⟩, hk01.out, fun g hg => ?_⟩⟩
    simp [Value.ownBlock] at hg; omega
  case fs => exact fun x A h => h
  case body =>
    rintro l pre x W ⟨hlt, hle, v, hB, hi⟩ hft hzp hsz
    have hlen : pre.length + 1 ≤ n := by
      have h1 := hzp.length_le
      have h2 : (outK ks).length ≤ ks.length := by unfold outK outU; exact Nat.le_trans (List.length_filter_le _ _) (by simp)
      rw [hkl.out] at h2
      simp at h1; omega
    have c5 : W.cell? ⟨w.heap.size + 4, 0, none⟩ = some v := cell_of_one hB.out
    have hno := hid (show ∀ k, k < w.heap.size ∨ (k ≠ w.heap.size + 3 ∧ w.heap.size ≤ k ∧ k ≤ w1.heap.size + 2) → k ∉ v.ownBlock.toList from fun k h1 hm => by
      rw [Option.mem_toList] at hm; have h2 := (own_lt1 hi.row hm).1; rcases hi.own k hm with e | e <;> omega)
    have HB := hid hB; have Hi := hid hi; have Hl := hid hlt; have HLE := hid hle
    obtain ⟨wc, hwc⟩ : ∃ wc : World, wc = W.alloc (.cells #[pv x] 3) := ⟨_, rfl⟩
    have hkc := hid (show Kept [] W wc from by rw [hwc]; exact (Kept.refl [] W).alloc _)
    have hnew := hid (show wc.heap[W.heap.size]? = some (.cells ([pv x].toArray) 3 (0, 0)) by rw [hwc]; exact heap_alloc_at rfl)
    have hrow := hid (hkc.out.owns hi.row (by simp))
    have hsc := hid (show wc.heap.size = W.heap.size + 1 by rw [hwc]; simp)
    have hbn := build_int (x : Int) W
    have hbn' : (Instr.buildSlice 32 1 #[(0, .int .i64 (x : Int))]).run Try.prog W = .ok (.slice (some ⟨W.heap.size, 0, none⟩) 1 1) wc := by rw [hbn, hwc]; rfl
    obtain ⟨q, hq⟩ : ∃ q, ((pre.length : Int) + 1 == (most : Int)) = q := ⟨_, rfl⟩
    have hQ := hid hq
    have hsw := hid (show w.heap.size ≤ W.heap.size from hi.kept.size)
    have hN := hid hlen
    have HSZ := hid hsz
    clear hB hi hft hzp hwc hlt hbn hle
    gi_wp2_with (refine wpListIn_buildSlice_r rfl _ _ _ rfl (.slice (some ⟨W.heap.size, 0, none⟩) 1 1) wc (by have h := hbn'; unfold execOp; simp [Act.eval, Act.put, h]) ?_; refine halt ?_)
    refine Halt.mk ?_
    clear hbn'
    gi_wp2_with (gi_at_builtin; refine halt ?_)
    refine Halt.mk ?_
    refine wpListIn_append_r _ rfl _ _ _ rfl w.heap.size 3 i0 _ 1 8 Try.underlying32 hi0 hz0 hz1 hz2 rfl (by decide) v pre.length _ rfl hrow.out (.slice (some ⟨W.heap.size, 0, none⟩) 1 1) 1 [pv x] rfl (cell_src hnew.out) rfl (pv_one x) (by have := hN.out; unfold maxLen; omega) (by have := hN.out; omega) (by have := hsw.out; have := hsc.out; omega) ?_
    intro v' w2 hown' hgrow hfr
    obtain ⟨a2, c2, rfl⟩ : ∃ la lc, v' = .slice la (pre.length + 1) lc := by
      rcases hown'.2 with ⟨h1, h2⟩ | ⟨g, cap, cur, h1, _⟩
      · omega
      · exact ⟨_, _, h1⟩
    have hkg := hid (show Kept v.ownBlock.toList W w2 from (hkc.out.wider (fun _ _ h => by simp at h)).trans (Kept.of_row hgrow))
    have hB2 := hid (HB.out.kept hkg.out ⟨hno.out _ (by omega), hno.out _ (by omega), hno.out _ (by omega)⟩)
    have hAI2 : GnI w w1.heap.size (.slice a2 (pre.length + 1) c2) (pre ++ [x]) w2 := by
      refine ⟨by simpa using hown', Hi.out.kept.trans' hkg.out (fun k hl hm => absurd hm (hno.out k (Or.inl hl))), fun g' hg => ?_⟩
      rcases hfr g' hg with e | e
      · exact Hi.out.own g' e
      · have := hsc.out; have := HSZ.out; omega
    have HAI2 := hid hAI2
    have c4 : w2.cell? ⟨w.heap.size + 4, 0, none⟩ = some v := cell_of_one hB2.out.out
    have f4 : w2.frozen? ⟨w.heap.size + 4, 0, none⟩ = false := free_of_one hB2.out.out
    have c0 : w2.cell? ⟨w.heap.size + 1, 0, none⟩ = some (.int .i64 (most : Int)) := cell_of_one hB2.out.most
    have r1 : w2.cell? ⟨w.heap.size + 2, 0, none⟩ = some (.slice none 0 0) := cell_of_one hB2.out.res
    have q1 : w2.frozen? ⟨w.heap.size + 2, 0, none⟩ = false := free_of_one hB2.out.res
    have hkeep2 : Keep (fun k => BkNeed b pa k ∨ k = w1.heap.size ∨ k = w1.heap.size + 1 ∨ k = w1.heap.size + 2) W w2 := hkg.out.keep fun k _ hk => by
      rcases hk with h | h
      · have := hneed.out k h; exact hno.out k (by omega)
      · exact hno.out k (by omega)
    have HK2 := hid hkeep2
    clear hown' hgrow hfr hAI2 hkeep2
    cases q
    · gi_wp2
      have hk3 : Kept [w.heap.size + 4] w2 (w2.setCell ⟨w.heap.size + 4, 0, none⟩ (.slice a2 (pre.length + 1) c2)) := (Kept.refl _ _).setCell (p := ⟨w.heap.size + 4, 0, none⟩) (fun _ => by simp) _
      refine ⟨HK2.out.trans (hk3.keep fun k _ hk => ?_), ?_, ?_, _, ⟨hk3.at hB2.out.most (by simp), hk3.at hB2.out.res (by simp), one_setCell hB2.out.out⟩, HAI2.out.keep hk3 (fun k hk => by simp at hk; omega)⟩
      · rcases hk with h | h
        · have := hneed.out k h; simp; omega
        · simp; omega
      · have h1 := hQ.out; have h2 := Hl.out
        simp at h1
        simp; omega
      · have := hN.out; simp; omega
    · gi_wp2
      have h1 := hQ.out
      simp at h1
      obtain ⟨w3, hw3⟩ : ∃ w3, w3 = w2.setCell ⟨w.heap.size + 4, 0, none⟩ (.slice a2 (pre.length + 1) c2) := ⟨_, rfl⟩
      have hk3 : Kept [w.heap.size + 4] w2 w3 := hw3 ▸ (Kept.refl _ _).setCell (p := ⟨w.heap.size + 4, 0, none⟩) (fun _ => by simp) _
      rw [← hw3]
      have hres := hk3.at hB2.out.res (by simp)
      have hk4 : Kept [w.heap.size + 2] w3 (w3.setCell ⟨w.heap.size + 2, 0, none⟩ (.slice a2 (pre.length + 1) c2)) := (Kept.refl _ w3).setCell (p := ⟨w.heap.size + 2, 0, none⟩) (fun _ => by simp) _
      refine ⟨(HK2.out.trans (hk3.keep fun k _ hk => ?_)).less (fun k _ hk => by rcases hk with h | h <;> simp [h]) |>.trans (hk4.keep fun k _ hk => ?_), by simp; omega, _, one_setCell hres, (HAI2.out.keep hk3 (fun k hk => by simp at hk; omega)).keep hk4 (fun k hk => by simp at hk; omega)⟩
      · rcases hk with h | h
        · have := hneed.out k h; simp; omega
        · simp; omega
      · rcases hk with h | h <;> (simp; omega)
  case done =>
    intro xs' W hxs ⟨hlt, hle, v, hB, hi⟩ hK
    subst hxs
    obtain ⟨v0, hv0⟩ : ∃ v0, v0 = v := ⟨_, rfl⟩
    obtain ⟨a9, c9, rfl⟩ := row_slice hi.row
    have c5 : W.cell? ⟨w.heap.size + 4, 0, none⟩ = some (.slice a9 (outK ks).length c9) := cell_of_one hB.out
    clear hv0
    have r1 : W.cell? ⟨w.heap.size + 2, 0, none⟩ = some (.slice none 0 0) := cell_of_one hB.res
    have q1 : W.frozen? ⟨w.heap.size + 2, 0, none⟩ = false := free_of_one hB.res
    have HB := hid hB; have Hi := hid hi; have Hlt := hid hlt; have HKK := hid hK
    clear hB hi hlt hK
    gi_wp2
    have hk4 : Kept [w.heap.size + 2] W (W.setCell ⟨w.heap.size + 2, 0, none⟩ (.slice a9 (outK ks).length c9)) := (Kept.refl _ W).setCell (p := ⟨w.heap.size + 2, 0, none⟩) (fun _ => by simp) _
    have hK2 := hk4.at HKK.out (by simp; omega)
    refine ⟨by simp, .inl ⟨_, _, rfl, run_takeDeferred hK2, ?_⟩⟩
    have e1 : (W.setCell ⟨w.heap.size + 2, 0, none⟩ (.slice a9 (outK ks).length c9)).heap[w.heap.size + 2]? = some (.cells #[.slice a9 (outK ks).length c9] 32 (0, 0)) := one_setCell HB.out.res
    obtain ⟨w5, hw5⟩ : ∃ w5, w5 = W.setCell ⟨w.heap.size + 2, 0, none⟩ (.slice a9 (outK ks).length c9) := ⟨_, rfl⟩
    rw [← hw5] at hk4 e1 ⊢
    have hkd := kept_putObj w5 w1.heap.size (.deferred none)
    have e3 := cell_of_one (hkd.at e1 (by simp; omega))
    have hfin := (Hi.out.keep hk4 (fun k hk => by simp at hk; omega)).keep hkd (fun k hk => by simp at hk; omega)
    have htk : (outK ks).take most = outK ks := List.take_of_length_le (by have := Hlt.out; omega)
    refine ⟨.slice a9 (outK ks).length c9, ?_, _, ps, ds, ks, rfl, hfin.kept, HKP.out, by rw [htk]; exact hfin.row⟩
    simp [results, Try.f15, go_sem, e3]
  case stop =>
    rintro pre W hZp ⟨hlt, v, e1, hi⟩ hK
    obtain ⟨a9, c9, rfl⟩ := row_slice hi.row
    have Hi := hid hi; have Hlt := hid hlt; have HKK := hid hK
    have htk := hid (show (outK ks).take most = pre from by
      obtain ⟨r, hr⟩ := hZp
      rw [← hr, List.take_left' hlt])
    clear hi hZp hlt hK
    gi_wp2
    refine ⟨by simp, .inl ⟨_, _, rfl, run_takeDeferred HKK.out, ?_⟩⟩
    have hkd := kept_putObj W w1.heap.size (.deferred none)
    have e3 := cell_of_one (hkd.at e1 (by simp; omega))
    have hfin := Hi.out.keep hkd (fun k hk => by simp at hk; omega)
    refine ⟨.slice a9 pre.length c9, ?_, _, ps, ds, ks, rfl, hfin.kept, HKP.out, by rw [htk.out]; exact hfin.row⟩
    simp [results, Try.f15, go_sem, e3]
end Go.Proofs.Ytkabfdclecbnpaa
