import Derived.Test.YtmkdjonlfkfnlaaDoorN9
import Derived.Test.YtmkdjonlfkfnlaaDoorN7
import Derived.Test.YtmkdjonlfkfnlaaDoorW1

/- slices.Values of sums; within a fence: many cells loaded, stored, appended. -/
namespace Go.Proofs.YtmkdjonlfkfnlaaDoor
open Go.RowKit Go.Lib
attribute [local go_sem] Oper.semAt_some

section
variable {F : Fence} {n : Nat} {P : Program}
theorem wpListIn_load_cells {ops : Array Oper} {rest : List Oper} {o : Oper} {a : Act} {w : World} {Q : Exit → Act → World → Prop} (hgd : o.guard = none) (ty : TypeId) (x : Operand) (ho : o.op = .load ty x)
    (ad : Addr) (hx : a.eval x = .pointer (some ad)) (cs : List Value) (d : TypeDesc) (hu : P.underlying ty = some d) (hd : (match d with | .struct _ | .array _ _ => true | _ => false) = true)
    (hi : (P.info? ty).map (·.size) = some cs.length) (hc : ∀ (j : Nat) v, cs[j]? = some v → w.cell? (ad.add j) = some v)
    (h : wpListIn F n P ops Q rest (a.put o.dst (.agg cs.toArray)) w) : wpListIn F n P ops Q (o :: rest) a w := by
  refine wpListIn_plain hgd fun K hK => ?_
  unfold Oper.wpIn
  constructor
  · simp [Oper.about, ho, resolve, Target.leads, Sem.run_pure]
  · rw [Oper.semAt_plain F _ _ (by rw [ho]; intro c hc; cases hc)]
    unfold execOp
    simp only [ho, hx, Instr.loadAt, Instr.sureAddr, Sem.run_bind, Sem.run_pure, Result.andThen_ok, run_loadVar_cells w ty ad cs d hu hd hi hc]
    exact hK _ _ h
theorem wpListIn_store_at {ops : Array Oper} {rest : List Oper} {o : Oper} {a : Act} {w : World} {Q : Exit → Act → World → Prop} (hgd : o.guard = none) (ty : TypeId) (x y : Operand) (ho : o.op = .store ty x y)
    (g off : Nat) (cells : List Value) (hx : a.eval x = .pointer (some ⟨g, off, none⟩)) (hy : a.eval y = .agg cells.toArray)
    (t : TypeId) (cur : List Value) (hg : w.heap[g]? = some (.cells cur.toArray t (0, 0))) (hi : (P.info? ty).map (·.size) = some cells.length)
    (hfit : off + cells.length ≤ cur.length) (h1 : ∀ v ∈ cells, v.oneCell' = true)
    (h : wpListIn F n P ops Q rest (a.put o.dst undef) (w.setRow g (splice cur off cells).toArray)) : wpListIn F n P ops Q (o :: rest) a w := by
  refine wpListIn_plain hgd fun K hK => ?_
  unfold Oper.wpIn
  constructor
  · simp [Oper.about, ho, resolve, Target.leads, Sem.run_pure]
  · rw [Oper.semAt_plain F _ _ (by rw [ho]; intro c hc; cases hc)]
    unfold execOp
    simp only [ho, hx, hy, Instr.storeAt, Instr.sureAddr, Sem.run_bind, Sem.run_pure, Result.andThen_ok, run_storeVar_at w g off t ty cur cells hg hi hfit h1]
    exact hK _ _ h
theorem wpListIn_append_k (w : World) {ops : Array Oper} {rest : List Oper} {o : Oper} {a : Act} {Q : Exit → Act → World → Prop} (hgd : o.guard = none) (s x : Operand) (t : TypeId)
    (ho : o.op = .call { callee := .builtin .append, args := #[s, x], argTypes := #[t, t] }) (base : Nat) (e : TypeId) (i : TypeInfo) (z : Value) (size bytes : Nat) (ht : P.underlying t = some (.slice e)) (hi : P.info? e = some i) (hz : i.zero = some z)
    (hsize : i.size = size) (hby : i.bytes = bytes) (hzs : z.cells.size = size) (hsz : 0 < size) (v : Value) (k : Nat) (xs : List Value) (hs : a.eval s = v) (hown : w.ownsRow base e size v k xs)
    (sv : Value) (m : Nat) (news : List Value) (hx : a.eval x = sv) (hsrc : Src w sv m news) (hl : news.length = m * size) (h1 : ∀ u ∈ news, u.oneCell' = true)
    (h63 : k + m ≤ maxLen) (hbytes : (k + m) * bytes ≤ 140737488355328) (hbase : base ≤ w.heap.size)
    (h : ∀ v' w', w'.ownsRow base e size v' (k + m) (xs ++ news) → w.grownBy w' v.ownBlock → (∀ g, v'.ownBlock = some g → v.ownBlock = some g ∨ w.heap.size ≤ g) → wpListIn F n P ops Q rest (a.put o.dst v') w') :
    wpListIn F n P ops Q (o :: rest) a w := by
  obtain ⟨v', w', hr, h2, h3, _, h5⟩ := run_append_k (P := P) w t o.type base e i z size bytes ht hi hz hsize hby hzs hsz v k xs hown sv m news hsrc hl h1 h63 hbytes hbase
  refine wpListIn_plain hgd fun K hK => ?_
  unfold Oper.wpIn
  constructor
  · simp [Oper.about, ho, resolve, Target.leads, Sem.run_pure]
  · rw [Oper.semAt_plain F _ _ (by rw [ho]; intro c hc; cases hc)]
    simp [execOp, ho, resolve, invoke, builtin, hs, hx, hr, Result.andThen]
    exact hK _ _ (h v' w' h2 h3 h5)
end

/-- An iterator of sums: the box that it captured, and the row in it. -/
structure VAt (w : World) (b : Nat) (pa : Option Addr) (pc : Nat) (S : List (List UInt8)) : Prop where
  box : w.heap[b]? = some (.cells #[.slice pa S.length pc] 46 (0, 0))
  ids : Ids w pa pc S
  lt : ∀ x, pa = some x → x.block < w.heap.size
def VNeed (b : Nat) (pa : Option Addr) (k : Nat) : Prop := k = b ∨ ∃ x, pa = some x ∧ k = x.block
theorem Ids.keep {Bk : Nat → Prop} {w w' : World} {a : Option Addr} {c : Nat} {ids : List (List UInt8)} (h : Ids w a c ids) (hk : Keep Bk w w') (hL : ∀ x, a = some x → Bk x.block ∧ x.block < w.heap.size) : Ids w' a c ids :=
  ⟨h.le, h.max, h.nil, fun x hx i id hi => by
    obtain ⟨h1, h2⟩ := h.at_ x hx i id hi
    refine ⟨h1, fun k b hb => ?_⟩
    have h3 := h2 k b hb
    obtain ⟨q1, q2⟩ := hL x hx
    have e : ((x.add (i * 32)).add k).block = x.block := by rw [add_block, add_block]
    unfold World.cell? at h3 ⊢
    rw [e] at h3 ⊢
    rw [hk.block _ q1 q2]
    exact h3⟩
theorem VAt.keep {w w' : World} {b : Nat} {pa : Option Addr} {pc : Nat} {S : List (List UInt8)} (h : VAt w b pa pc S) (hk : Keep (VNeed b pa) w w') : VAt w' b pa pc S :=
  ⟨hk.at h.box (Or.inl rfl), h.ids.keep hk (fun x hx => ⟨Or.inr ⟨x, hx, rfl⟩, h.lt x hx⟩), fun x hx => by have := h.lt x hx; have := hk.size; omega⟩

def vvals (x : List UInt8) : Array Value := #[.agg (e32 x).toArray]
def VFt (p : Nat) (_ : List UInt8) (w : World) : Prop := p < w.heap.size
theorem zero_id (W : World) : (zeroValue 34).run Tryd.prog W = .ok (.agg (zid.map B).toArray) W := by kernel_rfl

set_option maxRecDepth 100000 in
set_option maxHeartbeats 4000000 in
theorem vals_in (n : Nat) (hn : 1 ≤ n) (l b : Nat) (pa : Option Addr) (pc : Nat) (S : List (List UInt8)) (W : World) (h : VAt W b pa pc S) (hl : S.length ≤ 100000000) (J Jx : List (List UInt8) → World → Prop) (hJ : ∀ s A B, J s A → Kept [W.heap.size] A B → J s B)
    (hY : ∀ pre x A, J pre A → VFt W.heap.size x A → pre ++ [x] <+: S → YieldAt Fence.wide (n - 1) Tryd.prog l (vvals x) A fun e B =>
      (e = .returned (.bool true) ∧ J (pre ++ [x]) B ∧ Keep (fun k => VNeed b pa k ∨ k = W.heap.size) A B) ∨ (e = .returned (.bool false) ∧ Jx (pre ++ [x]) B)) (h0 : J [] W) :
    CallsIn Fence.wide n Tryd.prog 39 #[.func (.yield l) #[] #[], .pointer (some ⟨b, 0, none⟩)] W fun e B => (∃ v, e = .returned v) ∧ ((∃ xs, xs = S ∧ J xs B) ∨ (∃ pre, pre <+: S ∧ Jx pre B)) := by
  have g1 : W.cell? ⟨b, 0, none⟩ = some (.slice pa S.length pc) := cell_of_one h.box
  have hmx := h.ids.max; have hle := h.ids.le
  have hst0 := hid (show J (S.take 0) W ∧ Keep (VNeed b pa) W W from ⟨by simpa using h0, Keep.refl _ _⟩)
  have H := hid h; have HJ := hid hJ; have HY := hid hY
  have hzv := zero_id
  clear h hJ hY h0
  refine callsIn_of_wp Tryd.func39 rfl trivial ?_ rfl
  simp only [Tryd.ntmps39, List.size_toArray, List.length_cons, List.length_nil, Nat.reduceAdd, Nat.reduceSub, Array.replicate_succ, Array.replicate_zero, List.push_toArray, List.append_toArray, List.nil_append, List.cons_append]
  gi_wp2_with fail
  gi_loopw [7] (fun s wr => ∃ i : Nat, i ≤ S.length ∧ s = .int .i64 i ∧ Hid (J (S.take i) wr ∧ Keep (VNeed b pa) W wr)) (fun s _ => S.length - (intOf s).toNat)
  case atStart => exact ⟨0, Nat.zero_le _, rfl, hst0⟩
  case round =>
    clear hst0
    obtain ⟨i, hi, rfl, hst⟩ := hrel
    have HS := hid hst.out.1; have HKp := hid hst.out.2
    clear hst g1
    by_cases hlt : i < S.length
    · cases pa with
      | none => exact absurd (H.out.ids.nil rfl) (fun e => by rw [e] at hlt; simp at hlt)
      | some x =>
        obtain ⟨h32, hrd⟩ := (H.out.keep HKp.out).ids.at_ x rfl i S[i] (by simp [hlt])
        have hpre := hid (show S.take i ++ [S[i]] <+: S from by rw [← List.take_succ_eq_append_getElem hlt]; exact List.take_prefix _ _)
        have htk := hid (show S.take (i + 1) = S.take i ++ [S[i]] from List.take_succ_eq_append_getElem hlt)
        have hlt2 := hid hlt
        generalize S[i] = id at *
        have hreads := hid (IdAt.reads ⟨h32, hrd⟩)
        have hsz := hid (show (Tryd.prog.info? 34).map (·.size) = some (id.map B).length by rw [List.length_map, h32]; exact ninfo32)
        have hfit := hid (show 0 + (id.map B).length ≤ (zid.map B).length by simp [h32, zid])
        have hone := hid (show ∀ v ∈ id.map B, v.oneCell' = true by intro v hv; obtain ⟨b, _, rfl⟩ := List.mem_map.1 hv; rfl)
        have hspl := hid (splice36 (zid.map B) (id.map B) (by simp [h32, zid]))
        have h32' := hid h32
        clear h32 hrd
        gi_wp2_with (refine wpListIn_load_cells rfl 34 (.tmp 9) rfl (x.add (i * 32)) rfl (id.map B) _ Tryd.underlying34 rfl hsz.out hreads.out ?_; refine halt ?_)
        refine Halt.mk ?_
        gi_wp2_with (refine wpListIn_store_at rfl 34 (.tmp 4) (.tmp 10) rfl wr.heap.size 0 (id.map B) rfl rfl 34 (zid.map B) (heap_alloc_at rfl) hsz.out hfit.out hone.out ?_; refine halt ?_)
        rw [hspl.out]
        obtain ⟨wb, hwb⟩ : ∃ wb : World, wb = (wr.alloc (.cells (zid.map B).toArray 34)).setRow wr.heap.size (id.map B).toArray := ⟨_, rfl⟩
        rw [← hwb]
        refine Halt.mk ?_
        have hkb := hid (show Kept [] wr wb by rw [hwb]; exact ((Kept.refl [] wr).alloc _).setRow (fun h => absurd h (Nat.lt_irrefl _)) _)
        have Nb := hid (show wb.heap[wr.heap.size]? = some (.cells (id.map B).toArray 34 (0, 0)) by rw [hwb]; exact setRow_heap _ _ _ _ _ _ (heap_alloc_at rfl))
        have hb2 := hid (show ∀ (j : Nat) v, (id.map B)[j]? = some v → wb.cell? ((⟨wr.heap.size, 0, none⟩ : Addr).add j) = some v from fun j v hj => by
          have e : (⟨wr.heap.size, 0, none⟩ : Addr).add j = ⟨wr.heap.size, j, none⟩ := by unfold Addr.add; split <;> simp_all
          rw [e, cell_of_row wb _ j _ _ _ Nb.out]; simpa using hj)
        have hsW := hid (show W.heap.size < wb.heap.size from by have h1 := HKp.out.size; have h2 := lt_of_block Nb.out; omega)
        clear hwb
        obtain ⟨fn, tmps, assign, body, hy, hR⟩ := HY.out (S.take i) id wb (HJ.out _ _ _ HS.out (hkb.out.wider (fun _ _ h => by simp at h))) hsW.out hpre.out
        unfold vvals at hy
        rw [e32_of h32'.out] at hy
        gi_wp2_with (refine wpListIn_load_cells rfl 34 (.tmp 4) rfl ⟨wr.heap.size, 0, none⟩ rfl (id.map B) _ Tryd.underlying34 rfl hsz.out hb2.out ?_; refine halt ?_)
        refine Halt.mk ?_
        gi_wp2
        refine hR.mono ?_
        rintro e W' (⟨rfl, hJ', hk⟩ | ⟨rfl, hJx'⟩)
        · gi_wp2
          have hkk := hid hk
          have hJJ := hid hJ'
          clear hk hJ'
          go_roundw
          case rel => exact ⟨i + 1, hlt2.out, by go_num, hid ⟨by rw [htk.out]; exact hJJ.out, (HKp.out.trans (hkb.out.keep fun k _ _ => by simp)).trans (hkk.out.less fun k _ hk => .inl hk)⟩⟩
          case measure => simp [intOf]; omega
        · gi_wp2
          refine bodyPost_ret (results_none rfl _ _ _) rfl ?_
          exact ⟨⟨_, rfl⟩, .inr ⟨S.take i ++ [id], hpre.out, hJx'⟩⟩
    · have hin : i = S.length := by omega
      subst hin
      rw [List.take_length] at HS
      clear hlt hi hle
      gi_wp2
      go_end0
      exact ⟨⟨_, rfl⟩, .inl ⟨S, rfl, HS.out⟩⟩

theorem vals_seq (n : Nat) (hn : 1 ≤ n) (b : Nat) (pa : Option Addr) (pc : Nat) (S : List (List UInt8)) (w : World) (h : VAt w b pa pc S) (hl : S.length ≤ 100000000) :
    SeqW Fence.wide n Tryd.prog 39 #[.pointer (some ⟨b, 0, none⟩)] vvals VFt (VNeed b pa) (fun xs => xs = S) (fun pre => pre <+: S) w :=
  fun l J Jx W hW hJ _ hY h0 => vals_in n hn l b pa pc S W (h.keep ((Kept.of_below (S := []) hW).keep fun k _ _ => by simp)) hl J Jx hJ hY h0

/-- slices.Values of a row of sums. -/
theorem values_any (pa : Option Addr) (pc : Nat) (S : List (List UInt8)) (w : World) :
    Calls Tryd.prog 36 #[.slice pa S.length pc] w fun e w' => e = .returned (.func (.func 39) #[] #[.pointer (some ⟨w.heap.size, 0, none⟩)]) ∧ w' = w.alloc (.cells #[.slice pa S.length pc] 46) := by
  have hmf : ∀ (fn : Fn) (first cap : Array Value) (w : World), (Instr.makeFunc fn first cap).run Tryd.prog w = .ok (.func fn first cap) w := fun _ _ _ _ => rfl
  go_enter Tryd.func36, Tryd.ntmps36
  go_wp2
  go_ret
  exact ⟨rfl, rfl⟩
end Go.Proofs.YtmkdjonlfkfnlaaDoor
