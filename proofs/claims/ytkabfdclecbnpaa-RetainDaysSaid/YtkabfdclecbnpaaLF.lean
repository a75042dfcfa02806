import Derived.Test.YtkabfdclecbnpaaMLB
import Derived.Test.YtkabfdclecbnpaaLE
import Derived.Test.YtkabfdclecbnpaaWA

/- slices.Backward of places. -/
namespace Go.Proofs.Ytkabfdclecbnpaa
open Go.RowKit Go.Lib
attribute [local go_sem] Oper.semAt_some

section
variable {F : Fence} {n : Nat} {P : Program}
/-- As range_w, where the iterator makes no block. -/
theorem range_le {α : Type} {g : Operand} {ps : Array Tmp} {assign body : Code} {Q : Exit → Act → World → Prop} {a : Act} {w : World} (hro : F.round = none) (h1 : 1 ≤ n) {gf : Nat} {lb : Array Value}
    (hg : a.eval g = .func (.func gf) #[] lb) (hFg : F.fn gf) (eg : ∀ args w, (callFunc gf args).run P w = .ok (.enter gf args) w)
    {encs : α → Array Value} {Ft : Nat → α → World → Prop} {need : Nat → Prop} {Z Zp : List α → Prop} (hseq : SeqW F (n - 1) P gf lb encs Ft need Z Zp w) (hneed : ∀ k, need k → k < w.heap.size) (hps : ∀ x, (encs x).size = ps.size)
    (hFt : ∀ x A B, Ft (w.heap.size + 2) x A → Kept [w.heap.size + 1] A B → Ft (w.heap.size + 2) x B) (I Ix : List α → World → Prop)
    (hI : ∀ s A B, I s A → Kept [w.heap.size, w.heap.size + 1, w.heap.size + 2] A B → I s B) (hIx : ∀ s A B, Ix s A → Kept [w.heap.size, w.heap.size + 1, w.heap.size + 2] A B → Ix s B) (h0 : I [] w) (a₁ : α → Act)
    (hassign : ∀ (l : Nat) (x : α) (W : World) (K : Act → World → Prop), K (a₁ x) W →
      assign.wpIn (F.inRound l) (n - 1 - 1) P (Exit.then K (fun _ _ _ => False)) { tmps := (ps.zip (encs x)).foldl (fun t (p, v) => t.setIfInBounds p v) a.tmps, defers := [] } W)
    (hbody : ∀ (l : Nat) (pre : List α) (x : α) (W : World), I pre W → Ft (w.heap.size + 2) x W → Zp (pre ++ [x]) → w.heap.size + 2 ≤ W.heap.size → body.wpIn (F.inRound l) (n - 1 - 1) P (WPost w.heap.size need I Ix (pre ++ [x]) W) (a₁ x) W)
    (hFs : ∀ x A, Ft (w.heap.size + 2) x A → w.heap.size + 2 ≤ A.heap.size)
    (hdone : ∀ (xs : List α) (W : World), Z xs → I xs W → W.heap[w.heap.size]? = some (.deferred (some [])) → Q .normal { a with defers := { target := .collected w.heap.size, args := #[] } :: a.defers } W)
    (hstop : ∀ (pre : List α) (W : World), Zp pre → Ix pre W → W.heap[w.heap.size]? = some (.deferred (some [])) → Code.ret.wpIn F n P Q { a with defers := { target := .collected w.heap.size, args := #[] } :: a.defers } W) :
    (Code.rangeFunc g ps assign body).wpIn F n P Q a w := by
  refine wpIn_rangeFunc fun fn hfn => ?_
  rw [hro]
  obtain ⟨D, hD⟩ : ∃ D, D = w.heap.size := ⟨_, rfl⟩
  let rc : LoopState → Option Code → Loop := fun st pe => { state := st, pending := pe, fn, tmps := a.tmps, params := ps, assign, body, defers := w.heap.size }
  obtain ⟨W1, hW1⟩ : ∃ W1, (w.alloc (.deferred (some []))).alloc (.loop (rc .ready none)) = W1 := ⟨_, rfl⟩
  have hsz : W1.heap.size = w.heap.size + 2 := by rw [← hW1]; simp
  have hL : W1.heap[w.heap.size + 1]? = some (.loop (rc .ready none)) := by
    rw [← hW1]; exact heap_alloc_at (by simp)
  have hK : W1.heap[w.heap.size]? = some (.deferred (some [])) := by
    rw [← hW1]; exact heap_alloc_old (heap_alloc_at rfl)
  have hk1 : Kept [w.heap.size, w.heap.size + 1, w.heap.size + 2] w W1 := by rw [← hW1]; exact ((Kept.refl _ w).alloc _).alloc _
  have hB1 : Below w.heap.size w W1 := by rw [← hW1]; exact ((Below.refl _ w).alloc (Nat.le_refl _) _).alloc (by simp) _
  refine ⟨w.heap.size + 1, [{ target := .collected w.heap.size, args := #[] }], W1, { target := .fn (.func gf) lb, args := #[.func (.yield (w.heap.size + 1)) #[] #[]] }, W1, gf,
    #[.func (.yield (w.heap.size + 1)) #[] #[]] ++ lb, W1, ?_, ?_, ?_, ?_, fun _ => h1, ?_⟩
  · rw [← hW1]; exact run_enterLoop_outer _ _ _ _ _
  · simp only [resolve, hg]; simp [go_sem]
  · intro f' hf'; simp [Target.leads] at hf'; subst hf'; exact hFg
  · simp [invoke, go_sem, eg]
  refine (hseq (w.heap.size + 1) (fun pre W => I pre W ∧ W.heap[w.heap.size + 1]? = some (.loop (rc .ready none)) ∧ W.heap[w.heap.size]? = some (.deferred (some [])))
    (fun pre W => Ix pre W ∧ W.heap[w.heap.size + 1]? = some (.loop (rc .done (some .ret))) ∧ W.heap[w.heap.size]? = some (.deferred (some []))) W1 hB1 ?_ ?_ ?_ ⟨hI _ _ _ h0 hk1, hL, hK⟩).mono ?_
  · rintro s A B ⟨ha, hb, hc⟩ hk
    rw [hsz] at hk
    exact ⟨hI _ _ _ ha (hk.wider (fun x _ hx => by simp at hx; simp [hx])), hk.at hb (by simp), hk.at hc (by simp)⟩
  · rintro s A B ⟨ha, hb, hc⟩ hk
    rw [hsz] at hk
    exact ⟨hIx _ _ _ ha (hk.wider (fun x _ hx => by simp at hx; simp [hx])), hk.at hb (by simp), hk.at hc (by simp)⟩
  · rintro pre x W ⟨ha, hb, hc⟩ hft hzp
    rw [hsz] at hft ⊢
    have hlt := lt_of_block hb
    refine ⟨fn, _, assign, body, run_yield (P := P) (args := encs x) hb (hps x), roundIn_of_wpIn hfn (hassign _ x W _ ⟨_, run_beginRound hb rfl, ?_⟩)⟩
    obtain ⟨W2, hW2⟩ : ∃ W2, W.putObj (w.heap.size + 1) (.loop { rc .ready none with state := .busy }) = W2 := ⟨_, rfl⟩
    have hb2 : W2.heap[w.heap.size + 1]? = some (.loop { rc .ready none with state := .busy }) := by rw [← hW2]; exact World.putObj_heap_same hlt
    have hk2 : Kept [w.heap.size + 1] W W2 := by rw [← hW2]; exact kept_putObj _ _ _
    have hc2 := hk2.at hc (by simp)
    have ha2 := hI _ _ _ ha (hk2.wider (fun x _ hx => by simp at hx; simp [hx]))
    rw [hW2]
    refine wpIn_mono (hbody _ pre x W2 ha2 (hFt _ _ _ hft hk2) hzp (Nat.le_trans (hFs _ _ hft) hk2.size)) ?_
    rintro e a3 W3 hp
    cases e with
    | normal =>
      obtain ⟨hk3, hi3⟩ := hp
      have hb3 := hk3.at hb2 (Or.inr (Or.inr (Or.inl rfl)))
      have hk4 := kept_putObj W3 (w.heap.size + 1) (.loop (rc .ready none))
      refine ⟨_, _, run_endRound none hb3, .inl ⟨rfl, ⟨hI _ _ _ hi3 (hk4.wider (fun x _ hx => by simp at hx; simp [hx])), World.putObj_heap_same (lt_of_block hb3), hk4.at (hk3.at hc2 (Or.inr (Or.inl rfl))) (by simp)⟩, ?_⟩⟩
      refine Keep.trans (Keep.trans (hk2.keep fun k hk hB => ?_) (hk3.less fun k hk hB => ?_)) (hk4.keep fun k hk hB => ?_)
      · rcases hB with h | h
        · have := hneed k h; simp; omega
        · simp; omega
      · rcases hB with h | h
        · exact Or.inl h
        · exact Or.inr (Or.inr (Or.inr h))
      · rcases hB with h | h
        · have := hneed k h; simp; omega
        · simp; omega
    | ret =>
      obtain ⟨hk3, hi3⟩ := hp
      have hb3 := hk3.at hb2 (Or.inr rfl)
      have hk4 := kept_putObj W3 (w.heap.size + 1) (.loop (rc .done (some .ret)))
      exact ⟨_, _, run_endRound (some .ret) hb3, .inr ⟨rfl, hIx _ _ _ hi3 (hk4.wider (fun x _ hx => by simp at hx; simp [hx])), World.putObj_heap_same (lt_of_block hb3), hk4.at (hk3.at hc2 (Or.inl rfl)) (by simp)⟩⟩
    | panic ch => exact hp.elim
    | exit _ => exact hp.elim
    | goto _ => exact hp.elim
    | outgrown => exact hp.elim
  · rintro e W2 ⟨⟨v, rfl⟩, (⟨xs, hS, hi, hl, hk⟩ | ⟨pre, hSp, hi, hl, hk⟩)⟩
    · have hk4 := fun o => kept_putObj W2 (w.heap.size + 1) o
      exact ⟨none, _, run_endLoop hl (by simp [rc]), hdone xs _ hS (hI _ _ _ hi ((hk4 _).wider (fun x _ hx => by simp at hx; simp [hx]))) ((hk4 _).at hk (by simp))⟩
    · have hk4 := fun o => kept_putObj W2 (w.heap.size + 1) o
      exact ⟨some .ret, _, run_endLoop hl (by simp [rc]), hstop pre _ hSp (hIx _ _ _ hi ((hk4 _).wider (fun x _ hx => by simp at hx; simp [hx]))) ((hk4 _).at hk (by simp))⟩
end
/-- Places in memory. -/
structure Plc (w : World) (a : Option Addr) (c : Nat) (ps : List Nat) : Prop where
  le : ps.length ≤ c
  max : c ≤ 9223372036854775807
  nil : a = none → ps = []
  at_ : ∀ x, a = some x → ∀ (i p : Nat), ps[i]? = some p → w.cell? (x.add i) = some (pv p)
  lt : ∀ x, a = some x → x.block < w.heap.size
theorem Plc.keep {Bk : Nat → Prop} {w w' : World} {a : Option Addr} {c : Nat} {ps : List Nat} (h : Plc w a c ps) (hk : Keep Bk w w') (hL : ∀ x, a = some x → Bk x.block) : Plc w' a c ps :=
  ⟨h.le, h.max, h.nil, fun x hx i p hi => by
    have h2 := h.at_ x hx i p hi
    have e : (x.add i).block = x.block := add_block _ _
    unfold World.cell? at h2 ⊢
    rw [e] at h2 ⊢
    rw [hk.block _ (hL x hx) (h.lt x hx)]
    exact h2, fun x hx => by have := h.lt x hx; have := hk.size; omega⟩
theorem plc_of_row {W : World} {base : Nat} {a : Option Addr} {c n : Nat} {ps : List Nat} (ho : W.ownsRow base 3 1 (.slice a n c) n (ps.map pv)) (hn : n = ps.length) : Plc W a c ps := by
  subst hn
  rcases ho.2 with ⟨h1, h2⟩ | ⟨g, cap, cur, hv, hg, hh, hc, hm, hs, ht⟩
  · simp at h1
    obtain ⟨rfl, _, rfl⟩ := h1
    have h3 : ps = [] := List.eq_nil_of_length_eq_zero h2
    subst h3
    exact ⟨by simp, by omega, fun _ => rfl, fun x hx => by simp at hx, fun x hx => by simp at hx⟩
  · simp at hv
    obtain ⟨rfl, rfl⟩ := hv
    refine ⟨hc, by unfold maxLen at hm; omega, fun h => by simp at h, fun x hx i p hi => ?_, fun x hx => by simp at hx; subst hx; exact lt_of_block hh⟩
    simp at hx; subst hx
    have := ho.cells (g := g) rfl i (pv p) (by rw [List.getElem?_map, hi]; rfl)
    exact this
/-- An iterator of places: the box that it captured, and the row in it. -/
structure BkAt (w : World) (b : Nat) (pa : Option Addr) (pc : Nat) (ps : List Nat) : Prop where
  box : w.heap[b]? = some (.cells #[.slice pa ps.length pc] 32 (0, 0))
  row : Plc w pa pc ps
def BkNeed (b : Nat) (pa : Option Addr) (k : Nat) : Prop := k = b ∨ ∃ x, pa = some x ∧ k = x.block
theorem BkAt.keep {w w' : World} {b : Nat} {pa : Option Addr} {pc : Nat} {ps : List Nat} (h : BkAt w b pa pc ps) (hk : Keep (BkNeed b pa) w w') : BkAt w' b pa pc ps :=
  ⟨hk.at h.box (Or.inl rfl), h.row.keep hk (fun x hx => Or.inr ⟨x, hx, rfl⟩)⟩
/-- What is yielded of a place in the row: itself, and what stands there. -/
def bvals (ps : List Nat) (i : Nat) : Array Value := #[.int .i64 (i : Int), pv (ps.getD i 0)]
def BkFt (p : Nat) (_ : Nat) (w : World) : Prop := p ≤ w.heap.size
/-- The places in the row, from the last one. -/
def downs (n : Nat) : List Nat := (List.range n).reverse
theorem downs_take (n k : Nat) (h : k < n) : (downs n).take k ++ [n - 1 - k] = (downs n).take (k + 1) := by
  unfold downs
  rw [List.take_add_one]
  congr 1
  rw [List.getElem?_reverse (by simpa using h)]
  simp
  rw [List.getElem?_range (by omega)]
  rfl

set_option maxRecDepth 100000 in
set_option maxHeartbeats 4000000 in
theorem back_in (n : Nat) (hn : 1 ≤ n) (l b : Nat) (pa : Option Addr) (pc : Nat) (ps : List Nat) (W : World) (h : BkAt W b pa pc ps) (hl : ps.length ≤ 100000000) (J Jx : List Nat → World → Prop) (hJ : ∀ s A B, J s A → Kept [W.heap.size] A B → J s B)
    (hY : ∀ pre x A, J pre A → BkFt W.heap.size x A → pre ++ [x] <+: downs ps.length → YieldAt Fence.wide (n - 1) Try.prog l (bvals ps x) A fun e B =>
      (e = .returned (.bool true) ∧ J (pre ++ [x]) B ∧ Keep (fun k => BkNeed b pa k ∨ k = W.heap.size) A B) ∨ (e = .returned (.bool false) ∧ Jx (pre ++ [x]) B)) (h0 : J [] W) :
    CallsIn Fence.wide n Try.prog 40 #[.func (.yield l) #[] #[], .pointer (some ⟨b, 0, none⟩)] W fun e B => (∃ v, e = .returned v) ∧ ((∃ xs, xs = downs ps.length ∧ J xs B) ∨ (∃ pre, pre <+: downs ps.length ∧ Jx pre B)) := by
  obtain ⟨m, hm⟩ : ∃ m, m = ps.length := ⟨_, rfl⟩
  have HM := hid hm
  have g1 : W.cell? ⟨b, 0, none⟩ = some (.slice pa m pc) := by rw [hm]; exact cell_of_one h.box
  have hmx := h.row.max; have hle := h.row.le
  rw [← hm] at hl hle
  have hlt0 := lt_of_block h.box
  have hst0 := hid (show J ((downs m).take 0) W ∧ Keep (BkNeed b pa) W W from ⟨by simpa using h0, Keep.refl _ _⟩)
  have H := hid h; have HJ := hid hJ; have HY := hid hY
  rw [← hm] at HY
  rw [← hm]
  clear h hJ hY h0 hm
  refine callsIn_of_wp Try.func40 rfl trivial ?_ rfl
  simp only [Try.ntmps40, List.size_toArray, List.length_cons, List.length_nil, Nat.reduceAdd, Nat.reduceSub, Array.replicate_succ, Array.replicate_zero, List.push_toArray, List.append_toArray, List.nil_append, List.cons_append]
  have w0 : IntKind.i64.wrap ((m : Int) - 1) = (m : Int) - 1 := IntWalk.i64_in _ (by omega)
  gi_wp2_with fail
  gi_loopw [3] (fun s wr => ∃ k : Nat, k ≤ m ∧ s = .int .i64 ((m : Int) - 1 - (k : Int)) ∧ Hid (J ((downs m).take k) wr ∧ Keep (BkNeed b pa) W wr)) (fun s _ => (intOf s + 1).toNat)
  case atStart => exact ⟨0, Nat.zero_le _, by simp, hst0⟩
  case round =>
    clear hst0
    obtain ⟨k, hk, rfl, hst⟩ := hrel
    have HS := hid hst.out.1; have HKp := hid hst.out.2
    clear hst g1
    by_cases hlt : k < m
    · obtain ⟨i, hi⟩ : ∃ i : Nat, i + 1 + k = m := ⟨m - 1 - k, by omega⟩
      have hiz : (m : Int) - 1 - (k : Int) = (i : Int) := by omega
      have him : i < m := by omega
      have HI := hid hi
      have hb := (H.out.keep HKp.out)
      cases pa with
      | none => exact absurd (H.out.row.nil rfl) (fun e => by have := HM.out; rw [e] at this; simp at this; omega)
      | some x =>
        have g1 : wr.cell? ⟨b, 0, none⟩ = some (.slice (some x) m pc) := by rw [HM.out]; exact cell_of_one hb.box
        have g2 : wr.cell? (x.add i) = some (pv (ps.getD i 0)) := by
          have hi2 : i < ps.length := by rw [← HM.out]; exact him
          have : ps[i]? = some (ps.getD i 0) := by rw [List.getD_eq_getElem?_getD, List.getElem?_eq_getElem hi2]; rfl
          exact hb.row.at_ x rfl i _ this
        have htk := hid (show (downs m).take k ++ [i] = (downs m).take (k + 1) by rw [← downs_take m k hlt, show m - 1 - k = i by omega])
        have hpre := hid (show (downs m).take k ++ [i] <+: downs m from by rw [htk.out]; exact List.take_prefix _ _)
        have hsW := hid (show W.heap.size ≤ wr.heap.size from HKp.out.size)
        obtain ⟨fn, tmps, assign, body, hy, hR⟩ := HY.out ((downs m).take k) i wr HS.out hsW.out hpre.out
        unfold bvals at hy
        obtain ⟨q, hq⟩ : ∃ q, q = ps.getD i 0 := ⟨_, rfl⟩
        rw [← hq] at hy g2
        clear hq
        have hzi : (i : Int) < (m : Int) := by omega
        rw [hiz]
        clear hiz hb hi hlt
        gi_wp2
        refine hR.mono ?_
        rintro e W' (⟨rfl, hJ', hk⟩ | ⟨rfl, hJx'⟩)
        · have wn : IntKind.i64.wrap ((i : Int) - 1) = (i : Int) - 1 := IntWalk.i64_in _ (by omega)
          gi_wp2
          have hkk := hid hk
          have hJJ := hid hJ'
          clear hk hJ'
          go_roundw
          case rel => exact ⟨k + 1, by have := HI.out; omega, by have := HI.out; congr 1 <;> omega, hid ⟨by rw [← htk.out]; exact hJJ.out, HKp.out.trans (hkk.out.less fun k _ hk => .inl hk)⟩⟩
          case measure => have := HI.out; simp [intOf] <;> omega
        · gi_wp2
          refine bodyPost_ret (results_none rfl _ _ _) rfl ?_
          exact ⟨⟨_, rfl⟩, .inr ⟨(downs m).take k ++ [i], hpre.out, hJx'⟩⟩
    · have hkm : k = m := by omega
      subst hkm
      have hz : ¬ (0 : Int) ≤ (k : Int) - 1 - (k : Int) := by omega
      have hfull : (downs k).take k = downs k := by rw [List.take_of_length_le]; simp [downs]
      rw [hfull] at HS
      clear hlt hfull hle hk
      gi_wp2
      go_end0
      exact ⟨⟨_, rfl⟩, .inl HS.out⟩
theorem back_seq (n : Nat) (hn : 1 ≤ n) (b : Nat) (pa : Option Addr) (pc : Nat) (ps : List Nat) (w : World) (h : BkAt w b pa pc ps) (hl : ps.length ≤ 100000000) :
    SeqW Fence.wide n Try.prog 40 #[.pointer (some ⟨b, 0, none⟩)] (bvals ps) BkFt (BkNeed b pa) (fun xs => xs = downs ps.length) (fun pre => pre <+: downs ps.length) w :=
  fun l J Jx W hW hJ _ hY h0 => back_in n hn l b pa pc ps W (h.keep ((Kept.of_below (S := []) hW).keep fun k _ _ => by simp)) hl J Jx hJ hY h0
theorem backward_any (pa : Option Addr) (pc n : Nat) (w : World) :
    Calls Try.prog 19 #[.slice pa n pc] w fun e w' => e = .returned (.func (.func 40) #[] #[.pointer (some ⟨w.heap.size, 0, none⟩)]) ∧ w' = w.alloc (.cells #[.slice pa n pc] 32) := by
  have hmf : ∀ (fn : Fn) (first cap : Array Value) (w : World), (Instr.makeFunc fn first cap).run Try.prog w = .ok (.func fn first cap) w := fun _ _ _ _ => rfl
  go_enter Try.func19, Try.ntmps19
  go_wp2
  go_ret
  exact ⟨rfl, rfl⟩
end Go.Proofs.Ytkabfdclecbnpaa
