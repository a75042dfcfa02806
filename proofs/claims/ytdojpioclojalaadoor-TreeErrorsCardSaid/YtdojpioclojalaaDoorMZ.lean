import Derived.RangeFuncNested
import Derived.RangeFuncBound
import Derived.RangeFuncCalls
import Derived.RangeFuncLeaves
import Derived.Test.YtdojpioclojalaaDoorLib
import Derived.Test.YtdojpioclojalaaDoorN9
import Derived.Test.YtdojpioclojalaaDoorN7
import Derived.Test.YtdojpioclojalaaDoorMW
import Derived.Test.YtdojpioclojalaaDoorJ3
import Derived.Test.YtdojpioclojalaaDoorHW
import Derived.Test.YtdojpioclojalaaDoorWK
import Derived.Test.YtdojpioclojalaaDoorC3
import Derived.Test.YtdojpioclojalaaDoorMS
import Derived.Test.YtdojpioclojalaaDoorN5
import Derived.Test.YtdojpioclojalaaDoorN10

/- A range over an iterator that writes a block of its own, and yields what lies in blocks that it made: an iterator's word, the statement's law. No program is named here. -/
namespace Go.Proofs.YtdojpioclojalaaDoor
open Go.RowKit
variable {F : Fence} {n : Nat} {P : Program}

/-- These blocks lie as they lay. -/
structure Keep (B : Nat → Prop) (w w' : World) : Prop where
  os : w'.os = w.os
  tape : w'.tape = w.tape
  output : w'.output = w.output
  size : w.heap.size ≤ w'.heap.size
  block : ∀ k, B k → k < w.heap.size → w'.heap[k]? = w.heap[k]?
theorem Keep.refl (B : Nat → Prop) (w : World) : Keep B w w := ⟨rfl, rfl, rfl, Nat.le_refl _, fun _ _ _ => rfl⟩
theorem Keep.trans {B : Nat → Prop} {a b c : World} (h : Keep B a b) (k : Keep B b c) : Keep B a c :=
  ⟨k.os.trans h.os, k.tape.trans h.tape, k.output.trans h.output, Nat.le_trans h.size k.size, fun x hx hl => (k.block x hx (Nat.lt_of_lt_of_le hl h.size)).trans (h.block x hx hl)⟩
theorem Keep.less {B C : Nat → Prop} {a b : World} (h : Keep B a b) (hC : ∀ k, k < a.heap.size → C k → B k) : Keep C a b := ⟨h.os, h.tape, h.output, h.size, fun k hk hl => h.block k (hC k hl hk) hl⟩
theorem Kept.keep {S : List Nat} {a b : World} (h : Kept S a b) {B : Nat → Prop} (hB : ∀ k, k < a.heap.size → B k → k ∉ S) : Keep B a b := ⟨h.os, h.tape, h.output, h.size, fun k hk hl => h.block k hl (hB k hl hk)⟩
theorem Keep.at {B : Nat → Prop} {a b : World} (h : Keep B a b) {k : Nat} {o : Obj} (hk : a.heap[k]? = some o) (hB : B k) : b.heap[k]? = some o := (h.block k hB (lt_of_block hk)).trans hk
theorem kept_putObj (W : World) (l : Nat) (o : Obj) : Kept [l] W (W.putObj l o) := Kept.of_grown (grownBy_putObj' W l o) (fun k e _ => by cases e; simp)

/-- An iterator's word: its own block is the first one that it makes. -/
def SeqW {α : Type} (F : Fence) (n : Nat) (P : Program) (g : Nat) (lb : Array Value) (encs : α → Array Value) (Ft : Nat → α → World → Prop) (need : Nat → Prop) (Z Zp : List α → Prop) (w : World) : Prop :=
  ∀ (l : Nat) (J Jx : List α → World → Prop) (W : World), Below w.heap.size w W →
    (∀ s A B, J s A → Kept [W.heap.size] A B → J s B) → (∀ s A B, Jx s A → Kept [W.heap.size] A B → Jx s B) →
    (∀ pre x A, J pre A → Ft W.heap.size x A → Zp (pre ++ [x]) → YieldAt F (n - 1) P l (encs x) A fun e B =>
      (e = .returned (.bool true) ∧ J (pre ++ [x]) B ∧ Keep (fun k => need k ∨ k = W.heap.size) A B) ∨ (e = .returned (.bool false) ∧ Jx (pre ++ [x]) B)) →
    J [] W →
    CallsIn F n P g (#[.func (.yield l) #[] #[]] ++ lb) W fun e B => (∃ v, e = .returned v) ∧ ((∃ xs, Z xs ∧ J xs B) ∨ (∃ pre, Zp pre ∧ Jx pre B))

/-- How a round's body may be left. -/
def WPost {α : Type} (D : Nat) (need : Nat → Prop) (I Ix : List α → World → Prop) (xs : List α) (W : World) : Exit → Act → World → Prop
  | .normal, _, W' => Keep (fun k => need k ∨ k = D ∨ k = D + 1 ∨ k = D + 2) W W' ∧ I xs W'
  | .ret, _, W' => Keep (fun k => k = D ∨ k = D + 1) W W' ∧ Ix xs W'
  | _, _, _ => False

theorem range_w {α : Type} {g : Operand} {ps : Array Tmp} {assign body : Code} {Q : Exit → Act → World → Prop} {a : Act} {w : World} (hro : F.round = none) (h1 : 1 ≤ n) {gf : Nat} {lb : Array Value}
    (hg : a.eval g = .func (.func gf) #[] lb) (hFg : F.fn gf) (eg : ∀ args w, (callFunc gf args).run P w = .ok (.enter gf args) w)
    {encs : α → Array Value} {Ft : Nat → α → World → Prop} {need : Nat → Prop} {Z Zp : List α → Prop} (hseq : SeqW F (n - 1) P gf lb encs Ft need Z Zp w) (hneed : ∀ k, need k → k < w.heap.size) (hps : ∀ x, (encs x).size = ps.size)
    (hFt : ∀ x A B, Ft (w.heap.size + 2) x A → Kept [w.heap.size + 1] A B → Ft (w.heap.size + 2) x B) (I Ix : List α → World → Prop)
    (hI : ∀ s A B, I s A → Kept [w.heap.size, w.heap.size + 1, w.heap.size + 2] A B → I s B) (hIx : ∀ s A B, Ix s A → Kept [w.heap.size, w.heap.size + 1, w.heap.size + 2] A B → Ix s B) (h0 : I [] w) (a₁ : α → Act)
    (hassign : ∀ (l : Nat) (x : α) (W : World) (K : Act → World → Prop), K (a₁ x) W →
      assign.wpIn (F.inRound l) (n - 1 - 1) P (Exit.then K (fun _ _ _ => False)) { tmps := (ps.zip (encs x)).foldl (fun t (p, v) => t.setIfInBounds p v) a.tmps, defers := [] } W)
    (hbody : ∀ (l : Nat) (pre : List α) (x : α) (W : World), I pre W → Ft (w.heap.size + 2) x W → Zp (pre ++ [x]) → w.heap.size + 2 < W.heap.size → body.wpIn (F.inRound l) (n - 1 - 1) P (WPost w.heap.size need I Ix (pre ++ [x]) W) (a₁ x) W)
    (hFs : ∀ x A, Ft (w.heap.size + 2) x A → w.heap.size + 2 < A.heap.size)
    (hdone : ∀ (xs : List α) (W : World), Z xs → I xs W → W.heap[w.heap.size]? = some (.deferred (some [])) → Q .normal { a with defers := { target := .collected w.heap.size, args := #[] } :: a.defers } W)
    (hstop : ∀ (pre : List α) (W : World), Zp pre → Ix pre W → W.heap[w.heap.size]? = some (.deferred (some [])) → Code.ret.wpIn F n P Q { a with defers := { target := .collected w.heap.size, args := #[] } :: a.defers } W) :
    (Code.rangeFunc g ps assign body).wpIn F n P Q a w := by
  refine wpIn_rangeFunc fun fn hfn => ?_
  rw [hro]
  obtain ⟨D, hD⟩ : ∃ D, D = w.heap.size := ⟨_, rfl⟩
  let rc : LoopState → Option Code → Loop := fun st pe => { state := st, pending := pe, fn, tmps := a.tmps, params := ps, assign, body, defers := w.heap.size }
  obtain ⟨W1, hW1⟩ : ∃ W1, (w.alloc (.deferred (some []))).alloc (.loop (rc .ready none)) = W1 := ⟨_, rfl⟩
  have hsz : W1.heap.size = w.heap.size + 2 := by rw [← hW1]; simp
  have hL : W1.heap[w.heap.size + 1]? = some (.loop (rc .ready none)) := by
    rw [← hW1]; exact heap_alloc_at (by simp)
  have hK : W1.heap[w.heap.size]? = some (.deferred (some [])) := by
    rw [← hW1]; exact heap_alloc_old (heap_alloc_at rfl)
  have hk1 : Kept [w.heap.size, w.heap.size + 1, w.heap.size + 2] w W1 := by rw [← hW1]; exact ((Kept.refl _ w).alloc _).alloc _
  have hB1 : Below w.heap.size w W1 := by rw [← hW1]; exact ((Below.refl _ w).alloc (Nat.le_refl _) _).alloc (by simp) _
  refine ⟨w.heap.size + 1, [{ target := .collected w.heap.size, args := #[] }], W1, { target := .fn (.func gf) lb, args := #[.func (.yield (w.heap.size + 1)) #[] #[]] }, W1, gf,
    #[.func (.yield (w.heap.size + 1)) #[] #[]] ++ lb, W1, ?_, ?_, ?_, ?_, fun _ => h1, ?_⟩
  · rw [← hW1]; exact run_enterLoop_outer _ _ _ _ _
  · simp only [resolve, hg]; simp [go_sem]
  · intro f' hf'; simp [Target.leads] at hf'; subst hf'; exact hFg
  · simp [invoke, go_sem, eg]
  refine (hseq (w.heap.size + 1) (fun pre W => I pre W ∧ W.heap[w.heap.size + 1]? = some (.loop (rc .ready none)) ∧ W.heap[w.heap.size]? = some (.deferred (some [])))
    (fun pre W => Ix pre W ∧ W.heap[w.heap.size + 1]? = some (.loop (rc .done (some .ret))) ∧ W.heap[w.heap.size]? = some (.deferred (some []))) W1 hB1 ?_ ?_ ?_ ⟨hI _ _ _ h0 hk1, hL, hK⟩).mono ?_
  · rintro s A B ⟨ha, hb, hc⟩ hk
    rw [hsz] at hk
    exact ⟨hI _ _ _ ha (hk.wider (fun x _ hx => by simp at hx; simp [hx])), hk.at hb (by simp), hk.at hc (by simp)⟩
  · rintro s A B ⟨ha, hb, hc⟩ hk
    rw [hsz] at hk
    exact ⟨hIx _ _ _ ha (hk.wider (fun x _ hx => by simp at hx; simp [hx])), hk.at hb (by simp), hk.at hc (by simp)⟩
  · rintro pre x W ⟨ha, hb, hc⟩ hft hzp
    rw [hsz] at hft ⊢
    have hlt := lt_of_block hb
    refine ⟨fn, _, assign, body, run_yield (P := P) (args := encs x) hb (hps x), roundIn_of_wpIn hfn (hassign _ x W _ ⟨_, run_beginRound hb rfl, ?_⟩)⟩
    obtain ⟨W2, hW2⟩ : ∃ W2, W.putObj (w.heap.size + 1) (.loop { rc .ready none with state := .busy }) = W2 := ⟨_, rfl⟩
    have hb2 : W2.heap[w.heap.size + 1]? = some (.loop { rc .ready none with state := .busy }) := by rw [← hW2]; exact World.putObj_heap_same hlt
    have hk2 : Kept [w.heap.size + 1] W W2 := by rw [← hW2]; exact kept_putObj _ _ _
    have hc2 := hk2.at hc (by simp)
    have ha2 := hI _ _ _ ha (hk2.wider (fun x _ hx => by simp at hx; simp [hx]))
    rw [hW2]
    refine wpIn_mono (hbody _ pre x W2 ha2 (hFt _ _ _ hft hk2) hzp (Nat.lt_of_lt_of_le (hFs _ _ hft) hk2.size)) ?_
    rintro e a3 W3 hp
    cases e with
    | normal =>
      obtain ⟨hk3, hi3⟩ := hp
      have hb3 := hk3.at hb2 (Or.inr (Or.inr (Or.inl rfl)))
      have hk4 := kept_putObj W3 (w.heap.size + 1) (.loop (rc .ready none))
      refine ⟨_, _, run_endRound none hb3, .inl ⟨rfl, ⟨hI _ _ _ hi3 (hk4.wider (fun x _ hx => by simp at hx; simp [hx])), World.putObj_heap_same (lt_of_block hb3), hk4.at (hk3.at hc2 (Or.inr (Or.inl rfl))) (by simp)⟩, ?_⟩⟩
      refine Keep.trans (Keep.trans (hk2.keep fun k hk hB => ?_) (hk3.less fun k hk hB => ?_)) (hk4.keep fun k hk hB => ?_)
      · rcases hB with h | h
        · have := hneed k h; simp; omega
        · simp; omega
      · rcases hB with h | h
        · exact Or.inl h
        · exact Or.inr (Or.inr (Or.inr h))
      · rcases hB with h | h
        · have := hneed k h; simp; omega
        · simp; omega
    | ret =>
      obtain ⟨hk3, hi3⟩ := hp
      have hb3 := hk3.at hb2 (Or.inr rfl)
      have hk4 := kept_putObj W3 (w.heap.size + 1) (.loop (rc .done (some .ret)))
      exact ⟨_, _, run_endRound (some .ret) hb3, .inr ⟨rfl, hIx _ _ _ hi3 (hk4.wider (fun x _ hx => by simp at hx; simp [hx])), World.putObj_heap_same (lt_of_block hb3), hk4.at (hk3.at hc2 (Or.inl rfl)) (by simp)⟩⟩
    | panic ch => exact hp.elim
    | exit _ => exact hp.elim
    | goto _ => exact hp.elim
    | outgrown => exact hp.elim
  · rintro e W2 ⟨⟨v, rfl⟩, (⟨xs, hS, hi, hl, hk⟩ | ⟨pre, hSp, hi, hl, hk⟩)⟩
    · have hk4 := fun o => kept_putObj W2 (w.heap.size + 1) o
      exact ⟨none, _, run_endLoop hl (by simp [rc]), hdone xs _ hS (hI _ _ _ hi ((hk4 _).wider (fun x _ hx => by simp at hx; simp [hx]))) ((hk4 _).at hk (by simp))⟩
    · have hk4 := fun o => kept_putObj W2 (w.heap.size + 1) o
      exact ⟨some .ret, _, run_endLoop hl (by simp [rc]), hstop pre _ hSp (hIx _ _ _ hi ((hk4 _).wider (fun x _ hx => by simp at hx; simp [hx]))) ((hk4 _).at hk (by simp))⟩

/-- What a piece of code does outside of every fence it does within the wide one, too. -/
theorem wpIn_of_wp {c : Code} {Q : Exit → Act → World → Prop} {a : Act} {w : World} (h : c.wp P Q a w) : c.wpIn Fence.wide n P Q a w := by
  intro b k cs hro hb hr
  have hro' : b.roundOf = none := hro
  obtain ⟨e, a', w', hq, harr⟩ := h b k cs
  refine ⟨e, a', w', hq, ?_⟩
  have hat : ∀ (x : Act) (t : List Item), b.atR x t = b.at x t := fun x t => Frame.atR_of_none hro' x t
  cases e with
  | normal => simp only [ArrivesIn, hat]; exact stepsIn_wide.2 harr
  | exit id => simp only [ArrivesIn, hat]; exact ⟨fun k' hk => stepsIn_wide.2 (harr k' hk), fun h => by rw [hro'] at h; cases h⟩
  | goto l => simp only [ArrivesIn, hat]; exact ⟨fun k' hk => stepsIn_wide.2 (harr k' hk), fun h => by rw [hro'] at h; cases h⟩
  | ret =>
    simp only [ArrivesIn, hat]
    refine ⟨fun _ => ?_, fun h => by rw [hro'] at h; cases h⟩
    obtain ⟨t, ht⟩ := harr
    exact ⟨t, stepsIn_wide.2 ht⟩
  | panic ch =>
    simp only [ArrivesIn, hat]
    obtain ⟨t, ht⟩ := harr
    exact ⟨t, stepsIn_wide.2 ht⟩
  | outgrown => simp only [ArrivesIn, hat]; exact harr
end Go.Proofs.YtdojpioclojalaaDoor


/- slices.Values of sums; within a fence: many cells loaded, stored, appended. -/
namespace Go.Proofs.YtdojpioclojalaaDoor
open Go.RowKit Go.Lib
attribute [local go_sem] Oper.semAt_some

section
variable {F : Fence} {n : Nat} {P : Program}
theorem wpListIn_load_cells {ops : Array Oper} {rest : List Oper} {o : Oper} {a : Act} {w : World} {Q : Exit → Act → World → Prop} (hgd : o.guard = none) (ty : TypeId) (x : Operand) (ho : o.op = .load ty x)
    (ad : Addr) (hx : a.eval x = .pointer (some ad)) (cs : List Value) (d : TypeDesc) (hu : P.underlying ty = some d) (hd : (match d with | .struct _ | .array _ _ => true | _ => false) = true)
    (hi : (P.info? ty).map (·.size) = some cs.length) (hc : ∀ (j : Nat) v, cs[j]? = some v → w.cell? (ad.add j) = some v)
    (h : wpListIn F n P ops Q rest (a.put o.dst (.agg cs.toArray)) w) : wpListIn F n P ops Q (o :: rest) a w := by
  refine wpListIn_plain hgd fun K hK => ?_
  unfold Oper.wpIn
  constructor
  · simp [Oper.about, ho, resolve, Target.leads, Sem.run_pure]
  · rw [Oper.semAt_plain F _ _ (by rw [ho]; intro c hc; cases hc)]
    unfold execOp
    simp only [ho, hx, Instr.loadAt, Instr.sureAddr, Sem.run_bind, Sem.run_pure, Result.andThen_ok, run_loadVar_cells w ty ad cs d hu hd hi hc]
    exact hK _ _ h
theorem wpListIn_store_at {ops : Array Oper} {rest : List Oper} {o : Oper} {a : Act} {w : World} {Q : Exit → Act → World → Prop} (hgd : o.guard = none) (ty : TypeId) (x y : Operand) (ho : o.op = .store ty x y)
    (g off : Nat) (cells : List Value) (hx : a.eval x = .pointer (some ⟨g, off, none⟩)) (hy : a.eval y = .agg cells.toArray)
    (t : TypeId) (cur : List Value) (hg : w.heap[g]? = some (.cells cur.toArray t (0, 0))) (hi : (P.info? ty).map (·.size) = some cells.length)
    (hfit : off + cells.length ≤ cur.length) (h1 : ∀ v ∈ cells, v.oneCell' = true)
    (h : wpListIn F n P ops Q rest (a.put o.dst undef) (w.setRow g (splice cur off cells).toArray)) : wpListIn F n P ops Q (o :: rest) a w := by
  refine wpListIn_plain hgd fun K hK => ?_
  unfold Oper.wpIn
  constructor
  · simp [Oper.about, ho, resolve, Target.leads, Sem.run_pure]
  · rw [Oper.semAt_plain F _ _ (by rw [ho]; intro c hc; cases hc)]
    unfold execOp
    simp only [ho, hx, hy, Instr.storeAt, Instr.sureAddr, Sem.run_bind, Sem.run_pure, Result.andThen_ok, run_storeVar_at w g off t ty cur cells hg hi hfit h1]
    exact hK _ _ h
theorem wpListIn_append_k (w : World) {ops : Array Oper} {rest : List Oper} {o : Oper} {a : Act} {Q : Exit → Act → World → Prop} (hgd : o.guard = none) (s x : Operand) (t : TypeId)
    (ho : o.op = .call { callee := .builtin .append, args := #[s, x], argTypes := #[t, t] }) (base : Nat) (e : TypeId) (i : TypeInfo) (z : Value) (size bytes : Nat) (ht : P.underlying t = some (.slice e)) (hi : P.info? e = some i) (hz : i.zero = some z)
    (hsize : i.size = size) (hby : i.bytes = bytes) (hzs : z.cells.size = size) (hsz : 0 < size) (v : Value) (k : Nat) (xs : List Value) (hs : a.eval s = v) (hown : w.ownsRow base e size v k xs)
    (sv : Value) (m : Nat) (news : List Value) (hx : a.eval x = sv) (hsrc : Src w sv m news) (hl : news.length = m * size) (h1 : ∀ u ∈ news, u.oneCell' = true)
    (h63 : k + m ≤ maxLen) (hbytes : (k + m) * bytes ≤ 140737488355328) (hbase : base ≤ w.heap.size)
    (h : ∀ v' w', w'.ownsRow base e size v' (k + m) (xs ++ news) → w.grownBy w' v.ownBlock → (∀ g, v'.ownBlock = some g → v.ownBlock = some g ∨ w.heap.size ≤ g) → wpListIn F n P ops Q rest (a.put o.dst v') w') :
    wpListIn F n P ops Q (o :: rest) a w := by
  obtain ⟨v', w', hr, h2, h3, _, h5⟩ := run_append_k (P := P) w t o.type base e i z size bytes ht hi hz hsize hby hzs hsz v k xs hown sv m news hsrc hl h1 h63 hbytes hbase
  refine wpListIn_plain hgd fun K hK => ?_
  unfold Oper.wpIn
  constructor
  · simp [Oper.about, ho, resolve, Target.leads, Sem.run_pure]
  · rw [Oper.semAt_plain F _ _ (by rw [ho]; intro c hc; cases hc)]
    simp [execOp, ho, resolve, invoke, builtin, hs, hx, hr, Result.andThen]
    exact hK _ _ (h v' w' h2 h3 h5)
end

/-- An iterator of sums: the box that it captured, and the row in it. -/
structure VAt (w : World) (b : Nat) (pa : Option Addr) (pc : Nat) (S : List (List UInt8)) : Prop where
  box : w.heap[b]? = some (.cells #[.slice pa S.length pc] 38 (0, 0))
  ids : Ids w pa pc S
  lt : ∀ x, pa = some x → x.block < w.heap.size
def VNeed (b : Nat) (pa : Option Addr) (k : Nat) : Prop := k = b ∨ ∃ x, pa = some x ∧ k = x.block
theorem Ids.keep {Bk : Nat → Prop} {w w' : World} {a : Option Addr} {c : Nat} {ids : List (List UInt8)} (h : Ids w a c ids) (hk : Keep Bk w w') (hL : ∀ x, a = some x → Bk x.block ∧ x.block < w.heap.size) : Ids w' a c ids :=
  ⟨h.le, h.max, h.nil, fun x hx i id hi => by
    obtain ⟨h1, h2⟩ := h.at_ x hx i id hi
    refine ⟨h1, fun k b hb => ?_⟩
    have h3 := h2 k b hb
    obtain ⟨q1, q2⟩ := hL x hx
    have e : ((x.add (i * 32)).add k).block = x.block := by rw [add_block, add_block]
    unfold World.cell? at h3 ⊢
    rw [e] at h3 ⊢
    rw [hk.block _ q1 q2]
    exact h3⟩
theorem VAt.keep {w w' : World} {b : Nat} {pa : Option Addr} {pc : Nat} {S : List (List UInt8)} (h : VAt w b pa pc S) (hk : Keep (VNeed b pa) w w') : VAt w' b pa pc S :=
  ⟨hk.at h.box (Or.inl rfl), h.ids.keep hk (fun x hx => ⟨Or.inr ⟨x, hx, rfl⟩, h.lt x hx⟩), fun x hx => by have := h.lt x hx; have := hk.size; omega⟩

def vvals (x : List UInt8) : Array Value := #[.agg (e32 x).toArray]
def VFt (p : Nat) (_ : List UInt8) (w : World) : Prop := p < w.heap.size
theorem zero_id (W : World) : (zeroValue 40).run Tryd.prog W = .ok (.agg (zid.map B).toArray) W := by kernel_rfl

set_option maxRecDepth 100000 in
set_option maxHeartbeats 4000000 in
theorem vals_in (n : Nat) (hn : 1 ≤ n) (l b : Nat) (pa : Option Addr) (pc : Nat) (S : List (List UInt8)) (W : World) (h : VAt W b pa pc S) (hl : S.length ≤ 100000000) (J Jx : List (List UInt8) → World → Prop) (hJ : ∀ s A B, J s A → Kept [W.heap.size] A B → J s B)
    (hY : ∀ pre x A, J pre A → VFt W.heap.size x A → pre ++ [x] <+: S → YieldAt Fence.wide (n - 1) Tryd.prog l (vvals x) A fun e B =>
      (e = .returned (.bool true) ∧ J (pre ++ [x]) B ∧ Keep (fun k => VNeed b pa k ∨ k = W.heap.size) A B) ∨ (e = .returned (.bool false) ∧ Jx (pre ++ [x]) B)) (h0 : J [] W) :
    CallsIn Fence.wide n Tryd.prog 84 #[.func (.yield l) #[] #[], .pointer (some ⟨b, 0, none⟩)] W fun e B => (∃ v, e = .returned v) ∧ ((∃ xs, xs = S ∧ J xs B) ∨ (∃ pre, pre <+: S ∧ Jx pre B)) := by
  have g1 : W.cell? ⟨b, 0, none⟩ = some (.slice pa S.length pc) := cell_of_one h.box
  have hmx := h.ids.max; have hle := h.ids.le
  have hst0 := hid (show J (S.take 0) W ∧ Keep (VNeed b pa) W W from ⟨by simpa using h0, Keep.refl _ _⟩)
  have H := hid h; have HJ := hid hJ; have HY := hid hY
  have hzv := zero_id
  clear h hJ hY h0
  refine callsIn_of_wp Tryd.func84 rfl trivial ?_ rfl
  simp only [Tryd.ntmps84, List.size_toArray, List.length_cons, List.length_nil, Nat.reduceAdd, Nat.reduceSub, Array.replicate_succ, Array.replicate_zero, List.push_toArray, List.append_toArray, List.nil_append, List.cons_append]
  gi_wp2_with fail
  gi_loopw [7] (fun s wr => ∃ i : Nat, i ≤ S.length ∧ s = .int .i64 i ∧ Hid (J (S.take i) wr ∧ Keep (VNeed b pa) W wr)) (fun s _ => S.length - (intOf s).toNat)
  case atStart => exact ⟨0, Nat.zero_le _, rfl, hst0⟩
  case round =>
    clear hst0
    obtain ⟨i, hi, rfl, hst⟩ := hrel
    have HS := hid hst.out.1; have HKp := hid hst.out.2
    clear hst g1
    by_cases hlt : i < S.length
    · cases pa with
      | none => exact absurd (H.out.ids.nil rfl) (fun e => by rw [e] at hlt; simp at hlt)
      | some x =>
        obtain ⟨h32, hrd⟩ := (H.out.keep HKp.out).ids.at_ x rfl i S[i] (by simp [hlt])
        have hpre := hid (show S.take i ++ [S[i]] <+: S from by rw [← List.take_succ_eq_append_getElem hlt]; exact List.take_prefix _ _)
        have htk := hid (show S.take (i + 1) = S.take i ++ [S[i]] from List.take_succ_eq_append_getElem hlt)
        have hlt2 := hid hlt
        generalize S[i] = id at *
        have hreads := hid (IdAt.reads ⟨h32, hrd⟩)
        have hsz := hid (show (Tryd.prog.info? 40).map (·.size) = some (id.map B).length by rw [List.length_map, h32]; exact ninfo32)
        have hfit := hid (show 0 + (id.map B).length ≤ (zid.map B).length by simp [h32, zid])
        have hone := hid (show ∀ v ∈ id.map B, v.oneCell' = true by intro v hv; obtain ⟨b, _, rfl⟩ := List.mem_map.1 hv; rfl)
        have hspl := hid (splice36 (zid.map B) (id.map B) (by simp [h32, zid]))
        have h32' := hid h32
        clear h32 hrd
        gi_wp2_with (refine wpListIn_load_cells rfl 40 (.tmp 9) rfl (x.add (i * 32)) rfl (id.map B) _ Tryd.underlying40 rfl hsz.out hreads.out ?_; refine halt ?_)
        refine Halt.mk ?_
        gi_wp2_with (refine wpListIn_store_at rfl 40 (.tmp 4) (.tmp 10) rfl wr.heap.size 0 (id.map B) rfl rfl 40 (zid.map B) (heap_alloc_at rfl) hsz.out hfit.out hone.out ?_; refine halt ?_)
        rw [hspl.out]
        obtain ⟨wb, hwb⟩ : ∃ wb : World, wb = (wr.alloc (.cells (zid.map B).toArray 40)).setRow wr.heap.size (id.map B).toArray := ⟨_, rfl⟩
        rw [← hwb]
        refine Halt.mk ?_
        have hkb := hid (show Kept [] wr wb by rw [hwb]; exact ((Kept.refl [] wr).alloc _).setRow (fun h => absurd h (Nat.lt_irrefl _)) _)
        have Nb := hid (show wb.heap[wr.heap.size]? = some (.cells (id.map B).toArray 40 (0, 0)) by rw [hwb]; exact setRow_heap _ _ _ _ _ _ (heap_alloc_at rfl))
        have hb2 := hid (show ∀ (j : Nat) v, (id.map B)[j]? = some v → wb.cell? ((⟨wr.heap.size, 0, none⟩ : Addr).add j) = some v from fun j v hj => by
          have e : (⟨wr.heap.size, 0, none⟩ : Addr).add j = ⟨wr.heap.size, j, none⟩ := by unfold Addr.add; split <;> simp_all
          rw [e, cell_of_row wb _ j _ _ _ Nb.out]; simpa using hj)
        have hsW := hid (show W.heap.size < wb.heap.size from by have h1 := HKp.out.size; have h2 := lt_of_block Nb.out; omega)
        clear hwb
        obtain ⟨fn, tmps, assign, body, hy, hR⟩ := HY.out (S.take i) id wb (HJ.out _ _ _ HS.out (hkb.out.wider (fun _ _ h => by simp at h))) hsW.out hpre.out
        unfold vvals at hy
        rw [e32_of h32'.out] at hy
        gi_wp2_with (refine wpListIn_load_cells rfl 40 (.tmp 4) rfl ⟨wr.heap.size, 0, none⟩ rfl (id.map B) _ Tryd.underlying40 rfl hsz.out hb2.out ?_; refine halt ?_)
        refine Halt.mk ?_
        gi_wp2
        refine hR.mono ?_
        rintro e W' (⟨rfl, hJ', hk⟩ | ⟨rfl, hJx'⟩)
        · gi_wp2
          have hkk := hid hk
          have hJJ := hid hJ'
          clear hk hJ'
          go_roundw
          case rel => exact ⟨i + 1, hlt2.out, by go_num, hid ⟨by rw [htk.out]; exact hJJ.out, (HKp.out.trans (hkb.out.keep fun k _ _ => by simp)).trans (hkk.out.less fun k _ hk => .inl hk)⟩⟩
          case measure => simp [intOf]; omega
        · gi_wp2
          refine bodyPost_ret (results_none rfl _ _ _) rfl ?_
          exact ⟨⟨_, rfl⟩, .inr ⟨S.take i ++ [id], hpre.out, hJx'⟩⟩
    · have hin : i = S.length := by omega
      subst hin
      rw [List.take_length] at HS
      clear hlt hi hle
      gi_wp2
      go_end0
      exact ⟨⟨_, rfl⟩, .inl ⟨S, rfl, HS.out⟩⟩

theorem vals_seq (n : Nat) (hn : 1 ≤ n) (b : Nat) (pa : Option Addr) (pc : Nat) (S : List (List UInt8)) (w : World) (h : VAt w b pa pc S) (hl : S.length ≤ 100000000) :
    SeqW Fence.wide n Tryd.prog 84 #[.pointer (some ⟨b, 0, none⟩)] vvals VFt (VNeed b pa) (fun xs => xs = S) (fun pre => pre <+: S) w :=
  fun l J Jx W hW hJ _ hY h0 => vals_in n hn l b pa pc S W (h.keep ((Kept.of_below (S := []) hW).keep fun k _ _ => by simp)) hl J Jx hJ hY h0

/-- slices.Values of a row of sums. -/
theorem values_any (pa : Option Addr) (pc : Nat) (S : List (List UInt8)) (w : World) :
    Calls Tryd.prog 64 #[.slice pa S.length pc] w fun e w' => e = .returned (.func (.func 84) #[] #[.pointer (some ⟨w.heap.size, 0, none⟩)]) ∧ w' = w.alloc (.cells #[.slice pa S.length pc] 38) := by
  have hmf : ∀ (fn : Fn) (first cap : Array Value) (w : World), (Instr.makeFunc fn first cap).run Tryd.prog w = .ok (.func fn first cap) w := fun _ _ _ _ => rfl
  go_enter Tryd.func64, Tryd.ntmps64
  go_wp2
  go_ret
  exact ⟨rfl, rfl⟩
end Go.Proofs.YtdojpioclojalaaDoor


/- tree.readNode, of what is no file. -/
namespace Go.Proofs.YtdojpioclojalaaDoor
open Go.RowKit Go.Lib

/-- A reader, seen from the world that it stands in, and back. -/
theorem Rv.both {W0 W : World} {rb : Nat} {a0 : Option Addr} {xs : List UInt8} (h : Rv W0 rb a0 xs W) (hb : ∀ y, a0 = some y → y.block < W0.heap.size) :
    ∃ a, Rv W rb a xs W ∧ (∀ x, a = some x → x.block < W.heap.size) ∧ ∀ ys v, Rv W rb a ys v → Rv W0 rb a0 ys v ∧ Kept [rb] W v := by
  obtain ⟨a, c, q1, q2, q3⟩ := h
  refine ⟨a, Rv.new q1, fun x hx => ?_, fun ys v hv => ⟨Rv.rebase q2 q3 hv, hv.kept⟩⟩
  obtain ⟨y, hy, e⟩ := q3 x hx
  have h1 := hb y hy; have h2 := q2.size
  omega
theorem Rv.num2 {W0 W : World} {rb : Nat} {a0 : Option Addr} {xs : List UInt8} (h : Rv W0 rb a0 xs W) (hb : ∀ y, a0 = some y → y.block < W0.heap.size) (size : Int) (k : Nat) (hk : sz size = k) :
    Calls Tryd.prog 55 #[.pointer (some ⟨rb, 0, none⟩), .int .i64 size] W fun e w' =>
      (∃ N r, rNum k xs = some (N, r) ∧ e = .returned (.int .u64 (N : Int)) ∧ Rv W0 rb a0 r w' ∧ Kept [rb] W w') ∨ (rNum k xs = none ∧ Throws e ∧ Rv W0 rb a0 xs w') := by
  obtain ⟨a, hR, _, hbk⟩ := h.both hb
  refine (hR.num size k hk).mono ?_
  rintro e w' (⟨N, r, h1, h2, h3⟩ | ⟨h1, h2, h3⟩)
  · exact Or.inl ⟨N, r, h1, h2, (hbk _ _ h3).1, (hbk _ _ h3).2⟩
  · exact Or.inr ⟨h1, h2, (hbk _ _ h3).1⟩
theorem Rv.text2 {W0 W : World} {rb : Nat} {a0 : Option Addr} {xs : List UInt8} (h : Rv W0 rb a0 xs W) (hb : ∀ y, a0 = some y → y.block < W0.heap.size) (most : Nat) :
    Calls Tryd.prog 60 #[.pointer (some ⟨rb, 0, none⟩), .int .i64 (most : Int)] W fun e w' =>
      (∃ t r, rTxt most xs = some (t, r) ∧ e = .returned (.string ⟨t.toArray⟩) ∧ Rv W0 rb a0 r w' ∧ Kept [rb] W w') ∨ (rTxt most xs = none ∧ Throws e ∧ Rv W0 rb a0 xs w') := by
  obtain ⟨a, hR, _, hbk⟩ := h.both hb
  refine (hR.text most).mono ?_
  rintro e w' (⟨N, r, h1, h2, h3⟩ | ⟨h1, h2, h3⟩)
  · exact Or.inl ⟨N, r, h1, h2, (hbk _ _ h3).1, (hbk _ _ h3).2⟩
  · exact Or.inr ⟨h1, h2, (hbk _ _ h3).1⟩
theorem t_count2 {W0 W : World} {rb : Nat} {a0 : Option Addr} {xs : List UInt8} (h : Rv W0 rb a0 xs W) (hb : ∀ y, a0 = some y → y.block < W0.heap.size) (most : Nat) (hm : most ≤ 1000000) :
    Calls Tryd.prog 33 #[.pointer (some ⟨rb, 0, none⟩), .int .i64 (most : Int)] W fun e w' =>
      (∃ N r, rCnt most xs = some (N, r) ∧ e = .returned (.int .i64 (N : Int)) ∧ Rv W0 rb a0 r w' ∧ Kept [rb] W w') ∨ (rCnt most xs = none ∧ Throws e ∧ ∃ ys, Rv W0 rb a0 ys w') := by
  obtain ⟨a, hR, _, hbk⟩ := h.both hb
  refine (t_count hR most hm).mono ?_
  rintro e w' (⟨N, r, h1, h2, h3⟩ | ⟨h1, h2, ys, h3⟩)
  · exact Or.inl ⟨N, r, h1, h2, (hbk _ _ h3).1, (hbk _ _ h3).2⟩
  · exact Or.inr ⟨h1, h2, ys, (hbk _ _ h3).1⟩
theorem t_id2 {W0 W : World} {rb : Nat} {a0 : Option Addr} {xs : List UInt8} (h : Rv W0 rb a0 xs W) (hb : ∀ y, a0 = some y → y.block < W0.heap.size) (hrb : rb < W0.heap.size) :
    Calls Tryd.prog 61 #[.pointer (some ⟨rb, 0, none⟩)] W fun e w' =>
      (∃ t r, rRaw 32 xs = some (t, r) ∧ t.length = 32 ∧ e = .returned (.agg (t.map B).toArray) ∧ Rv W0 rb a0 r w' ∧ Kept [rb] W w') ∨ (rRaw 32 xs = none ∧ Throws e ∧ ∃ ys, Rv W0 rb a0 ys w') := by
  have hrw : rb < W.heap.size := by have := h.kept.size; omega
  obtain ⟨a, hR, hab, hbk⟩ := h.both hb
  refine (t_id hR hab hrw).mono ?_
  rintro e w' (⟨N, r, h1, h2, h2', h3⟩ | ⟨h1, h2, ys, h3⟩)
  · exact Or.inl ⟨N, r, h1, h2, h2', (hbk _ _ h3).1, (hbk _ _ h3).2⟩
  · exact Or.inr ⟨h1, h2, ys, (hbk _ _ h3).1⟩

/-- A box made behind W0 is written; the reader reads on. -/
theorem Rv.box {W0 W W' : World} {rb b : Nat} {a0 : Option Addr} {xs : List UInt8} (h : Rv W0 rb a0 xs W) (hb : ∀ y, a0 = some y → y.block < W0.heap.size) (hk : Kept [b] W W') (hne : rb ≠ b) (hge : W0.heap.size ≤ b) : Rv W0 rb a0 xs W' := by
  obtain ⟨a, c, q1, q2, q3⟩ := h
  refine ⟨a, c, q1.kept hk (by simpa using hne) (fun x hx => ?_), q2.trans' hk (fun x hx hm => by simp at hm; omega), q3⟩
  obtain ⟨y, hy, e⟩ := q3 x hx
  have h1 := hb y hy
  simp; omega
theorem build_head (s : ByteArray) (d : Bool) (W : World) : (Instr.build 42 #[(0, .string s), (1, .bool d)]).run Tryd.prog W = .ok (.agg (NodeR.cells ⟨s, d, 0, none, 0, [], zid⟩).toArray) W := by kernel_rfl
theorem head_set (s : ByteArray) (d : Bool) : (zNode.set 0 (.string s)).set 1 (.bool d) = NodeR.cells ⟨s, d, 0, none, 0, [], zid⟩ := rfl
/-- What readNode answers. -/
def ReadN (W0 W : World) (rb : Nat) (a0 : Option Addr) (xs : List UInt8) (e : Ending) (w' : World) : Prop :=
  (∃ n r, ∃ m : NodeR, readN xs = some (n, r) ∧ m.nd = n ∧ e = .returned (.agg m.cells.toArray) ∧ Ids w' m.pa m.pc m.parts ∧ m.sub.length = 32 ∧ (∀ y, m.pa = some y → W.heap.size ≤ y.block ∧ y.block < w'.heap.size) ∧ Rv W0 rb a0 r w') ∨ (readN xs = none ∧ Throws e ∧ ∃ ys, Rv W0 rb a0 ys w')

set_option maxRecDepth 100000 in
set_option maxHeartbeats 2000000 in
theorem t_node_no {W0 W : World} {rb : Nat} {a0 : Option Addr} {xs : List UInt8} (h : Rv W0 rb a0 xs W) (hb : ∀ y, a0 = some y → y.block < W0.heap.size) (hrb : rb < W0.heap.size) (hno : ∀ r, rNum 1 xs ≠ some (0, r)) :
    Calls Tryd.prog 34 #[.pointer (some ⟨rb, 0, none⟩)] W (ReadN W0 W rb a0 xs) := by
  have hzv := zero_node
  have hBd := hid hb; have hRb := hid hrb; have hNo := hid hno
  obtain ⟨Wa, hWa⟩ : ∃ Wa : World, Wa = W.alloc (.cells zNode.toArray 42) := ⟨_, rfl⟩
  have R := hid (h.later (show Kept [] W Wa by rw [hWa]; exact (Kept.refl [] W).alloc _))
  have hbx := hid (show Wa.heap[W.heap.size]? = some (.cells zNode.toArray 42 (0, 0)) by rw [hWa]; exact heap_alloc_at rfl)
  have hge := hid (show W0.heap.size ≤ W.heap.size from h.kept.size)
  clear h hb hrb hno
  go_enter Tryd.func34, Tryd.ntmps34
  go_wp2_with fail
  rw [← hWa]
  refine (R.out.num2 hBd.out 1 1 (by decide)).mono ?_
  rintro e w1 (⟨M, r1, h1, rfl, hR, hk⟩ | ⟨hn, ⟨n, hn0, older, rfl, hcalm⟩, hR⟩)
  rotate_left
  · exact ⟨rfl, Or.inr ⟨by unfold readN; rw [hn]; rfl, ⟨n, hn0, older, rfl, hcalm⟩, xs, hR⟩⟩
  have H1 := hid h1; have R1 := hid hR
  have B1 := hid (hk.at hbx.out (by have := hRb.out; have := hge.out; simp; omega))
  have hM0 := hid (show M ≠ 0 from fun e => hNo.out r1 (by rw [← e]; exact h1))
  clear h1 hR hk hWa
  go_wp2_with fail
  refine (R1.out.text2 hBd.out 120).mono ?_
  rintro e w2 (⟨t, r2, h2, rfl, hR, hk⟩ | ⟨hn, ⟨n, hn0, older, rfl, hcalm⟩, hR⟩)
  rotate_left
  · exact ⟨rfl, Or.inr ⟨by unfold readN; rw [H1.out, Option.bind_some, hn]; rfl, ⟨n, hn0, older, rfl, hcalm⟩, _, hR⟩⟩
  have H2 := hid h2; have R2 := hid hR
  have B2 := hid (hk.at B1.out (by have := hRb.out; have := hge.out; simp; omega))
  clear h2 hR hk
  have hbs := hid (show W.heap.size < w2.heap.size from (Array.getElem?_eq_some_iff.1 B2.out).1)
  have hzl := zNode_len
  by_cases hM : M = 1
  · subst hM
    have hd1 : ((((1 : Nat) : Int)) == 1) = true := by decide
    have hset := hid (head_set ⟨t.toArray⟩ true)
    obtain ⟨hc, hhc⟩ : ∃ hc : NodeR, hc = ⟨⟨t.toArray⟩, true, 0, none, 0, [], zid⟩ := ⟨_, rfl⟩
    rw [← hhc] at hset
    have h36 := hid (show hc.cells.length = 36 from by rw [hhc]; exact node_size _ (by simp [zid]))
    have hone := hid (node_one hc)
    have HC := hid hhc
    clear hhc
    go_wp2_with (refine wpList_store_at rfl 42 (.tmp 4) (.tmp 11) rfl w2.heap.size 0 ((zNode.set 0 (.string ⟨t.toArray⟩)).set 1 (.bool true)) rfl rfl 42 zNode (heap_alloc_at rfl) (by rw [hset.out, h36.out]; exact node_info) (by rw [hset.out, h36.out, zNode_len]; decide) (by rw [hset.out]; exact hone.out) ?_; refine halt ?_)
    rw [hset.out, splice36 zNode hc.cells (by rw [h36.out, zNode_len])]
    obtain ⟨wb, hwb⟩ : ∃ wb : World, wb = (w2.alloc (.cells zNode.toArray 42)).setRow w2.heap.size hc.cells.toArray := ⟨_, rfl⟩
    rw [← hwb]
    refine Halt.mk ?_
    have hkb : Kept [] w2 wb := by rw [hwb]; exact ((Kept.refl [] w2).alloc _).setRow (fun h => absurd h (Nat.lt_irrefl _)) _
    have Rb := hid (R2.out.later hkb)
    have Bb := hid (hkb.at B2.out (by simp))
    have Nb := hid (show wb.heap[w2.heap.size]? = some (.cells hc.cells.toArray 42 (0, 0)) by rw [hwb]; exact setRow_heap _ _ _ _ _ _ (heap_alloc_at rfl))
    clear hkb hwb
    go_wp2_with fail
    refine (t_id2 Rb.out hBd.out hRb.out).mono ?_
    rintro e w3 (⟨s, r3, h3, hs, rfl, hR, hk⟩ | ⟨hn, ⟨n, hn0, older, rfl, hcalm⟩, ys, hR⟩)
    rotate_left
    · exact ⟨rfl, Or.inr ⟨by unfold readN; rw [H1.out, Option.bind_some, H2.out, Option.bind_some, if_pos rfl, hn]; rfl, ⟨n, hn0, older, rfl, hcalm⟩, _, hR⟩⟩
    have H3 := hid h3; have R3 := hid hR; have hs32 := hid hs
    have B3 := hid (hk.at Bb.out (by have := hRb.out; have := hge.out; simp; omega))
    have N3 := hid (hk.at Nb.out (by have := hRb.out; have := hge.out; have := hbs.out; simp; omega))
    have hsz := hid (show (Tryd.prog.info? 40).map (·.size) = some (s.map B).length by rw [List.length_map, hs]; exact ninfo32)
    have hon := hid (show ∀ v ∈ s.map B, v.oneCell' = true by intro v hv; obtain ⟨b, _, rfl⟩ := List.mem_map.1 hv; rfl)
    clear h3 hR hs hk
    go_wp2_with (refine wpList_store_at rfl 40 (.tmp 18) (.tmp 17) rfl w2.heap.size 4 (s.map B) rfl rfl 42 hc.cells N3.out hsz.out (by rw [List.length_map, hs32.out, h36.out]; decide) hon.out ?_; refine halt ?_)
    obtain ⟨m, hm⟩ : ∃ m : NodeR, m = ⟨⟨t.toArray⟩, true, 0, none, 0, [], s⟩ := ⟨_, rfl⟩
    rw [show splice hc.cells 4 (s.map B) = m.cells by rw [HC.out, hm]; unfold NodeR.cells splice; simp [hs32.out, zid]]
    have m32 := hid (show m.sub.length = 32 by rw [hm]; exact hs32.out)
    have mnd := hid (show m.nd = ⟨t, true, 0, [], s⟩ by rw [hm]; rfl)
    have mpa := hid (show m.pa = none by rw [hm])
    have mpp := hid (show m.parts = [] by rw [hm])
    have mpc := hid (show m.pc = 0 by rw [hm])
    clear hm
    obtain ⟨w4, hw4⟩ : ∃ w4 : World, w4 = w3.setRow w2.heap.size m.cells.toArray := ⟨_, rfl⟩
    rw [← hw4]
    refine Halt.mk ?_
    have N4 := hid (show w4.heap[w2.heap.size]? = some (.cells m.cells.toArray 42 (0, 0)) by rw [hw4]; exact setRow_heap _ _ _ _ _ _ N3.out)
    have k4 : Kept [w2.heap.size] w3 w4 := by rw [hw4]; exact (Kept.refl _ _).setRow (fun _ => by simp) _
    have B4 := hid (k4.at B3.out (by have := hbs.out; simp; omega))
    have R4 := hid (R3.out.box hBd.out k4 (by have := hRb.out; have := hge.out; have := hbs.out; omega) (by have := hge.out; have := hbs.out; omega))
    have msz := hid (show (Tryd.prog.info? 42).map (·.size) = some m.cells.length by rw [node_size m m32.out]; exact node_info)
    have mone := hid (node_one m)
    clear k4 hw4
    go_wp2_with (refine wpList_load_cells rfl 42 (.tmp 4) rfl ⟨w2.heap.size, 0, none⟩ rfl m.cells _ Tryd.underlying42 rfl msz.out (NAt.reads N4.out) ?_; refine halt ?_)
    refine Halt.mk ?_
    go_wp2_with (refine wpList_store_at rfl 42 (.tmp 2) (.tmp 37) rfl W.heap.size 0 m.cells rfl rfl 42 zNode B4.out msz.out (by rw [node_size m m32.out, zNode_len]; decide) mone.out ?_; refine halt ?_)
    rw [splice36 zNode m.cells (by rw [node_size m m32.out, zNode_len])]
    obtain ⟨w5, hw5⟩ : ∃ w5 : World, w5 = w4.setRow W.heap.size m.cells.toArray := ⟨_, rfl⟩
    rw [← hw5]
    refine Halt.mk ?_
    have N5 := hid (show w5.heap[W.heap.size]? = some (.cells m.cells.toArray 42 (0, 0)) by rw [hw5]; exact setRow_heap _ _ _ _ _ _ B4.out)
    have k5 : Kept [W.heap.size] w4 w5 := by rw [hw5]; exact (Kept.refl _ _).setRow (fun _ => by simp) _
    have R5 := hid (R4.out.box hBd.out k5 (by have := hRb.out; have := hge.out; omega) hge.out)
    clear k5 hw5
    go_wp2
    refine bodyPost_ret (v := .agg m.cells.toArray) (results_cell Tryd.results34 rfl (run_ld_node N5.out (node_size m m32.out))) rfl (Or.inl ⟨⟨t, true, 0, [], s⟩, r3, m, ?_, mnd.out, rfl, ?_, m32.out, ?_, R5.out⟩)
    · unfold readN; rw [H1.out, Option.bind_some, H2.out, Option.bind_some, if_pos rfl, H3.out]; rfl
    · rw [mpa.out, mpp.out, mpc.out]; exact ⟨by simp, by omega, fun _ => rfl, fun x hx => by simp at hx⟩
    · intro y hy; rw [mpa.out] at hy; simp at hy
  · have hd1 : ((M : Int) == 1) = false := by simp; omega
    have hd0 : ((M : Int) == 0) = false := by have := hM0.out; simp; omega
    have hrn := hid (show readN xs = none by
      unfold readN; rw [H1.out, Option.bind_some, H2.out, Option.bind_some, if_neg hM, if_neg hM0.out])
    have hset := hid (head_set ⟨t.toArray⟩ false)
    obtain ⟨hc, hhc⟩ : ∃ hc : NodeR, hc = ⟨⟨t.toArray⟩, false, 0, none, 0, [], zid⟩ := ⟨_, rfl⟩
    rw [← hhc] at hset
    have h36 := hid (show hc.cells.length = 36 from by rw [hhc]; exact node_size _ (by simp [zid]))
    have hone := hid (node_one hc)
    have HC := hid hhc
    clear hhc
    go_wp2_with (refine wpList_store_at rfl 42 (.tmp 4) (.tmp 11) rfl w2.heap.size 0 ((zNode.set 0 (.string ⟨t.toArray⟩)).set 1 (.bool false)) rfl rfl 42 zNode (heap_alloc_at rfl) (by rw [hset.out, h36.out]; exact node_info) (by rw [hset.out, h36.out, zNode_len]; decide) (by rw [hset.out]; exact hone.out) ?_; refine halt ?_)
    rw [hset.out, splice36 zNode hc.cells (by rw [h36.out, zNode_len])]
    obtain ⟨wb, hwb⟩ : ∃ wb : World, wb = (w2.alloc (.cells zNode.toArray 42)).setRow w2.heap.size hc.cells.toArray := ⟨_, rfl⟩
    rw [← hwb]
    refine Halt.mk ?_
    have Rb := hid (R2.out.later (show Kept [] w2 wb by rw [hwb]; exact ((Kept.refl [] w2).alloc _).setRow (fun h => absurd h (Nat.lt_irrefl _)) _))
    clear hwb
    go_wp2_with (go_at_call 59; refine (must_err 21 (by decide) _).mono ?_; rintro e w' ⟨rfl, rfl⟩)
    exact ⟨rfl, Or.inr ⟨hrn.out, ⟨21, by decide, _, rfl, Calm.nil⟩, r2, Rb.out⟩⟩
end Go.Proofs.YtdojpioclojalaaDoor


/- A drawn region by hand: an append of rows of k cells; a call that may throw, beside a load. -/
namespace Go.Proofs.YtdojpioclojalaaDoor
open Go.RowKit Go.Lib

theorem appendKH {P : Program} {md : Region.Mode} {Q : Exit → Act → World → Prop} {S : World → Prop} {l rest : List Oper} {oi : Oper} {fuel : Nat} {listed : Array Bool} {a : Act} {w : World} (k : Nat) (hi : l.drop k = oi :: rest) (hr : Region.ready md l.toArray listed = [k]) (hgd : oi.guard = none)
    (s x : Operand) (t : TypeId) (ho : oi.op = .call { callee := .builtin .append, args := #[s, x], argTypes := #[t, t] }) (base : Nat) (e : TypeId) (i : TypeInfo) (z : Value) (size bytes : Nat) (ht : P.underlying t = some (.slice e)) (hie : P.info? e = some i) (hz : i.zero = some z)
    (hsize : i.size = size) (hby : i.bytes = bytes) (hzs : z.cells.size = size) (hsz : 0 < size) (v : Value) (n : Nat) (xs : List Value) (hs : a.eval s = v) (hown : w.ownsRow base e size v n xs)
    (sv : Value) (m : Nat) (news : List Value) (hx : a.eval x = sv) (hsrc : Src w sv m news) (hl : news.length = m * size) (h1 : ∀ u ∈ news, u.oneCell' = true)
    (h63 : n + m ≤ maxLen) (hbytes : (n + m) * bytes ≤ 140737488355328) (hbase : base ≤ w.heap.size)
    (h : ∀ b c w', w'.ownsRow base e size (.slice b (n + m) c) (n + m) (xs ++ news) → w.grownBy w' v.ownBlock → (∀ y, b = some y → base ≤ y.block) → (∀ g, (Value.slice b (n + m) c).ownBlock = some g → v.ownBlock = some g ∨ w.heap.size ≤ g) →
      S w' ∧ wpAnyH P md l.toArray Q S fuel (listed.setIfInBounds k true) (a.put oi.dst (.slice b (n + m) c)) w') : wpAnyH P md l.toArray Q S (fuel + 1) listed a w := by
  have hw : Region.wanted oi (yielded l.toArray a.tmps) = true := by simp [Region.wanted, hgd]
  refine wpAnyH_ready hr (by simp) (AllReadyH.cons (getL_of_drop hi) (fun K hK => ?_) AllReadyH.nil)
  rw [if_pos hw]
  obtain ⟨v', w', hrun, h2, h3, h4, h5⟩ := run_append_k (P := P) w t oi.type base e i z size bytes ht hie hz hsize hby hzs hsz v n xs hown sv m news hsrc hl h1 h63 hbytes hbase
  obtain ⟨b, c', rfl, hb⟩ : ∃ b c, v' = .slice b (n + m) c ∧ ∀ y, b = some y → base ≤ y.block := by
    rcases h2.2 with ⟨rfl, h0⟩ | ⟨g, cap, _, rfl, hg, _⟩
    · exact ⟨none, 0, by rw [h0], fun y hy => by simp at hy⟩
    · exact ⟨_, cap, rfl, fun y hy => by simp at hy; subst hy; exact hg⟩
  obtain ⟨hS, hgo⟩ := h b c' w' h2 h3 hb h5
  unfold Oper.wp execOp
  simp only [ho, resolve, invoke, builtin, Sem.run_bind, Sem.run_pure, Result.andThen_ok, List.map_toArray, List.map_cons, List.map_nil, hs, hx, hrun]
  exact hK.out _ _ hS (fun _ => hgo)

theorem callLoadX {P : Program} {md : Region.Mode} {Q : Exit → Act → World → Prop} {S : World → Prop} {l rest rest' : List Oper} {oi oj : Oper} {fuel : Nat} {listed : Array Bool} {a : Act} {w : World} (i j : Nat) (hi : l.drop i = oi :: rest) (hj : l.drop j = oj :: rest')
    (hr : Region.ready md l.toArray listed = [j, i]) (hri : Region.ready md l.toArray (listed.setIfInBounds i true) = [j]) (hrj : Region.ready md l.toArray (listed.setIfInBounds j true) = [i])
    (v : Value) (hwi : Region.wanted oi (yielded l.toArray a.tmps) = true) (hwj : Region.wanted oj (yielded l.toArray a.tmps) = true)
    (hwi' : Region.wanted oi (yielded l.toArray (a.put oj.dst v).tmps) = true) (hwj' : ∀ val, Region.wanted oj (yielded l.toArray (a.put oi.dst val).tmps) = true)
    (f : FuncId) (args : Array Value) (hrun : (execOp a.eval oi).run P w = .ok (.enter f args) w) (hrun' : (execOp (a.put oj.dst v).eval oi).run P w = .ok (.enter f args) w)
    (hyv : (execOp a.eval oj).run P w = .ok (.value v) w) (hS : S w)
    (hlist : (listed.setIfInBounds i true).setIfInBounds j true = (listed.setIfInBounds j true).setIfInBounds i true) (hput : ∀ val, (a.put oi.dst val).put oj.dst v = (a.put oj.dst v).put oi.dst val)
    (hc : Calls P f args w fun e w' => (∃ val, e = .returned val ∧ S w' ∧ (execOp (a.put oi.dst val).eval oj).run P w' = .ok (.value v) w' ∧ wpAnyH P md l.toArray Q S fuel ((listed.setIfInBounds j true).setIfInBounds i true) ((a.put oj.dst v).put oi.dst val) w') ∨ ∃ ch, e = .panicked ch ∧ Q (.panic ch) a w' ∧ Q (.panic ch) (a.put oj.dst v) w') :
    wpAnyH P md l.toArray Q S (fuel + 1 + 1) listed a w := by
  refine wpAnyH_ready hr (by simp) (AllReadyH.cons (getL_of_drop hj) (fun K hK => ?_) (AllReadyH.cons (getL_of_drop hi) (fun K hK => ?_) AllReadyH.nil))
  · rw [if_pos hwj]; unfold Oper.wp; rw [hyv]
    refine hK.out _ _ hS (fun _ => ?_)
    refine wpAnyH_ready hrj (by simp) (AllReadyH.cons (getL_of_drop hi) (fun K' hK' => ?_) AllReadyH.nil)
    rw [if_pos hwi']; unfold Oper.wp; rw [hrun']
    refine hc.mono ?_
    rintro e w' (⟨val, rfl, hS', _, h⟩ | ⟨ch, rfl, _, h⟩)
    · exact hK'.out _ _ hS' (fun _ => h)
    · exact h
  · rw [if_pos hwi]; unfold Oper.wp; rw [hrun]
    refine hc.mono ?_
    rintro e w' (⟨val, rfl, hS', hy, h⟩ | ⟨ch, rfl, h, _⟩)
    · refine hK.out _ _ hS' (fun _ => ?_)
      refine wpAnyH_ready hri (by simp) (AllReadyH.cons (getL_of_drop hj) (fun K' hK' => ?_) AllReadyH.nil)
      rw [if_pos (hwj' val)]; unfold Oper.wp; rw [hy]
      refine hK'.out _ _ hS' (fun _ => ?_)
      rw [hlist, hput]
      exact h
    · exact h
/-- A call that may throw, a load that may come ahead of it or behind it, a slice built of what the call answers, ahead of the load or behind it. -/
theorem callLoadBuildX {P : Program} {md : Region.Mode} {Q : Exit → Act → World → Prop} {S : World → Prop} {l rest rest' rest'' : List Oper} {oi oj ok : Oper} {fuel : Nat} {listed : Array Bool} {a : Act} {w : World} (i j k : Nat) (hi : l.drop i = oi :: rest) (hj : l.drop j = oj :: rest') (hk : l.drop k = ok :: rest'')
    (hr : Region.ready md l.toArray listed = [j, i]) (hri : Region.ready md l.toArray (listed.setIfInBounds i true) = [j, k]) (hrj : Region.ready md l.toArray (listed.setIfInBounds j true) = [i])
    (hrij : Region.ready md l.toArray ((listed.setIfInBounds j true).setIfInBounds i true) = [k]) (hrik : Region.ready md l.toArray ((listed.setIfInBounds i true).setIfInBounds k true) = [j])
    (v : Value) (hwi : Region.wanted oi (yielded l.toArray a.tmps) = true) (hwj : Region.wanted oj (yielded l.toArray a.tmps) = true)
    (hwi' : Region.wanted oi (yielded l.toArray (a.put oj.dst v).tmps) = true) (hwj' : ∀ val, Region.wanted oj (yielded l.toArray (a.put oi.dst val).tmps) = true)
    (hwk : ∀ val, Region.wanted ok (yielded l.toArray (a.put oi.dst val).tmps) = true) (hwk' : ∀ val, Region.wanted ok (yielded l.toArray ((a.put oj.dst v).put oi.dst val).tmps) = true)
    (hwj'' : ∀ val vk, Region.wanted oj (yielded l.toArray ((a.put oi.dst val).put ok.dst vk).tmps) = true)
    (f : FuncId) (args : Array Value) (hrun : (execOp a.eval oi).run P w = .ok (.enter f args) w) (hrun' : (execOp (a.put oj.dst v).eval oi).run P w = .ok (.enter f args) w)
    (hyv : (execOp a.eval oj).run P w = .ok (.value v) w) (hS : S w)
    (hl1 : (listed.setIfInBounds i true).setIfInBounds j true = (listed.setIfInBounds j true).setIfInBounds i true)
    (hl2 : ((listed.setIfInBounds i true).setIfInBounds k true).setIfInBounds j true = ((listed.setIfInBounds j true).setIfInBounds i true).setIfInBounds k true)
    (hp1 : ∀ val, (a.put oi.dst val).put oj.dst v = (a.put oj.dst v).put oi.dst val)
    (hp2 : ∀ val vk, ((a.put oi.dst val).put ok.dst vk).put oj.dst v = ((a.put oj.dst v).put oi.dst val).put ok.dst vk)
    (hc : Calls P f args w fun e w' => (∃ val vk w2, e = .returned val ∧ S w' ∧ S w2 ∧ (execOp (a.put oi.dst val).eval oj).run P w' = .ok (.value v) w' ∧ (execOp (a.put oi.dst val).eval ok).run P w' = .ok (.value vk) w2 ∧
        (execOp ((a.put oj.dst v).put oi.dst val).eval ok).run P w' = .ok (.value vk) w2 ∧ (execOp ((a.put oi.dst val).put ok.dst vk).eval oj).run P w2 = .ok (.value v) w2 ∧
        wpAnyH P md l.toArray Q S fuel (((listed.setIfInBounds j true).setIfInBounds i true).setIfInBounds k true) (((a.put oj.dst v).put oi.dst val).put ok.dst vk) w2) ∨ ∃ ch, e = .panicked ch ∧ Q (.panic ch) a w' ∧ Q (.panic ch) (a.put oj.dst v) w') :
    wpAnyH P md l.toArray Q S (fuel + 1 + 1 + 1) listed a w := by
  refine wpAnyH_ready hr (by simp) (AllReadyH.cons (getL_of_drop hj) (fun K hK => ?_) (AllReadyH.cons (getL_of_drop hi) (fun K hK => ?_) AllReadyH.nil))
  · rw [if_pos hwj]; unfold Oper.wp; rw [hyv]
    refine hK.out _ _ hS (fun _ => ?_)
    refine wpAnyH_ready hrj (by simp) (AllReadyH.cons (getL_of_drop hi) (fun K' hK' => ?_) AllReadyH.nil)
    rw [if_pos hwi']; unfold Oper.wp; rw [hrun']
    refine hc.mono ?_
    rintro e w' (⟨val, vk, w2, rfl, hS', hS2, _, _, hb, _, h⟩ | ⟨ch, rfl, _, h⟩)
    · refine hK'.out _ _ hS' (fun _ => ?_)
      refine wpAnyH_ready hrij (by simp) (AllReadyH.cons (getL_of_drop hk) (fun K2 hK2 => ?_) AllReadyH.nil)
      rw [if_pos (hwk' val)]; unfold Oper.wp; rw [hb]
      exact hK2.out _ _ hS2 (fun _ => h)
    · exact h
  · rw [if_pos hwi]; unfold Oper.wp; rw [hrun]
    refine hc.mono ?_
    rintro e w' (⟨val, vk, w2, rfl, hS', hS2, hy, hb1, hb2, hy2, h⟩ | ⟨ch, rfl, h, _⟩)
    · refine hK.out _ _ hS' (fun _ => ?_)
      refine wpAnyH_ready hri (by simp) (AllReadyH.cons (getL_of_drop hj) (fun K' hK' => ?_) (AllReadyH.cons (getL_of_drop hk) (fun K' hK' => ?_) AllReadyH.nil))
      · rw [if_pos (hwj' val)]; unfold Oper.wp; rw [hy]
        refine hK'.out _ _ hS' (fun _ => ?_)
        rw [hl1, hp1]
        refine wpAnyH_ready hrij (by simp) (AllReadyH.cons (getL_of_drop hk) (fun K2 hK2 => ?_) AllReadyH.nil)
        rw [if_pos (hwk' val)]; unfold Oper.wp; rw [hb2]
        exact hK2.out _ _ hS2 (fun _ => h)
      · rw [if_pos (hwk val)]; unfold Oper.wp; rw [hb1]
        refine hK'.out _ _ hS2 (fun _ => ?_)
        refine wpAnyH_ready hrik (by simp) (AllReadyH.cons (getL_of_drop hj) (fun K2 hK2 => ?_) AllReadyH.nil)
        rw [if_pos (hwj'' val vk)]; unfold Oper.wp; rw [hy2]
        refine hK2.out _ _ hS2 (fun _ => ?_)
        rw [hl2, hp2]
        exact h
    · exact h
end Go.Proofs.YtdojpioclojalaaDoor


/- tree.readNode, of a file. -/
namespace Go.Proofs.YtdojpioclojalaaDoor
open Go.RowKit Go.Lib

theorem Rv.grown {W0 W W' : World} {rb : Nat} {a0 : Option Addr} {xs : List UInt8} {row : Option Nat} (h : Rv W0 rb a0 xs W) (hb : ∀ y, a0 = some y → y.block < W0.heap.size) (hg : W.grownBy W' row) (hr : ∀ k, row = some k → rb ≠ k ∧ W0.heap.size ≤ k) : Rv W0 rb a0 xs W' := by
  cases row with
  | none => exact h.later (Kept.of_row hg)
  | some k => exact h.box hb (Kept.of_row hg) (hr k rfl).1 (hr k rfl).2
theorem readIDs_snoc : ∀ (i : Nat) (xs : List UInt8), readIDs (i + 1) xs = (readIDs i xs).bind fun p => (rRaw 32 p.2).bind fun q => some (p.1 ++ [q.1], q.2)
  | 0, xs => by
    show ((rRaw 32 xs).bind fun p => (readIDs 0 p.2).bind fun q => some (p.1 :: q.1, q.2)) = _
    unfold readIDs; rfl
  | i + 1, xs => by
    show ((rRaw 32 xs).bind fun p => (readIDs (i + 1) p.2).bind fun q => some (p.1 :: q.1, q.2)) = ((rRaw 32 xs).bind fun p => (readIDs i p.2).bind fun q => some (p.1 :: q.1, q.2)).bind _
    cases h : rRaw 32 xs with
    | none => rfl
    | some p =>
      simp only [Option.bind_some]
      rw [readIDs_snoc i p.2]
      cases h2 : readIDs i p.2 with
      | none => rfl
      | some q =>
        simp only [Option.bind_some]
        cases rRaw 32 q.2 <;> rfl
theorem readIDs_none {i : Nat} {xs : List UInt8} (h : readIDs i xs = none) : ∀ k, readIDs (i + k) xs = none
  | 0 => h
  | k + 1 => by rw [← Nat.add_assoc, readIDs_snoc, readIDs_none h k]; rfl
theorem build_id' (b0 b1 b2 b3 b4 b5 b6 b7 b8 b9 b10 b11 b12 b13 b14 b15 b16 b17 b18 b19 b20 b21 b22 b23 b24 b25 b26 b27 b28 b29 b30 b31 : UInt8) (W : World) : (Instr.buildSlice 38 1 #[(0, .agg ([b0, b1, b2, b3, b4, b5, b6, b7, b8, b9, b10, b11, b12, b13, b14, b15, b16, b17, b18, b19, b20, b21, b22, b23, b24, b25, b26, b27, b28, b29, b30, b31].map B).toArray)]).run Tryd.prog W = .ok (.slice (some ⟨W.heap.size, 0, none⟩) 1 1) (W.alloc (.cells ([b0, b1, b2, b3, b4, b5, b6, b7, b8, b9, b10, b11, b12, b13, b14, b15, b16, b17, b18, b19, b20, b21, b22, b23, b24, b25, b26, b27, b28, b29, b30, b31].map B).toArray 40)) := by kernel_rfl
theorem build_id (s : List UInt8) (h : s.length = 32) (W : World) : (Instr.buildSlice 38 1 #[(0, .agg (s.map B).toArray)]).run Tryd.prog W = .ok (.slice (some ⟨W.heap.size, 0, none⟩) 1 1) (W.alloc (.cells (s.map B).toArray 40)) := by
  match s, h with
  | [b0, b1, b2, b3, b4, b5, b6, b7, b8, b9, b10, b11, b12, b13, b14, b15, b16, b17, b18, b19, b20, b21, b22, b23, b24, b25, b26, b27, b28, b29, b30, b31], _ => exact build_id' b0 b1 b2 b3 b4 b5 b6 b7 b8 b9 b10 b11 b12 b13 b14 b15 b16 b17 b18 b19 b20 b21 b22 b23 b24 b25 b26 b27 b28 b29 b30 b31 W

set_option maxRecDepth 100000 in
set_option maxHeartbeats 2000000 in
theorem t_node_file {W0 W : World} {rb : Nat} {a0 : Option Addr} {xs : List UInt8} (h : Rv W0 rb a0 xs W) (hb : ∀ y, a0 = some y → y.block < W0.heap.size) (hrb : rb < W0.heap.size) (hno : ∀ M r, rNum 1 xs = some (M, r) → M = 0) :
    Calls Tryd.prog 34 #[.pointer (some ⟨rb, 0, none⟩)] W (ReadN W0 W rb a0 xs) := by
  have hzv := zero_node
  have hBd := hid hb; have hRb := hid hrb; have hNo := hid hno
  obtain ⟨Wa, hWa⟩ : ∃ Wa : World, Wa = W.alloc (.cells zNode.toArray 42) := ⟨_, rfl⟩
  have R := hid (h.later (show Kept [] W Wa by rw [hWa]; exact (Kept.refl [] W).alloc _))
  have hbx := hid (show Wa.heap[W.heap.size]? = some (.cells zNode.toArray 42 (0, 0)) by rw [hWa]; exact heap_alloc_at rfl)
  have hge := hid (show W0.heap.size ≤ W.heap.size from h.kept.size)
  clear h hb hrb hno
  go_enter Tryd.func34, Tryd.ntmps34
  go_wp2_with fail
  rw [← hWa]
  refine (R.out.num2 hBd.out 1 1 (by decide)).mono ?_
  rintro e w1 (⟨M, r1, h1, rfl, hR, hk⟩ | ⟨hn, ⟨n, hn0, older, rfl, hcalm⟩, hR⟩)
  rotate_left
  · exact ⟨rfl, Or.inr ⟨by unfold readN; rw [hn]; rfl, ⟨n, hn0, older, rfl, hcalm⟩, xs, hR⟩⟩
  have hM0 := hNo.out M r1 h1
  subst hM0
  have H1 := hid h1; have R1 := hid hR
  have B1 := hid (hk.at hbx.out (by have := hRb.out; have := hge.out; simp; omega))
  clear h1 hR hk hWa
  go_wp2_with fail
  refine (R1.out.text2 hBd.out 120).mono ?_
  rintro e w2 (⟨t, r2, h2, rfl, hR, hk⟩ | ⟨hn, ⟨n, hn0, older, rfl, hcalm⟩, hR⟩)
  rotate_left
  · exact ⟨rfl, Or.inr ⟨by unfold readN; rw [H1.out, Option.bind_some, hn]; rfl, ⟨n, hn0, older, rfl, hcalm⟩, _, hR⟩⟩
  have H2 := hid h2; have R2 := hid hR
  have B2 := hid (hk.at B1.out (by have := hRb.out; have := hge.out; simp; omega))
  clear h2 hR hk
  have hbs := hid (show W.heap.size < w2.heap.size from (Array.getElem?_eq_some_iff.1 B2.out).1)
  have hzl := zNode_len
  have hd1 : ((((0 : Nat) : Int)) == 1) = false := by decide
  have hd0 : ((((0 : Nat) : Int)) == 0) = true := by decide
  have hset := hid (head_set ⟨t.toArray⟩ false)
  obtain ⟨hc, hhc⟩ : ∃ hc : NodeR, hc = ⟨⟨t.toArray⟩, false, 0, none, 0, [], zid⟩ := ⟨_, rfl⟩
  rw [← hhc] at hset
  have h36 := hid (show hc.cells.length = 36 from by rw [hhc]; exact node_size _ (by simp [zid]))
  have hone := hid (node_one hc)
  have HC := hid hhc
  clear hhc
  go_wp2_with (refine wpList_store_at rfl 42 (.tmp 4) (.tmp 11) rfl w2.heap.size 0 ((zNode.set 0 (.string ⟨t.toArray⟩)).set 1 (.bool false)) rfl rfl 42 zNode (heap_alloc_at rfl) (by rw [hset.out, h36.out]; exact node_info) (by rw [hset.out, h36.out, zNode_len]; decide) (by rw [hset.out]; exact hone.out) ?_; refine halt ?_)
  rw [hset.out, splice36 zNode hc.cells (by rw [h36.out, zNode_len])]
  obtain ⟨wb, hwb⟩ : ∃ wb : World, wb = (w2.alloc (.cells zNode.toArray 42)).setRow w2.heap.size hc.cells.toArray := ⟨_, rfl⟩
  rw [← hwb]
  refine Halt.mk ?_
  have hkb : Kept [] w2 wb := by rw [hwb]; exact ((Kept.refl [] w2).alloc _).setRow (fun h => absurd h (Nat.lt_irrefl _)) _
  have Rb := hid (R2.out.later hkb)
  have Bb := hid (hkb.at B2.out (by simp))
  have Nb := hid (show wb.heap[w2.heap.size]? = some (.cells hc.cells.toArray 42 (0, 0)) by rw [hwb]; exact setRow_heap _ _ _ _ _ _ (heap_alloc_at rfl))
  clear hkb hwb
  obtain ⟨q, hq⟩ : ∃ q, q = w2.heap.size := ⟨_, rfl⟩
  have hqW := hid (show W.heap.size < q by rw [hq]; exact hbs.out)
  rw [← hq] at Nb ⊢
  have hqr := hid (show q ∉ [rb] by have h1 := hRb.out; have h2 := hge.out; have h3 := hqW.out; simp; omega)
  have hbr := hid (show W.heap.size ∉ [rb] by have h1 := hRb.out; have h2 := hge.out; simp; omega)
  clear hq
  go_wp2_with fail
  refine (Rb.out.num2 hBd.out 8 8 (by decide)).mono ?_
  rintro e w3 (⟨N, r3, h3, rfl, hR, hk⟩ | ⟨hn, ⟨n, hn0, older, rfl, hcalm⟩, hR⟩)
  rotate_left
  · exact ⟨rfl, Or.inr ⟨by unfold readN; rw [H1.out, Option.bind_some, H2.out, Option.bind_some, if_neg (show ¬ (0 : Nat) = 1 by decide), if_pos rfl, hn]; rfl, ⟨n, hn0, older, rfl, hcalm⟩, _, hR⟩⟩
  have H3 := hid h3
  have B3 := hid (hk.at Bb.out hbr.out)
  have N3 := hid (hk.at Nb.out hqr.out)
  have R3 := hid hR
  have g2 : w3.cell? ⟨q, 2, none⟩ = some (.int .i64 0) := by rw [cell_of_row _ _ 2 _ _ _ N3.out, HC.out]; rfl
  have f2 := n_free_row N3.out 2
  obtain ⟨z, hz⟩ : ∃ z, z = IntKind.i64.wrap (N : Int) := ⟨_, rfl⟩
  clear h3 hR hk
  obtain ⟨w4, hw4⟩ : ∃ w4 : World, w4 = w3.setCell ⟨q, 2, none⟩ (.int .i64 z) := ⟨_, rfl⟩
  have N4 := hid (show w4.heap[q]? = some (.cells (NodeR.cells ⟨⟨t.toArray⟩, false, z, none, 0, [], zid⟩).toArray 42 (0, 0)) by rw [hw4, Go.heap_setCell_same w3 q 2 _ _ _ N3.out, HC.out]; rfl)
  have k4 : Kept [q] w3 w4 := by rw [hw4]; exact (Kept.refl _ _).setCell (fun _ => by simp) _
  have B4 := hid (k4.at B3.out (by have := hqW.out; simp; omega))
  have R4 := hid (R3.out.box hBd.out k4 (by have := hqr.out; simp at this; omega) (by have := hge.out; have := hqW.out; omega))
  clear k4
  go_wp2_with fail
  rw [← IntWalk.i64_left, ← hz, ← hw4]
  refine (t_count2 R4.out hBd.out 4096 (by decide)).mono ?_
  rintro e w5 (⟨K, r5, h5, rfl, hR, hk⟩ | ⟨hn, ⟨n, hn0, older, rfl, hcalm⟩, ys, hR⟩)
  rotate_left
  · exact ⟨rfl, Or.inr ⟨by unfold readN; rw [H1.out, Option.bind_some, H2.out, Option.bind_some, if_neg (show ¬ (0 : Nat) = 1 by decide), if_pos rfl, H3.out, Option.bind_some, hn]; rfl, ⟨n, hn0, older, rfl, hcalm⟩, _, hR⟩⟩
  have H5 := hid h5; have R5 := hid hR
  have B5 := hid (hk.at B4.out hbr.out)
  have N5 := hid (hk.at N4.out hqr.out)
  have hK := hid (rCnt_get h5).2
  have hzz := hid hz
  clear h5 hR hk hw4 hz g2 f2
  obtain ⟨i0, hi0, hz0, hz1, hz2⟩ := info_parts id_zero
  go_wp2_with fail
  go_loopw [27] (fun s wr => ∃ (i : Nat) (ys : List UInt8) (l : List (List UInt8)) (pa : Option Addr) (pc : Nat), i ≤ K ∧ s = .int .i64 i ∧ Hid (readIDs i r5 = some (l, ys)) ∧ Hid (Rv W0 rb a0 ys wr) ∧ Hid (wr.heap[W.heap.size]? = some (.cells zNode.toArray 42 (0, 0))) ∧ Hid (wr.heap[q]? = some (.cells (NodeR.cells ⟨⟨t.toArray⟩, false, z, pa, pc, l, zid⟩).toArray 42 (0, 0))) ∧ Hid (wr.ownsRow (q + 1) 40 32 (.slice pa l.length pc) l.length (l.flatMap e32))) (fun s _ => K - (intOf s).toNat)
  case atStart => exact ⟨0, r5, [], none, 0, Nat.zero_le _, rfl, hid rfl, R5, B5, N5, hid (World.ownsRow_nil _ _ _ _)⟩
  case round =>
    obtain ⟨i, ys, l, pa, pc, hi, rfl, hl, hR, hB, hN, hO⟩ := hrel
    have hll := hid (readIDs_get i hl.out).2.1
    by_cases hlt : i < K
    · have hlt2 := hid hlt
      have hcell := cell_of_row _ _ 3 _ _ _ hN.out
      rw [show (NodeR.cells ⟨⟨t.toArray⟩, false, z, pa, pc, l, zid⟩).toArray[3]? = some (.slice pa l.length pc) from rfl] at hcell
      have hC := hid hcell
      have hqs := hid (show q < wr.heap.size from (Array.getElem?_eq_some_iff.1 hN.out).1)
      clear hcell
      have Rd := hid (hR.out.later (Kept.of_drew [] wr))
      have hNd := hid (show wr.drew.heap[q]? = some (.cells (NodeR.cells ⟨⟨t.toArray⟩, false, z, pa, pc, l, zid⟩).toArray 42 (0, 0)) from hN.out)
      have hBd2 := hid (show wr.drew.heap[W.heap.size]? = some (.cells zNode.toArray 42 (0, 0)) from hB.out)
      have hOd := hid (show wr.drew.ownsRow (q + 1) 40 32 (.slice pa l.length pc) l.length (l.flatMap e32) from (Kept.of_drew [] wr).owns hO.out (by simp))
      go_wp2_with fail
      refine wp_region_held_drew (S := fun _ => True) (by kernel_rfl) trivial (fun hH => ?_)
      refine takeH 0 (.pointer (some ⟨q, 3, none⟩)) rfl (by kernel_rfl) (by kernel_rfl) (by kernel_rfl) (fun _ _ _ h => h) (by rfl) (fun w _ => by go_simp) hH ?_
      simp only [Act.put, List.setIfInBounds_toArray, List.set_cons_succ, List.set_cons_zero]
      refine takeH 2 (.pointer (some ⟨rb, 0, none⟩)) rfl (by kernel_rfl) (by kernel_rfl) (by kernel_rfl) (fun _ _ _ h => h) (by rfl) (fun w _ => by go_simp) hH ?_
      simp only [Act.put, List.setIfInBounds_toArray, List.set_cons_succ, List.set_cons_zero]
      have hcd := cell_of_row _ _ 3 _ _ _ hNd.out
      rw [show (NodeR.cells ⟨⟨t.toArray⟩, false, z, pa, pc, l, zid⟩).toArray[3]? = some (.slice pa l.length pc) from rfl] at hcd
      have hqd := hid (show q < wr.drew.heap.size from (Array.getElem?_eq_some_iff.1 hNd.out).1)
      have hbsz := hid (show W.heap.size < wr.drew.heap.size from (Array.getElem?_eq_some_iff.1 hBd2.out).1)
      generalize wr.drew = wd at *
      refine callLoadBuildX 3 1 4 rfl rfl rfl (by kernel_rfl) (by kernel_rfl) (by kernel_rfl) (by kernel_rfl) (by kernel_rfl) (.slice pa l.length pc) (by rfl) (by rfl) (by rfl) (fun _ => by rfl) (fun _ => by rfl) (fun _ => by rfl) (fun _ _ => by rfl) 61 #[.pointer (some ⟨rb, 0, none⟩)] (by go_simp) (by go_simp) (by go_simp) trivial (by kernel_rfl) (by kernel_rfl) (fun _ => rfl) (fun _ _ => rfl) ((t_id2 Rd.out hBd.out hRb.out).mono ?_)
      rintro e w1 (⟨s, r, h6, hs, rfl, hR6, hk6⟩ | ⟨hno, ⟨n, hn0, older, rfl, hcalm⟩, ys', hR6⟩)
      rotate_left
      · refine Or.inr ⟨_, rfl, ?_, ?_⟩ <;> exact ⟨rfl, Or.inr ⟨by
          have hnx : readIDs (i + 1) r5 = none := by rw [readIDs_snoc, hl.out, Option.bind_some, hno]; rfl
          have hall : readIDs K r5 = none := by have := readIDs_none hnx (K - (i + 1)); rwa [show i + 1 + (K - (i + 1)) = K by omega] at this
          unfold readN; rw [H1.out, Option.bind_some, H2.out, Option.bind_some, if_neg (show ¬ (0 : Nat) = 1 by decide), if_pos rfl, H3.out, Option.bind_some, H5.out, Option.bind_some, hall]; rfl, ⟨n, hn0, older, rfl, hcalm⟩, _, hR6⟩⟩
      have hN1 := hid (hk6.at hNd.out hqr.out)
      have hB1 := hid (hk6.at hBd2.out hbr.out)
      have hrow : ∀ g, (Value.slice pa l.length pc).ownBlock = some g → q + 1 ≤ g := fun g hg => by
        rcases hOd.out.2 with ⟨h1, _⟩ | ⟨g', _, _, h1, hg1, _⟩
        · rw [h1] at hg; simp [Value.ownBlock] at hg
        · rw [h1] at hg; simp [Value.ownBlock] at hg; omega
      have hrow2 := hid hrow
      have hO1 := hid (hk6.owns hOd.out (fun g hg => by have h1 := hrow g hg; have h2 := hRb.out; have h3 := hge.out; have h4 := hqW.out; simp; omega))
      have hsz1 := hid hk6.size
      have HR6 := hid hR6; have H6 := hid h6; have hs32 := hid hs
      have hc1 := cell_of_row _ _ 3 _ _ _ hN1.out
      rw [show (NodeR.cells ⟨⟨t.toArray⟩, false, z, pa, pc, l, zid⟩).toArray[3]? = some (.slice pa l.length pc) from rfl] at hc1
      have hbn := build_id s hs32.out w1
      obtain ⟨w2, hw2⟩ : ∃ w2 : World, w2 = w1.alloc (.cells (s.map B).toArray 40) := ⟨_, rfl⟩
      rw [← hw2] at hbn
      have hk2 : Kept [] w1 w2 := by rw [hw2]; exact (Kept.refl [] w1).alloc _
      have hnew := hid (show ∀ (j : Nat) u, (e32 s)[j]? = some u → w2.cell? ((⟨w1.heap.size, 0, none⟩ : Addr).add j) = some u from by
        intro j u hj
        rw [e32_of hs32.out] at hj
        have e : (⟨w1.heap.size, 0, none⟩ : Addr).add j = ⟨w1.heap.size, j, none⟩ := by unfold Addr.add; split <;> simp_all
        rw [e, hw2, cell_of_row _ _ j _ _ _ (heap_alloc_at rfl)]; simpa using hj)
      have hN2 := hid (hk2.at hN1.out (by simp))
      have hB2 := hid (hk2.at hB1.out (by simp))
      have hO2 := hid (hk2.owns hO1.out (by simp))
      have hR2 := hid (HR6.out.later hk2)
      have hsz2 := hid hk2.size
      have hc2 := cell_of_row _ _ 3 _ _ _ hN2.out
      rw [show (NodeR.cells ⟨⟨t.toArray⟩, false, z, pa, pc, l, zid⟩).toArray[3]? = some (.slice pa l.length pc) from rfl] at hc2
      clear hw2
      refine Or.inl ⟨_, .slice (some ⟨w1.heap.size, 0, none⟩) 1 1, w2, rfl, trivial, trivial, by go_simp, (by unfold execOp; simp [Act.eval, Act.put, hbn]), (by unfold execOp; simp [Act.eval, Act.put, hbn]), by go_simp, ?_⟩
      clear hcd hc1 hc2 hk6 hR6 h6 hs hrow hR hB hN hO Rd hNd hBd2 hOd hC hqs hbn hk2
      simp only [Act.put, List.setIfInBounds_toArray, List.set_cons_succ, List.set_cons_zero]
      refine appendKH 5 rfl (by kernel_rfl) rfl (.tmp 30) (.tmp 33) 38 rfl (q + 1) 40 i0 _ 32 32 Tryd.underlying38 hi0 hz0 hz1 hz2 (by rw [Value.cells]; rfl) (by decide) (.slice pa l.length pc) l.length _ rfl hO2.out (.slice (some ⟨w1.heap.size, 0, none⟩) 1 1) 1 (e32 s) rfl (Or.inr ⟨_, _, rfl, hnew.out⟩) (by rw [e32_len]) (by have := e32_one [s]; simpa using this) (by have := hll.out; have := hK.out; unfold maxLen; omega) (by have := hll.out; have := hK.out; omega) (by have := hqd.out; have := hsz1.out; have := hsz2.out; omega) ?_
      intro b c w3' hown hgrow hbge _
      refine ⟨trivial, ?_⟩
      simp only [Act.put, List.setIfInBounds_toArray, List.set_cons_succ, List.set_cons_zero]
      refine takeH 6 (.pointer (some ⟨q, 3, none⟩)) rfl (by kernel_rfl) (by kernel_rfl) (by kernel_rfl) (fun _ _ _ h => h) (by rfl) (fun w _ => by go_simp) trivial ?_
      simp only [Act.put, List.setIfInBounds_toArray, List.set_cons_succ, List.set_cons_zero]
      have hne : ∀ k, (Value.slice pa l.length pc).ownBlock = some k → q + 1 ≤ k := hrow2.out
      have hN3 := hid (heap_grown hgrow hN2.out (fun e => by have := hne q e; omega))
      have hB3 := hid (heap_grown hgrow hB2.out (fun e => by have := hne _ e; have := hqW.out; omega))
      have hR3 := hid (hR2.out.grown hBd.out hgrow (fun k hk => by have h1 := hne k hk; have h2 := hRb.out; have h3 := hge.out; have h4 := hqW.out; omega))
      have g3 := cell_of_row _ _ 3 _ _ _ hN3.out
      rw [show (NodeR.cells ⟨⟨t.toArray⟩, false, z, pa, pc, l, zid⟩).toArray[3]? = some (.slice pa l.length pc) from rfl] at g3
      have f3 := n_free_row hN3.out 3
      have hO3 := hid hown
      have hbq := hid hbge
      clear hown hgrow hne hbge hN2 hB2 hO2 hR2 hnew
      obtain ⟨w4', hw4'⟩ : ∃ w4' : World, w4' = w3'.setCell ⟨q, 3, none⟩ (.slice b (l.length + 1) c) := ⟨_, rfl⟩
      refine writeH 7 rfl (by kernel_rfl) (by rfl) w4' (by rw [hw4']; go_simp) trivial ?_
      simp only [Act.put, List.setIfInBounds_toArray, List.set_cons_succ, List.set_cons_zero]
      have k4 : Kept [q] w3' w4' := by rw [hw4']; exact (Kept.refl _ _).setCell (fun _ => by simp) _
      have hN4 := hid (show w4'.heap[q]? = some (.cells (NodeR.cells ⟨⟨t.toArray⟩, false, z, b, c, l ++ [s], zid⟩).toArray 42 (0, 0)) by
        rw [hw4', Go.heap_setCell_same w3' q 3 _ _ _ hN3.out]; unfold NodeR.cells; simp)
      have hB4 := hid (k4.at hB3.out (by have := hqW.out; simp; omega))
      have hR4 := hid (hR3.out.box hBd.out k4 (by have := hqr.out; simp at this; omega) (by have := hge.out; have := hqW.out; omega))
      have hO4 := hid (show w4'.ownsRow (q + 1) 40 32 (.slice b (l ++ [s]).length c) (l ++ [s]).length ((l ++ [s]).flatMap e32) by
        rw [List.length_append, List.flatMap_append]
        simp only [List.length_singleton, List.flatMap_cons, List.flatMap_nil, List.append_nil]
        refine k4.owns hO3.out (fun g hg => ?_)
        cases b with
        | none => simp [Value.ownBlock] at hg
        | some y => 
          have := hbq.out y rfl
          rcases hO3.out.2 with ⟨h1, _⟩ | ⟨g', _, _, h1, hg1, _⟩
          · simp at h1
          · rw [h1] at hg; simp [Value.ownBlock] at hg; simp; omega)
      clear k4 hw4' g3 f3 hN3 hB3 hR3 hO3
      refine wpAnyH_done (by kernel_rfl) ?_ _
      have hKb : K ≤ 4096 := hK.out
      go_wp2
      go_roundw
      case rel => exact ⟨i + 1, r, l ++ [s], b, c, hlt2.out, by go_num, hid (by rw [readIDs_snoc, hl.out, Option.bind_some, H6.out]; rfl), hR4, hB4, hN4, hO4⟩
      case measure => simp [intOf]; have := hlt2.out; omega
    · have hin : i = K := by omega
      subst hin
      obtain ⟨hok, hown⟩ := ids_of_row (by exact (readIDs_get _ hl.out).2.2) hO.out
      have hids := hid hok
      have hpq := hid (show ∀ y, pa = some y → q + 1 ≤ y.block from fun y hy => (hown y hy).1)
      have hpa := hid (show ∀ y, pa = some y → W.heap.size ≤ y.block ∧ y.block < wr.heap.size from fun y hy => by
        have h1 := (hown y hy).1
        refine ⟨by have := hqW.out; omega, ?_⟩
        rcases hO.out.2 with ⟨h1, _⟩ | ⟨g', _, _, h1, hg1, hh, _⟩
        · simp at h1; rw [h1.1] at hy; cases hy
        · simp at h1; rw [hy] at h1; simp at h1; rw [h1.1]; exact lt_of_block hh)
      obtain ⟨m, hm⟩ : ∃ m : NodeR, m = ⟨⟨t.toArray⟩, false, z, pa, pc, l, zid⟩ := ⟨_, rfl⟩
      have hN' := hN.out
      rw [← hm] at hN'
      have N6 := hid hN'
      have m32 := hid (show m.sub.length = 32 by rw [hm]; rfl)
      have mnd := hid (show m.nd = ⟨t, false, z, l, zid⟩ by rw [hm]; rfl)
      have mpa := hid (show m.pa = pa by rw [hm])
      have mpp := hid (show m.parts = l by rw [hm])
      have mpc := hid (show m.pc = pc by rw [hm])
      clear hm hN' hok hown hN hO
      have msz := hid (show (Tryd.prog.info? 42).map (·.size) = some m.cells.length by rw [node_size m m32.out]; exact node_info)
      have mone := hid (node_one m)
      go_wp2_with (refine wpList_load_cells rfl 42 (.tmp 4) rfl ⟨q, 0, none⟩ rfl m.cells _ Tryd.underlying42 rfl msz.out (NAt.reads N6.out) ?_; refine halt ?_)
      refine Halt.mk ?_
      go_wp2_with (refine wpList_store_at rfl 42 (.tmp 2) (.tmp 37) rfl W.heap.size 0 m.cells rfl rfl 42 zNode hB.out msz.out (by rw [node_size m m32.out, zNode_len]; decide) mone.out ?_; refine halt ?_)
      rw [splice36 zNode m.cells (by rw [node_size m m32.out, zNode_len])]
      obtain ⟨w7, hw7⟩ : ∃ w7 : World, w7 = wr.setRow W.heap.size m.cells.toArray := ⟨_, rfl⟩
      rw [← hw7]
      refine Halt.mk ?_
      have N7 := hid (show w7.heap[W.heap.size]? = some (.cells m.cells.toArray 42 (0, 0)) by rw [hw7]; exact setRow_heap _ _ _ _ _ _ hB.out)
      have k7 : Kept [W.heap.size] wr w7 := by rw [hw7]; exact (Kept.refl _ _).setRow (fun _ => by simp) _
      have R7 := hid (hR.out.box hBd.out k7 (by have := hRb.out; have := hge.out; omega) hge.out)
      have I7 := hid (hids.out.kept k7 (fun x hx => by have h1 := hqW.out; have := hpq.out x hx; simp; omega))
      have hs7 := hid k7.size
      clear k7 hw7
      go_wp2
      refine bodyPost_ret (v := .agg m.cells.toArray) (results_cell Tryd.results34 rfl (run_ld_node N7.out (node_size m m32.out))) rfl (Or.inl ⟨⟨t, false, z, l, zid⟩, ys, m, ?_, mnd.out, rfl, ?_, m32.out, ?_, R7.out⟩)
      · unfold readN; rw [H1.out, Option.bind_some, H2.out, Option.bind_some, if_neg (show ¬ (0 : Nat) = 1 by decide), if_pos rfl, H3.out, Option.bind_some, H5.out, Option.bind_some, hl.out, Option.bind_some, hzz.out]
      · rw [mpa.out, mpp.out, mpc.out]; exact I7.out
      · intro y hy; rw [mpa.out] at hy; have := hpa.out y hy; have := hs7.out; omega

theorem t_node {W0 W : World} {rb : Nat} {a0 : Option Addr} {xs : List UInt8} (h : Rv W0 rb a0 xs W) (hb : ∀ y, a0 = some y → y.block < W0.heap.size) (hrb : rb < W0.heap.size) :
    Calls Tryd.prog 34 #[.pointer (some ⟨rb, 0, none⟩)] W (ReadN W0 W rb a0 xs) := by
  by_cases hno : ∀ r, rNum 1 xs ≠ some (0, r)
  · exact t_node_no h hb hrb hno
  · refine t_node_file h hb hrb (fun M r hM => ?_)
    have h2 : ∃ r, rNum 1 xs = some (0, r) := by
      refine Classical.byContradiction fun h3 => hno (fun r e => h3 ⟨r, e⟩)
    obtain ⟨r2, h2⟩ := h2
    rw [h2] at hM
    cases hM; rfl
end Go.Proofs.YtdojpioclojalaaDoor


/- tree.Decode's closure: the list that grows in the captured variable. -/
namespace Go.Proofs.YtdojpioclojalaaDoor
open Go.RowKit Go.Lib

theorem node_zero' : (Tryd.prog.info? 42).map (fun i => (i.zero, i.size, i.bytes)) = some (some (.agg zNode.toArray), 36, 88) := by kernel_rfl
theorem build_tnode' (nm : ByteArray) (d : Bool) (z : Int) (pa : Option Addr) (pc : Nat) (k : Nat) (b0 b1 b2 b3 b4 b5 b6 b7 b8 b9 b10 b11 b12 b13 b14 b15 b16 b17 b18 b19 b20 b21 b22 b23 b24 b25 b26 b27 b28 b29 b30 b31 : UInt8) (W : World) :
    (Instr.buildSlice 22 1 #[(0, .agg ([Value.string nm, .bool d, .int .i64 z, .slice pa k pc] ++ [b0, b1, b2, b3, b4, b5, b6, b7, b8, b9, b10, b11, b12, b13, b14, b15, b16, b17, b18, b19, b20, b21, b22, b23, b24, b25, b26, b27, b28, b29, b30, b31].map B).toArray)]).run Tryd.prog W = .ok (.slice (some ⟨W.heap.size, 0, none⟩) 1 1) (W.alloc (.cells ([Value.string nm, .bool d, .int .i64 z, .slice pa k pc] ++ [b0, b1, b2, b3, b4, b5, b6, b7, b8, b9, b10, b11, b12, b13, b14, b15, b16, b17, b18, b19, b20, b21, b22, b23, b24, b25, b26, b27, b28, b29, b30, b31].map B).toArray 42)) := by kernel_rfl
theorem build_tnode (n : NodeR) (h : n.sub.length = 32) (W : World) : (Instr.buildSlice 22 1 #[(0, .agg n.cells.toArray)]).run Tryd.prog W = .ok (.slice (some ⟨W.heap.size, 0, none⟩) 1 1) (W.alloc (.cells n.cells.toArray 42)) := by
  obtain ⟨nm, d, z, pa, pc, ps, sub⟩ := n
  unfold NodeR.cells
  match sub, h with
  | [b0, b1, b2, b3, b4, b5, b6, b7, b8, b9, b10, b11, b12, b13, b14, b15, b16, b17, b18, b19, b20, b21, b22, b23, b24, b25, b26, b27, b28, b29, b30, b31], _ => exact build_tnode' nm d z pa pc ps.length b0 b1 b2 b3 b4 b5 b6 b7 b8 b9 b10 b11 b12 b13 b14 b15 b16 b17 b18 b19 b20 b21 b22 b23 b24 b25 b26 b27 b28 b29 b30 b31 W

theorem owns_base {w : World} {base base' : Nat} {e : TypeId} {size : Nat} {v : Value} {n : Nat} {xs : List Value} (h : w.ownsRow base e size v n xs) (hb : base' ≤ base) : w.ownsRow base' e size v n xs := by
  refine ⟨h.1, ?_⟩
  rcases h.2 with h1 | ⟨g, cap, cur, h1, h2, h3⟩
  · exact Or.inl h1
  · exact Or.inr ⟨g, cap, cur, h1, by omega, h3⟩

/-- A list of nodes that grew behind B: its row, and the rows of its Parts. -/
structure Grow (B : Nat) (w : World) (pa : Option Addr) (pc : Nat) (ms : List NodeR) : Prop where
  row : w.ownsRow B 42 36 (.slice pa ms.length pc) ms.length (ms.flatMap c36)
  nodes : ∀ n ∈ ms, n.sub.length = 32 ∧ Ids w n.pa n.pc n.parts ∧ ∀ y, n.pa = some y → B ≤ y.block ∧ y.block < w.heap.size ∧ (Value.slice pa ms.length pc).ownBlock ≠ some y.block
theorem own_block_lt {w : World} {base : Nat} {e : TypeId} {size : Nat} {v : Value} {n : Nat} {xs : List Value} (h : w.ownsRow base e size v n xs) {g : Nat} (hg : v.ownBlock = some g) : base ≤ g ∧ g < w.heap.size ∧ ∃ cur, w.heap[g]? = some (.cells cur e (0, 0)) := by
  rcases h.2 with ⟨h1, _⟩ | ⟨g', cap, cur, h1, h2, h3, _⟩
  · rw [h1] at hg; simp [Value.ownBlock] at hg
  · rw [h1] at hg
    simp [Value.ownBlock] at hg
    subst hg
    exact ⟨h2, lt_of_block h3, cur, h3⟩
theorem Grow.nil (B : Nat) (w : World) : Grow B w none 0 [] := ⟨World.ownsRow_nil _ _ _ _, by simp⟩
theorem Grow.kept {L : List Nat} {B : Nat} {w w' : World} {pa : Option Addr} {pc : Nat} {ms : List NodeR} (h : Grow B w pa pc ms) (hk : Kept L w w') (hL : ∀ x ∈ L, x < B) : Grow B w' pa pc ms := by
  refine ⟨hk.owns h.row (fun g hg hm => ?_), fun n hn => ?_⟩
  · have := (own_block_lt h.row hg).1; have := hL g hm; omega
  · obtain ⟨h1, h2, h3⟩ := h.nodes n hn
    refine ⟨h1, h2.kept hk (fun y hy hm => ?_), fun y hy => ?_⟩
    · have := (h3 y hy).1; have := hL _ hm; omega
    · obtain ⟨q1, q2, q3⟩ := h3 y hy
      exact ⟨q1, by have := hk.size; omega, q3⟩
theorem Grow.base {B B' : Nat} {w : World} {pa : Option Addr} {pc : Nat} {ms : List NodeR} (h : Grow B w pa pc ms) (hb : B' ≤ B) : Grow B' w pa pc ms :=
  ⟨owns_base h.row hb, fun n hn => by
    obtain ⟨h1, h2, h3⟩ := h.nodes n hn
    exact ⟨h1, h2, fun y hy => ⟨by have := (h3 y hy).1; omega, (h3 y hy).2⟩⟩⟩
theorem Grow.push {B : Nat} {w w' : World} {pa : Option Addr} {pc : Nat} {ms : List NodeR} {n : NodeR} {b : Option Addr} {c : Nat} (h : Grow B w pa pc ms) (h32 : n.sub.length = 32) (hI : Ids w n.pa n.pc n.parts)
    (hn : ∀ y, n.pa = some y → B ≤ y.block ∧ y.block < w.heap.size ∧ (Value.slice pa ms.length pc).ownBlock ≠ some y.block)
    (ho : w'.ownsRow B 42 36 (.slice b (ms.length + 1) c) (ms.length + 1) (ms.flatMap c36 ++ c36 n)) (hg : w.grownBy w' (Value.slice pa ms.length pc).ownBlock)
    (hf : ∀ g, (Value.slice b (ms.length + 1) c).ownBlock = some g → (Value.slice pa ms.length pc).ownBlock = some g ∨ w.heap.size ≤ g) : Grow B w' b c (ms ++ [n]) := by
  refine ⟨by rw [List.length_append, List.flatMap_append]; simpa using ho, fun m hm => ?_⟩
  have hk := Kept.of_row hg
  have hall : ∀ m : NodeR, m.sub.length = 32 → Ids w m.pa m.pc m.parts → (∀ y, m.pa = some y → B ≤ y.block ∧ y.block < w.heap.size ∧ (Value.slice pa ms.length pc).ownBlock ≠ some y.block) →
      m.sub.length = 32 ∧ Ids w' m.pa m.pc m.parts ∧ ∀ y, m.pa = some y → B ≤ y.block ∧ y.block < w'.heap.size ∧ (Value.slice b (ms ++ [n]).length c).ownBlock ≠ some y.block := by
    intro m h1 h2 h3
    refine ⟨h1, h2.kept hk (fun y hy hm => ?_), fun y hy => ?_⟩
    · obtain ⟨_, _, q3⟩ := h3 y hy
      rw [Option.mem_toList] at hm
      exact q3 hm
    · obtain ⟨q1, q2, q3⟩ := h3 y hy
      refine ⟨q1, by have := hk.size; omega, fun e => ?_⟩
      rw [List.length_append] at e
      rcases hf _ (by simpa using e) with h4 | h4
      · exact q3 h4
      · omega
  rcases List.mem_append.1 hm with hm | hm
  · obtain ⟨h1, h2, h3⟩ := h.nodes m hm
    exact hall m h1 h2 h3
  · simp at hm
    subst hm
    exact hall m h32 hI hn
theorem Ids.err {w w' : World} {a : Option Addr} {c : Nat} {ids : List (List UInt8)} (h : Ids w a c ids) {x : Nat} (hx : ErrAt w x) (hk : Kept [x] w w') : Ids w' a c ids := by
  refine ⟨h.le, h.max, h.nil, fun y hy i id hi => ?_⟩
  obtain ⟨h1, h2⟩ := h.at_ y hy i id hi
  refine ⟨h1, fun k u hu => ?_⟩
  have h3 := h2 k u hu
  obtain ⟨n, hn⟩ := hx
  have hne : ((y.add (i * 32)).add k).block ≠ x := by
    intro e
    have h4 := h3
    unfold World.cell? at h4
    rw [e, hn] at h4
    simp only at h4
    split at h4
    · cases h4
    · rcases ho : ((y.add (i * 32)).add k).off with _ | off
      · rw [ho] at h4; simp [B] at h4
      · rw [ho] at h4; simp at h4
  rw [hk.cell (World.block_lt_of_cell? w _ h3) (by simpa using hne)]
  exact h3
theorem Grow.err {B : Nat} {w w' : World} {pa : Option Addr} {pc : Nat} {ms : List NodeR} (h : Grow B w pa pc ms) {x : Nat} (hx : ErrAt w x) (hk : Kept [x] w w') : Grow B w' pa pc ms := by
  refine ⟨hk.owns h.row (fun g hg hm => ?_), fun n hn => ?_⟩
  · obtain ⟨_, _, cur, h3⟩ := own_block_lt h.row hg
    obtain ⟨k, hk⟩ := hx
    simp at hm
    subst hm
    rw [h3] at hk
    simp at hk
  · obtain ⟨h1, h2, h3⟩ := h.nodes n hn
    exact ⟨h1, h2.err hx hk, fun y hy => ⟨(h3 y hy).1, by have := (h3 y hy).2.1; have := hk.size; omega, (h3 y hy).2.2⟩⟩

def rList (xs : List UInt8) : Option (List Nd × List UInt8) := (rCnt 512 xs).bind fun p => readL p.1 p.2
theorem readL_snoc : ∀ (i : Nat) (xs : List UInt8), readL (i + 1) xs = (readL i xs).bind fun p => (readN p.2).bind fun q => some (p.1 ++ [q.1], q.2)
  | 0, xs => by
    show ((readN xs).bind fun p => (readL 0 p.2).bind fun q => some (p.1 :: q.1, q.2)) = _
    unfold readL; rfl
  | i + 1, xs => by
    show ((readN xs).bind fun p => (readL (i + 1) p.2).bind fun q => some (p.1 :: q.1, q.2)) = ((readN xs).bind fun p => (readL i p.2).bind fun q => some (p.1 :: q.1, q.2)).bind _
    cases h : readN xs with
    | none => rfl
    | some p =>
      simp only [Option.bind_some]
      rw [readL_snoc i p.2]
      cases h2 : readL i p.2 with
      | none => rfl
      | some q =>
        simp only [Option.bind_some]
        cases readN q.2 <;> rfl
theorem readL_none {i : Nat} {xs : List UInt8} (h : readL i xs = none) : ∀ k, readL (i + k) xs = none
  | 0 => h
  | k + 1 => by rw [← Nat.add_assoc, readL_snoc, readL_none h k]; rfl

/-- Behind the reading: what the variable holds. -/
def TrQ (B ps : Nat) (xs : List UInt8) (n : Int) (rest : List UInt8) (W' : World) : Prop :=
  (n = 0 ∧ ∃ (ms : List NodeR) (pa : Option Addr) (pc : Nat), rList xs = some (ms.map NodeR.nd, rest) ∧ ms.length ≤ 512 ∧ W'.heap[ps]? = some (.cells #[.slice pa ms.length pc] 22 (0, 0)) ∧ Grow B W' pa pc ms) ∨ (n ≠ 0 ∧ rList xs = none ∧ ∃ o, W'.heap[ps]? = some o)

/-- A reader in block rb, and the variable in block ps that is written, too. -/
def Rp (W : World) (rb ps : Nat) (a0 : Option Addr) (ys : List UInt8) (w : World) : Prop :=
  ∃ a c, Rd w rb a c ys ∧ Kept [rb, ps] W w ∧ ∀ x, a = some x → ∃ y, a0 = some y ∧ x.block = y.block

theorem Rp.kept {L : List Nat} {W w w' : World} {rb ps : Nat} {a0 : Option Addr} {ys : List UInt8} (h : Rp W rb ps a0 ys w) (hk : Kept L w w') (h1 : rb ∉ L) (h2 : ∀ y, a0 = some y → y.block ∉ L) (h3 : ∀ x ∈ L, x < W.heap.size → x = ps) : Rp W rb ps a0 ys w' := by
  obtain ⟨a, c, q1, q2, q3⟩ := h
  refine ⟨a, c, q1.kept hk h1 (fun x hx => by obtain ⟨y, hy, e⟩ := q3 x hx; rw [e]; exact h2 y hy), q2.trans' hk (fun x hx hm => by simp [h3 x hm hx]), q3⟩

set_option maxRecDepth 100000 in
set_option maxHeartbeats 2000000 in
theorem t_decode1 (rb ps : Nat) (a0 : Option Addr) (c0 : Nat) (xs : List UInt8) (W : World) (h : Rd W rb a0 c0 xs) (hab : ∀ x, a0 = some x → x.block < W.heap.size ∧ x.block ≠ ps) (hp : W.heap[ps]? = some (.cells #[.slice none 0 0] 22 (0, 0))) (hne : ps ≠ rb) :
    Calls Tryd.prog 32 #[.pointer (some ⟨rb, 0, none⟩), .pointer (some ⟨ps, 0, none⟩)] W (Threw (ReadOn rb a0 [ps] W (TrQ W.heap.size ps xs))) := by
  have hcnt := hid (t_count2 (Rv.new h) (fun y hy => (hab y hy).1) 512 (by decide))
  have Hp := hid hp; have Hne := hid hne; have Hab := hid hab
  have hrbW := hid (lt_of_block h.here); have hpsW := hid (lt_of_block hp)
  clear h hab hp hne
  obtain ⟨i0, hi0, hz0, hz1, hz2⟩ := info_parts node_zero'
  go_enter Tryd.func32, Tryd.ntmps32
  go_wp2_with fail
  refine hcnt.out.mono ?_
  rintro e w1 (⟨K, r5, h5, rfl, hR, hk⟩ | ⟨hn, ⟨n, hn0, older, rfl, hcalm⟩, ys, a, c, q1, q2, q3⟩)
  rotate_left
  · exact ⟨rfl, Or.inr ⟨n, ⟨older, rfl, hcalm⟩, a, c, _, q1, q2.wider (fun x _ hm => by simp at hm ⊢; simp [hm]), q3, Or.inr ⟨hn0, by unfold rList; rw [hn]; rfl, _, q2.at Hp.out (by simpa using Hne.out)⟩⟩⟩
  have H5 := hid h5
  have hK := hid (rCnt_get h5).2
  have P5 := hid (hk.at Hp.out (by simpa using Hne.out))
  have R5 := hid (show Rp W rb ps a0 r5 w1 from by
    obtain ⟨a, c, q1, q2, q3⟩ := hR
    exact ⟨a, c, q1, q2.wider (fun x _ hm => by simp at hm ⊢; simp [hm]), q3⟩)
  clear h5 hR hk
  clear hcnt
  go_wp2_with fail
  go_loopw [5] (fun s wr => ∃ (i : Nat) (ys : List UInt8) (ms : List NodeR) (pa : Option Addr) (pc : Nat), i ≤ K ∧ s = .int .i64 i ∧ Hid (readL i r5 = some (ms.map NodeR.nd, ys)) ∧ Hid (Rp W rb ps a0 ys wr) ∧ Hid (wr.heap[ps]? = some (.cells #[.slice pa ms.length pc] 22 (0, 0))) ∧ Hid (Grow W.heap.size wr pa pc ms)) (fun s _ => K - (intOf s).toNat)
  case atStart => exact ⟨0, r5, [], none, 0, Nat.zero_le _, rfl, hid rfl, R5, P5, hid (Grow.nil _ _)⟩
  case round =>
    obtain ⟨i, ys, ms, pa, pc, hi, rfl, hl, hR, hP, hG⟩ := hrel
    have hll := hid (show ms.length = i by have := (readL_get i hl.out).1; simpa using this)
    by_cases hlt : i < K
    · have hlt2 := hid hlt
      have Rd0 := hid (show Rp W rb ps a0 ys wr.drew from by
        obtain ⟨a, c, q1, q2, q3⟩ := hR.out
        exact ⟨a, c, q1.kept (Kept.of_drew [] wr) (by simp) (fun _ _ => by simp), q2.drew, q3⟩)
      have hPd := hid (show wr.drew.heap[ps]? = some (.cells #[.slice pa ms.length pc] 22 (0, 0)) from hP.out)
      have hGd := hid (hG.out.kept (Kept.of_drew [] wr) (by simp))
      go_wp2_with fail
      refine wp_region_held_drew (S := fun _ => True) (by kernel_rfl) trivial (fun hH => ?_)
      generalize wr.drew = wd at *
      refine takeH 1 (.pointer (some ⟨rb, 0, none⟩)) rfl (by kernel_rfl) (by kernel_rfl) (by kernel_rfl) (fun _ _ _ h => h) (by rfl) (fun w _ => by go_simp) hH ?_
      simp only [Act.put, List.setIfInBounds_toArray, List.set_cons_succ, List.set_cons_zero]
      have hcd := cell_of_row _ _ 0 _ _ _ hPd.out
      rw [show (#[Value.slice pa ms.length pc])[0]? = some (.slice pa ms.length pc) from rfl] at hcd
      obtain ⟨a, c, q1, q2, q3⟩ := Rd0.out
      have hsd := hid q2.size
      have hnode := hid (t_node (Rv.new q1) (fun y hy => by obtain ⟨x, hx, e⟩ := q3 y hy; have := (Hab.out x hx).1; have := hsd.out; omega) (by have := hrbW.out; have := hsd.out; omega))
      have Q2 := hid q2; have Q3 := hid q3
      clear q1 q2 q3
      refine callLoadBuildX 2 0 3 rfl rfl rfl (by kernel_rfl) (by kernel_rfl) (by kernel_rfl) (by kernel_rfl) (by kernel_rfl) (.slice pa ms.length pc) (by rfl) (by rfl) (by rfl) (fun _ => by rfl) (fun _ => by rfl) (fun _ => by rfl) (fun _ _ => by rfl) 34 #[.pointer (some ⟨rb, 0, none⟩)] (by go_simp) (by go_simp) (by go_simp) trivial (by kernel_rfl) (by kernel_rfl) (fun _ => rfl) (fun _ _ => rfl) (hnode.out.mono ?_)
      rintro e w1 (⟨n, r, m, h6, hnd, rfl, hI6, hs6, hb6, hR6⟩ | ⟨hno, ⟨n, hn0, older, rfl, hcalm⟩, ys', hR6⟩)
      rotate_left
      · obtain ⟨a', c', p1, p2, p3⟩ := hR6
        refine Or.inr ⟨_, rfl, ?_, ?_⟩ <;> exact ⟨rfl, Or.inr ⟨n, ⟨older, rfl, hcalm⟩, a', c', _, p1, Q2.out.trans (p2.wider (fun x _ hm => by simp at hm ⊢; simp [hm])), fun x hx => by
            obtain ⟨y, hy, e⟩ := p3 x hx
            obtain ⟨z, hz, e2⟩ := Q3.out y hy
            exact ⟨z, hz, e.trans e2⟩, Or.inr ⟨hn0, by
          have hnx : readL (i + 1) r5 = none := by rw [readL_snoc, hl.out, Option.bind_some, hno]; rfl
          have hall : readL K r5 = none := by have := readL_none hnx (K - (i + 1)); rwa [show i + 1 + (K - (i + 1)) = K by omega] at this
          unfold rList; rw [H5.out, Option.bind_some]; exact hall, _, p2.at hPd.out (by simpa using Hne.out)⟩⟩⟩
      have hP1 := hid (hR6.kept.at hPd.out (by simpa using Hne.out))
      have hG1 := hid (hGd.out.kept hR6.kept (by have := hrbW.out; simp; omega))
      have hR1 := hid (show Rp W rb ps a0 r w1 from by
        obtain ⟨a', c', p1, p2, p3⟩ := hR6
        exact ⟨a', c', p1, Q2.out.trans (p2.wider (fun x _ hm => by simp at hm ⊢; simp [hm])), fun x hx => by
            obtain ⟨y, hy, e⟩ := p3 x hx
            obtain ⟨z, hz, e2⟩ := Q3.out y hy
            exact ⟨z, hz, e.trans e2⟩⟩)
      have hb7 := hid (show ∀ y, m.pa = some y → W.heap.size ≤ y.block ∧ y.block < w1.heap.size ∧ (Value.slice pa ms.length pc).ownBlock ≠ some y.block from fun y hy => by
        obtain ⟨p1, p2⟩ := hb6 y hy
        refine ⟨by have := hsd.out; omega, p2, fun e => ?_⟩
        have := (own_block_lt hGd.out.row e).2.1
        omega)
      have hI7 := hid hI6; have h32 := hid hs6; have H6 := hid h6; have HND := hid hnd
      have hbn := build_tnode m hs6 w1
      have hc36 := hid (c36_of hs6)
      obtain ⟨w2, hw2⟩ : ∃ w2 : World, w2 = w1.alloc (.cells m.cells.toArray 42) := ⟨_, rfl⟩
      rw [← hw2] at hbn
      have hk2 : Kept [] w1 w2 := by rw [hw2]; exact (Kept.refl [] w1).alloc _
      have hnew := hid (show ∀ (j : Nat) u, (c36 m)[j]? = some u → w2.cell? ((⟨w1.heap.size, 0, none⟩ : Addr).add j) = some u from by
        intro j u hj
        rw [hc36.out] at hj
        have e : (⟨w1.heap.size, 0, none⟩ : Addr).add j = ⟨w1.heap.size, j, none⟩ := by unfold Addr.add; split <;> simp_all
        rw [e, hw2, cell_of_row _ _ j _ _ _ (heap_alloc_at rfl)]; simpa using hj)
      have hP2 := hid (hk2.at hP1.out (by simp))
      have hG2 := hid (hG1.out.kept hk2 (by simp))
      have hR2 := hid (hR1.out.kept hk2 (by simp) (fun _ _ => by simp) (by simp))
      have hI2 := hid (hI7.out.kept hk2 (by simp))
      have hsz2 := hid hk2.size
      have hsw1 := hid (show W.heap.size ≤ w1.heap.size by have := hsd.out; have := hR6.kept.size; omega)
      have hc1 := cell_of_row _ _ 0 _ _ _ hP1.out
      have hc2 := cell_of_row _ _ 0 _ _ _ hP2.out
      rw [show (#[Value.slice pa ms.length pc])[0]? = some (.slice pa ms.length pc) from rfl] at hc1 hc2
      clear hw2
      refine Or.inl ⟨_, .slice (some ⟨w1.heap.size, 0, none⟩) 1 1, w2, rfl, trivial, trivial, by go_simp, (by unfold execOp; simp [Act.eval, Act.put, hbn]), (by unfold execOp; simp [Act.eval, Act.put, hbn]), by go_simp, ?_⟩
      clear hcd hc1 hc2 hR6 h6 hs6 hb6 hI6 hR hP hG Rd0 hPd hGd hbn hk2 hnode hnd
      simp only [Act.put, List.setIfInBounds_toArray, List.set_cons_succ, List.set_cons_zero]
      refine appendKH 4 rfl (by kernel_rfl) rfl (.tmp 7) (.tmp 10) 22 rfl W.heap.size 42 i0 _ 36 88 Tryd.underlying22 hi0 hz0 hz1 hz2 (by rw [Value.cells, List.size_toArray, zNode_len]) (by decide) (.slice pa ms.length pc) ms.length _ rfl hG2.out.row (.slice (some ⟨w1.heap.size, 0, none⟩) 1 1) 1 (c36 m) rfl (Or.inr ⟨_, _, rfl, hnew.out⟩) (by rw [c36_len]) (by have := c36_one [m]; simpa using this) (by have := hll.out; have := hK.out; unfold maxLen; omega) (by have := hll.out; have := hK.out; omega) (by have := hsw1.out; have := hsz2.out; omega) ?_
      intro b c w3' hown hgrow _ hfr
      refine ⟨trivial, ?_⟩
      simp only [Act.put, List.setIfInBounds_toArray, List.set_cons_succ, List.set_cons_zero]
      have hne : ∀ k, (Value.slice pa ms.length pc).ownBlock = some k → W.heap.size ≤ k := fun k hk => (own_block_lt hG2.out.row hk).1
      have hP3 := hid (heap_grown hgrow hP2.out (fun e => by have := hne _ e; have := hpsW.out; omega))
      have hR3 := hid (hR2.out.kept (Kept.of_row hgrow) (fun hm => by rw [Option.mem_toList] at hm; have := hne _ hm; have := hrbW.out; omega) (fun y hy hm => by rw [Option.mem_toList] at hm; have := hne _ hm; have := (Hab.out y hy).1; omega) (fun x hm hx => by rw [Option.mem_toList] at hm; have := hne _ hm; omega))
      have hG3 := hid (hG2.out.push h32.out hI2.out (fun y hy => by obtain ⟨p1, p2, p3⟩ := hb7.out y hy; exact ⟨p1, by have := hsz2.out; omega, p3⟩) hown hgrow hfr)
      have g3 := cell_of_row _ _ 0 _ _ _ hP3.out
      rw [show (#[Value.slice pa ms.length pc])[0]? = some (.slice pa ms.length pc) from rfl] at g3
      have f3 := n_free_row hP3.out 0
      clear hown hgrow hne hfr hP2 hG2 hR2 hI2 hnew hI7
      obtain ⟨w4', hw4'⟩ : ∃ w4' : World, w4' = w3'.setCell ⟨ps, 0, none⟩ (.slice b (ms.length + 1) c) := ⟨_, rfl⟩
      refine writeH 5 rfl (by kernel_rfl) (by rfl) w4' (by rw [hw4']; go_simp) trivial ?_
      simp only [Act.put, List.setIfInBounds_toArray, List.set_cons_succ, List.set_cons_zero]
      have k4 : Kept [ps] w3' w4' := by rw [hw4']; exact (Kept.refl _ _).setCell (fun _ => by simp) _
      have hP4 := hid (show w4'.heap[ps]? = some (.cells #[.slice b (ms ++ [m]).length c] 22 (0, 0)) by
        rw [hw4', Go.heap_setCell_same w3' ps 0 _ _ _ hP3.out]; simp)
      have hR4 := hid (hR3.out.kept k4 (by have := Hne.out; simp; omega) (fun y hy => by have := (Hab.out y hy).2; simpa using this) (by simp))
      have hG4 := hid (hG3.out.kept k4 (by have := hpsW.out; simpa using this))
      clear k4 hw4' g3 f3 hP3 hR3 hG3
      refine wpAnyH_done (by kernel_rfl) ?_ _
      have hKb : K ≤ 512 := hK.out
      go_wp2
      go_roundw
      case rel => exact ⟨i + 1, r, ms ++ [m], b, c, hlt2.out, by go_num, hid (by rw [readL_snoc, hl.out, Option.bind_some, H6.out, Option.bind_some, List.map_append, ← HND.out]; rfl), hR4, hP4, hG4⟩
      case measure => simp [intOf]; have := hlt2.out; omega
    · have hin : i = K := by omega
      subst hin
      clear hlt hi
      go_wp2
      go_end0
      obtain ⟨a, c, q1, q2, q3⟩ := hR.out
      exact Or.inl ⟨rfl, a, c, ys, q1, q2, q3, Or.inl ⟨rfl, ms, pa, pc, by unfold rList; rw [H5.out, Option.bind_some]; exact hl.out, by have := hK.out; have := hll.out; omega, hP.out, hG.out⟩⟩
end Go.Proofs.YtdojpioclojalaaDoor


/- tree.Blobs. -/
namespace Go.Proofs.YtdojpioclojalaaDoor
open Go.RowKit Go.Lib

/-- The sums that handed nodes name. -/
def sumsR (ns : List NodeR) : List (List UInt8) := sumsL (ns.map NodeR.nd)
theorem sumsR_append (a b : List NodeR) : sumsR (a ++ b) = sumsR a ++ sumsR b := by unfold sumsR sumsL; simp
theorem sumsR_one (n : NodeR) : sumsR [n] = if n.dir = true then [n.sub] else n.parts := by unfold sumsR sumsL; simp [Nd.sums, NodeR.nd]
theorem sumsR_take (ns : List NodeR) (i : Nat) : (sumsR (ns.take i)).length ≤ (sumsR ns).length := by
  have h := congrArg (fun l => (sumsR l).length) (List.take_append_drop i ns)
  simp only [sumsR_append, List.length_append] at h
  omega

theorem run_append_none_c {P : Program} {w : World} (base : Nat) (t ty e : TypeId) (i : TypeInfo) (size c : Nat) (ht : P.underlying t = some (.slice e)) (hi : P.info? e = some i)
    (v : Value) (n : Nat) (xs : List Value) (hown : w.ownsRow base e size v n xs) : (Builtin.append_ #[t, t] ty #[v, .slice none 0 c]).run P w = .ok v w := by
  rcases hown.2 with ⟨rfl, rfl⟩ | ⟨g, cap, cur, rfl, _, _, hnc, _⟩
  · simp [Builtin.append_, run_underlying ht, sizeOf, typeInfo, hi, Builtin.lenOf, Builtin.firstCells]
  · simp [Builtin.append_, run_underlying ht, sizeOf, typeInfo, hi, Builtin.lenOf, Builtin.firstCells, hnc, storeCells]
theorem wpList_append_ids {P : Program} {w : World} {ops : Array Oper} {rest : List Oper} {o : Oper} {a : Act} {Q : Exit → Act → World → Prop} (hgd : o.guard = none) (s x : Operand) (t : TypeId)
    (ho : o.op = .call { callee := .builtin .append, args := #[s, x], argTypes := #[t, t] }) (base : Nat) (e : TypeId) (i : TypeInfo) (z : Value) (bytes : Nat) (ht : P.underlying t = some (.slice e)) (hi : P.info? e = some i) (hz : i.zero = some z)
    (hsize : i.size = 32) (hby : i.bytes = bytes) (hzs : z.cells.size = 32) (v : Value) (n : Nat) (xs : List Value) (hs : a.eval s = v) (hown : w.ownsRow base e 32 v n xs)
    (pa : Option Addr) (pc : Nat) (ids : List (List UInt8)) (hI : Ids w pa pc ids) (hx : a.eval x = .slice pa ids.length pc)
    (h63 : n + ids.length ≤ maxLen) (hbytes : (n + ids.length) * bytes ≤ 140737488355328) (hbase : base ≤ w.heap.size)
    (h : ∀ v' w', w'.ownsRow base e 32 v' (n + ids.length) (xs ++ ids.flatMap e32) → w.grownBy w' v.ownBlock → (∀ g, v'.ownBlock = some g → v.ownBlock = some g ∨ w.heap.size ≤ g) → wpList P ops Q rest (a.put o.dst v') w') :
    wpList P ops Q (o :: rest) a w := by
  cases pa with
  | none =>
    have h0 := hI.nil rfl
    subst h0
    refine wpList_plain hgd fun K hK => ?_
    have hr := run_append_none_c (P := P) (w := w) base t o.type e i 32 pc ht hi v n xs hown
    unfold Oper.wp execOp
    simp only [ho, resolve, invoke, builtin, Sem.run_bind, Sem.run_pure, Result.andThen_ok, List.map_toArray, List.map_cons, List.map_nil, hs, hx, List.length_nil, hr]
    exact hK _ _ (h v w (by simpa using hown) ⟨rfl, rfl, rfl, Nat.le_refl _, fun _ _ _ => rfl⟩ (fun g hg => Or.inl hg))
  | some y =>
    exact wpList_append_k w hgd s x t ho base e i z 32 bytes ht hi hz hsize hby hzs (by decide) v n xs hs hown (.slice (some y) ids.length pc) ids.length _ hx (Or.inr ⟨y, pc, rfl, hI.cells y rfl⟩) (flat_len e32 32 e32_len ids) (e32_one ids) h63 hbytes hbase
      (fun v' w' h1 h2 _ h4 => h v' w' h1 h2 h4)

set_option maxRecDepth 100000 in
set_option maxHeartbeats 4000000 in
theorem t_blobs (a : Option Addr) (c : Nat) (ns : List NodeR) (w : World) (h : ∀ wr, Kept [] w wr → Nodes wr a c ns) (hl : (sumsR ns).length ≤ 100000000) :
    Calls Tryd.prog 38 #[.slice a ns.length c] w fun e w' => ∃ b pa pc, e = .returned (.func (.func 84) #[] #[.pointer (some ⟨b, 0, none⟩)]) ∧ Kept [] w w' ∧ w.heap.size ≤ b ∧ VAt w' b pa pc (sumsR ns) ∧ ∀ x, pa = some x → w.heap.size ≤ x.block ∧ x.block ≠ b := by
  obtain ⟨i0, hi0, hz0, hz1, hz2⟩ := info_parts id_zero
  have H := hid h
  have hmx := (h w (Kept.refl [] w)).max
  have hle := (h w (Kept.refl [] w)).le
  have hS32 := hid (show ∀ n ∈ ns, n.sub.length = 32 ∧ ∀ id ∈ n.parts, id.length = 32 from fun n hn => by
    cases a with
    | none => rw [(h w (Kept.refl [] w)).nil rfl] at hn; simp at hn
    | some x =>
      obtain ⟨i, hi, he⟩ := List.getElem_of_mem hn
      have h1 := (h w (Kept.refl [] w)).at_ x rfl i n (by rw [List.getElem?_eq_getElem hi, he])
      exact ⟨h1.2.2.2.2.2.1, h1.2.2.2.2.2.2.1.h32⟩)
  clear h
  have hzv := zero_node
  have hbd := hid (sumsR_take ns)
  have hst := hid (World.ownsRow_nil w w.heap.size 40 32)
  go_enter Tryd.func38, Tryd.ntmps38
  go_wp2_with fail
  go_loopw [3, 8] (fun v s wr => ∃ i : Nat, i ≤ ns.length ∧ s = .int .i64 i ∧ Kept [] w wr ∧ Hid (wr.ownsRow w.heap.size 40 32 v (sumsR (ns.take i)).length ((sumsR (ns.take i)).flatMap e32))) (fun _ s _ => ns.length - (intOf s).toNat)
  case atStart => exact ⟨0, Nat.zero_le _, rfl, Kept.refl _ _, hid (by simpa [sumsR, sumsL] using hst.out)⟩
  case round =>
    obtain ⟨i, hi, rfl, hk, hown⟩ := hrel
    have HK := hid hk
    clear hk
    by_cases hlt : i < ns.length
    · cases a with
      | none => exact absurd ((H.out w (Kept.refl _ _)).nil rfl) (fun e => by rw [e] at hlt; simp at hlt)
      | some x =>
        have hnode := (H.out wr HK.out).at_ x rfl i ns[i] (by simp [hlt])
        have htk := hid (show sumsR (ns.take (i + 1)) = sumsR (ns.take i) ++ (if ns[i].dir = true then [ns[i].sub] else ns[i].parts) from by
          rw [List.take_succ_eq_append_getElem hlt, sumsR_append, sumsR_one])
        have hb1 := hid (hbd.out (i + 1))
        have hlt2 := hid hlt
        generalize ns[i] = n at *
        have h32 := hid hnode.2.2.2.2.2.1
        have hids := hid hnode.2.2.2.2.2.2.1
        have hreads := hid hnode.reads
        have hsz := hid (show (Tryd.prog.info? 42).map (·.size) = some n.cells.length by rw [node_size n h32.out]; exact node_info)
        have hfit := hid (show 0 + n.cells.length ≤ zNode.length by rw [node_size n h32.out, zNode_len]; decide)
        have hone := hid (node_one n)
        have hspl := hid (splice36 zNode n.cells (by rw [node_size n h32.out, zNode_len]))
        clear hnode
        obtain ⟨S0, hS0⟩ : ∃ S0, S0 = sumsR (ns.take i) := ⟨_, rfl⟩
        rw [← hS0] at hown htk
        go_wp2_with (refine wpList_load_cells rfl 42 (.tmp 10) rfl (x.add (i * 36)) rfl n.cells _ Tryd.underlying42 rfl hsz.out hreads.out ?_; refine halt ?_)
        refine Halt.mk ?_
        go_wp2_with (refine wpList_store_at rfl 42 (.tmp 5) (.tmp 11) rfl wr.heap.size 0 n.cells rfl rfl 42 zNode (heap_alloc_at rfl) hsz.out hfit.out hone.out ?_; refine halt ?_)
        rw [hspl.out]
        obtain ⟨wb, hwb⟩ : ∃ wb : World, wb = (wr.alloc (.cells zNode.toArray 42)).setRow wr.heap.size n.cells.toArray := ⟨_, rfl⟩
        rw [← hwb]
        refine Halt.mk ?_
        have hkr := hid (show Kept [] wr wb by rw [hwb]; exact ((Kept.refl [] wr).alloc _).setRow (fun h => absurd h (Nat.lt_irrefl _)) _)
        have hqb : NAt wb wr.heap.size n := by rw [hwb]; exact setRow_heap _ _ _ _ _ _ (heap_alloc_at rfl)
        have HA := hid hqb
        have c1 := hqb.cell 1 _ n.c1
        have c3 := hqb.cell 3 _ n.c3
        have ho2 := hid (hkr.out.owns hown.out (by simp))
        have hidb := hid (hids.out.kept hkr.out (by simp))
        have hsb := hid (show w.heap.size ≤ wb.heap.size by have h1 := HK.out.size; have h2 := hkr.out.size; omega)
        clear hwb hreads hqb
        obtain ⟨d, hd⟩ : ∃ d, d = n.dir := ⟨_, rfl⟩
        rw [← hd] at c1 htk
        clear hd
        cases d
        · have htk2 := hid (show sumsR (ns.take (i + 1)) = S0 ++ n.parts by rw [htk.out, if_neg (by simp)])
          have hm := hid (show S0.length + n.parts.length ≤ 100000000 from by
            have h1 := hb1.out; rw [htk2.out, List.length_append] at h1; omega)
          go_wp2_with (at_builtin; refine halt ?_)
          refine Halt.mk ?_
          refine wpList_append_ids rfl _ _ _ rfl w.heap.size 40 i0 _ 32 Tryd.underlying38 hi0 hz0 hz1 hz2 (by rw [Value.cells]; rfl) u3 S0.length _ rfl ho2.out n.pa n.pc n.parts hidb.out rfl (by have := hm.out; unfold maxLen; omega) (by have := hm.out; omega) hsb.out ?_
          intro v2 w2 hown2 hgrow2 hf2
          have hk2 := hid (show Kept [] w w2 from (HK.out.trans hkr.out).trans' (Kept.of_row hgrow2) (fun y hy hm => by
            rw [Option.mem_toList] at hm
            have := (own_block_lt hown.out hm).1; omega))
          rw [← List.length_append, ← List.flatMap_append, ← htk2.out] at hown2
          have Ho := hid hown2
          have hin := hlt2.out
          clear hown2 hgrow2 hf2 c1 c3
          go_wp2
          go_roundw
          case rel => exact ⟨i + 1, hin, by go_num, hk2.out, Ho⟩
          case measure => simp [intOf]; omega
        · have htk2 := hid (show sumsR (ns.take (i + 1)) = S0 ++ [n.sub] by rw [htk.out, if_pos rfl])
          have hm := hid (show S0.length + 1 ≤ 100000000 from by
            have h1 := hb1.out; rw [htk2.out, List.length_append, List.length_singleton] at h1; omega)
          have hsub := hid (HA.out.sub h32.out).reads
          have hszi := hid (show (Tryd.prog.info? 40).map (·.size) = some (n.sub.map B).length by rw [List.length_map, h32.out]; exact ninfo32)
          have hbn := hid (build_id n.sub h32.out)
          go_wp2_with (first | (refine wpList_load_cells rfl 40 (.tmp 15) rfl ⟨wr.heap.size, 4, none⟩ rfl (n.sub.map B) _ Tryd.underlying40 rfl hszi.out hsub.out ?_) | (refine wpList_buildSlice1 rfl _ _ _ rfl (.slice (some ⟨wb.heap.size, 0, none⟩) 1 1) (wb.alloc (.cells (n.sub.map B).toArray 40)) (by have h := hbn.out wb; unfold execOp; simp [Act.eval, Act.put, h]) ?_; refine halt ?_))
          refine Halt.mk ?_
          obtain ⟨wc, hwc⟩ : ∃ wc : World, wc = wb.alloc (.cells (n.sub.map B).toArray 40) := ⟨_, rfl⟩
          rw [← hwc]
          have hkc := hid (show Kept [] wr wc from by rw [hwc]; exact hkr.out.alloc _)
          have hnew := hid (show ∀ (j : Nat) u, (e32 n.sub)[j]? = some u → wc.cell? ((⟨wb.heap.size, 0, none⟩ : Addr).add j) = some u from by
            intro j u hj
            rw [e32_of h32.out] at hj
            have e : (⟨wb.heap.size, 0, none⟩ : Addr).add j = ⟨wb.heap.size, j, none⟩ := by unfold Addr.add; split <;> simp_all
            rw [e, hwc, cell_of_row _ _ j _ _ _ (heap_alloc_at rfl)]; simpa using hj)
          have ho3 := hid (hkc.out.owns hown.out (by simp))
          have hsc := hid (show w.heap.size ≤ wc.heap.size by have h1 := HK.out.size; have h2 := hkc.out.size; omega)
          clear hwc c1 c3
          go_wp2_with (at_builtin; refine halt ?_)
          refine Halt.mk ?_
          refine wpList_append_k _ rfl _ _ _ rfl w.heap.size 40 i0 _ 32 32 Tryd.underlying38 hi0 hz0 hz1 hz2 (by rw [Value.cells]; rfl) (by decide) u3 S0.length _ rfl ho3.out (.slice (some ⟨wb.heap.size, 0, none⟩) 1 1) 1 (e32 n.sub) rfl (Or.inr ⟨_, _, rfl, hnew.out⟩) (by rw [e32_len]) (by have := e32_one [n.sub]; simpa using this) (by have := hm.out; unfold maxLen; omega) (by have := hm.out; omega) hsc.out ?_
          intro v2 w2 hown2 hgrow2 _ hf2
          have hk2 := hid (show Kept [] w w2 from (HK.out.trans hkc.out).trans' (Kept.of_row hgrow2) (fun y hy hm => by
            rw [Option.mem_toList] at hm
            have := (own_block_lt hown.out hm).1; omega))
          rw [show S0.length + 1 = (S0 ++ [n.sub]).length by simp, show S0.flatMap e32 ++ e32 n.sub = (S0 ++ [n.sub]).flatMap e32 by simp, ← htk2.out] at hown2
          have Ho := hid hown2
          have hin := hlt2.out
          clear hown2 hgrow2 hf2
          go_wp2
          go_roundw
          case rel => exact ⟨i + 1, hin, by go_num, hk2.out, Ho⟩
          case measure => simp [intOf]; omega
    · have hin : i = ns.length := by omega
      subst hin
      rw [List.take_length] at hown
      obtain ⟨a2, c2, rfl⟩ := owns_slice hown.out
      have hall := hid (show ∀ id ∈ sumsR ns, id.length = 32 from by
        intro id hid
        unfold sumsR sumsL at hid
        obtain ⟨m, hm, hs⟩ := List.mem_flatMap.1 hid
        obtain ⟨n, hn, rfl⟩ := List.mem_map.1 hm
        obtain ⟨q1, q2⟩ := hS32.out n hn
        unfold Nd.sums at hs
        split at hs
        · simp at hs; subst hs; exact q1
        · exact q2 id hs)
      have hids := hid (ids_of_row hall.out hown.out)
      have hlt3 := hid (show ∀ x, a2 = some x → x.block < wr.heap.size from fun x hx => by
        subst hx
        have h1 := hown.out.2
        rcases h1 with ⟨h1, _⟩ | ⟨g, cap, cur, h1, _, h3, _⟩
        · simp at h1
        · simp at h1; obtain ⟨h1, _⟩ := h1; subst h1; exact lt_of_block h3)
      clear hlt hi hle hown
      go_wp2_with fail
      refine (values_any a2 c2 (sumsR ns) wr).mono ?_
      rintro e w2 ⟨rfl, rfl⟩
      go_wp2
      go_ret
      refine ⟨wr.heap.size, a2, c2, rfl, HK.out.alloc _, HK.out.size, ⟨heap_alloc_at rfl, hids.out.1.kept ((Kept.refl [] wr).alloc _) (by simp), fun x hx => by have := hlt3.out x hx; simp; omega⟩, fun x hx => ⟨(hids.out.2 x hx).1, by have := hlt3.out x hx; omega⟩⟩
end Go.Proofs.YtdojpioclojalaaDoor


/- A range over an iterator whose assignment makes a block of its own. No program is named here. -/
namespace Go.Proofs.YtdojpioclojalaaDoor
open Go.RowKit
variable {F : Fence} {n : Nat} {P : Program}

theorem range_v {α β : Type} {g : Operand} {ps : Array Tmp} {assign body : Code} {Q : Exit → Act → World → Prop} {a : Act} {w : World} (hro : F.round = none) (h1 : 1 ≤ n) {gf : Nat} {lb : Array Value}
    (hg : a.eval g = .func (.func gf) #[] lb) (hFg : F.fn gf) (eg : ∀ args w, (callFunc gf args).run P w = .ok (.enter gf args) w)
    {encs : α → Array Value} {Ft : Nat → α → World → Prop} {need : Nat → Prop} {Z Zp : List α → Prop} (hseq : SeqW F (n - 1) P gf lb encs Ft need Z Zp w) (hneed : ∀ k, need k → k < w.heap.size) (hps : ∀ x, (encs x).size = ps.size)
    (hFt : ∀ x A B, Ft (w.heap.size + 2) x A → Kept [w.heap.size + 1] A B → Ft (w.heap.size + 2) x B) (I Ix : List α → World → Prop)
    (hI : ∀ s A B, I s A → Kept [w.heap.size, w.heap.size + 1, w.heap.size + 2] A B → I s B) (hIx : ∀ s A B, Ix s A → Kept [w.heap.size, w.heap.size + 1, w.heap.size + 2] A B → Ix s B) (h0 : I [] w) (a₁ : α → β → Act) (As : α → β → World → Prop) (hAs : ∀ x p A B, As x p A → Kept [w.heap.size + 1] A B → As x p B)
    (hassign : ∀ (l : Nat) (x : α) (W : World) (K : Act → World → Prop), w.heap.size + 2 < W.heap.size → (∀ p W', Kept [] W W' → As x p W' → K (a₁ x p) W') →
      assign.wpIn (F.inRound l) (n - 1 - 1) P (Exit.then K (fun _ _ _ => False)) { tmps := (ps.zip (encs x)).foldl (fun t (p, v) => t.setIfInBounds p v) a.tmps, defers := [] } W)
    (hbody : ∀ (l : Nat) (pre : List α) (x : α) (p : β) (W : World), I pre W → Ft (w.heap.size + 2) x W → Zp (pre ++ [x]) → w.heap.size + 2 < W.heap.size → As x p W → body.wpIn (F.inRound l) (n - 1 - 1) P (WPost w.heap.size need I Ix (pre ++ [x]) W) (a₁ x p) W)
    (hFs : ∀ x A, Ft (w.heap.size + 2) x A → w.heap.size + 2 < A.heap.size)
    (hdone : ∀ (xs : List α) (W : World), Z xs → I xs W → W.heap[w.heap.size]? = some (.deferred (some [])) → Q .normal { a with defers := { target := .collected w.heap.size, args := #[] } :: a.defers } W)
    (hstop : ∀ (pre : List α) (W : World), Zp pre → Ix pre W → W.heap[w.heap.size]? = some (.deferred (some [])) → Code.ret.wpIn F n P Q { a with defers := { target := .collected w.heap.size, args := #[] } :: a.defers } W) :
    (Code.rangeFunc g ps assign body).wpIn F n P Q a w := by
  refine wpIn_rangeFunc fun fn hfn => ?_
  rw [hro]
  obtain ⟨D, hD⟩ : ∃ D, D = w.heap.size := ⟨_, rfl⟩
  let rc : LoopState → Option Code → Loop := fun st pe => { state := st, pending := pe, fn, tmps := a.tmps, params := ps, assign, body, defers := w.heap.size }
  obtain ⟨W1, hW1⟩ : ∃ W1, (w.alloc (.deferred (some []))).alloc (.loop (rc .ready none)) = W1 := ⟨_, rfl⟩
  have hsz : W1.heap.size = w.heap.size + 2 := by rw [← hW1]; simp
  have hL : W1.heap[w.heap.size + 1]? = some (.loop (rc .ready none)) := by
    rw [← hW1]; exact heap_alloc_at (by simp)
  have hK : W1.heap[w.heap.size]? = some (.deferred (some [])) := by
    rw [← hW1]; exact heap_alloc_old (heap_alloc_at rfl)
  have hk1 : Kept [w.heap.size, w.heap.size + 1, w.heap.size + 2] w W1 := by rw [← hW1]; exact ((Kept.refl _ w).alloc _).alloc _
  have hB1 : Below w.heap.size w W1 := by rw [← hW1]; exact ((Below.refl _ w).alloc (Nat.le_refl _) _).alloc (by simp) _
  refine ⟨w.heap.size + 1, [{ target := .collected w.heap.size, args := #[] }], W1, { target := .fn (.func gf) lb, args := #[.func (.yield (w.heap.size + 1)) #[] #[]] }, W1, gf,
    #[.func (.yield (w.heap.size + 1)) #[] #[]] ++ lb, W1, ?_, ?_, ?_, ?_, fun _ => h1, ?_⟩
  · rw [← hW1]; exact run_enterLoop_outer _ _ _ _ _
  · simp only [resolve, hg]; simp [go_sem]
  · intro f' hf'; simp [Target.leads] at hf'; subst hf'; exact hFg
  · simp [invoke, go_sem, eg]
  refine (hseq (w.heap.size + 1) (fun pre W => I pre W ∧ W.heap[w.heap.size + 1]? = some (.loop (rc .ready none)) ∧ W.heap[w.heap.size]? = some (.deferred (some [])))
    (fun pre W => Ix pre W ∧ W.heap[w.heap.size + 1]? = some (.loop (rc .done (some .ret))) ∧ W.heap[w.heap.size]? = some (.deferred (some []))) W1 hB1 ?_ ?_ ?_ ⟨hI _ _ _ h0 hk1, hL, hK⟩).mono ?_
  · rintro s A B ⟨ha, hb, hc⟩ hk
    rw [hsz] at hk
    exact ⟨hI _ _ _ ha (hk.wider (fun x _ hx => by simp at hx; simp [hx])), hk.at hb (by simp), hk.at hc (by simp)⟩
  · rintro s A B ⟨ha, hb, hc⟩ hk
    rw [hsz] at hk
    exact ⟨hIx _ _ _ ha (hk.wider (fun x _ hx => by simp at hx; simp [hx])), hk.at hb (by simp), hk.at hc (by simp)⟩
  · rintro pre x W ⟨ha, hb, hc⟩ hft hzp
    rw [hsz] at hft ⊢
    have hyl := run_yield (P := P) (args := encs x) hb (hps x)
    refine ⟨fn, _, assign, body, hyl, roundIn_of_wpIn hfn (hassign _ x W _ (hFs _ _ hft) (fun p Wa hka has => ⟨_, run_beginRound (hka.at hb (by simp)) rfl, ?_⟩))⟩
    have hba := hka.at hb (by simp)
    have hlt := lt_of_block hba
    obtain ⟨W2, hW2⟩ : ∃ W2, Wa.putObj (w.heap.size + 1) (.loop { rc .ready none with state := .busy }) = W2 := ⟨_, rfl⟩
    have hb2 : W2.heap[w.heap.size + 1]? = some (.loop { rc .ready none with state := .busy }) := by rw [← hW2]; exact World.putObj_heap_same hlt
    have hk2a : Kept [w.heap.size + 1] Wa W2 := by rw [← hW2]; exact kept_putObj _ _ _
    have hk2 : Kept [w.heap.size + 1] W W2 := (hka.wider (fun _ _ h => by simp at h)).trans hk2a
    have hc2 := hk2.at hc (by simp)
    have ha2 := hI _ _ _ ha (hk2.wider (fun x _ hx => by simp at hx; simp [hx]))
    rw [hW2]
    refine wpIn_mono (hbody _ pre x p W2 ha2 (hFt _ _ _ hft hk2) hzp (Nat.lt_of_lt_of_le (hFs _ _ hft) hk2.size) (hAs _ _ _ _ has hk2a)) ?_
    rintro e a3 W3 hp
    cases e with
    | normal =>
      obtain ⟨hk3, hi3⟩ := hp
      have hb3 := hk3.at hb2 (Or.inr (Or.inr (Or.inl rfl)))
      have hk4 := kept_putObj W3 (w.heap.size + 1) (.loop (rc .ready none))
      refine ⟨_, _, run_endRound none hb3, .inl ⟨rfl, ⟨hI _ _ _ hi3 (hk4.wider (fun x _ hx => by simp at hx; simp [hx])), World.putObj_heap_same (lt_of_block hb3), hk4.at (hk3.at hc2 (Or.inr (Or.inl rfl))) (by simp)⟩, ?_⟩⟩
      refine Keep.trans (Keep.trans (hk2.keep fun k hk hB => ?_) (hk3.less fun k hk hB => ?_)) (hk4.keep fun k hk hB => ?_)
      · rcases hB with h | h
        · have := hneed k h; simp; omega
        · simp; omega
      · rcases hB with h | h
        · exact Or.inl h
        · exact Or.inr (Or.inr (Or.inr h))
      · rcases hB with h | h
        · have := hneed k h; simp; omega
        · simp; omega
    | ret =>
      obtain ⟨hk3, hi3⟩ := hp
      have hb3 := hk3.at hb2 (Or.inr rfl)
      have hk4 := kept_putObj W3 (w.heap.size + 1) (.loop (rc .done (some .ret)))
      exact ⟨_, _, run_endRound (some .ret) hb3, .inr ⟨rfl, hIx _ _ _ hi3 (hk4.wider (fun x _ hx => by simp at hx; simp [hx])), World.putObj_heap_same (lt_of_block hb3), hk4.at (hk3.at hc2 (Or.inl rfl)) (by simp)⟩⟩
    | panic ch => exact hp.elim
    | exit _ => exact hp.elim
    | goto _ => exact hp.elim
    | outgrown => exact hp.elim
  · rintro e W2 ⟨⟨v, rfl⟩, (⟨xs, hS, hi, hl, hk⟩ | ⟨pre, hSp, hi, hl, hk⟩)⟩
    · have hk4 := fun o => kept_putObj W2 (w.heap.size + 1) o
      exact ⟨none, _, run_endLoop hl (by simp [rc]), hdone xs _ hS (hI _ _ _ hi ((hk4 _).wider (fun x _ hx => by simp at hx; simp [hx]))) ((hk4 _).at hk (by simp))⟩
    · have hk4 := fun o => kept_putObj W2 (w.heap.size + 1) o
      exact ⟨some .ret, _, run_endLoop hl (by simp [rc]), hstop pre _ hSp (hIx _ _ _ hi ((hk4 _).wider (fun x _ hx => by simp at hx; simp [hx]))) ((hk4 _).at hk (by simp))⟩
end Go.Proofs.YtdojpioclojalaaDoor


/- coldstorelaw10.blobs: up to so many sums. -/
namespace Go.Proofs.YtdojpioclojalaaDoor
open Go.RowKit Go.Lib
attribute [local go_sem] Oper.semAt_some

theorem wpListIn_buildSlice1 {F : Fence} {n : Nat} {P : Program} {ops : Array Oper} {rest : List Oper} {o : Oper} {a : Act} {w : World} {Q : Exit → Act → World → Prop} (hgd : o.guard = none) (t k : Nat) (parts : Array (Nat × Operand)) (ho : o.op = .buildSlice t k parts) (v : Value) (w' : World)
    (hrun : (execOp a.eval o).run P w = .ok (.value v) w') (h : wpListIn F n P ops Q rest (a.put o.dst v) w') : wpListIn F n P ops Q (o :: rest) a w := by
  refine wpListIn_plain hgd fun K hK => ?_
  unfold Oper.wpIn
  constructor
  · simp [Oper.about, ho, resolve, Target.leads, Sem.run_pure]
  · rw [Oper.semAt_plain F _ _ (by rw [ho]; intro c hc; cases hc)]
    rw [hrun]
    exact hK _ _ h

/-- The call's own variables: s is the first block. -/
structure BlB (s : Nat) (v : Value) (most : Nat) (W : World) : Prop where
  most : W.heap[s]? = some (.cells #[.int .i64 (most : Int)] 3 (0, 0))
  res : W.heap[s + 1]? = some (.cells #[.slice none 0 0] 38 (0, 0))
  out : W.heap[s + 3]? = some (.cells #[v] 38 (0, 0))
theorem BlB.kept {S : List Nat} {s most : Nat} {v : Value} {W W' : World} (h : BlB s v most W) (hk : Kept S W W') (hS : s ∉ S ∧ s + 1 ∉ S ∧ s + 3 ∉ S) : BlB s v most W' :=
  ⟨hk.at h.most hS.1, hk.at h.res hS.2.1, hk.at h.out hS.2.2⟩
structure BlI (w : World) (D : Nat) (v : Value) (pre : List (List UInt8)) (W : World) : Prop where
  row : W.ownsRow w.heap.size 40 32 v pre.length (pre.flatMap e32)
  kept : Kept [] w W
  own : ∀ g, v.ownBlock = some g → g = w.heap.size + 2 ∨ D + 2 < g
theorem BlI.keep {S : List Nat} {w : World} {D : Nat} {v : Value} {pre : List (List UInt8)} {W W' : World} (h : BlI w D v pre W) (hk : Kept S W W') (hS : ∀ k ∈ S, k ≠ w.heap.size + 2 ∧ w.heap.size ≤ k ∧ k ≤ D + 2) : BlI w D v pre W' :=
  ⟨hk.owns h.row (fun g hg hm => by rcases h.own g hg with e | e <;> have := hS g hm <;> omega), h.kept.trans' hk (fun k hl hm => by have := hS k hm; omega), h.own⟩

set_option maxRecDepth 100000 in
set_option maxHeartbeats 4000000 in
theorem t_lblobs (a : Option Addr) (c : Nat) (ns : List NodeR) (most : Nat) (w : World) (h : ∀ wr, Kept [] w wr → Nodes wr a c ns) (hl : (sumsR ns).length ≤ 100000000) (hm1 : 1 ≤ most) (hm2 : most ≤ 2000000000) :
    Calls Tryd.prog 19 #[.slice a ns.length c, .int .i64 (most : Int)] w fun e w' => ∃ a2 c2, e = .returned (.slice a2 ((sumsR ns).take most).length c2) ∧ Kept [] w w' ∧ w'.ownsRow w.heap.size 40 32 (.slice a2 ((sumsR ns).take most).length c2) ((sumsR ns).take most).length (((sumsR ns).take most).flatMap e32) := by
  have h0 : ¬ ((most : Int) ≤ 0) := by omega
  have hzv := zero_id
  have hall := hid (fun (W : World) (k : Kept [] w W) => t_blobs a c ns W (fun wr hk => h wr (k.trans hk)) hl)
  clear h
  refine (callsIn_wide (n := 4)).1 ?_
  refine callsIn_of_wp_marks Tryd.func19 rfl trivial ?_ rfl
  simp only [Tryd.ntmps19, List.size_toArray, List.length_cons, List.length_nil, Nat.reduceAdd, Nat.reduceSub, Array.replicate_succ, Array.replicate_zero, List.push_toArray, List.append_toArray, List.nil_append, List.cons_append]
  gi_wp2_with (refine ⟨trivial, ?_⟩; gi_at_call 38; refine (callsIn_wide.2 (hall.out _ (((((Kept.refl [] w).alloc _).alloc _).alloc _).alloc _))).mono ?_; rintro e w1 ⟨b, pa, pc, rfl, k1, hb, hv, hx⟩)
  obtain ⟨W0, hW0⟩ : ∃ W0, W0 = ((((w.alloc (.cells #[.int .i64 (most : Int)] 3)).alloc (.cells #[.slice none 0 0] 38)).alloc (.cells #[] 40)).alloc (.cells #[.slice (some ⟨w.heap.size + 1 + 1, 0, none⟩) 0 0] 38)) := ⟨_, rfl⟩
  have k00 : Kept [] w W0 := hW0 ▸ (((((Kept.refl [] w).alloc _).alloc _).alloc _).alloc _)
  have hB0 : BlB w.heap.size (.slice (some ⟨w.heap.size + 2, 0, none⟩) 0 0) most W0 := by
    rw [hW0]
    refine ⟨?_, ?_, ?_⟩
    · exact heap_alloc_old (heap_alloc_old (heap_alloc_old (heap_alloc_at rfl)))
    · exact heap_alloc_old (heap_alloc_old (heap_alloc_at (by simp)))
    · exact heap_alloc_at (by simp)
  have hr0 : W0.heap[w.heap.size + 2]? = some (.cells #[] 40 (0, 0)) := by
    rw [hW0]; exact heap_alloc_old (heap_alloc_at (by simp))
  have hs0 : W0.heap.size = w.heap.size + 4 := by rw [hW0]; simp
  rw [← hW0] at k1 hb hx
  rw [show w.heap.size + 1 + 1 = w.heap.size + 2 by omega]
  clear hW0 hall
  rw [hs0] at hb hx
  have hk01 := hid (k00.trans k1)
  have hB1 := hid (hB0.kept k1 (by simp))
  have hr1 := hid (k1.at hr0 (by simp))
  have hS32 := hid hv.ids.h32
  have hblt := lt_of_block hv.box
  have hneed := hid (show ∀ k, VNeed b pa k → k < w1.heap.size ∧ w.heap.size + 4 ≤ k from by
    rintro k (rfl | ⟨x, h1, rfl⟩)
    · exact ⟨hblt, hb⟩
    · exact ⟨hv.lt x h1, (hx x h1).1⟩)
  have hw1 : w.heap.size + 4 ≤ w1.heap.size := by omega
  have HV := hid hv
  clear k1 hb hx hv k00 hB0 hr0 hs0
  obtain ⟨i0, hi0, hz0, hz1, hz2⟩ := info_parts id_zero
  refine range_v (β := Nat) rfl (by omega) (gf := 84) (lb := #[.pointer (some ⟨b, 0, none⟩)]) rfl trivial (enters_of Tryd.func84 (by kernel_rfl) rfl)
    (vals_seq (4 - 1) (by omega) b pa pc (sumsR ns) w1 HV.out hl) (fun k hk => (hneed.out k hk).1) (fun _ => rfl) (fun x A B hf hk => by unfold VFt at hf ⊢; have := hk.size; omega)
    (fun pre W => pre.length < most ∧ ∃ v, BlB w.heap.size v most W ∧ BlI w w1.heap.size v pre W)
    (fun pre W => pre.length = most ∧ ∃ v, W.heap[w.heap.size + 1]? = some (.cells #[v] 38 (0, 0)) ∧ BlI w w1.heap.size v pre W) ?hI ?hIx ?h0
    (fun x p => { tmps := #[.slice a ns.length c, .int .i64 (most : Int), undef, .pointer (some ⟨w.heap.size, 0, none⟩), .pointer (some ⟨w.heap.size + 1, 0, none⟩), .pointer (some ⟨w.heap.size + 2 + 1, 0, none⟩), .pointer (some ⟨p, 0, none⟩), .slice (some ⟨w.heap.size + 2, 0, none⟩) 0 0, .int .i64 (most : Int), .bool false, undef, .slice a ns.length c, .func (.func 84) #[] #[.pointer (some ⟨b, 0, none⟩)], .agg (e32 x).toArray, undef, undef, undef, undef, undef, undef, undef, undef, undef, undef], defers := [] })
    (fun x p W => W.heap[p]? = some (.cells (e32 x).toArray 40 (0, 0)) ∧ w1.heap.size + 2 < p) (fun x p A B ⟨h1, h2⟩ hk => ⟨hk.at h1 (by simp; omega), h2⟩) ?assign ?body ?fs ?done ?stop
  case hI =>
    rintro s A B ⟨hlt, v, hb, hi⟩ hkk
    exact ⟨hlt, v, hb.kept hkk (by simp; omega), hi.keep hkk (fun k hk => by simp at hk; omega)⟩
  case hIx =>
    rintro s A B ⟨hlt, v, hb1, hi⟩ hkk
    exact ⟨hlt, v, hkk.at hb1 (by simp; omega), hi.keep hkk (fun k hk => by simp at hk; omega)⟩
  case h0 =>
    refine ⟨by show 0 < most; omega, _, hB1.out, ⟨⟨by simp, Or.inr ⟨w.heap.size + 2, 0, #[], rfl, by omega, hr1.out, by simp, by unfold maxLen; omega, by simp, by simp⟩⟩, hk01.out, fun g hg => ?_⟩⟩
    simp [Value.ownBlock] at hg; omega
  case assign =>
    intro l x W K hsz hK
    have hszi := hid (show (Tryd.prog.info? 40).map (·.size) = some (e32 x).length by rw [e32_len]; exact ninfo32)
    have hone := hid (show ∀ v ∈ e32 x, v.oneCell' = true by have := e32_one [x]; simpa using this)
    have hspl := hid (splice36 (zid.map B) (e32 x) (by rw [e32_len]; simp [zid]))
    have hfit := hid (show 0 + (e32 x).length ≤ (zid.map B).length by rw [e32_len]; simp [zid])
    have HK := hid hK
    clear hK
    dsimp only [vvals]
    gi_wp2_with (refine wpListIn_store_at rfl 40 (.tmp 6) (.tmp 13) rfl W.heap.size 0 (e32 x) rfl rfl 40 (zid.map B) (heap_alloc_at rfl) hszi.out hfit.out hone.out ?_; refine halt ?_)
    rw [hspl.out]
    refine Halt.mk ?_
    gi_wp2
    refine HK.out W.heap.size _ (((Kept.refl [] W).alloc _).setRow (fun h => absurd h (Nat.lt_irrefl _)) _) ⟨setRow_heap _ _ _ _ _ _ (heap_alloc_at rfl), hsz⟩
  case body =>
    rintro l pre x p W ⟨hlt, v, hB, hi⟩ hft hzp hsz ⟨hp, hpg⟩
    have hlen : pre.length + 1 ≤ 100000000 := by
      have := hzp.length_le; simp at this; omega
    have hx32 := hid (show x.length = 32 from hS32.out x (hzp.subset (by simp)))
    have c5 : W.cell? ⟨w.heap.size + 2 + 1, 0, none⟩ = some v := cell_of_one hB.out
    have hno := hid (show ∀ k, k < w.heap.size ∨ (k ≠ w.heap.size + 2 ∧ w.heap.size ≤ k ∧ k ≤ w1.heap.size + 2) → k ∉ v.ownBlock.toList from fun k h1 hm => by
      rw [Option.mem_toList] at hm; have h2 := (own_block_lt hi.row hm).1; rcases hi.own k hm with e | e <;> omega)
    have HB := hid hB; have Hi := hid hi; have Hl := hid hlt; have Hp := hid hp
    have hszi := hid (show (Tryd.prog.info? 40).map (·.size) = some (e32 x).length by rw [e32_len]; exact ninfo32)
    have hbn := hid (fun W => show (Instr.buildSlice 38 1 #[(0, .agg (e32 x).toArray)]).run Tryd.prog W = .ok (.slice (some ⟨W.heap.size, 0, none⟩) 1 1) (W.alloc (.cells (e32 x).toArray 40)) by rw [e32_of hx32.out]; exact build_id x hx32.out W)
    have hld := hid (show ∀ (j : Nat) u, (e32 x)[j]? = some u → W.cell? ((⟨p, 0, none⟩ : Addr).add j) = some u from fun j u hj => by
      have e : (⟨p, 0, none⟩ : Addr).add j = ⟨p, j, none⟩ := by unfold Addr.add; split <;> simp_all
      rw [e, cell_of_row W _ j _ _ _ hp]; simpa using hj)
    obtain ⟨wc, hwc⟩ : ∃ wc : World, wc = W.alloc (.cells (e32 x).toArray 40) := ⟨_, rfl⟩
    have hkc := hid (show Kept [] W wc from by rw [hwc]; exact (Kept.refl [] W).alloc _)
    have hnew := hid (show ∀ (j : Nat) u, (e32 x)[j]? = some u → wc.cell? ((⟨W.heap.size, 0, none⟩ : Addr).add j) = some u from by
      intro j u hj
      have e : (⟨W.heap.size, 0, none⟩ : Addr).add j = ⟨W.heap.size, j, none⟩ := by unfold Addr.add; split <;> simp_all
      rw [e, hwc, cell_of_row _ _ j _ _ _ (heap_alloc_at rfl)]; simpa using hj)
    have hrow := hid (hkc.out.owns hi.row (by simp))
    have hsc := hid hkc.out.size
    have hone := hid (show ∀ v ∈ e32 x, v.oneCell' = true by have := e32_one [x]; simpa using this)
    have HWC := hid hwc
    obtain ⟨q, hq⟩ : ∃ q, ((pre.length : Int) + 1 == (most : Int)) = q := ⟨_, rfl⟩
    have hQ := hid hq
    have hsw := hid (show w.heap.size ≤ W.heap.size from hi.kept.size)
    clear hB hi hft hzp hp hwc hlt
    gi_wp2_with (first | (refine wpListIn_load_cells rfl 40 (.tmp 6) rfl ⟨p, 0, none⟩ rfl (e32 x) _ Tryd.underlying40 rfl hszi.out hld.out ?_) | (refine wpListIn_buildSlice1 rfl _ _ _ rfl (.slice (some ⟨W.heap.size, 0, none⟩) 1 1) wc (by have h := hbn.out W; rw [← HWC.out] at h; unfold execOp; simp [Act.eval, Act.put, h]) ?_; refine halt ?_))
    refine Halt.mk ?_
    gi_wp2_with (gi_at_builtin; refine halt ?_)
    refine Halt.mk ?_
    refine wpListIn_append_k _ rfl _ _ _ rfl w.heap.size 40 i0 _ 32 32 Tryd.underlying38 hi0 hz0 hz1 hz2 (by rw [Value.cells]; rfl) (by decide) v pre.length _ rfl hrow.out (.slice (some ⟨W.heap.size, 0, none⟩) 1 1) 1 (e32 x) rfl (Or.inr ⟨_, _, rfl, hnew.out⟩) (by rw [e32_len]) hone.out (by unfold maxLen; omega) (by omega) (by have := hsw.out; have := hsc.out; omega) ?_
    intro v' w2 hown' hgrow hfr
    obtain ⟨a2, c2, rfl⟩ := owns_slice hown'
    have hkg := hid (show Kept v.ownBlock.toList W w2 from (hkc.out.wider (fun _ _ h => by simp at h)).trans (Kept.of_row hgrow))
    have hB2 := hid (HB.out.kept hkg.out ⟨hno.out _ (by omega), hno.out _ (by omega), hno.out _ (by omega)⟩)
    have hAI2 : BlI w w1.heap.size (.slice a2 (pre.length + 1) c2) (pre ++ [x]) w2 := by
      refine ⟨by simpa using hown', Hi.out.kept.trans' hkg.out (fun k hl hm => absurd hm (hno.out k (Or.inl hl))), fun g' hg => ?_⟩
      rcases hfr g' hg with e | e
      · exact Hi.out.own g' e
      · have := hsc.out; omega
    have HAI2 := hid hAI2
    have c4 : w2.cell? ⟨w.heap.size + 2 + 1, 0, none⟩ = some v := cell_of_one hB2.out.out
    have f4 : w2.frozen? ⟨w.heap.size + 2 + 1, 0, none⟩ = false := free_of_one hB2.out.out
    have c0 : w2.cell? ⟨w.heap.size, 0, none⟩ = some (.int .i64 (most : Int)) := cell_of_one hB2.out.most
    have r1 : w2.cell? ⟨w.heap.size + 1, 0, none⟩ = some (.slice none 0 0) := cell_of_one hB2.out.res
    have q1 : w2.frozen? ⟨w.heap.size + 1, 0, none⟩ = false := free_of_one hB2.out.res
    have hkeep2 : Keep (fun k => VNeed b pa k ∨ k = w1.heap.size ∨ k = w1.heap.size + 1 ∨ k = w1.heap.size + 2) W w2 := hkg.out.keep fun k _ hk => by
      rcases hk with h | h
      · have := hneed.out k h; exact hno.out k (by omega)
      · exact hno.out k (by omega)
    have HK2 := hid hkeep2
    clear hown' hgrow hfr hAI2 hkeep2
    cases q
    · gi_wp2
      have hk3 : Kept [w.heap.size + 3] w2 (w2.setCell ⟨w.heap.size + 2 + 1, 0, none⟩ (.slice a2 (pre.length + 1) c2)) := (Kept.refl _ _).setCell (p := ⟨w.heap.size + 3, 0, none⟩) (fun _ => by simp) _
      refine ⟨HK2.out.trans (hk3.keep fun k _ hk => ?_), ?_, _, ⟨hk3.at hB2.out.most (by simp), hk3.at hB2.out.res (by simp), one_setCell hB2.out.out⟩, HAI2.out.keep hk3 (fun k hk => by simp at hk; omega)⟩
      · rcases hk with h | h
        · have := hneed.out k h; simp; omega
        · simp; omega
      · have h1 := hQ.out; have h2 := Hl.out
        simp at h1
        simp; omega
    · gi_wp2
      have h1 := hQ.out
      simp at h1
      obtain ⟨w3, hw3⟩ : ∃ w3, w3 = w2.setCell ⟨w.heap.size + 2 + 1, 0, none⟩ (.slice a2 (pre.length + 1) c2) := ⟨_, rfl⟩
      have hk3 : Kept [w.heap.size + 3] w2 w3 := hw3 ▸ (Kept.refl _ _).setCell (p := ⟨w.heap.size + 3, 0, none⟩) (fun _ => by simp) _
      rw [← hw3]
      have hres := hk3.at hB2.out.res (by simp)
      have hk4 : Kept [w.heap.size + 1] w3 (w3.setCell ⟨w.heap.size + 1, 0, none⟩ (.slice a2 (pre.length + 1) c2)) := (Kept.refl _ w3).setCell (p := ⟨w.heap.size + 1, 0, none⟩) (fun _ => by simp) _
      refine ⟨(HK2.out.trans (hk3.keep fun k _ hk => ?_)).less (fun k _ hk => by rcases hk with h | h <;> simp [h]) |>.trans (hk4.keep fun k _ hk => ?_), by simp; omega, _, one_setCell hres, (HAI2.out.keep hk3 (fun k hk => by simp at hk; omega)).keep hk4 (fun k hk => by simp at hk; omega)⟩
      · rcases hk with h | h
        · have := hneed.out k h; simp; omega
        · simp; omega
      · rcases hk with h | h <;> (simp; omega)
  case fs => exact fun x A hf => hf
  case done =>
    rintro xs W rfl ⟨hlt, v, hB, hi⟩ hK
    have c5 : W.cell? ⟨w.heap.size + 2 + 1, 0, none⟩ = some v := cell_of_one hB.out
    have r1 : W.cell? ⟨w.heap.size + 1, 0, none⟩ = some (.slice none 0 0) := cell_of_one hB.res
    have q1 : W.frozen? ⟨w.heap.size + 1, 0, none⟩ = false := free_of_one hB.res
    obtain ⟨a9, c9, rfl⟩ := owns_slice hi.row
    have HB := hid hB; have Hi := hid hi; have Hlt := hid hlt
    clear hB hi hlt
    gi_wp2
    have hk4 : Kept [w.heap.size + 1] W (W.setCell ⟨w.heap.size + 1, 0, none⟩ (.slice a9 (sumsR ns).length c9)) := (Kept.refl _ W).setCell (p := ⟨w.heap.size + 1, 0, none⟩) (fun _ => by simp) _
    have hK2 := hk4.at hK (by simp; omega)
    refine ⟨by simp, .inl ⟨_, _, rfl, run_takeDeferred hK2, ?_⟩⟩
    have e1 : (W.setCell ⟨w.heap.size + 1, 0, none⟩ (.slice a9 (sumsR ns).length c9)).heap[w.heap.size + 1]? = some (.cells #[.slice a9 (sumsR ns).length c9] 38 (0, 0)) := one_setCell HB.out.res
    obtain ⟨w5, hw5⟩ : ∃ w5, w5 = W.setCell ⟨w.heap.size + 1, 0, none⟩ (.slice a9 (sumsR ns).length c9) := ⟨_, rfl⟩
    rw [← hw5] at hk4 e1 ⊢
    have hkd := kept_putObj w5 w1.heap.size (.deferred none)
    have e3 := cell_of_one (hkd.at e1 (by simp; omega))
    have hfin := (Hi.out.keep hk4 (fun k hk => by simp at hk; omega)).keep hkd (fun k hk => by simp at hk; omega)
    have htk : (sumsR ns).take most = sumsR ns := List.take_of_length_le (by have := Hlt.out; omega)
    rw [htk]
    refine ⟨.slice a9 (sumsR ns).length c9, ?_, a9, c9, rfl, hfin.kept, hfin.row⟩
    simp [results, Tryd.f19, go_sem, e3]
  case stop =>
    rintro pre W hZp ⟨hlt, v, e1, hi⟩ hK
    obtain ⟨a9, c9, rfl⟩ := owns_slice hi.row
    have Hi := hid hi; have Hlt := hid hlt
    have htk := hid (show (sumsR ns).take most = pre from by
      obtain ⟨r, hr⟩ := hZp
      rw [← hr, List.take_left' hlt])
    clear hi hZp hlt
    gi_wp2
    refine ⟨by simp, .inl ⟨_, _, rfl, run_takeDeferred hK, ?_⟩⟩
    have hkd := kept_putObj W w1.heap.size (.deferred none)
    have e3 := cell_of_one (hkd.at e1 (by simp; omega))
    have hfin := Hi.out.keep hkd (fun k hk => by simp at hk; omega)
    rw [htk.out]
    refine ⟨.slice a9 pre.length c9, ?_, a9, c9, rfl, hfin.kept, hfin.row⟩
    simp [results, Tryd.f19, go_sem, e3]
end Go.Proofs.YtdojpioclojalaaDoor


/- tree.Decode. -/
namespace Go.Proofs.YtdojpioclojalaaDoor
open Go.RowKit Go.Lib

/-- A row of nodes in the program's own type, from its cells. -/
theorem Grow.nodes_ {B : Nat} {W : World} {a : Option Addr} {c : Nat} {ns : List NodeR} (h : Grow B W a c ns) (hz : ∀ n ∈ ns, n.nd.ok) : Nodes W a c ns := by
  rcases h.row.2 with ⟨h1, h2⟩ | ⟨g, cap, cur, hv, hg, hh, hc, hm, hs, ht⟩
  · simp at h1
    obtain ⟨rfl, h1, rfl⟩ := h1
    have h3 : ns = [] := List.eq_nil_of_length_eq_zero h2
    subst h3
    exact ⟨by simp, by omega, fun _ => rfl, fun x hx => by simp at hx⟩
  · simp at hv
    obtain ⟨rfl, rfl⟩ := hv
    refine ⟨by omega, by unfold maxLen at hm; omega, fun h => by simp at h, fun x hx i n hn => ?_⟩
    simp at hx
    subst hx
    obtain ⟨k32, kid, _⟩ := h.nodes n (List.mem_of_getElem? hn)
    have kz := hz n (List.mem_of_getElem? hn)
    have hcell : ∀ (j : Nat) v, n.cells[j]? = some v → W.cell? ((Addr.add ⟨g, 0, none⟩ (i * 36)).add j) = some v := by
      intro j v hj
      have hj36 : j < 36 := by have := (List.getElem?_eq_some_iff.1 hj).1; rw [node_size n k32] at this; exact this
      rw [n_add_add]
      refine h.row.cells (g := g) rfl _ _ ?_
      rw [flat_get c36 36 c36_len ns i j n hn hj36, c36_of k32, hj]
    refine ⟨?_, hcell 1 _ n.c1, hcell 2 _ n.c2, hcell 3 _ n.c3, fun k b hk => hcell (4 + k) _ (n.c4 k b hk), k32, kid, kz.z1, kz.z2⟩
    have h0 := hcell 0 _ n.c0
    have e : (Addr.add ⟨g, 0, none⟩ (i * 36)).add 0 = Addr.add ⟨g, 0, none⟩ (i * 36) := by simp [Addr.add]
    rw [e] at h0
    exact h0

theorem TrQ.base {B B' ps : Nat} {xs : List UInt8} {n : Int} {rest : List UInt8} {W : World} (h : TrQ B ps xs n rest W) (hb : B' ≤ B) : TrQ B' ps xs n rest W := by
  rcases h with ⟨h1, ms, pa, pc, h2, h3, h4, h5⟩ | h
  · exact Or.inl ⟨h1, ms, pa, pc, h2, h3, h4, h5.base hb⟩
  · exact Or.inr h
theorem TrQ.err {B ps x : Nat} {xs : List UInt8} {n : Int} {rest : List UInt8} {W W' : World} (h : TrQ B ps xs n rest W) (hx : ps ≠ x) (he : ErrAt W x) (hk : Kept [x] W W') : TrQ B ps xs n rest W' := by
  rcases h with ⟨h1, ms, pa, pc, h2, h3, h4, h5⟩ | ⟨h1, h2, o, h3⟩
  · exact Or.inl ⟨h1, ms, pa, pc, h2, h3, hk.at h4 (by simpa using hx), h5.err he hk⟩
  · exact Or.inr ⟨h1, h2, o, hk.at h3 (by simpa using hx)⟩
theorem enters_tree1 : Enters 32 := fun args w => by simp [go_sem]

/-- What Decode answers. -/
def TDecoded (bs : List UInt8) (w : World) (e : Ending) (w' : World) : Prop :=
  Kept [] w w' ∧ ((unsealErr 84 bs ≠ 0 ∧ decL bs = none ∧ e = .returned (.tuple #[.slice none 0 0, .int .i64 (unsealErr 84 bs)])) ∨ (unsealErr 84 bs = 0 ∧ decL bs = none ∧ e = .returned (.tuple #[.slice none 0 0, .int .i64 21])) ∨
    ∃ (ms : List NodeR) (pa : Option Addr) (pc : Nat), decL bs = some (ms.map NodeR.nd) ∧ e = .returned (.tuple #[.slice pa ms.length pc, .int .i64 0]) ∧ Grow w.heap.size w' pa pc ms)

theorem decL_of {bs rest : List UInt8} {l : List Nd} (h0 : unsealErr 84 bs = 0) (h : rList (unsealed 84 bs) = some (l, rest)) : decL bs = if rest = [] ∧ errL l = 0 then some l else none := by
  unfold rList at h
  unfold decL
  rw [if_pos h0, h]
  cases rest with
  | nil => simp
  | cons x r => simp
theorem decL_no {bs : List UInt8} (h0 : unsealErr 84 bs = 0) (h : rList (unsealed 84 bs) = none) : decL bs = none := by
  unfold rList at h
  unfold decL
  rw [if_pos h0, h]

set_option maxRecDepth 100000 in
set_option maxHeartbeats 4000000 in
theorem t_decode (sv : Value) (bs : List UInt8) (w : World) (hsrc : SrcB w sv bs) (ht : Tab w) (hlen : bs.length ≤ 100000000) :
    Calls Tryd.prog 12 #[sv] w (TDecoded bs w) := by
  have hmf : ∀ (fn : Fn) (first cap : Array Value) (w : World), (Instr.makeFunc fn first cap).run Tryd.prog w = .ok (.func fn first cap) w := fun _ _ _ _ => rfl
  obtain ⟨a, c, rfl⟩ := hsrc.size
  have hun := hid (show Calls Tryd.prog 30 #[.int .u8 84, .slice a bs.length c] w (Unsealed w 84 bs) from unseal_any 84 _ bs w hsrc ht (by omega))
  clear hsrc ht
  go_enter Tryd.func12, Tryd.ntmps12
  go_wp2_with fail
  refine hun.out.mono ?_
  rintro e w1 ⟨a1, c1, rfl, k1, hb1, hx1⟩
  have hU := hid (show (unsealed 84 bs).length ≤ 100000000 by unfold unsealed; split <;> (simp; try omega))
  obtain ⟨us, hus⟩ : ∃ us, us = unsealed 84 bs := ⟨_, rfl⟩
  rw [← hus] at hb1 hU ⊢
  have Hb1 := hid hb1; have Hx1 := hid hx1; have k1' := hid k1; have Hus := hid hus
  clear hb1 hx1 k1 hun hus
  obtain ⟨ue, hue⟩ : ∃ ue, ue = unsealErr 84 bs := ⟨_, rfl⟩
  rw [← hue]
  by_cases h0 : ue = 0
  · subst h0
    have hun0 := hid (show unsealErr 84 bs = 0 from hue.symm)
    clear hue
    obtain ⟨W1, hW1⟩ : ∃ W1, W1 = w1.alloc (.cells #[.slice none 0 0] 22) := ⟨_, rfl⟩
    have KW1 := hid (show Kept [] w1 W1 from hW1 ▸ (Kept.refl [] w1).alloc _)
    have BW1 := hid (show W1.heap[w1.heap.size]? = some (.cells #[.slice none 0 0] 22 (0, 0)) from hW1 ▸ heap_alloc_at rfl)
    have hps := hid (lt_of_block BW1.out)
    have hd := hid (decode_any' 32 enters_tree1 #[.pointer (some ⟨w1.heap.size, 0, none⟩)] (.slice a1 us.length c1) us W1 (Hb1.out.kept KW1.out (by simp)).1 (by have := hU.out; omega) [w1.heap.size] (fun x hx => by simp at hx; have := hps.out; omega)
      (TrQ W1.heap.size w1.heap.size us) (fun n rest W W' x hq hx he hk => hq.err (by have := hps.out; omega) he hk)
      (fun rb a' c' W hk hrb hab hrd => by
        have h := t_decode1 rb w1.heap.size a' c' us W hrd (fun x hx => ⟨(hab x hx).2, by have := (hab x hx).1; have := hps.out; omega⟩) (hk.at BW1.out (by simp)) (by have := hps.out; omega)
        refine h.mono ?_
        rintro e w' (⟨h1, a2, c2, r2, p1, p2, p3, p4⟩ | ⟨n, h1, a2, c2, r2, p1, p2, p3, p4⟩)
        · exact Or.inl ⟨h1, a2, c2, r2, p1, p2, p3, p4.base hk.size⟩
        · exact Or.inr ⟨n, h1, a2, c2, r2, p1, p2, p3, p4.base hk.size⟩))
    have HW1 := hid hW1
    clear hW1
    go_wp2_with fail
    rw [← HW1.out]
    refine hd.out.mono ?_
    rintro e w2 ⟨n, rest, rfl, hk2, hq⟩
    have K2 := hid (show Kept [] w w2 from (k1'.out.trans KW1.out).trans' hk2 (fun x hx hm => by simp at hm; have := k1'.out.size; omega))
    clear hk2 hd
    rcases hq with ⟨rfl, ms, pa, pc, hr, h512, hat, hg⟩ | ⟨hn0, hr, o, hat⟩
    · have Hr := hid hr; have Hat := hid hat; have Hg := hid hg; have H512 := hid h512
      have hdl := hid (decL_of hun0.out (by rw [← Hus.out]; exact hr))
      have hcell := cell_of_row _ _ 0 _ _ _ hat
      rw [show (#[Value.slice pa ms.length pc])[0]? = some (.slice pa ms.length pc) from rfl] at hcell
      by_cases hrest : rest = []
      · subst hrest
        have hok := hid (show ∀ n ∈ ms, n.nd.ok from by
          unfold rList at hr
          simp only [Option.bind_eq_some_iff, Prod.exists] at hr
          obtain ⟨k, r1, h1, h2⟩ := hr
          have := (readL_get k h2).2.1
          exact fun n hn => this _ (List.mem_map_of_mem hn))
        have hck := hid (t_check pa pc ms w2 (fun wr hk => (Hg.out.kept hk (by simp)).nodes_ hok.out))
        obtain ⟨er, her⟩ : ∃ er, er = errL (ms.map NodeR.nd) := ⟨_, rfl⟩
        rw [← her] at hck hdl
        clear hr hat hg h512 her
        rw [if_neg (by simp)]
        by_cases he : er = 0
        · subst he
          go_wp2_with fail
          refine hck.out.mono ?_
          rintro e w3 ⟨rfl, k3⟩
          have w3K := hid (K2.out.trans k3)
          have hG3 := hid (Hg.out.kept k3 (by simp))
          have hat3 := hid (k3.at Hat.out (by simp))
          have hc3 := cell_of_row _ _ 0 _ _ _ hat3.out
          rw [show (#[Value.slice pa ms.length pc])[0]? = some (.slice pa ms.length pc) from rfl] at hc3
          clear k3
          go_wp2
          go_ret2
          exact ⟨w3K.out, Or.inr (Or.inr ⟨ms, pa, pc, by rw [hdl.out]; simp, rfl, hG3.out.base (by have := KW1.out.size; have := k1'.out.size; omega)⟩)⟩
        · have hee : (er != 0) = true := by simpa using he
          have hno := hid (show decL bs = none by rw [hdl.out, if_neg (fun h => he h.2)])
          clear he
          go_wp2_with fail
          refine hck.out.mono ?_
          rintro e w3 ⟨rfl, k3⟩
          have w3K := hid (K2.out.trans k3)
          clear k3
          go_wp2
          go_ret2
          exact ⟨w3K.out, Or.inr (Or.inl ⟨hun0.out, hno.out, rfl⟩)⟩
      · rw [if_pos ⟨rfl, hrest⟩]
        have hno := hid (show decL bs = none by rw [hdl.out, if_neg (fun h => hrest h.1)])
        clear hr hat hg h512 hrest
        go_wp2
        go_ret2
        exact ⟨K2.out, Or.inr (Or.inl ⟨hun0.out, hno.out, rfl⟩)⟩
    · rw [if_neg (fun h => hn0 h.1)]
      have hno := hid (decL_no hun0.out (by rw [← Hus.out]; exact hr))
      have hee : (n != 0) = true := by simpa using hn0
      clear hr hn0 hat
      go_wp2
      go_ret2
      exact ⟨K2.out, Or.inr (Or.inl ⟨hun0.out, hno.out, rfl⟩)⟩
  · have hee : (ue != 0) = true := by simpa using h0
    have hno := hid (show unsealErr 84 bs ≠ 0 ∧ decL bs = none from ⟨by rw [← hue]; exact h0, by unfold decL; rw [if_neg (by rw [← hue]; exact h0)]⟩)
    have HUE := hid hue
    clear h0 hue
    go_wp2
    go_ret2
    exact ⟨k1'.out, Or.inl ⟨hno.out.1, hno.out.2, by rw [HUE.out]; rfl⟩⟩
end Go.Proofs.YtdojpioclojalaaDoor


/- coldstorelaw10.alive. -/
namespace Go.Proofs.YtdojpioclojalaaDoor
open Go.RowKit Go.Lib

def idA : List UInt8 := 1 :: List.replicate 31 0
def idB : List UInt8 := 2 :: List.replicate 31 0
def nA (g : Nat) : NodeR := ⟨⟨#[97]⟩, false, 3, some ⟨g, 0, none⟩, 1, [idA], zid⟩
def nB : NodeR := ⟨⟨#[98]⟩, true, 0, none, 0, [], idB⟩
def nS : NodeR := ⟨⟨#[97, 47, 98]⟩, false, 0, none, 0, [], zid⟩
def dA : Nd := ⟨[97], false, 3, [idA], zid⟩
def dB : Nd := ⟨[98], true, 0, [], idB⟩
theorem nA_nd (g : Nat) : (nA g).nd = dA := rfl
theorem nB_nd : nB.nd = dB := rfl
theorem dAB_err : errL [dA, dB] = 0 := by decide
theorem d0_err : errL [] = 0 := by decide
theorem dS_err : errL [nS.nd] = 38 := by decide
theorem dA_ok : dA.ok := ⟨by decide, by decide, by decide, by decide⟩
theorem dB_ok : dB.ok := ⟨by decide, by decide, by decide, by decide⟩
theorem dAB_ok : ∀ n ∈ [dA, dB], n.ok := by
  intro n hn
  rcases List.mem_cons.1 hn with rfl | hn
  · exact dA_ok
  · rcases List.mem_cons.1 hn with rfl | hn
    · exact dB_ok
    · cases hn
theorem bsAB_len : (sealed 84 (encL [dA, dB])).length ≤ 100000000 := by rw [sealed_len]; decide
theorem enc0_len : (sealed 84 (encL [])).length = 9 := by rw [sealed_len]; rfl
theorem build_idA (W : World) : (Instr.build 40 #[(0, .int .u8 1)]).run Tryd.prog W = .ok (.agg (idA.map B).toArray) W := run_build W _ _ _ (by kernel_rfl)
theorem build_idB (W : World) : (Instr.build 40 #[(0, .int .u8 2)]).run Tryd.prog W = .ok (.agg (idB.map B).toArray) W := run_build W _ _ _ (by kernel_rfl)
theorem build_nA (g : Nat) (W : World) : (Instr.build 42 #[(0, .string ⟨#[97]⟩), (2, .int .i64 3), (3, .slice (some ⟨g, 0, none⟩) 1 1)]).run Tryd.prog W = .ok (.agg (nA g).cells.toArray) W := run_build W _ _ _ (by kernel_rfl)
theorem build_nB (W : World) : (Instr.build 42 #[(0, .string ⟨#[98]⟩), (1, .bool true), (4, .agg (idB.map B).toArray)]).run Tryd.prog W = .ok (.agg nB.cells.toArray) W := run_build W _ _ _ (by kernel_rfl)
theorem build_nS (W : World) : (Instr.build 42 #[(0, .string ⟨#[97, 47, 98]⟩)]).run Tryd.prog W = .ok (.agg nS.cells.toArray) W := run_build W _ _ _ (by kernel_rfl)
theorem build_AB (g : Nat) (W : World) : (Instr.buildSlice 22 2 #[(0, .agg (nA g).cells.toArray), (1, .agg nB.cells.toArray)]).run Tryd.prog W = .ok (.slice (some ⟨W.heap.size, 0, none⟩) 2 2) (W.alloc (.cells ((nA g).cells ++ nB.cells).toArray 42)) := by kernel_rfl

/-- A row of nodes that lies in one block. -/
theorem nodes_lit {W : World} {g : Nat} {ns : List NodeR} (hh : W.heap[g]? = some (.cells (ns.flatMap c36).toArray 42 (0, 0))) (hl : ns.length ≤ 1000000)
    (h : ∀ n ∈ ns, n.sub.length = 32 ∧ Ids W n.pa n.pc n.parts ∧ -9223372036854775808 ≤ n.size ∧ n.size ≤ 9223372036854775807) : Nodes W (some ⟨g, 0, none⟩) ns.length ns := by
  refine ⟨Nat.le_refl _, by omega, fun h => by simp at h, fun x hx i n hn => ?_⟩
  simp at hx
  subst hx
  obtain ⟨k32, kid, kz⟩ := h n (List.mem_of_getElem? hn)
  have hcell : ∀ (j : Nat) v, n.cells[j]? = some v → W.cell? ((Addr.add ⟨g, 0, none⟩ (i * 36)).add j) = some v := by
    intro j v hj
    have hj36 : j < 36 := by have := (List.getElem?_eq_some_iff.1 hj).1; rw [node_size n k32] at this; exact this
    rw [n_add_add]
    have e : (⟨g, 0, none⟩ : Addr).add (i * 36 + j) = ⟨g, i * 36 + j, none⟩ := by unfold Addr.add; split <;> simp_all
    rw [e, cell_of_row W _ _ _ _ _ hh]
    have := flat_get c36 36 c36_len ns i j n hn hj36
    rw [c36_of k32, hj] at this
    simpa using this
  refine ⟨?_, hcell 1 _ n.c1, hcell 2 _ n.c2, hcell 3 _ n.c3, fun k b hk => hcell (4 + k) _ (n.c4 k b hk), k32, kid, kz.1, kz.2⟩
  have h0 := hcell 0 _ n.c0
  have e : (Addr.add ⟨g, 0, none⟩ (i * 36)).add 0 = Addr.add ⟨g, 0, none⟩ (i * 36) := by simp [Addr.add]
  rw [e] at h0
  exact h0
theorem ids_lit {W : World} {g : Nat} {s : List UInt8} (h32 : s.length = 32) (hh : W.heap[g]? = some (.cells (s.map B).toArray 40 (0, 0))) : Ids W (some ⟨g, 0, none⟩) 1 [s] := by
  refine ⟨by simp, by omega, fun h => by simp at h, fun x hx i id hi => ?_⟩
  simp at hx
  subst hx
  cases i with
  | succ i => simp at hi
  | zero =>
    simp at hi
    subst hi
    refine ⟨h32, fun k b hk => ?_⟩
    have e : ((⟨g, 0, none⟩ : Addr).add (0 * 32)).add k = ⟨g, k, none⟩ := by unfold Addr.add; split <;> split <;> simp_all
    rw [e, cell_of_row W _ _ _ _ _ hh]
    simp [hk]
theorem ids_none (W : World) : Ids W none 0 [] := ⟨by simp, by omega, fun _ => rfl, fun x hx => by simp at hx⟩
theorem nodes_nil (W : World) : Nodes W none 0 [] := ⟨by simp, by omega, fun _ => rfl, fun x hx => by simp at hx⟩

theorem wpList_buildSlice_if {P : Program} {ops : Array Oper} {rest : List Oper} {o : Oper} {a : Act} {w : World} {Q : Exit → Act → World → Prop} (hw : Region.wanted o (yielded ops a.tmps) = true) (t n : Nat) (parts : Array (Nat × Operand)) (ho : o.op = .buildSlice t n parts) (v : Value) (w' : World)
    (hrun : (execOp a.eval o).run P w = .ok (.value v) w') (h : wpList P ops Q rest (a.put o.dst v) w') : wpList P ops Q (o :: rest) a w := by
  unfold wpList
  rw [if_pos hw]
  refine Or.inl ?_
  unfold Oper.wp
  rw [hrun]
  exact h
theorem nS_nodes {W : World} {g : Nat} (hh : W.heap[g]? = some (.cells nS.cells.toArray 42 (0, 0))) : Nodes W (some ⟨g, 0, none⟩) 1 [nS] := by
  refine nodes_lit (ns := [nS]) (by rw [show [nS].flatMap c36 = nS.cells by simp [c36_of (n := nS) rfl]]; exact hh) (by simp) (fun n hn => ?_)
  simp at hn
  subst hn
  exact ⟨rfl, ids_none _, show (-9223372036854775808 : Int) ≤ 0 by decide, show (0 : Int) ≤ 9223372036854775807 by decide⟩
/-- The rows that as makes, as nodes. -/
theorem t_as2 (a : Option Addr) (c : Nat) (ns : List NodeR) (w : World) (h : ∀ wr, Kept [] w wr → Nodes wr a c ns) (hl : ns.length ≤ 1000000) :
    Calls Tryd.prog 14 #[.slice a ns.length c] w fun e w' => ∃ a2 c2, e = .returned (.slice a2 ns.length c2) ∧ Kept [] w w' ∧ ∀ wr, Kept [] w' wr → Nodes wr a2 c2 ns := by
  refine (t_as a c ns w h hl).mono ?_
  rintro e w' ⟨a2, c2, rfl, k, ho⟩
  refine ⟨a2, c2, rfl, k, fun wr hk => (nodes_of_row (fun n hn => ?_) (hk.owns ho (by simp))).1⟩
  have hN := h wr (k.trans hk)
  cases a with
  | none => rw [hN.nil rfl] at hn; simp at hn
  | some x =>
    obtain ⟨i, hi, he⟩ := List.getElem_of_mem hn
    have h1 := hN.at_ x rfl i n (by rw [List.getElem?_eq_getElem hi, he])
    exact ⟨h1.2.2.2.2.2.1, h1.2.2.2.2.2.2.1, h1.2.2.2.2.2.2.2⟩
theorem unseal0 : unsealErr 84 [] = 20 := by decide
theorem decL0 : decL [] = none := by unfold decL; rw [if_neg (by decide)]
theorem find_B (g : Nat) : findR [nA g, nB] [98] = some nB := rfl
theorem find_C (g : Nat) : findR [nA g, nB] [99] = none := rfl
theorem sums_AB (g : Nat) : (sumsR [nA g, nB]).take 9 = [idA, idB] := rfl

set_option maxRecDepth 100000 in
set_option maxHeartbeats 8000000 in
theorem alive10 (w : World) (ht : Tab w) : Calls Tryd.prog 9 #[] w fun e w' => e = .returned (.bool true) ∧ Kept [] w w' := by
  have hzv := zero_node
  have hbA := build_idA
  have hbB := build_idB
  have hnA := build_nA
  have hnB := build_nB
  have hnS := build_nS
  have HT := hid ht
  have hE0 := hid (t_encode none 0 [] w (fun wr _ => nodes_nil wr) ht)
  clear ht
  go_enter Tryd.func9, Tryd.ntmps9
  go_wp2_with fail
  refine hE0.out.mono ?_
  rintro e w1 ⟨k1, (⟨h1, _⟩ | ⟨_, a0, c0, rfl, _⟩)⟩
  · exact absurd d0_err h1
  rw [show ((sealed 84 (encL ([].map NodeR.nd))).length) = 9 from enc0_len]
  have K1 := hid k1
  clear k1 hE0
  obtain ⟨W2, hW2⟩ : ∃ W2, W2 = (w1.alloc (.cells (idA.map B).toArray 40)).alloc (.cells ((nA w1.heap.size).cells ++ nB.cells).toArray 42) := ⟨_, rfl⟩
  have HW2 := hid hW2
  clear hW2
  go_wp2_with (first | (refine wpList_buildSlice1 rfl 38 _ _ rfl (.slice (some ⟨w1.heap.size, 0, none⟩) 1 1) (w1.alloc (.cells (idA.map B).toArray 40)) (by kernel_rfl) ?_) | (refine wpList_buildSlice1 rfl 22 _ _ rfl (.slice (some ⟨(w1.alloc (.cells (idA.map B).toArray 40)).heap.size, 0, none⟩) 2 2) W2 (by rw [HW2.out]; kernel_rfl) ?_; refine halt ?_))
  refine Halt.mk ?_
  obtain ⟨g, hg⟩ : ∃ g, g = w1.heap.size := ⟨_, rfl⟩
  have K2 := hid (show Kept [] w W2 by rw [HW2.out]; exact (K1.out.alloc _).alloc _)
  have hh1 : W2.heap[g]? = some (.cells (idA.map B).toArray 40 (0, 0)) := by rw [HW2.out, hg]; exact heap_alloc_old (heap_alloc_at rfl)
  have hh2 : W2.heap[g + 1]? = some (.cells ([nA g, nB].flatMap c36).toArray 42 (0, 0)) := by
    rw [HW2.out, ← hg, show [nA g, nB].flatMap c36 = (nA g).cells ++ nB.cells by simp [c36_of (n := nA g) rfl, c36_of (n := nB) rfl]]
    exact heap_alloc_at (by rw [hg]; simp)
  have hN := hid (show ∀ wr, Kept [] W2 wr → Nodes wr (some ⟨g + 1, 0, none⟩) 2 [nA g, nB] from fun wr hk => by
    refine nodes_lit (ns := [nA g, nB]) (hk.at hh2 (by simp)) (by simp) (fun n hn => ?_)
    simp at hn
    rcases hn with rfl | rfl
    · exact ⟨rfl, ids_lit rfl (hk.at hh1 (by simp)), show (-9223372036854775808 : Int) ≤ 3 by decide, show (3 : Int) ≤ 9223372036854775807 by decide⟩
    · exact ⟨rfl, ids_none _, show (-9223372036854775808 : Int) ≤ 0 by decide, show (0 : Int) ≤ 9223372036854775807 by decide⟩)
  obtain ⟨bs, hbs⟩ : ∃ bs, bs = sealed 84 (encL [dA, dB]) := ⟨_, rfl⟩
  have hdl := hid (show decL bs = some [dA, dB] by rw [hbs]; exact decL_put _ dAB_ok dAB_err)
  have hbl := hid (show bs.length ≤ 100000000 by rw [hbs]; exact bsAB_len)
  have hE := hid (t_encode (some ⟨g + 1, 0, none⟩) 2 [nA g, nB] W2 hN.out (HT.out.kept K2.out (by simp)))
  unfold TEncoded at hE
  rw [show [nA g, nB].map NodeR.nd = [dA, dB] from rfl] at hE
  simp only [← hbs] at hE
  rw [← hg]
  clear hh1 hh2 hbs hg
  go_wp2_with fail
  refine hE.out.mono ?_
  rintro e w3 ⟨k3, (⟨h1, _⟩ | ⟨_, a1, c1, rfl, ho⟩)⟩
  · exact absurd dAB_err h1
  have K3 := hid (K2.out.trans k3)
  have hN3 := hid (show ∀ wr, Kept [] w3 wr → Nodes wr (some ⟨g + 1, 0, none⟩) 2 [nA g, nB] from fun wr hk => hN.out wr (k3.trans hk))
  have hD := hid (t_decode (.slice a1 bs.length c1) bs w3 (bys_of_row ho).1 (HT.out.kept K3.out (by simp)) hbl.out)
  clear k3 ho hE hN
  go_wp2_with fail
  refine hD.out.mono ?_
  rintro e w4 ⟨k4, (⟨_, h2, _⟩ | ⟨_, h2, _⟩ | ⟨ms, pa, pc, h2, rfl, hG⟩)⟩
  · rw [hdl.out] at h2; cases h2
  · rw [hdl.out] at h2; cases h2
  have hms := hid (show ms.map NodeR.nd = [dA, dB] from by rw [hdl.out] at h2; exact (Option.some.inj h2).symm)
  have hml := hid (show ms.length ≤ 2 from by have := congrArg List.length hms.out; simp at this; omega)
  have K4 := hid (K3.out.trans k4)
  have hN4 := hid (show ∀ wr, Kept [] w4 wr → Nodes wr (some ⟨g + 1, 0, none⟩) 2 [nA g, nB] from fun wr hk => hN3.out wr (k4.trans hk))
  have hM4 := hid (show ∀ wr, Kept [] w4 wr → Nodes wr pa pc ms from fun wr hk => (hG.kept hk (by simp)).nodes_ (fun n hn => dAB_ok _ (by rw [← hms.out]; exact List.mem_map_of_mem hn)))
  have hD0 := hid (t_decode (.slice none 0 0) [] w4 (Or.inl ⟨rfl, rfl, rfl⟩) (HT.out.kept K4.out (by simp)) (by simp))
  clear k4 hG h2 hD hN3
  go_wp2_with fail
  refine hD0.out.mono ?_
  rintro e w5 ⟨k5, (⟨_, _, rfl⟩ | ⟨h2, _, _⟩ | ⟨_, _, _, h2, _⟩)⟩
  rotate_left
  · rw [unseal0] at h2; cases h2
  · rw [decL0] at h2; cases h2
  rw [unseal0]
  have K5 := hid (K4.out.trans k5)
  have hN5 := hid (show ∀ wr, Kept [] w5 wr → Nodes wr (some ⟨g + 1, 0, none⟩) 2 [nA g, nB] from fun wr hk => hN4.out wr (k5.trans hk))
  have hM5 := hid (show ∀ wr, Kept [] w5 wr → Nodes wr pa pc ms from fun wr hk => hM4.out wr (k5.trans hk))
  have hF := hid (t_find (some ⟨g + 1, 0, none⟩) 2 [nA g, nB] [98] w5 hN5.out (by intro n hn; simp at hn; rcases hn with rfl | rfl <;> simp [nA, nB]))
  clear k5 hD0 hN4 hM4
  go_wp2_with fail
  refine hF.out.mono ?_
  rintro e w6 ⟨(⟨h2, _⟩ | ⟨n, m, h2, hm, rfl, hI, h32, _⟩), k6⟩
  · rw [find_B] at h2; cases h2
  have hmd := hid (show m.dir = true from by rw [find_B] at h2; cases h2; have := congrArg Nd.dir hm; exact this)
  have hmz := hid (show (Tryd.prog.info? 42).map (·.size) = some m.cells.length by rw [node_size m h32]; exact node_info)
  have hmf := hid (show 0 + m.cells.length ≤ zNode.length by rw [node_size m h32, zNode_len]; decide)
  have hmo := hid (node_one m)
  have hmsp := hid (splice36 zNode m.cells (by rw [node_size m h32, zNode_len]))
  have K6 := hid (K5.out.trans k6)
  have hN6 := hid (show ∀ wr, Kept [] w6 wr → Nodes wr (some ⟨g + 1, 0, none⟩) 2 [nA g, nB] from fun wr hk => hN5.out wr (k6.trans hk))
  have hM6 := hid (show ∀ wr, Kept [] w6 wr → Nodes wr pa pc ms from fun wr hk => hM5.out wr (k6.trans hk))
  clear k6 hF hN5 hM5 hI h32 hm h2
  go_wp2_with (refine wpList_store_at rfl 42 (.tmp 10) (.tmp 52) rfl w6.heap.size 0 m.cells rfl rfl 42 zNode (heap_alloc_at rfl) hmz.out hmf.out hmo.out ?_; refine halt ?_)
  rw [hmsp.out]
  obtain ⟨w7, hw7⟩ : ∃ w7 : World, w7 = (w6.alloc (.cells zNode.toArray 42)).setRow w6.heap.size m.cells.toArray := ⟨_, rfl⟩
  rw [← hw7]
  refine Halt.mk ?_
  have k7 := hid (show Kept [] w6 w7 by rw [hw7]; exact ((Kept.refl [] w6).alloc _).setRow (fun h => absurd h (Nat.lt_irrefl _)) _)
  have hb7 := hid (show NAt w7 w6.heap.size m by rw [hw7]; exact setRow_heap _ _ _ _ _ _ (heap_alloc_at rfl))
  have hN7 := hid (show ∀ wr, Kept [] w7 wr → Nodes wr (some ⟨g + 1, 0, none⟩) 2 [nA g, nB] from fun wr hk => hN6.out wr (k7.out.trans hk))
  have hM7 := hid (show ∀ wr, Kept [] w7 wr → Nodes wr pa pc ms from fun wr hk => hM6.out wr (k7.out.trans hk))
  have hF := hid (t_find (some ⟨g + 1, 0, none⟩) 2 [nA g, nB] [99] w7 hN7.out (by intro n hn; simp at hn; rcases hn with rfl | rfl <;> simp [nA, nB]))
  clear hw7 hN6 hM6
  go_wp2_with fail
  refine hF.out.mono ?_
  rintro e w8 ⟨(⟨_, rfl⟩ | ⟨n, _, h2, _⟩), k8⟩
  rotate_left
  · rw [find_C] at h2; cases h2
  have K8 := hid ((K6.out.trans k7.out).trans k8)
  have hb8 := hid (hb7.out.kept k8 (by simp))
  have hN8 := hid (show ∀ wr, Kept [] w8 wr → Nodes wr (some ⟨g + 1, 0, none⟩) 2 [nA g, nB] from fun wr hk => hN7.out wr (k8.trans hk))
  have hM8 := hid (show ∀ wr, Kept [] w8 wr → Nodes wr pa pc ms from fun wr hk => hM7.out wr (k8.trans hk))
  clear k8 hF hN7 hM7 k7 hb7
  have hzi := hid (show (Tryd.prog.info? 42).map (·.size) = some zNode.length by rw [zNode_len]; exact node_info)
  go_wp2_with (refine wpList_store_at rfl 42 (.tmp 12) (.tmp 57) rfl w8.heap.size 0 zNode rfl rfl 42 zNode (heap_alloc_at rfl) hzi.out (by rw [zNode_len]; decide) zNode_one ?_; refine halt ?_)
  rw [splice36 zNode zNode rfl]
  obtain ⟨w9, hw9⟩ : ∃ w9 : World, w9 = (w8.alloc (.cells zNode.toArray 42)).setRow w8.heap.size zNode.toArray := ⟨_, rfl⟩
  rw [← hw9]
  refine Halt.mk ?_
  have k9 := hid (show Kept [] w8 w9 by rw [hw9]; exact ((Kept.refl [] w8).alloc _).setRow (fun h => absurd h (Nat.lt_irrefl _)) _)
  have hb9 := hid (hb8.out.kept k9.out (by simp))
  have K9 := hid (K8.out.trans k9.out)
  have hN9 := hid (show ∀ wr, Kept [] w9 wr → Nodes wr (some ⟨g + 1, 0, none⟩) 2 [nA g, nB] from fun wr hk => hN8.out wr (k9.out.trans hk))
  have hM9 := hid (show ∀ wr, Kept [] w9 wr → Nodes wr pa pc ms from fun wr hk => hM8.out wr (k9.out.trans hk))
  have hA := hid (t_as2 pa pc ms w9 hM9.out (by have := hml.out; omega))
  clear hw9 hN8 hM8 k9 hb8
  go_wp2_with fail
  refine hA.out.mono ?_
  rintro e w10 ⟨a2, c2, rfl, k10, hR1⟩
  have hB := hid (t_as2 (some ⟨g + 1, 0, none⟩) 2 [nA g, nB] w10 (fun wr hk => hN9.out wr (k10.trans hk)) (by simp))
  have HR1 := hid hR1; have K10 := hid k10
  clear hR1 k10 hA
  go_wp2_with fail
  refine hB.out.mono ?_
  rintro e w11 ⟨a3, c3, rfl, k11, hR2⟩
  have hS := hid (r_same a2 a3 c2 c3 ms [nA g, nB] w11 (fun wr hk => HR1.out wr (k11.trans hk)) hR2)
  have K11 := hid (K10.out.trans k11)
  clear hR2 k11 hB HR1 K10
  go_wp2_with fail
  refine hS.out.mono ?_
  rintro e w12 ⟨rfl, k12⟩
  rw [show decide (ms.map NodeR.nd = [nA g, nB].map NodeR.nd) = true from decide_eq_true hms.out]
  have K12 := hid (K11.out.trans k12)
  have hc1 : w12.cell? ⟨w6.heap.size, 1, none⟩ = some (.bool true) := by
    have := (hb9.out.kept K12.out (by simp)).cell 1 _ m.c1
    rw [hmd.out] at this; exact this
  have hL := hid (t_lblobs (some ⟨g + 1, 0, none⟩) 2 [nA g, nB] 9 w12 (fun wr hk => hN9.out wr (K12.out.trans hk)) (by simp [sumsR, sumsL, Nd.sums, NodeR.nd, nA, nB]) (by decide) (by decide))
  rw [sums_AB] at hL
  clear k12 hS K11
  go_wp2_with fail
  refine hL.out.mono ?_
  rintro e w13 ⟨a4, c4, rfl, k13, _⟩
  have K13 := hid (K9.out.trans (K12.out.trans k13))
  rw [show [idA, idB].length = 2 from rfl]
  obtain ⟨w14, hw14⟩ : ∃ w14 : World, w14 = w13.alloc (.cells nS.cells.toArray 42) := ⟨_, rfl⟩
  have HW := hid hw14
  have k14 : Kept [] w13 w14 := by rw [hw14]; exact (Kept.refl [] _).alloc _
  have hC := hid (t_check (some ⟨w13.heap.size, 0, none⟩) 1 [nS] w14 (fun wr hk => nS_nodes (hk.at (by rw [hw14]; exact heap_alloc_at rfl) (by simp))))
  rw [show [nS].map NodeR.nd = [nS.nd] from rfl, dS_err] at hC
  have K14 := hid (K13.out.trans k14)
  clear k13 k14 hw14 hL hN9 hM9 hc1
  go_wp2_with (refine wpList_buildSlice_if (by rfl) 22 _ _ rfl (.slice (some ⟨w13.heap.size, 0, none⟩) 1 1) w14 (by rw [HW.out]; kernel_rfl) ?_; refine halt ?_)
  refine Halt.mk ?_
  go_wp2_with fail
  refine hC.out.mono ?_
  rintro e w15 ⟨rfl, k15⟩
  go_wp2
  go_ret
  exact ⟨rfl, K14.out.trans k15⟩
end Go.Proofs.YtdojpioclojalaaDoor
