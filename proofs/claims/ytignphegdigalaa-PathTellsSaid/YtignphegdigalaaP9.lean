/- A range over a function whose body may throw: a round's law, an iterator's contract, the statement's law. No program is named here. -/
import Derived.RangeFuncNested
import Derived.RangeFuncBound
import Derived.RangeFuncCalls
import Derived.RangeFuncLeaves
import Derived.Test.YtignphegdigalaaLib
namespace Go.Proofs.Ytignphegdigalaa
open Go.RowKit
variable {F : Fence} {n : Nat} {P : Program}

/-- How a round's body may be left: off its end, or by a panic that no deferred call of the round's meets. -/
def TPost (P : Program) (l : Nat) (R : Ending → World → Prop) : Exit → Act → World → Prop
  | .normal, _, w => ∃ v w', (Instr.endRound l none).run P w = .ok v w' ∧ R (.returned v) w'
  | .panic ch, a, w => a.defers = [] ∧ R (.panicked ch) w
  | _, _, _ => False

theorem round_throws {l : Nat} {f : FuncId} {tmps : Array Value} {assign body : Code} {w : World} {R : Ending → World → Prop} (hF : F.fn f) (hfn : ∃ fn, P.funcs[f]? = some fn)
    (h : assign.wpIn (F.inRound l) n P (Exit.then (fun a₁ w₁ => ∃ w₂, (Instr.beginRound l).run P w₁ = .ok () w₂ ∧ body.wpIn (F.inRound l) n P (TPost P l R) a₁ w₂) (fun _ _ _ => False)) { tmps := tmps, defers := [] } w) :
    RoundIn F n P l f tmps assign body w R := by
  refine ⟨hF, fun c cs hr => ?_⟩
  have hr' : (F.inRound l).room ((c :: cs).length + 1 + n) := hr
  let b : Frame := { (default : Frame) with fn := f, kind := .normal, roundOf := some l }
  have hF' : (F.inRound l).fn b.fn := hF
  have hb : Frame.round l f tmps assign body .normal = b.atR { tmps := tmps, defers := [] } [.code assign, .beginRound, .code body] := by simp [Frame.round, Frame.atR, b]
  obtain ⟨e, a₁, w₁, hq, h1⟩ := h b [.beginRound, .code body] (c :: cs) rfl hF' hr'
  rw [← hb] at h1
  cases e with
  | normal =>
    obtain ⟨w₂, hbeg, hbody⟩ := hq
    have h2 : StepsIn (Machine.fenced P (F.inRound l)) P (lone (b.atR a₁ [.beginRound, .code body]) (c :: cs) w₁) (lone (b.atR a₁ [.code body]) (c :: cs) w₂) :=
      .one (fenced_calm (fr := b.atR a₁ [.beginRound, .code body]) hF' hr' rfl) (stepR_beginRound rfl hbeg)
    obtain ⟨e₂, a₂, w₃, hq₂, h3⟩ := hbody b [] (c :: cs) rfl hF' hr'
    have h12 := StepsIn.trans h1 h2
    cases e₂ with
    | normal =>
      obtain ⟨v, w₄, hend, hR⟩ := hq₂
      exact ⟨.returned v, w₄, hR, StepsIn.trans (StepsIn.trans h12 h3) (.one (fenced_calm (fr := b.atR a₂ []) hF' hr' rfl) (stepR_round_end rfl rfl hend))⟩
    | panic ch =>
      obtain ⟨hd, hR⟩ := hq₂
      obtain ⟨todo, h4⟩ := h3
      have hleave : Frame.leaving P { b.atR a₂ todo with mode := .panicking ch } w₃ (.panicked ch) := ⟨rfl, by simpa [Frame.atR] using hd, hfn⟩
      exact ⟨.panicked ch, w₃, hR, StepsIn.trans (StepsIn.trans h12 h4) (.one (fenced_leaving (fr := { b.atR a₂ todo with mode := .panicking ch }) hF' hr' hleave) (step_leave_panicked hleave))⟩
    | ret => exact hq₂.elim
    | exit _ => exact hq₂.elim
    | goto _ => exact hq₂.elim
    | outgrown => exact hq₂.elim
  | panic ch => exact hq.elim
  | ret => exact hq.elim
  | exit _ => exact hq.elim
  | goto _ => exact hq.elim
  | outgrown => exact hq.elim

/-- An iterator's word, where a round may throw: it goes through all, or it is left by what a round threw. -/
def SeqThrows {α : Type} (F : Fence) (n : Nat) (P : Program) (g : Nat) (lb : Array Value) (encs : α → Array Value) (Z : List α → Prop) (N : Nat) (w : World) : Prop :=
  ∀ (l : Nat) (J : List α → World → Prop) (Jp : List PanicEntry → List α → World → Prop) (W : World), Below w.heap.size w W → AbidesFrom W.heap.size J →
    (∀ pre x W1, J pre W1 → pre.length < N → YieldAt F (n - 1) P l (encs x) W1 fun e W' => (e = .returned (.bool true) ∧ J (pre ++ [x]) W') ∨ (∃ ch, e = .panicked ch ∧ Jp ch (pre ++ [x]) W')) →
    J [] W →
    CallsIn F n P g (#[.func (.yield l) #[] #[]] ++ lb) W fun e W' => (∃ v xs, e = .returned v ∧ Z xs ∧ J xs W') ∨ (∃ ch xs rest, e = .panicked ch ∧ Z (xs ++ rest) ∧ Jp ch xs W')

/-- What a piece of code does in a frame of function f, in no round. -/
def wpAt (P : Program) (f : FuncId) (c : Code) (Q : Exit → Act → World → Prop) (a : Act) (w : World) : Prop :=
  ∀ (b : Frame) (k : List Item) (cs : List Frame), b.roundOf = none → b.fn = f →
    ∃ e a' w', Q e a' w' ∧ ArrivesIn (Machine.fenced P Fence.wide) P (lone (b.atR a (.code c :: k)) cs w) b k cs e a' w'
theorem at_of_wpIn {f : FuncId} {c : Code} {Q : Exit → Act → World → Prop} {a : Act} {w : World} (h : c.wpIn Fence.wide n P Q a w) : wpAt P f c Q a w :=
  fun b k cs hro _ => h b k cs hro trivial (room_wide _)
theorem at_mono {f : FuncId} {c : Code} {Q Q' : Exit → Act → World → Prop} {a : Act} {w : World} (h : wpAt P f c Q a w) (hq : ∀ e a w, Q e a w → Q' e a w) : wpAt P f c Q' a w := fun b k cs hro hb =>
  let ⟨e, a', w', q, r⟩ := h b k cs hro hb; ⟨e, a', w', hq _ _ _ q, r⟩
theorem at_seq {f : FuncId} {x y : Code} {Q : Exit → Act → World → Prop} {a : Act} {w : World} (h : wpAt P f x (Exit.then (fun a w => wpAt P f y Q a w) Q) a w) : wpAt P f (.seq x y) Q a w := by
  intro b k cs hro hb
  obtain ⟨e, a1, w1, hq, hr⟩ := h b (.code y :: k) cs hro hb
  have h0 : (lone (b.atR a (.code (.seq x y) :: k)) cs w).fenced P Fence.wide := fenced_wide _ _
  cases e with
  | normal =>
    obtain ⟨e2, a2, w2, hq2, hr2⟩ := hq b k cs hro hb
    exact ⟨e2, a2, w2, hq2, .of_steps (.head h0 stepR_seq hr) hr2⟩
  | _ => exact ⟨_, a1, w1, hq, .of_steps (.one h0 stepR_seq) (.pass (x := .code y) rfl (fun _ _ => .inl (by simp)) hr)⟩
theorem at_block {f : FuncId} {id : Nat} {c : Code} {Q : Exit → Act → World → Prop} {a : Act} {w : World} (h : wpAt P f c (fun e a w => match e with | .normal => Q .normal a w | .panic ch => Q (.panic ch) a w | _ => False) a w) : wpAt P f (.block id c) Q a w := by
  intro b k cs hro hb
  obtain ⟨e, a1, w1, hq, hr⟩ := h b (.inBlock id :: k) cs hro hb
  have h0 : (lone (b.atR a (.code (.block id c) :: k)) cs w).fenced P Fence.wide := fenced_wide _ _
  cases e with
  | normal => exact ⟨.normal, a1, w1, hq, .head h0 stepR_block (StepsIn.trans hr (.one (fenced_wide _ _) stepR_inBlock))⟩
  | panic ch => exact ⟨_, a1, w1, hq, .of_steps (.one h0 stepR_block) hr⟩
  | ret => exact hq.elim
  | exit _ => exact hq.elim
  | goto _ => exact hq.elim
  | outgrown => exact hq.elim
theorem calls_of_at {f : FuncId} {fn : Func} {c : Code} {args : Array Value} {w : World} {R : Ending → World → Prop} (hf : P.funcs[f]? = some fn) (hb : fn.body = some c)
    (h : wpAt P f c (fun e a' w' => match e with | .normal => bodyPostM Fence.wide n P fn R .normal a' w' | .ret => bodyPostM Fence.wide n P fn R .ret a' w' | .panic ch => bodyPostM Fence.wide n P fn R (.panic ch) a' w' | _ => False) { tmps := args ++ Array.replicate (fn.ntmps - args.size) undef, defers := [] } w) : CallsIn Fence.wide n P f args w R := by
  refine ⟨trivial, fun cs hr => ?_⟩
  let b : Frame := { (default : Frame) with fn := f, kind := .normal, roundOf := none }
  have hen : Frame.enter P f args .normal = b.atR { tmps := args ++ Array.replicate (fn.ntmps - args.size) undef, defers := [] } [.code c] := by
    simp [Frame.enter, Frame.atR, hf, hb, b]
  obtain ⟨e, a1, w1, hq, h1⟩ := h b [] cs rfl rfl
  rw [← hen] at h1
  cases e with
  | normal =>
    obtain ⟨e', w2, fr, hR, hs, hfn, hl⟩ := leaves_stepsInM a1.defers .returning w1 { b.atR a1 [] with mode := .returning } cs rfl rfl rfl hf rfl trivial hr hq
    exact ⟨e', w2, fr, hR, ComesIn.of_steps (StepsIn.trans h1 (.one (fenced_wide _ _) (stepR_end rfl))) hs, hfn, hl⟩
  | ret =>
    obtain ⟨todo, h2⟩ := h1.1 rfl
    obtain ⟨e', w2, fr, hR, hs, hfn, hl⟩ := leaves_stepsInM a1.defers .returning w1 { b.atR a1 todo with mode := .returning } cs rfl rfl rfl hf rfl trivial hr hq
    exact ⟨e', w2, fr, hR, ComesIn.of_steps h2 hs, hfn, hl⟩
  | panic ch =>
    obtain ⟨todo, h2⟩ := h1
    obtain ⟨e', w2, fr, hR, hs, hfn, hl⟩ := leaves_stepsInM a1.defers (.panicking ch) w1 { b.atR a1 todo with mode := .panicking ch } cs rfl rfl rfl hf rfl trivial hr hq
    exact ⟨e', w2, fr, hR, ComesIn.of_steps h2 hs, hfn, hl⟩
  | exit _ => exact hq.elim
  | goto _ => exact hq.elim
  | outgrown => exact hq.elim
theorem at_range {f : FuncId} {g : Operand} {ps : Array Tmp} {assign body : Code} {Q : Exit → Act → World → Prop} {a : Act} {w : World} (l : Nat) (mark : List Deferred) (w₁ : World) (d : Deferred) (w₁' : World) (f' : FuncId) (args : Array Value) (w₂ : World)
    (he : (Instr.enterLoop f a.tmps ps assign body none).run P w = .ok (l, mark) w₁) (hres : (resolve a.eval (rangeCall g l) 0).run P w₁ = .ok d w₁') (hinv : (invoke d.target d.args).run P w₁' = .ok (.enter f' args) w₂)
    (hcall : CallsIn Fence.wide n P f' args w₂ fun e w₃ => match e with
      | .returned _ => ∃ w₄, (Instr.endLoop l).run P w₃ = .ok none w₄ ∧ Q .normal { a with defers := mark ++ a.defers } w₄
      | .panicked ch => Q (.panic ch) { a with defers := mark ++ a.defers } w₃
      | .outgrown => False) : wpAt P f (.rangeFunc g ps assign body) Q a w := by
  intro b k cs hro hb
  subst hb
  rw [← hro] at he
  have hen := stepR_rangeFunc (P := P) (b := b) (a := a) (k := k) (cs := cs) (w := w) he hres hinv
  obtain ⟨e, w₃, fr, hR, hs, hfn, hl⟩ := hcall.2 (b.atR { a with defers := mark ++ a.defers } (.inRangeFunc l :: k) :: cs) (room_wide _)
  cases e with
  | returned v =>
    obtain ⟨w₄, hend, hq⟩ := hR
    have h3 : step P (lone fr (b.atR { a with defers := mark ++ a.defers } (.inRangeFunc l :: k) :: cs) w₃) = .next (lone (b.atR { a with defers := mark ++ a.defers } (.endRangeFunc l :: k)) cs w₃) := by
      rw [← finish_atR_inRangeFunc l v]; exact step_leave_returned hl
    exact ⟨.normal, _, w₄, hq, .head (fenced_wide _ _) hen (StepsIn.trans hs (.head (fenced_wide _ _) h3 (.one (fenced_wide _ _) (stepR_endRangeFunc hend))))⟩
  | panicked ch =>
    have h3 : step P (lone fr (b.atR { a with defers := mark ++ a.defers } (.inRangeFunc l :: k) :: cs) w₃) = .next (lone ((b.atR { a with defers := mark ++ a.defers } (.inRangeFunc l :: k)).raise ch) cs w₃) := step_leave_panicked hl
    rw [Frame.raise_atR] at h3
    exact ⟨.panic ch, _, w₃, hR, .inRangeFunc l :: k, .head (fenced_wide _ _) hen (StepsIn.trans hs (.one (fenced_wide _ _) h3))⟩
  | outgrown => exact hR.elim

/-- The statement: its body goes on, or throws. -/
theorem range_throws {α : Type} {g : Operand} {ps : Array Tmp} {assign body : Code} {Q : Exit → Act → World → Prop} {a : Act} {w : World} {fn : FuncId} (hfn : ∃ x, P.funcs[fn]? = some x) {gf : Nat} {lb : Array Value} (hg : a.eval g = .func (.func gf) #[] lb) (eg : ∀ args w, (callFunc gf args).run P w = .ok (.enter gf args) w)
    {encs : α → Array Value} {Z : List α → Prop} {N : Nat} (hseq : SeqThrows Fence.wide n P gf lb encs Z N w) (hps : ∀ x, (encs x).size = ps.size)
    (I : List α → World → Prop) (Ip : List PanicEntry → List α → World → Prop) (hI : OwnFrom w.heap.size I) (h0 : I [] w) (a₁ : α → Act)
    (hassign : ∀ (l : Nat) (x : α) (W : World) (K : Act → World → Prop), K (a₁ x) W →
      assign.wpIn (Fence.wide.inRound l) (n - 1) P (Exit.then K (fun _ _ _ => False)) { tmps := (ps.zip (encs x)).foldl (fun t (p, v) => t.setIfInBounds p v) a.tmps, defers := [] } W)
    (hbody : ∀ (l : Nat) (pre : List α) (x : α) (W : World), I pre W → pre.length < N → body.wpIn (Fence.wide.inRound l) (n - 1) P
      (fun e b W' => match e with | .normal => KeepsOthers W W' ∧ I (pre ++ [x]) W' | .panic ch => b.defers = [] ∧ KeepsOthers W W' ∧ Ip ch (pre ++ [x]) W' | _ => False) (a₁ x) W)
    (hdone : ∀ (D : Nat) (xs : List α) (W : World), w.heap.size ≤ D → Z xs → I xs W → W.heap[D]? = some (.deferred (some [])) → Q .normal { a with defers := { target := .collected D, args := #[] } :: a.defers } W)
    (hdies : ∀ (D : Nat) (ch : List PanicEntry) (xs rest : List α) (W : World), w.heap.size ≤ D → Z (xs ++ rest) → Ip ch xs W → W.heap[D]? = some (.deferred (some [])) → Q (.panic ch) { a with defers := { target := .collected D, args := #[] } :: a.defers } W) :
    wpAt P fn (Code.rangeFunc g ps assign body) Q a w := by
  let D := w.heap.size
  let rc : LoopState → Loop := fun st => { state := st, pending := none, fn, tmps := a.tmps, params := ps, assign, body, defers := D }
  obtain ⟨W1, hW1⟩ : ∃ W1, (w.alloc (.deferred (some []))).alloc (.loop (rc .ready)) = W1 := ⟨_, rfl⟩
  have hsz : W1.heap.size = D + 2 := by rw [← hW1]; simp [D]
  have hL : W1.heap[D + 1]? = some (.loop (rc .ready)) := by
    rw [← hW1]
    have := World.alloc_heap_new (w.alloc (.deferred (some []))) (.loop (rc .ready))
    rwa [World.size_alloc] at this
  have hK : W1.heap[D]? = some (.deferred (some [])) := by
    rw [← hW1]
    exact (Below.heap_alloc _ _ _ (by simp [D])).trans (World.alloc_heap_new w _)
  have hi1 : I [] W1 := by rw [← hW1]; exact hI.alloc _ (hI.alloc _ h0)
  have hB1 : Below w.heap.size w W1 := by rw [← hW1]; exact ((Below.refl _ w).alloc (Nat.le_refl _) _).alloc (by simp) _
  refine at_range (n := n) (D + 1) [{ target := .collected D, args := #[] }] W1 { target := .fn (.func gf) lb, args := #[.func (.yield (D + 1)) #[] #[]] } W1 gf (#[.func (.yield (D + 1)) #[] #[]] ++ lb) W1 ?_ ?_ ?_ ?_
  · rw [← hW1]; exact run_enterLoop_outer _ _ _ _ _
  · simp only [resolve, hg]; simp [go_sem]
  · simp [invoke, go_sem, eg]
  refine (hseq (D + 1) (fun pre W => I pre W ∧ W.heap[D + 1]? = some (.loop (rc .ready)) ∧ W.heap[D]? = some (.deferred (some []))) (fun ch pre W => Ip ch pre W ∧ W.heap[D]? = some (.deferred (some []))) W1 hB1 ?_ ?_ ⟨hi1, hL, hK⟩).mono ?_
  · rintro s A B row ⟨ha, hb, hc⟩ hgr hrow
    have hwalk : ∀ r, row = some r → ∃ o : Obj, A.heap[r]? = some o ∧ o.isWalk = true := fun r e => (hrow r e).2
    refine ⟨hI s A B row ha hgr (fun r e => ?_), (grownBy_keeps hgr hwalk hb rfl).trans hb, (grownBy_keeps hgr hwalk hc rfl).trans hc⟩
    obtain ⟨hle, o, ho, hw⟩ := hrow r e
    exact ⟨by omega, o, ho, Obj.not_cells_of_walk hw⟩
  · rintro pre x W ⟨ha, hb, hc⟩ hlen
    have hlt : D + 1 < W.heap.size := (Array.getElem?_eq_some_iff.1 hb).1
    refine ⟨fn, _, assign, body, run_yield (P := P) (args := encs x) hb (hps x), round_throws trivial hfn (hassign _ x W _ ⟨_, run_beginRound hb rfl, ?_⟩)⟩
    obtain ⟨W2, hW2⟩ : ∃ W2, W.putObj (D + 1) (.loop { rc .ready with state := .busy }) = W2 := ⟨_, rfl⟩
    have hb2 : W2.heap[D + 1]? = some (.loop { rc .ready with state := .busy }) := by rw [← hW2]; exact World.putObj_heap_same hlt
    have hc2 : W2.heap[D]? = some (.deferred (some [])) := by rw [← hW2]; exact (World.putObj_heap_other (by omega)).trans hc
    have ha2 : I pre W2 := by rw [← hW2]; exact hI.putObj _ ha (by omega) hb rfl
    rw [hW2]
    refine wpIn_mono (hbody _ pre x W2 ha2 hlen) ?_
    rintro e a3 W3 hp
    cases e with
    | normal =>
      obtain ⟨hk3, hi3⟩ := hp
      have hb3 := hk3.same _ _ hb2 rfl
      exact ⟨_, _, run_endRound none hb3, .inl ⟨rfl, hI.putObj _ hi3 (by omega) hb3 rfl, World.putObj_heap_same (Array.getElem?_eq_some_iff.1 hb3).1, (World.putObj_heap_other (by omega)).trans (hk3.same _ _ hc2 rfl)⟩⟩
    | panic ch =>
      obtain ⟨hd, hk3, hi3⟩ := hp
      exact ⟨hd, .inr ⟨ch, rfl, hi3, hk3.same _ _ hc2 rfl⟩⟩
    | ret => exact hp.elim
    | exit _ => exact hp.elim
    | goto _ => exact hp.elim
    | outgrown => exact hp.elim
  · rintro e W2 (⟨v, xs, rfl, hZ, ha, hb, hc⟩ | ⟨ch, xs, rest, rfl, hZ, ha, hc⟩)
    · exact ⟨_, run_endLoop hb (by simp [rc]), hdone D xs _ (Nat.le_refl _) hZ (hI.putObj _ ha (by omega) hb rfl) ((World.putObj_heap_other (by omega)).trans hc)⟩
    · exact hdies D ch xs rest W2 (Nat.le_refl _) hZ ha hc
end Go.Proofs.Ytignphegdigalaa
