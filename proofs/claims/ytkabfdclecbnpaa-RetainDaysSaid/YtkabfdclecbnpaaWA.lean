import Derived.Test.YtkabfdclecbnpaaW1

/- A range over an iterator whose assignment makes a block of its own. No program is named here. -/
namespace Go.Proofs.Ytkabfdclecbnpaa
open Go.RowKit
variable {F : Fence} {n : Nat} {P : Program}

theorem range_v {α β : Type} {g : Operand} {ps : Array Tmp} {assign body : Code} {Q : Exit → Act → World → Prop} {a : Act} {w : World} (hro : F.round = none) (h1 : 1 ≤ n) {gf : Nat} {lb : Array Value}
    (hg : a.eval g = .func (.func gf) #[] lb) (hFg : F.fn gf) (eg : ∀ args w, (callFunc gf args).run P w = .ok (.enter gf args) w)
    {encs : α → Array Value} {Ft : Nat → α → World → Prop} {need : Nat → Prop} {Z Zp : List α → Prop} (hseq : SeqW F (n - 1) P gf lb encs Ft need Z Zp w) (hneed : ∀ k, need k → k < w.heap.size) (hps : ∀ x, (encs x).size = ps.size)
    (hFt : ∀ x A B, Ft (w.heap.size + 2) x A → Kept [w.heap.size + 1] A B → Ft (w.heap.size + 2) x B) (I Ix : List α → World → Prop)
    (hI : ∀ s A B, I s A → Kept [w.heap.size, w.heap.size + 1, w.heap.size + 2] A B → I s B) (hIx : ∀ s A B, Ix s A → Kept [w.heap.size, w.heap.size + 1, w.heap.size + 2] A B → Ix s B) (h0 : I [] w) (a₁ : α → β → Act) (As : α → β → World → Prop) (hAs : ∀ x p A B, As x p A → Kept [w.heap.size + 1] A B → As x p B)
    (hassign : ∀ (l : Nat) (x : α) (W : World) (K : Act → World → Prop), w.heap.size + 2 < W.heap.size → (∀ p W', Kept [] W W' → As x p W' → K (a₁ x p) W') →
      assign.wpIn (F.inRound l) (n - 1 - 1) P (Exit.then K (fun _ _ _ => False)) { tmps := (ps.zip (encs x)).foldl (fun t (p, v) => t.setIfInBounds p v) a.tmps, defers := [] } W)
    (hbody : ∀ (l : Nat) (pre : List α) (x : α) (p : β) (W : World), I pre W → Ft (w.heap.size + 2) x W → Zp (pre ++ [x]) → w.heap.size + 2 < W.heap.size → As x p W → body.wpIn (F.inRound l) (n - 1 - 1) P (WPost w.heap.size need I Ix (pre ++ [x]) W) (a₁ x p) W)
    (hFs : ∀ x A, Ft (w.heap.size + 2) x A → w.heap.size + 2 < A.heap.size)
    (hdone : ∀ (xs : List α) (W : World), Z xs → I xs W → W.heap[w.heap.size]? = some (.deferred (some [])) → Q .normal { a with defers := { target := .collected w.heap.size, args := #[] } :: a.defers } W)
    (hstop : ∀ (pre : List α) (W : World), Zp pre → Ix pre W → W.heap[w.heap.size]? = some (.deferred (some [])) → Code.ret.wpIn F n P Q { a with defers := { target := .collected w.heap.size, args := #[] } :: a.defers } W) :
    (Code.rangeFunc g ps assign body).wpIn F n P Q a w := by
  refine wpIn_rangeFunc fun fn hfn => ?_
  rw [hro]
  obtain ⟨D, hD⟩ : ∃ D, D = w.heap.size := ⟨_, rfl⟩
  let rc : LoopState → Option Code → Loop := fun st pe => { state := st, pending := pe, fn, tmps := a.tmps, params := ps, assign, body, defers := w.heap.size }
  obtain ⟨W1, hW1⟩ : ∃ W1, (w.alloc (.deferred (some []))).alloc (.loop (rc .ready none)) = W1 := ⟨_, rfl⟩
  have hsz : W1.heap.size = w.heap.size + 2 := by rw [← hW1]; simp
  have hL : W1.heap[w.heap.size + 1]? = some (.loop (rc .ready none)) := by
    rw [← hW1]; exact heap_alloc_at (by simp)
  have hK : W1.heap[w.heap.size]? = some (.deferred (some [])) := by
    rw [← hW1]; exact heap_alloc_old (heap_alloc_at rfl)
  have hk1 : Kept [w.heap.size, w.heap.size + 1, w.heap.size + 2] w W1 := by rw [← hW1]; exact ((Kept.refl _ w).alloc _).alloc _
  have hB1 : Below w.heap.size w W1 := by rw [← hW1]; exact ((Below.refl _ w).alloc (Nat.le_refl _) _).alloc (by simp) _
  refine ⟨w.heap.size + 1, [{ target := .collected w.heap.size, args := #[] }], W1, { target := .fn (.func gf) lb, args := #[.func (.yield (w.heap.size + 1)) #[] #[]] }, W1, gf,
    #[.func (.yield (w.heap.size + 1)) #[] #[]] ++ lb, W1, ?_, ?_, ?_, ?_, fun _ => h1, ?_⟩
  · rw [← hW1]; exact run_enterLoop_outer _ _ _ _ _
  · simp only [resolve, hg]; simp [go_sem]
  · intro f' hf'; simp [Target.leads] at hf'; subst hf'; exact hFg
  · simp [invoke, go_sem, eg]
  refine (hseq (w.heap.size + 1) (fun pre W => I pre W ∧ W.heap[w.heap.size + 1]? = some (.loop (rc .ready none)) ∧ W.heap[w.heap.size]? = some (.deferred (some [])))
    (fun pre W => Ix pre W ∧ W.heap[w.heap.size + 1]? = some (.loop (rc .done (some .ret))) ∧ W.heap[w.heap.size]? = some (.deferred (some []))) W1 hB1 ?_ ?_ ?_ ⟨hI _ _ _ h0 hk1, hL, hK⟩).mono ?_
  · rintro s A B ⟨ha, hb, hc⟩ hk
    rw [hsz] at hk
    exact ⟨hI _ _ _ ha (hk.wider (fun x _ hx => by simp at hx; simp [hx])), hk.at hb (by simp), hk.at hc (by simp)⟩
  · rintro s A B ⟨ha, hb, hc⟩ hk
    rw [hsz] at hk
    exact ⟨hIx _ _ _ ha (hk.wider (fun x _ hx => by simp at hx; simp [hx])), hk.at hb (by simp), hk.at hc (by simp)⟩
  · rintro pre x W ⟨ha, hb, hc⟩ hft hzp
    rw [hsz] at hft ⊢
    have hyl := run_yield (P := P) (args := encs x) hb (hps x)
    refine ⟨fn, _, assign, body, hyl, roundIn_of_wpIn hfn (hassign _ x W _ (hFs _ _ hft) (fun p Wa hka has => ⟨_, run_beginRound (hka.at hb (by simp)) rfl, ?_⟩))⟩
    have hba := hka.at hb (by simp)
    have hlt := lt_of_block hba
    obtain ⟨W2, hW2⟩ : ∃ W2, Wa.putObj (w.heap.size + 1) (.loop { rc .ready none with state := .busy }) = W2 := ⟨_, rfl⟩
    have hb2 : W2.heap[w.heap.size + 1]? = some (.loop { rc .ready none with state := .busy }) := by rw [← hW2]; exact World.putObj_heap_same hlt
    have hk2a : Kept [w.heap.size + 1] Wa W2 := by rw [← hW2]; exact kept_putObj _ _ _
    have hk2 : Kept [w.heap.size + 1] W W2 := (hka.wider (fun _ _ h => by simp at h)).trans hk2a
    have hc2 := hk2.at hc (by simp)
    have ha2 := hI _ _ _ ha (hk2.wider (fun x _ hx => by simp at hx; simp [hx]))
    rw [hW2]
    refine wpIn_mono (hbody _ pre x p W2 ha2 (hFt _ _ _ hft hk2) hzp (Nat.lt_of_lt_of_le (hFs _ _ hft) hk2.size) (hAs _ _ _ _ has hk2a)) ?_
    rintro e a3 W3 hp
    cases e with
    | normal =>
      obtain ⟨hk3, hi3⟩ := hp
      have hb3 := hk3.at hb2 (Or.inr (Or.inr (Or.inl rfl)))
      have hk4 := kept_putObj W3 (w.heap.size + 1) (.loop (rc .ready none))
      refine ⟨_, _, run_endRound none hb3, .inl ⟨rfl, ⟨hI _ _ _ hi3 (hk4.wider (fun x _ hx => by simp at hx; simp [hx])), World.putObj_heap_same (lt_of_block hb3), hk4.at (hk3.at hc2 (Or.inr (Or.inl rfl))) (by simp)⟩, ?_⟩⟩
      refine Keep.trans (Keep.trans (hk2.keep fun k hk hB => ?_) (hk3.less fun k hk hB => ?_)) (hk4.keep fun k hk hB => ?_)
      · rcases hB with h | h
        · have := hneed k h; simp; omega
        · simp; omega
      · rcases hB with h | h
        · exact Or.inl h
        · exact Or.inr (Or.inr (Or.inr h))
      · rcases hB with h | h
        · have := hneed k h; simp; omega
        · simp; omega
    | ret =>
      obtain ⟨hk3, hi3⟩ := hp
      have hb3 := hk3.at hb2 (Or.inr rfl)
      have hk4 := kept_putObj W3 (w.heap.size + 1) (.loop (rc .done (some .ret)))
      exact ⟨_, _, run_endRound (some .ret) hb3, .inr ⟨rfl, hIx _ _ _ hi3 (hk4.wider (fun x _ hx => by simp at hx; simp [hx])), World.putObj_heap_same (lt_of_block hb3), hk4.at (hk3.at hc2 (Or.inl rfl)) (by simp)⟩⟩
    | panic ch => exact hp.elim
    | exit _ => exact hp.elim
    | goto _ => exact hp.elim
    | outgrown => exact hp.elim
  · rintro e W2 ⟨⟨v, rfl⟩, (⟨xs, hS, hi, hl, hk⟩ | ⟨pre, hSp, hi, hl, hk⟩)⟩
    · have hk4 := fun o => kept_putObj W2 (w.heap.size + 1) o
      exact ⟨none, _, run_endLoop hl (by simp [rc]), hdone xs _ hS (hI _ _ _ hi ((hk4 _).wider (fun x _ hx => by simp at hx; simp [hx]))) ((hk4 _).at hk (by simp))⟩
    · have hk4 := fun o => kept_putObj W2 (w.heap.size + 1) o
      exact ⟨some .ret, _, run_endLoop hl (by simp [rc]), hstop pre _ hSp (hIx _ _ _ hi ((hk4 _).wider (fun x _ hx => by simp at hx; simp [hx]))) ((hk4 _).at hk (by simp))⟩
end Go.Proofs.Ytkabfdclecbnpaa
