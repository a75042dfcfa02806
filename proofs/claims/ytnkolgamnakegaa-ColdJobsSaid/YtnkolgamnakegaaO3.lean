
/- object: a store in memory; an operation begins. -/
import Derived.Test.YtnkolgamnakegaaO2
import Derived.Test.YtnkolgamnakegaaHW
namespace Go.Proofs.Ytnkolgamnakegaa
open Go.RowKit Go.Lib Go.Maps

/-- A slice whose cells lie in blocks of S. -/
def SrcS (w : World) (S : List Nat) (sv : Value) (n : Nat) (xs : List Value) : Prop :=
  xs.length = n ∧ ∃ a c, sv = .slice a n c ∧ n ≤ c ∧ c ≤ 9223372036854775807 ∧ (a = none → c = 0) ∧ ∀ (j : Nat) u, xs[j]? = some u → ∃ x, a = some x ∧ x.block ∈ S ∧ w.cell? (x.add j) = some u
theorem SrcS.kept {w w' : World} {S U : List Nat} {sv : Value} {n : Nat} {xs : List Value} (h : SrcS w S sv n xs) (hk : Kept U w w') (hd : ∀ x ∈ S, x ∉ U) : SrcS w' S sv n xs := by
  obtain ⟨h0, a, c, h1, h2, h3, h4, h5⟩ := h
  refine ⟨h0, a, c, h1, h2, h3, h4, fun j u hj => ?_⟩
  obtain ⟨x, hx, hS, hc⟩ := h5 j u hj
  exact ⟨x, hx, hS, (hk.cell (World.block_lt_of_cell? w _ hc) (by rw [add_block]; exact hd _ hS)).trans hc⟩
theorem SrcS.more {w : World} {S U : List Nat} {sv : Value} {n : Nat} {xs : List Value} (h : SrcS w S sv n xs) (hU : ∀ x ∈ S, x ∈ U) : SrcS w U sv n xs := by
  obtain ⟨h0, a, c, h1, h2, h3, h4, h5⟩ := h
  refine ⟨h0, a, c, h1, h2, h3, h4, fun j u hj => ?_⟩
  obtain ⟨x, hx, hS, hc⟩ := h5 j u hj
  exact ⟨x, hx, hU _ hS, hc⟩
theorem SrcS.src {w : World} {S : List Nat} {sv : Value} {n : Nat} {xs : List Value} (h : SrcS w S sv n xs) : Src w sv n xs := by
  obtain ⟨h0, a, c, rfl, h2, h3, h4, h5⟩ := h
  cases a with
  | none =>
    have := h4 rfl
    subst this
    have hn : n = 0 := by omega
    subst hn
    exact Or.inl ⟨rfl, rfl, List.eq_nil_of_length_eq_zero h0⟩
  | some x => exact Or.inr ⟨x, c, rfl, fun j u hj => by obtain ⟨y, hy, _, hc⟩ := h5 j u hj; cases hy; exact hc⟩
theorem SrcS.nil (w : World) (S : List Nat) : SrcS w S (.slice none 0 0) 0 [] := ⟨rfl, none, 0, rfl, Nat.le_refl _, by omega, fun _ => rfl, fun j u h => by simp at h⟩
theorem addr_two (x : Addr) (i j : Nat) : (x.add i).add j = x.add (i + j) := by
  unfold Addr.add
  by_cases hi : i = 0
  · subst hi; simp
  · by_cases hj : j = 0
    · subst hj; simp [hi]
    · simp [hi, hj, Nat.add_assoc]
/-- The rest of a slice of truths. -/
theorem bool_rest (sv : Value) (n : Nat) (b : Value) (r : List Value) (S : List Nat) (w : World) (h : SrcS w S sv (n + 1) (b :: r)) :
    ∃ a2 c2, (∀ W, (Instr.sliceAt 22 sv (some (.int .i64 1)) none none).run Try.prog W = .ok (.slice a2 n c2) W) ∧ ∀ W, SrcS W S sv (n + 1) (b :: r) → SrcS W S (.slice a2 n c2) n r := by
  obtain ⟨h0, a, c, rfl, h2, h3, h4, h5⟩ := h
  obtain ⟨x, rfl, _, _⟩ := h5 0 b rfl
  have hs : ∀ W, (sizeOf 4).run Try.prog W = .ok 1 W := fun W => by kernel_rfl
  refine ⟨some (if c = 1 then x else x.add 1), c - 1, fun W => ?_, fun W hW => ?_⟩
  · rw [run_sliceAt_slice W 22 _ _ _ _ (by simp [Program.elem, Try.underlying22])]
    have e : Try.prog.elem 22 = 4 := by simp [Program.elem, Try.underlying22]
    rw [run_slice_l W 22 _ _ _ (by simp [Program.elem, Try.underlying22]) .i64 (1 : Int) (by omega) (by omega), e, hs]
    simp [Result.andThen, sliced]
    split <;> simp_all
  · obtain ⟨g0, a', c', g1, g2, g3, g4, g5⟩ := hW
    simp at g1
    obtain ⟨rfl, rfl⟩ := g1
    refine ⟨by simpa using g0, _, _, rfl, by omega, by omega, fun h => by simp at h, fun j u hj => ?_⟩
    obtain ⟨y, hy, hS, hc⟩ := g5 (j + 1) u (by simpa using hj)
    cases hy
    have hj2 : j < n := by
      have h6 := (List.getElem?_eq_some_iff.1 hj).1
      simp at g0
      omega
    rw [if_neg (by omega)]
    exact ⟨_, rfl, by rw [add_block]; exact hS, by rw [addr_two, Nat.add_comm 1 j]; exact hc⟩

/-- A map of things. -/
def Mp (w : World) (S : List Nat) (mv : Value) (es : List Ent) : Prop :=
  (mv = .map none ∧ es = []) ∨ ∃ b, mv = .map (some b) ∧ b ∈ S ∧ w.ownsMap Try.prog 9 heldR b es.length (DM es)
theorem owns_tight {P : Program} {k : TypeId} {w : World} {b n : Nat} {es : List Ent} (h : w.ownsMap P k heldR b n (DM es)) : w.ownsMap P k heldR b es.length (DM es) := by
  obtain ⟨m, clock, hb, F, hs, hD⟩ := h
  refine ⟨m, clock, hb, F, ?_, hD⟩
  have h1 := DM_size es
  rw [hD] at h1
  have h2 : Maps.size (DataW.map ((m.toList.map (Go.WideElems.rg P k heldR)).foldr DataW.insert [])) = m.size := by simp [Maps.size, length_sorted]
  omega
theorem Kept.ownsMap' {S : List Nat} {w w' : World} (hk : Kept S w w') {H : Type} {P : Program} {k : TypeId} {R : Value → Option (DataW H × List MemPlace)} {b n : Nat} {D : DataW H} (h : w.ownsMap P k R b n D) (hb : b ∉ S) : w'.ownsMap P k R b n D := by
  obtain ⟨es, clock, h1, r⟩ := h
  exact ⟨es, clock, hk.at h1 hb, r⟩
theorem Mp.kept {w w' : World} {S U : List Nat} {mv : Value} {es : List Ent} (h : Mp w S mv es) (hk : Kept U w w') (hd : ∀ x ∈ S, x ∉ U) : Mp w' S mv es := by
  rcases h with h | ⟨b, h1, h2, h3⟩
  · exact Or.inl h
  · exact Or.inr ⟨b, h1, h2, hk.ownsMap' h3 (hd b h2)⟩
theorem Mp.more {w : World} {S U : List Nat} {mv : Value} {es : List Ent} (h : Mp w S mv es) (hU : ∀ x ∈ S, x ∈ U) : Mp w U mv es := by
  rcases h with h | ⟨b, h1, h2, h3⟩
  · exact Or.inl h
  · exact Or.inr ⟨b, h1, hU b h2, h3⟩
theorem Mp.rising {w : World} {S : List Nat} {mv : Value} {es : List Ent} (h : Mp w S mv es) : Rising es := by
  rcases h with ⟨_, rfl⟩ | ⟨b, _, _, h⟩
  · exact List.Pairwise.nil
  · exact owns_rising (string_keyed Try.underlying9) h

theorem free_of_row' {W : World} {p T : Nat} {cs : Array Value} (h : W.heap[p]? = some (.cells cs T (0, 0))) (i : Nat) : W.frozen? ⟨p, i, none⟩ = false := by
  unfold World.frozen?; simp [h]
/-- A store's cells. -/
def stC (q : Int) (mv : Value) (sz : Int) (fv flv : Value) (k : Int) (more : List Value) : Array Value := ([.int .i64 q, mv, .int .i64 sz, fv, flv, .int .i64 k] ++ more).toArray
/-- A store that begins block p (what stands behind it there: more); S: its blocks. -/
structure Ob (w : World) (S : List Nat) (p T : Nat) (more : List Value) (q : Int) (es : List Ent) (fv : Value) (fl : List Bool) (k : Nat) : Prop where
  row : ∃ mv flv R, (∀ x ∈ R, x ∈ S ∧ x ≠ p ∧ mv ≠ .map (some x)) ∧ w.heap[p]? = some (.cells (stC q mv (sizeE es) fv flv k more) T (0, 0)) ∧ Mp w S mv es ∧ mv ≠ .map (some p) ∧ SrcS w R flv fl.length (fl.map .bool) ∧ ∀ e ∈ es, SrcS w R e.v e.b.length (e.b.map B)
  hp : p ∈ S
  bound : ∀ x ∈ S, x < w.heap.size
  quota : 0 ≤ q ∧ q ≤ 9223372036854775807
  small : sizeE es ≤ 1099511627776 ∧ es.length ≤ 4096 ∧ ∀ e ∈ es, okName e.name = true
theorem Ob.kept {w w' : World} {S U : List Nat} {p T : Nat} {more : List Value} {q : Int} {es : List Ent} {fv : Value} {fl : List Bool} {k : Nat} (h : Ob w S p T more q es fv fl k) (hk : Kept U w w') (hd : ∀ x ∈ S, x ∉ U) : Ob w' S p T more q es fv fl k := by
  obtain ⟨⟨mv, flv, R, h1, h2, h3, h4, h5, h6⟩, hp, hb, hq, hs⟩ := h
  have hR : ∀ x ∈ R, x ∉ U := fun x hx => hd x (h1 x hx).1
  exact ⟨⟨mv, flv, R, h1, hk.at h2 (hd p hp), h3.kept hk hd, h4, h5.kept hk hR, fun e he => (h6 e he).kept hk hR⟩, hp, fun x hx => Nat.lt_of_lt_of_le (hb x hx) hk.size, hq, hs⟩
theorem Ob.rising {w : World} {S : List Nat} {p T : Nat} {more : List Value} {q : Int} {es : List Ent} {fv : Value} {fl : List Bool} {k : Nat} (h : Ob w S p T more q es fv fl k) : Rising es := by
  obtain ⟨⟨mv, flv, R, h1, h2, h3, _⟩, _⟩ := h
  exact h3.rising
theorem stC_get (q : Int) (mv : Value) (sz : Int) (fv flv : Value) (k : Int) (more : List Value) :
    (stC q mv sz fv flv k more)[0]? = some (.int .i64 q) ∧ (stC q mv sz fv flv k more)[1]? = some mv ∧ (stC q mv sz fv flv k more)[2]? = some (.int .i64 sz) ∧ (stC q mv sz fv flv k more)[3]? = some fv ∧ (stC q mv sz fv flv k more)[4]? = some flv ∧ (stC q mv sz fv flv k more)[5]? = some (.int .i64 k) := by
  unfold stC; simp
theorem stC_set (q : Int) (mv : Value) (sz : Int) (fv flv : Value) (k : Int) (more : List Value) (u : Value) (m : Int) :
    (stC q mv sz fv flv k more).setIfInBounds 1 u = stC q u sz fv flv k more ∧ (stC q mv sz fv flv k more).setIfInBounds 2 (.int .i64 m) = stC q mv m fv flv k more ∧ (stC q mv sz fv flv k more).setIfInBounds 3 u = stC q mv sz u flv k more ∧
    (stC q mv sz fv flv k more).setIfInBounds 4 u = stC q mv sz fv u k more ∧ (stC q mv sz fv flv k more).setIfInBounds 5 (.int .i64 m) = stC q mv sz fv flv m more := by
  unfold stC; simp
/-- A fuse and how much it has left. -/
def FuV (w : World) (S : List Nat) (fv : Value) (left : Int) : Prop :=
  (fv = .pointer none ∧ left = -1) ∨ ∃ f, fv = .pointer (some ⟨f, 0, none⟩) ∧ f ∉ S ∧ w.heap[f]? = some (.cells #[.int .i64 left] 89 (0, 0)) ∧ -1 ≤ left ∧ left ≤ 9223372036854775807
def fuB : Value → List Nat
  | .pointer (some a) => [a.block]
  | _ => []
theorem FuV.kept {w w' : World} {S U : List Nat} {fv : Value} {left : Int} (h : FuV w S fv left) (hk : Kept U w w') (hd : ∀ x ∈ fuB fv, x ∉ U) : FuV w' S fv left := by
  rcases h with h | ⟨f, rfl, h2, h3, h4⟩
  · exact Or.inl h
  · exact Or.inr ⟨f, rfl, h2, hk.at h3 (hd f (by simp [fuB])), h4⟩
def decL (left : Int) : Int := if 0 < left then left - 1 else left
def opE (fl : List Bool) : Int := if fl.head? = some true then 30 else 0
/-- A fuse's step that does not blow. -/
theorem step_go (w : World) (S : List Nat) (f : Nat) (left : Int) (h : FuV w S (.pointer (some ⟨f, 0, none⟩)) left) (h0 : left ≠ 0) :
    Calls Try.prog 75 #[.pointer (some ⟨f, 0, none⟩)] w fun e w' => e = .returned (.tuple #[]) ∧ Kept [f] w w' ∧ FuV w' S (.pointer (some ⟨f, 0, none⟩)) (decL left) := by
  rcases h with ⟨h, _⟩ | ⟨g, hg, h2, h3, h4, h5⟩
  · simp at h
  · simp at hg
    subst hg
    by_cases hp : 0 < left
    · refine (step_some f left hp h5 w h3).mono ?_
      rintro e w' ⟨rfl, rfl⟩
      have e1 : decL left = left - 1 := by unfold decL; rw [if_pos hp]
      refine ⟨rfl, (Kept.refl [f] w).setCell (p := ⟨f, 0, none⟩) (fun _ => by simp) _, Or.inr ⟨f, rfl, h2, ?_, by omega, by omega⟩⟩
      rw [e1]
      exact one_setCell h3
    · obtain rfl : left = -1 := by omega
      refine (step_forever f w h3).mono ?_
      rintro e w' ⟨rfl, rfl⟩
      exact ⟨rfl, Kept.refl _ _, Or.inr ⟨f, rfl, h2, h3, by decide, by decide⟩⟩
end Go.Proofs.Ytnkolgamnakegaa
