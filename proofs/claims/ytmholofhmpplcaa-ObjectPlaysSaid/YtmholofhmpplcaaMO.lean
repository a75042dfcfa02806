import Derived.Test.YtmholofhmpplcaaO2
import Derived.Test.YtmholofhmpplcaaHW
import Derived.Test.YtmholofhmpplcaaSh

/- object: a store in memory; an operation begins. -/
namespace Go.Proofs.Ytmholofhmpplcaa
open Go.RowKit Go.Lib Go.Maps

/-- A slice whose cells lie in blocks of S. -/
def SrcS (w : World) (S : List Nat) (sv : Value) (n : Nat) (xs : List Value) : Prop :=
  xs.length = n ∧ ∃ a c, sv = .slice a n c ∧ n ≤ c ∧ c ≤ 9223372036854775807 ∧ (a = none → c = 0) ∧ ∀ (j : Nat) u, xs[j]? = some u → ∃ x, a = some x ∧ x.block ∈ S ∧ w.cell? (x.add j) = some u
theorem SrcS.kept {w w' : World} {S U : List Nat} {sv : Value} {n : Nat} {xs : List Value} (h : SrcS w S sv n xs) (hk : Kept U w w') (hd : ∀ x ∈ S, x ∉ U) : SrcS w' S sv n xs := by
  obtain ⟨h0, a, c, h1, h2, h3, h4, h5⟩ := h
  refine ⟨h0, a, c, h1, h2, h3, h4, fun j u hj => ?_⟩
  obtain ⟨x, hx, hS, hc⟩ := h5 j u hj
  exact ⟨x, hx, hS, (hk.cell (World.block_lt_of_cell? w _ hc) (by rw [add_block]; exact hd _ hS)).trans hc⟩
theorem SrcS.more {w : World} {S U : List Nat} {sv : Value} {n : Nat} {xs : List Value} (h : SrcS w S sv n xs) (hU : ∀ x ∈ S, x ∈ U) : SrcS w U sv n xs := by
  obtain ⟨h0, a, c, h1, h2, h3, h4, h5⟩ := h
  refine ⟨h0, a, c, h1, h2, h3, h4, fun j u hj => ?_⟩
  obtain ⟨x, hx, hS, hc⟩ := h5 j u hj
  exact ⟨x, hx, hU _ hS, hc⟩
theorem SrcS.src {w : World} {S : List Nat} {sv : Value} {n : Nat} {xs : List Value} (h : SrcS w S sv n xs) : Src w sv n xs := by
  obtain ⟨h0, a, c, rfl, h2, h3, h4, h5⟩ := h
  cases a with
  | none =>
    have := h4 rfl
    subst this
    have hn : n = 0 := by omega
    subst hn
    exact Or.inl ⟨rfl, rfl, List.eq_nil_of_length_eq_zero h0⟩
  | some x => exact Or.inr ⟨x, c, rfl, fun j u hj => by obtain ⟨y, hy, _, hc⟩ := h5 j u hj; cases hy; exact hc⟩
theorem SrcS.nil (w : World) (S : List Nat) : SrcS w S (.slice none 0 0) 0 [] := ⟨rfl, none, 0, rfl, Nat.le_refl _, by omega, fun _ => rfl, fun j u h => by simp at h⟩
theorem addr_two (x : Addr) (i j : Nat) : (x.add i).add j = x.add (i + j) := by
  unfold Addr.add
  by_cases hi : i = 0
  · subst hi; simp
  · by_cases hj : j = 0
    · subst hj; simp [hi]
    · simp [hi, hj, Nat.add_assoc]
/-- The rest of a slice of truths. -/
theorem bool_rest (sv : Value) (n : Nat) (b : Value) (r : List Value) (S : List Nat) (w : World) (h : SrcS w S sv (n + 1) (b :: r)) :
    ∃ a2 c2, (∀ W, (Instr.sliceAt 22 sv (some (.int .i64 1)) none none).run Try.prog W = .ok (.slice a2 n c2) W) ∧ ∀ W, SrcS W S sv (n + 1) (b :: r) → SrcS W S (.slice a2 n c2) n r := by
  obtain ⟨h0, a, c, rfl, h2, h3, h4, h5⟩ := h
  obtain ⟨x, rfl, _, _⟩ := h5 0 b rfl
  have hs : ∀ W, (sizeOf 4).run Try.prog W = .ok 1 W := fun W => by kernel_rfl
  refine ⟨some (if c = 1 then x else x.add 1), c - 1, fun W => ?_, fun W hW => ?_⟩
  · rw [run_sliceAt_slice W 22 _ _ _ _ (by simp [Program.elem, Try.underlying22])]
    have e : Try.prog.elem 22 = 4 := by simp [Program.elem, Try.underlying22]
    rw [run_slice_l W 22 _ _ _ (by simp [Program.elem, Try.underlying22]) .i64 (1 : Int) (by omega) (by omega), e, hs]
    simp [Result.andThen, sliced]
    split <;> simp_all
  · obtain ⟨g0, a', c', g1, g2, g3, g4, g5⟩ := hW
    simp at g1
    obtain ⟨rfl, rfl⟩ := g1
    refine ⟨by simpa using g0, _, _, rfl, by omega, by omega, fun h => by simp at h, fun j u hj => ?_⟩
    obtain ⟨y, hy, hS, hc⟩ := g5 (j + 1) u (by simpa using hj)
    cases hy
    have hj2 : j < n := by
      have h6 := (List.getElem?_eq_some_iff.1 hj).1
      simp at g0
      omega
    rw [if_neg (by omega)]
    exact ⟨_, rfl, by rw [add_block]; exact hS, by rw [addr_two, Nat.add_comm 1 j]; exact hc⟩

/-- A map of things. -/
def Mp (w : World) (S : List Nat) (mv : Value) (es : List Ent) : Prop :=
  (mv = .map none ∧ es = []) ∨ ∃ b, mv = .map (some b) ∧ b ∈ S ∧ w.ownsMap Try.prog 9 heldR b es.length (DM es)
theorem owns_tight {P : Program} {k : TypeId} {w : World} {b n : Nat} {es : List Ent} (h : w.ownsMap P k heldR b n (DM es)) : w.ownsMap P k heldR b es.length (DM es) := by
  obtain ⟨m, clock, hb, F, hs, hD⟩ := h
  refine ⟨m, clock, hb, F, ?_, hD⟩
  have h1 := DM_size es
  rw [hD] at h1
  have h2 : Maps.size (DataW.map ((m.toList.map (Go.WideElems.rg P k heldR)).foldr DataW.insert [])) = m.size := by simp [Maps.size, length_sorted]
  omega
theorem Kept.ownsMap' {S : List Nat} {w w' : World} (hk : Kept S w w') {H : Type} {P : Program} {k : TypeId} {R : Value → Option (DataW H × List MemPlace)} {b n : Nat} {D : DataW H} (h : w.ownsMap P k R b n D) (hb : b ∉ S) : w'.ownsMap P k R b n D := by
  obtain ⟨es, clock, h1, r⟩ := h
  exact ⟨es, clock, hk.at h1 hb, r⟩
theorem Mp.kept {w w' : World} {S U : List Nat} {mv : Value} {es : List Ent} (h : Mp w S mv es) (hk : Kept U w w') (hd : ∀ x ∈ S, x ∉ U) : Mp w' S mv es := by
  rcases h with h | ⟨b, h1, h2, h3⟩
  · exact Or.inl h
  · exact Or.inr ⟨b, h1, h2, hk.ownsMap' h3 (hd b h2)⟩
theorem Mp.more {w : World} {S U : List Nat} {mv : Value} {es : List Ent} (h : Mp w S mv es) (hU : ∀ x ∈ S, x ∈ U) : Mp w U mv es := by
  rcases h with h | ⟨b, h1, h2, h3⟩
  · exact Or.inl h
  · exact Or.inr ⟨b, h1, hU b h2, h3⟩
theorem Mp.rising {w : World} {S : List Nat} {mv : Value} {es : List Ent} (h : Mp w S mv es) : Rising es := by
  rcases h with ⟨_, rfl⟩ | ⟨b, _, _, h⟩
  · exact List.Pairwise.nil
  · exact owns_rising (string_keyed Try.underlying9) h

theorem free_of_row' {W : World} {p T : Nat} {cs : Array Value} (h : W.heap[p]? = some (.cells cs T (0, 0))) (i : Nat) : W.frozen? ⟨p, i, none⟩ = false := by
  unfold World.frozen?; simp [h]
/-- A store's cells. -/
def stC (q : Int) (mv : Value) (sz : Int) (fv flv : Value) (k : Int) (more : List Value) : Array Value := ([.int .i64 q, mv, .int .i64 sz, fv, flv, .int .i64 k] ++ more).toArray
/-- A store that begins block p (what stands behind it there: more); S: its blocks. -/
structure Ob (w : World) (S : List Nat) (p T : Nat) (more : List Value) (q : Int) (es : List Ent) (fv : Value) (fl : List Bool) (k : Nat) : Prop where
  row : ∃ mv flv R, (∀ x ∈ R, x ∈ S ∧ x ≠ p ∧ mv ≠ .map (some x)) ∧ w.heap[p]? = some (.cells (stC q mv (sizeE es) fv flv k more) T (0, 0)) ∧ Mp w S mv es ∧ mv ≠ .map (some p) ∧ SrcS w R flv fl.length (fl.map .bool) ∧ ∀ e ∈ es, SrcS w R e.v e.b.length (e.b.map B)
  hp : p ∈ S
  bound : ∀ x ∈ S, x < w.heap.size
  quota : 0 ≤ q ∧ q ≤ 9223372036854775807
  small : sizeE es ≤ 1099511627776 ∧ es.length ≤ 4096 ∧ ∀ e ∈ es, okName e.name = true
theorem Ob.kept {w w' : World} {S U : List Nat} {p T : Nat} {more : List Value} {q : Int} {es : List Ent} {fv : Value} {fl : List Bool} {k : Nat} (h : Ob w S p T more q es fv fl k) (hk : Kept U w w') (hd : ∀ x ∈ S, x ∉ U) : Ob w' S p T more q es fv fl k := by
  obtain ⟨⟨mv, flv, R, h1, h2, h3, h4, h5, h6⟩, hp, hb, hq, hs⟩ := h
  have hR : ∀ x ∈ R, x ∉ U := fun x hx => hd x (h1 x hx).1
  exact ⟨⟨mv, flv, R, h1, hk.at h2 (hd p hp), h3.kept hk hd, h4, h5.kept hk hR, fun e he => (h6 e he).kept hk hR⟩, hp, fun x hx => Nat.lt_of_lt_of_le (hb x hx) hk.size, hq, hs⟩
theorem Ob.rising {w : World} {S : List Nat} {p T : Nat} {more : List Value} {q : Int} {es : List Ent} {fv : Value} {fl : List Bool} {k : Nat} (h : Ob w S p T more q es fv fl k) : Rising es := by
  obtain ⟨⟨mv, flv, R, h1, h2, h3, _⟩, _⟩ := h
  exact h3.rising
theorem stC_get (q : Int) (mv : Value) (sz : Int) (fv flv : Value) (k : Int) (more : List Value) :
    (stC q mv sz fv flv k more)[0]? = some (.int .i64 q) ∧ (stC q mv sz fv flv k more)[1]? = some mv ∧ (stC q mv sz fv flv k more)[2]? = some (.int .i64 sz) ∧ (stC q mv sz fv flv k more)[3]? = some fv ∧ (stC q mv sz fv flv k more)[4]? = some flv ∧ (stC q mv sz fv flv k more)[5]? = some (.int .i64 k) := by
  unfold stC; simp
theorem stC_set (q : Int) (mv : Value) (sz : Int) (fv flv : Value) (k : Int) (more : List Value) (u : Value) (m : Int) :
    (stC q mv sz fv flv k more).setIfInBounds 1 u = stC q u sz fv flv k more ∧ (stC q mv sz fv flv k more).setIfInBounds 2 (.int .i64 m) = stC q mv m fv flv k more ∧ (stC q mv sz fv flv k more).setIfInBounds 3 u = stC q mv sz u flv k more ∧
    (stC q mv sz fv flv k more).setIfInBounds 4 u = stC q mv sz fv u k more ∧ (stC q mv sz fv flv k more).setIfInBounds 5 (.int .i64 m) = stC q mv sz fv flv m more := by
  unfold stC; simp
/-- A fuse and how much it has left. -/
def FuV (w : World) (S : List Nat) (fv : Value) (left : Int) : Prop :=
  (fv = .pointer none ∧ left = -1) ∨ ∃ f, fv = .pointer (some ⟨f, 0, none⟩) ∧ f ∉ S ∧ w.heap[f]? = some (.cells #[.int .i64 left] 60 (0, 0)) ∧ -1 ≤ left ∧ left ≤ 9223372036854775807
def fuB : Value → List Nat
  | .pointer (some a) => [a.block]
  | _ => []
theorem FuV.kept {w w' : World} {S U : List Nat} {fv : Value} {left : Int} (h : FuV w S fv left) (hk : Kept U w w') (hd : ∀ x ∈ fuB fv, x ∉ U) : FuV w' S fv left := by
  rcases h with h | ⟨f, rfl, h2, h3, h4⟩
  · exact Or.inl h
  · exact Or.inr ⟨f, rfl, h2, hk.at h3 (hd f (by simp [fuB])), h4⟩
def decL (left : Int) : Int := if 0 < left then left - 1 else left
def opE (fl : List Bool) : Int := if fl.head? = some true then 30 else 0
/-- A fuse's step that does not blow. -/
theorem step_go (w : World) (S : List Nat) (f : Nat) (left : Int) (h : FuV w S (.pointer (some ⟨f, 0, none⟩)) left) (h0 : left ≠ 0) :
    Calls Try.prog 50 #[.pointer (some ⟨f, 0, none⟩)] w fun e w' => e = .returned (.tuple #[]) ∧ Kept [f] w w' ∧ FuV w' S (.pointer (some ⟨f, 0, none⟩)) (decL left) := by
  rcases h with ⟨h, _⟩ | ⟨g, hg, h2, h3, h4, h5⟩
  · simp at h
  · simp at hg
    subst hg
    by_cases hp : 0 < left
    · refine (step_some f left hp h5 w h3).mono ?_
      rintro e w' ⟨rfl, rfl⟩
      have e1 : decL left = left - 1 := by unfold decL; rw [if_pos hp]
      refine ⟨rfl, (Kept.refl [f] w).setCell (p := ⟨f, 0, none⟩) (fun _ => by simp) _, Or.inr ⟨f, rfl, h2, ?_, by omega, by omega⟩⟩
      rw [e1]
      exact one_setCell h3
    · obtain rfl : left = -1 := by omega
      refine (step_forever f w h3).mono ?_
      rintro e w' ⟨rfl, rfl⟩
      exact ⟨rfl, Kept.refl _ _, Or.inr ⟨f, rfl, h2, h3, by decide, by decide⟩⟩
end Go.Proofs.Ytmholofhmpplcaa


/- object: an operation begins. -/
namespace Go.Proofs.Ytmholofhmpplcaa
open Go.RowKit Go.Lib Go.Maps

theorem st_cells {W : World} {p T : Nat} {q : Int} {mv : Value} {sz : Int} {fv flv : Value} {k : Int} {more : List Value} (h : W.heap[p]? = some (.cells (stC q mv sz fv flv k more) T (0, 0))) :
    W.cell? ⟨p, 0, none⟩ = some (.int .i64 q) ∧ W.cell? ⟨p, 1, none⟩ = some mv ∧ W.cell? ⟨p, 2, none⟩ = some (.int .i64 sz) ∧ W.cell? ⟨p, 3, none⟩ = some fv ∧ W.cell? ⟨p, 4, none⟩ = some flv ∧ W.cell? ⟨p, 5, none⟩ = some (.int .i64 k) := by
  obtain ⟨h0, h1, h2, h3, h4, h5⟩ := stC_get q mv sz fv flv k more
  exact ⟨(cell_of_row _ _ _ _ _ _ h).trans h0, (cell_of_row _ _ _ _ _ _ h).trans h1, (cell_of_row _ _ _ _ _ _ h).trans h2, (cell_of_row _ _ _ _ _ _ h).trans h3, (cell_of_row _ _ _ _ _ _ h).trans h4, (cell_of_row _ _ _ _ _ _ h).trans h5⟩
theorem st_set {W : World} {p T : Nat} {q : Int} {mv : Value} {sz : Int} {fv flv : Value} {k : Int} {more : List Value} (h : W.heap[p]? = some (.cells (stC q mv sz fv flv k more) T (0, 0))) (u : Value) (m : Int) :
    (W.setCell ⟨p, 1, none⟩ u).heap[p]? = some (.cells (stC q u sz fv flv k more) T (0, 0)) ∧ (W.setCell ⟨p, 2, none⟩ (.int .i64 m)).heap[p]? = some (.cells (stC q mv m fv flv k more) T (0, 0)) ∧ (W.setCell ⟨p, 3, none⟩ u).heap[p]? = some (.cells (stC q mv sz u flv k more) T (0, 0)) ∧
    (W.setCell ⟨p, 4, none⟩ u).heap[p]? = some (.cells (stC q mv sz fv u k more) T (0, 0)) ∧ (W.setCell ⟨p, 5, none⟩ (.int .i64 m)).heap[p]? = some (.cells (stC q mv sz fv flv m more) T (0, 0)) := by
  obtain ⟨h1, h2, h3, h4, h5⟩ := stC_set q mv sz fv flv k more u m
  exact ⟨by rw [← h1]; exact Go.heap_setCell_same W p 1 _ _ _ h, by rw [← h2]; exact Go.heap_setCell_same W p 2 _ _ _ h, by rw [← h3]; exact Go.heap_setCell_same W p 3 _ _ _ h, by rw [← h4]; exact Go.heap_setCell_same W p 4 _ _ _ h, by rw [← h5]; exact Go.heap_setCell_same W p 5 _ _ _ h⟩
theorem Ob.mono {w : World} {S U : List Nat} {p T : Nat} {more : List Value} {q : Int} {es : List Ent} {fv : Value} {fl : List Bool} {k : Nat} (h : Ob w S p T more q es fv fl k) (hU : ∀ x ∈ S, x ∈ U) (hb : ∀ x ∈ U, x < w.heap.size) : Ob w U p T more q es fv fl k := by
  obtain ⟨⟨mv, flv, R, h1, h2, h3, h4, h5, h6⟩, hp, _, hq, hs⟩ := h
  exact ⟨⟨mv, flv, R, fun x hx => ⟨hU x (h1 x hx).1, (h1 x hx).2⟩, h2, h3.more hU, h4, h5, h6⟩, hU p hp, hb, hq, hs⟩
/-- Began: what is told, what has turned. -/
def Began (w : World) (S : List Nat) (p T : Nat) (more : List Value) (q : Int) (es : List Ent) (fv : Value) (fl : List Bool) (k : Nat) (left : Int) (e : Ending) (w' : World) : Prop :=
  e = .returned (.int .i64 (opE fl)) ∧ Kept (p :: fuB fv) w w' ∧ Ob w' S p T more q es fv (fl.drop 1) (k + 1) ∧ FuV w' S fv (decL left)
set_option maxHeartbeats 1000000 in
theorem operate_go (w : World) (S : List Nat) (p T : Nat) (more : List Value) (q : Int) (es : List Ent) (fv : Value) (fl : List Bool) (k : Nat) (left : Int) (h : Ob w S p T more q es fv fl k) (hk : k ≤ 1099511627776) (hf : FuV w S fv left) (h0 : left ≠ 0) :
    Calls Try.prog 34 #[.pointer (some ⟨p, 0, none⟩)] w (Began w S p T more q es fv fl k left) := by
  have H := hid h
  have HF := hid hf
  have HL := hid h0
  rcases hf with ⟨rfl, rfl⟩ | ⟨f, rfl, hf2, hf3, hf4, hf5⟩
  · have HW := H
    cases fl with
    | nil =>
      go_enter Try.func34, Try.ntmps34
      obtain ⟨⟨mv, flv, R, hR, hrow, hmp, hmpp, hfl, hth⟩, hp, hb, hq, hs⟩ := HW.out
      obtain ⟨_, _, _, g3, g4, g5⟩ := st_cells hrow
      have f5 : w.frozen? ⟨p, 5, none⟩ = false := free_of_row' hrow 5
      have r2 := (st_set hrow undef ((k : Int) + 1)).2.2.2.2
      have K2 := hid (show Kept [p] w (w.setCell ⟨p, 5, none⟩ (.int .i64 ((k : Int) + 1))) from (Kept.refl [p] w).setCell (p := ⟨p, 5, none⟩) (fun _ => by simp) _)
      have hRp := hid (show ∀ x ∈ R, x ∉ [p] from fun x hx hm => (hR x hx).2.1 (by simpa using hm))
      have hmk := hid (show Mp (w.setCell ⟨p, 5, none⟩ (.int .i64 ((k : Int) + 1))) S mv es from by
        rcases hmp with h | ⟨b, h1, h2, h3⟩
        · exact Or.inl h
        · exact Or.inr ⟨b, h1, h2, K2.out.ownsMap' h3 (fun hm => hmpp (by rw [h1]; simp at hm; rw [hm]))⟩)
      have hth2 := hid (fun e he => (hth e he).kept K2.out hRp.out)
      have hfl2 := hid (hfl.kept K2.out hRp.out)
      have gg4 : (w.setCell ⟨p, 5, none⟩ (.int .i64 ((k : Int) + 1))).cell? ⟨p, 4, none⟩ = some flv := (st_cells r2).2.2.2.2.1
      have ff4 : (w.setCell ⟨p, 5, none⟩ (.int .i64 ((k : Int) + 1))).frozen? ⟨p, 4, none⟩ = false := free_of_row' r2 4
      have R2 := hid r2
      have HR := hid hR; have HMPP := hid hmpp; have HP := hid hp; have HB := hid hb; have HQ := hid hq; have HS := hid hs
      have hzK := hid (show w.heap.size ≤ (w.setCell ⟨p, 5, none⟩ (.int .i64 ((k : Int) + 1))).heap.size from K2.out.size)
      obtain ⟨hl0, fa, fc, rfl, hc1, hc2, hc3, _⟩ := hfl
      have hfin := hid (show Ob (w.setCell ⟨p, 5, none⟩ (.int .i64 ((k : Int) + 1))) S p T more q es (.pointer none) [] (k + 1) from
        ⟨⟨mv, _, R, HR.out, by simpa using R2.out, hmk.out, HMPP.out, hfl2.out, hth2.out⟩, HP.out, fun x hx => Nat.lt_of_lt_of_le (HB.out x hx) hzK.out, HQ.out, HS.out⟩)
      clear hrow hmp hR hmpp hp hb hq hs hth r2 hl0 hc1 hc2 hc3 h
      go_wp2
      go_ret
      exact ⟨rfl, K2.out, hfin.out, (Or.inl ⟨rfl, rfl⟩)⟩
    | cons b0 r0 =>
      go_enter Try.func34, Try.ntmps34
      obtain ⟨⟨mv, flv, R, hR, hrow, hmp, hmpp, hfl, hth⟩, hp, hb, hq, hs⟩ := HW.out
      obtain ⟨_, _, _, g3, g4, g5⟩ := st_cells hrow
      have f5 : w.frozen? ⟨p, 5, none⟩ = false := free_of_row' hrow 5
      have r2 := (st_set hrow undef ((k : Int) + 1)).2.2.2.2
      have K2 := hid (show Kept [p] w (w.setCell ⟨p, 5, none⟩ (.int .i64 ((k : Int) + 1))) from (Kept.refl [p] w).setCell (p := ⟨p, 5, none⟩) (fun _ => by simp) _)
      have hRp := hid (show ∀ x ∈ R, x ∉ [p] from fun x hx hm => (hR x hx).2.1 (by simpa using hm))
      have hmk := hid (show Mp (w.setCell ⟨p, 5, none⟩ (.int .i64 ((k : Int) + 1))) S mv es from by
        rcases hmp with h | ⟨b, h1, h2, h3⟩
        · exact Or.inl h
        · exact Or.inr ⟨b, h1, h2, K2.out.ownsMap' h3 (fun hm => hmpp (by rw [h1]; simp at hm; rw [hm]))⟩)
      have hth2 := hid (fun e he => (hth e he).kept K2.out hRp.out)
      have hfl2 := hid (hfl.kept K2.out hRp.out)
      have gg4 : (w.setCell ⟨p, 5, none⟩ (.int .i64 ((k : Int) + 1))).cell? ⟨p, 4, none⟩ = some flv := (st_cells r2).2.2.2.2.1
      have ff4 : (w.setCell ⟨p, 5, none⟩ (.int .i64 ((k : Int) + 1))).frozen? ⟨p, 4, none⟩ = false := free_of_row' r2 4
      have R2 := hid r2
      have HR := hid hR; have HMPP := hid hmpp; have HP := hid hp; have HB := hid hb; have HQ := hid hq; have HS := hid hs
      have hzK := hid (show w.heap.size ≤ (w.setCell ⟨p, 5, none⟩ (.int .i64 ((k : Int) + 1))).heap.size from K2.out.size)
      have hx := hid hfl
      obtain ⟨hl0, fa, fc, rfl, hc1, hc2, hc3, h5⟩ := hfl
      obtain ⟨x, rfl, hxR, hxc⟩ := h5 0 (.bool b0) rfl
      have hxs : x.add 0 = x := by simp [Addr.add]
      rw [hxs] at hxc
      have gx : (w.setCell ⟨p, 5, none⟩ (.int .i64 ((k : Int) + 1))).cell? x = some (.bool b0) := (K2.out.cell (World.block_lt_of_cell? _ _ hxc) (hRp.out _ hxR)).trans hxc
      have hlen : (b0 :: r0).length = r0.length + 1 := rfl
      obtain ⟨a2, c2, hsl, hv2⟩ := bool_rest (.slice (some x) (r0.length + 1) fc) r0.length (.bool b0) (r0.map .bool) R w (by simpa using hx.out)
      have r3 := hid (st_set R2.out (.slice a2 r0.length c2) 0).2.2.2.1
      have K3 := hid (show Kept [p] (w.setCell ⟨p, 5, none⟩ (.int .i64 ((k : Int) + 1))) ((w.setCell ⟨p, 5, none⟩ (.int .i64 ((k : Int) + 1))).setCell ⟨p, 4, none⟩ (.slice a2 r0.length c2)) from (Kept.refl [p] _).setCell (p := ⟨p, 4, none⟩) (fun _ => by simp) _)
      have hfin := hid (show Ob ((w.setCell ⟨p, 5, none⟩ (.int .i64 ((k : Int) + 1))).setCell ⟨p, 4, none⟩ (.slice a2 r0.length c2)) S p T more q es (.pointer none) r0 (k + 1) from
        ⟨⟨mv, .slice a2 r0.length c2, R, HR.out, by simpa using r3.out, by
          rcases hmk.out with h | ⟨b, h1, h2, h3⟩
          · exact Or.inl h
          · exact Or.inr ⟨b, h1, h2, K3.out.ownsMap' h3 (fun hm => HMPP.out (by rw [h1]; simp at hm; rw [hm]))⟩, HMPP.out, (hv2 _ (by simpa using hfl2.out)).kept K3.out hRp.out, fun e he => (hth2.out e he).kept K3.out hRp.out⟩, HP.out, fun y hy => Nat.lt_of_lt_of_le (HB.out y hy) (Nat.le_trans hzK.out K3.out.size), HQ.out, HS.out⟩)
      rw [hlen] at g4 gg4
      obtain ⟨er, her⟩ : ∃ er, er = opE (b0 :: r0) := ⟨_, rfl⟩
      have HER := hid her
      have hwh := hid (fun W => by have h := when_any b0 30 W; rw [show (if b0 then (30 : Int) else 0) = er by rw [her]; cases b0 <;> rfl] at h; exact h)
      clear her
      have K4 := hid (K2.out.trans K3.out)
      clear hrow hmp hR hmpp hp hb hq hs hth r2 hl0 hc3 h hx hfl2 h5 hxc hxR hlen hv2 hxs
      generalize r0.length = n at *
      go_wp2_with fail
      refine (hwh.out _).mono ?_
      rintro e wz ⟨rfl, rfl⟩
      go_wp2
      go_ret
      exact ⟨by rw [← HER.out]; rfl, K4.out, hfin.out, (Or.inl ⟨rfl, rfl⟩)⟩
  · cases fl with
    | nil =>
      obtain ⟨⟨mv0, flv0, R0, hR0, hrow0, _⟩, hp0, hb0, _⟩ := H.out
      have g30 := (st_cells hrow0).2.2.2.1
      have hst := hid (step_go w S f left HF.out HL.out)
      clear hR0 hrow0 hf3
      go_enter Try.func34, Try.ntmps34
      go_wp2_with fail
      refine hst.out.mono ?_
      rintro e w1 ⟨rfl, k1, fu1⟩
      have K1 := hid k1
      have F1 := hid fu1
      have HW := hid (H.out.kept k1 (fun x hx hm => hf2 (by simp at hm; rw [← hm]; exact hx)))
      have HN := hid (show f ≠ p from fun e => hf2 (by rw [e]; exact hp0))
      clear k1 fu1 hst g30 hp0 hb0 h
      obtain ⟨⟨mv, flv, R, hR, hrow, hmp, hmpp, hfl, hth⟩, hp, hb, hq, hs⟩ := HW.out
      obtain ⟨_, _, _, g3, g4, g5⟩ := st_cells hrow
      have f5 : w1.frozen? ⟨p, 5, none⟩ = false := free_of_row' hrow 5
      have r2 := (st_set hrow undef ((k : Int) + 1)).2.2.2.2
      have K2 := hid (show Kept [p] w1 (w1.setCell ⟨p, 5, none⟩ (.int .i64 ((k : Int) + 1))) from (Kept.refl [p] w1).setCell (p := ⟨p, 5, none⟩) (fun _ => by simp) _)
      have hRp := hid (show ∀ x ∈ R, x ∉ [p] from fun x hx hm => (hR x hx).2.1 (by simpa using hm))
      have hmk := hid (show Mp (w1.setCell ⟨p, 5, none⟩ (.int .i64 ((k : Int) + 1))) S mv es from by
        rcases hmp with h | ⟨b, h1, h2, h3⟩
        · exact Or.inl h
        · exact Or.inr ⟨b, h1, h2, K2.out.ownsMap' h3 (fun hm => hmpp (by rw [h1]; simp at hm; rw [hm]))⟩)
      have hth2 := hid (fun e he => (hth e he).kept K2.out hRp.out)
      have hfl2 := hid (hfl.kept K2.out hRp.out)
      have gg4 : (w1.setCell ⟨p, 5, none⟩ (.int .i64 ((k : Int) + 1))).cell? ⟨p, 4, none⟩ = some flv := (st_cells r2).2.2.2.2.1
      have ff4 : (w1.setCell ⟨p, 5, none⟩ (.int .i64 ((k : Int) + 1))).frozen? ⟨p, 4, none⟩ = false := free_of_row' r2 4
      have R2 := hid r2
      have HR := hid hR; have HMPP := hid hmpp; have HP := hid hp; have HB := hid hb; have HQ := hid hq; have HS := hid hs
      have hzK := hid (show w1.heap.size ≤ (w1.setCell ⟨p, 5, none⟩ (.int .i64 ((k : Int) + 1))).heap.size from K2.out.size)
      obtain ⟨hl0, fa, fc, rfl, hc1, hc2, hc3, _⟩ := hfl
      have hfin := hid (show Ob (w1.setCell ⟨p, 5, none⟩ (.int .i64 ((k : Int) + 1))) S p T more q es (.pointer (some ⟨f, 0, none⟩)) [] (k + 1) from
        ⟨⟨mv, _, R, HR.out, by simpa using R2.out, hmk.out, HMPP.out, hfl2.out, hth2.out⟩, HP.out, fun x hx => Nat.lt_of_lt_of_le (HB.out x hx) hzK.out, HQ.out, HS.out⟩)
      clear hrow hmp hR hmpp hp hb hq hs hth r2 hl0 hc1 hc2 hc3
      go_wp2
      go_ret
      exact ⟨rfl, ((K1.out.wider (fun x _ hx => by simp at hx; simp [fuB, hx])).trans' K2.out (fun x _ hx => by simp at hx; simp [hx])), hfin.out, (F1.out.kept K2.out (fun x hx hm => by simp [fuB] at hx; simp at hm; exact HN.out (by rw [← hx, hm])))⟩
    | cons b0 r0 =>
      obtain ⟨⟨mv0, flv0, R0, hR0, hrow0, _⟩, hp0, hb0, _⟩ := H.out
      have g30 := (st_cells hrow0).2.2.2.1
      have hst := hid (step_go w S f left HF.out HL.out)
      clear hR0 hrow0 hf3
      go_enter Try.func34, Try.ntmps34
      go_wp2_with fail
      refine hst.out.mono ?_
      rintro e w1 ⟨rfl, k1, fu1⟩
      have K1 := hid k1
      have F1 := hid fu1
      have HW := hid (H.out.kept k1 (fun x hx hm => hf2 (by simp at hm; rw [← hm]; exact hx)))
      have HN := hid (show f ≠ p from fun e => hf2 (by rw [e]; exact hp0))
      clear k1 fu1 hst g30 hp0 hb0 h
      obtain ⟨⟨mv, flv, R, hR, hrow, hmp, hmpp, hfl, hth⟩, hp, hb, hq, hs⟩ := HW.out
      obtain ⟨_, _, _, g3, g4, g5⟩ := st_cells hrow
      have f5 : w1.frozen? ⟨p, 5, none⟩ = false := free_of_row' hrow 5
      have r2 := (st_set hrow undef ((k : Int) + 1)).2.2.2.2
      have K2 := hid (show Kept [p] w1 (w1.setCell ⟨p, 5, none⟩ (.int .i64 ((k : Int) + 1))) from (Kept.refl [p] w1).setCell (p := ⟨p, 5, none⟩) (fun _ => by simp) _)
      have hRp := hid (show ∀ x ∈ R, x ∉ [p] from fun x hx hm => (hR x hx).2.1 (by simpa using hm))
      have hmk := hid (show Mp (w1.setCell ⟨p, 5, none⟩ (.int .i64 ((k : Int) + 1))) S mv es from by
        rcases hmp with h | ⟨b, h1, h2, h3⟩
        · exact Or.inl h
        · exact Or.inr ⟨b, h1, h2, K2.out.ownsMap' h3 (fun hm => hmpp (by rw [h1]; simp at hm; rw [hm]))⟩)
      have hth2 := hid (fun e he => (hth e he).kept K2.out hRp.out)
      have hfl2 := hid (hfl.kept K2.out hRp.out)
      have gg4 : (w1.setCell ⟨p, 5, none⟩ (.int .i64 ((k : Int) + 1))).cell? ⟨p, 4, none⟩ = some flv := (st_cells r2).2.2.2.2.1
      have ff4 : (w1.setCell ⟨p, 5, none⟩ (.int .i64 ((k : Int) + 1))).frozen? ⟨p, 4, none⟩ = false := free_of_row' r2 4
      have R2 := hid r2
      have HR := hid hR; have HMPP := hid hmpp; have HP := hid hp; have HB := hid hb; have HQ := hid hq; have HS := hid hs
      have hzK := hid (show w1.heap.size ≤ (w1.setCell ⟨p, 5, none⟩ (.int .i64 ((k : Int) + 1))).heap.size from K2.out.size)
      have hx := hid hfl
      obtain ⟨hl0, fa, fc, rfl, hc1, hc2, hc3, h5⟩ := hfl
      obtain ⟨x, rfl, hxR, hxc⟩ := h5 0 (.bool b0) rfl
      have hxs : x.add 0 = x := by simp [Addr.add]
      rw [hxs] at hxc
      have gx : (w1.setCell ⟨p, 5, none⟩ (.int .i64 ((k : Int) + 1))).cell? x = some (.bool b0) := (K2.out.cell (World.block_lt_of_cell? _ _ hxc) (hRp.out _ hxR)).trans hxc
      have hlen : (b0 :: r0).length = r0.length + 1 := rfl
      obtain ⟨a2, c2, hsl, hv2⟩ := bool_rest (.slice (some x) (r0.length + 1) fc) r0.length (.bool b0) (r0.map .bool) R w1 (by simpa using hx.out)
      have r3 := hid (st_set R2.out (.slice a2 r0.length c2) 0).2.2.2.1
      have K3 := hid (show Kept [p] (w1.setCell ⟨p, 5, none⟩ (.int .i64 ((k : Int) + 1))) ((w1.setCell ⟨p, 5, none⟩ (.int .i64 ((k : Int) + 1))).setCell ⟨p, 4, none⟩ (.slice a2 r0.length c2)) from (Kept.refl [p] _).setCell (p := ⟨p, 4, none⟩) (fun _ => by simp) _)
      have hfin := hid (show Ob ((w1.setCell ⟨p, 5, none⟩ (.int .i64 ((k : Int) + 1))).setCell ⟨p, 4, none⟩ (.slice a2 r0.length c2)) S p T more q es (.pointer (some ⟨f, 0, none⟩)) r0 (k + 1) from
        ⟨⟨mv, .slice a2 r0.length c2, R, HR.out, by simpa using r3.out, by
          rcases hmk.out with h | ⟨b, h1, h2, h3⟩
          · exact Or.inl h
          · exact Or.inr ⟨b, h1, h2, K3.out.ownsMap' h3 (fun hm => HMPP.out (by rw [h1]; simp at hm; rw [hm]))⟩, HMPP.out, (hv2 _ (by simpa using hfl2.out)).kept K3.out hRp.out, fun e he => (hth2.out e he).kept K3.out hRp.out⟩, HP.out, fun y hy => Nat.lt_of_lt_of_le (HB.out y hy) (Nat.le_trans hzK.out K3.out.size), HQ.out, HS.out⟩)
      rw [hlen] at g4 gg4
      obtain ⟨er, her⟩ : ∃ er, er = opE (b0 :: r0) := ⟨_, rfl⟩
      have HER := hid her
      have hwh := hid (fun W => by have h := when_any b0 30 W; rw [show (if b0 then (30 : Int) else 0) = er by rw [her]; cases b0 <;> rfl] at h; exact h)
      clear her
      have K4 := hid (K2.out.trans K3.out)
      clear hrow hmp hR hmpp hp hb hq hs hth r2 hl0 hc3 hx hfl2 h5 hxc hxR hlen hv2 hxs
      generalize r0.length = n at *
      go_wp2_with fail
      refine (hwh.out _).mono ?_
      rintro e wz ⟨rfl, rfl⟩
      go_wp2
      go_ret
      exact ⟨by rw [← HER.out]; rfl, ((K1.out.wider (fun x _ hx => by simp at hx; simp [fuB, hx])).trans' K4.out (fun x _ hx => by simp at hx; simp [hx])), hfin.out, (F1.out.kept K4.out (fun x hx hm => by simp [fuB] at hx; simp at hm; exact HN.out (by rw [← hx, hm])))⟩
end Go.Proofs.Ytmholofhmpplcaa


/- object: what a map of things answers; New, Arm, Len, Size, Ops; copies of bytes. -/
namespace Go.Proofs.Ytmholofhmpplcaa
open Go.RowKit Go.Lib Go.Maps

theorem str_law : Keyed Try.prog 9 := string_keyed Try.underlying9
theorem str_key (nm : List UInt8) (h : nm.length ≤ 1000000000) : keyOf Try.prog 9 (.string (S nm)) = some (.string nm) := by
  have h1 := Go.WideMaps.keyOf_string_mk (P := Try.prog) (k := 9) Try.underlying9 (s := S nm) (by rw [S_size]; unfold maxLen; omega)
  exact h1
theorem zero_bs (w : World) : (zeroValue 36).run Try.prog w = .ok (.slice none 0 0) w := by kernel_rfl
/-- The value of a name. -/
def lookV (nm : List UInt8) (es : List Ent) : Value := match findE nm es with | some e => e.v | none => .slice none 0 0
theorem mp_look {w : World} {U : List Nat} {mv : Value} {es : List Ent} (h : Mp w U mv es) (nm : List UInt8) (hn : nm.length ≤ 1000000000) :
    (Instr.lookup 56 mv (.string (S nm)) true).run Try.prog w = .ok (.tuple #[lookV nm es, .bool (findE nm es).isSome]) w := by
  rcases h with ⟨rfl, rfl⟩ | ⟨b, rfl, _, h⟩
  · exact Maps.look_nil true str_law Try.underlying56 (zero_bs w) (str_key nm hn)
  · obtain ⟨v, ps, h1, h2⟩ := h.look_ok str_law Try.underlying56 (zero_bs w) (zd := .held (.slice none 0 0)) (zp := []) rfl (str_key nm hn)
    rw [DM_has] at h1
    rw [DM_at] at h2
    have hv : v = lookV nm es := by
      unfold heldR at h2
      unfold lookV
      cases hf : findE nm es <;> rw [hf] at h2 <;> simp at h2 <;> exact h2.1
    rw [← hv]
    exact h1
theorem mp_look1 {w : World} {U : List Nat} {mv : Value} {es : List Ent} (h : Mp w U mv es) (nm : List UInt8) (hn : nm.length ≤ 1000000000) :
    (Instr.lookup 56 mv (.string (S nm)) false).run Try.prog w = .ok (lookV nm es) w := by
  rcases h with ⟨rfl, rfl⟩ | ⟨b, rfl, _, h⟩
  · exact Maps.look_nil false str_law Try.underlying56 (zero_bs w) (str_key nm hn)
  · obtain ⟨v, ps, h1, h2⟩ := h.lookup str_law Try.underlying56 (zero_bs w) (zd := .held (.slice none 0 0)) (zp := []) rfl (str_key nm hn)
    rw [DM_at] at h2
    have hv : v = lookV nm es := by
      unfold heldR at h2
      unfold lookV
      cases hf : findE nm es <;> rw [hf] at h2 <;> simp at h2 <;> exact h2.1
    rw [← hv]
    exact h1
theorem mp_len {w : World} {U : List Nat} {mv : Value} {es : List Ent} (h : Mp w U mv es) (ty : TypeId) : (Builtin.len_ #[56] ty #[mv]).run Try.prog w = .ok (.int .i64 es.length) w := by
  rcases h with ⟨rfl, rfl⟩ | ⟨b, rfl, _, h⟩
  · exact Maps.len_nil Try.underlying56 ty
  · have h1 := h.len Try.underlying56 ty
    rw [DM_size] at h1
    exact h1
def mpB : Value → List Nat
  | .map (some b) => [b]
  | _ => []
theorem turned_kept {w w' : World} {b : Nat} (h : w.mapTurned w' b) : Kept [b] w w' := Kept.of_grown h.grown (fun k hk _ => by simp at hk; simp [hk])
theorem mp_drop {w : World} {U : List Nat} {mv : Value} {es : List Ent} (h : Mp w U mv es) (nm : List UInt8) (hn : nm.length ≤ 1000000000) :
    ∃ w', (∀ ty, (Builtin.delete_ #[56, 9] ty #[mv, .string (S nm)]).run Try.prog w = .ok (.tuple #[]) w') ∧ Kept (mpB mv) w w' ∧ Mp w' U mv (delE nm es) := by
  rcases h with ⟨rfl, rfl⟩ | ⟨b, rfl, hb, h⟩
  · exact ⟨w, fun ty => Maps.drop_nil str_law Try.underlying56 (str_key nm hn) ty, Kept.refl _ _, Or.inl ⟨rfl, rfl⟩⟩
  · obtain ⟨w', h1, h2, h3⟩ := h.drop str_law Try.underlying56 (str_key nm hn) 9
    refine ⟨w', fun ty => ?_, turned_kept h3, Or.inr ⟨b, rfl, hb, ?_⟩⟩
    · exact h1
    · rw [DM_del] at h2
      exact owns_tight h2
theorem mp_put {w : World} {U : List Nat} {b : Nat} {es : List Ent} (h : Mp w U (.map (some b)) es) (x : Ent) (hn : x.name.length ≤ 1000000000) (hl : es.length ≤ 1000000000) :
    ∃ w', (Instr.mapUpdate 56 (.map (some b)) (.string (S x.name)) x.v).run Try.prog w = .ok () w' ∧ Kept [b] w w' ∧ Mp w' U (.map (some b)) (putE x es) := by
  rcases h with ⟨h, _⟩ | ⟨b', hb', hb, h⟩
  · cases h
  · cases hb'
    obtain ⟨w', h1, h2, h3⟩ := h.store (val := x.v) (d := .held x.v) (ps := []) str_law Try.underlying56 (by unfold maxLen; omega) (str_key x.name hn) rfl
    refine ⟨w', h1, turned_kept h3, Or.inr ⟨b, rfl, hb, ?_⟩⟩
    rw [DM_put] at h2
    exact owns_tight h2
theorem mp_made (w : World) (U : List Nat) (h : w.heap.size ∈ U) : Mp (w.alloc (.map #[] 0)) U (.map (some w.heap.size)) [] :=
  Or.inr ⟨_, rfl, h, World.ownsMap_made w _ _ _⟩
/-- A slice of a row of the call's own. -/
theorem srcS_of_row {w : World} {base : Nat} {e : TypeId} {v : Value} {n : Nat} {xs : List Value} (h : w.ownsRow base e 1 v n xs) : ∃ U, (∀ x ∈ U, base ≤ x ∧ x < w.heap.size) ∧ SrcS w U v n xs := by
  have h0 := h.1
  rcases h.2 with ⟨rfl, h2⟩ | ⟨g, cap, cur, rfl, h1, h2, h3, h4, h5⟩
  · exact ⟨[], by simp, by omega, none, 0, by rw [h2], by omega, by omega, fun _ => rfl, fun j u hj => by
      have := (List.getElem?_eq_some_iff.1 hj).1; omega⟩
  · refine ⟨[g], fun x hx => by simp at hx; subst hx; exact ⟨h1, lt_of_block h2⟩, by omega, _, _, rfl, h3, by unfold maxLen at h4; omega, fun h => by simp at h, fun j u hj => ⟨_, rfl, by simp, h.cells (g := g) rfl j u hj⟩⟩
/-- A new slice. -/
def NewS (w w' : World) (v : Value) (n : Nat) (xs : List Value) : Prop := ∃ U, (∀ x ∈ U, w.heap.size ≤ x ∧ x < w'.heap.size) ∧ SrcS w' U v n xs
theorem NewS.nil (w w' : World) : NewS w w' (.slice none 0 0) 0 [] := ⟨[], by simp, SrcS.nil _ _⟩
theorem ints_B (bs : List UInt8) : (bs.map fun b => (b.toNat : Int)).map (Value.int .u8) = bs.map B := by rw [List.map_map]; rfl
theorem bclone_any (v : Value) (bs : List UInt8) (w : World) (h : Src w v bs.length (bs.map B)) (hl : bs.length ≤ 140737488355328) :
    Calls Try.prog 41 #[v] w fun e w' => ∃ v', e = .returned v' ∧ Kept [] w w' ∧ NewS w w' v' bs.length (bs.map B) := by
  rcases h with ⟨rfl, h1, h2⟩ | ⟨a, c, rfl, hc⟩
  · refine (Try.bytes_Clone_nil 0 0 w).mono ?_
    rintro e w' ⟨rfl, rfl⟩
    refine ⟨_, rfl, Kept.refl _ _, ?_⟩
    rw [h1, h2]
    exact NewS.nil _ _
  · refine (Try.bytes_Clone_at a bs.length c (bs.map fun b => (b.toNat : Int)) w (by simp) hl (fun i hi => ?_)).mono ?_
    · rw [hc i (B bs[i]) (by simp [hi])]
      simp [hi, B]
    · rintro e w' ⟨v', rfl, h1, _, h3⟩
      rw [ints_B] at h1
      exact ⟨v', rfl, Kept.of_below h3, srcS_of_row h1⟩
theorem info_bool : (Try.prog.info? 4).map (fun i => (i.zero, i.size, i.bytes)) = some (some (.bool false), 1, 1) := by kernel_rfl
theorem info_split {o : Option TypeInfo} {z : Value} {s b : Nat} (h : o.map (fun i => (i.zero, i.size, i.bytes)) = some (some z, s, b)) : ∃ i, o = some i ∧ i.zero = some z ∧ i.size = s ∧ i.bytes = b := by
  obtain ⟨i, hi, h2⟩ := Option.map_eq_some_iff.1 h
  simp at h2
  exact ⟨i, hi, h2.1, h2.2.1, h2.2.2⟩
/-- Truths in a plain block, or none at all. -/
def BoolAt (w : World) (U : List Nat) (v : Value) (fl : List Bool) : Prop := (v = .slice none 0 0 ∧ fl = []) ∨ ∃ b off c, v = .slice (some ⟨b, off, none⟩) fl.length c ∧ b ∉ U ∧ ∀ (j : Nat) u, (fl.map Value.bool)[j]? = some u → w.cell? ⟨b, off + j, none⟩ = some u
theorem flclone_any (v : Value) (U : List Nat) (fl : List Bool) (w : World) (h : BoolAt w U v fl) (hl : fl.length ≤ 1000000000) :
    Calls Try.prog 23 #[v] w fun e w' => ∃ v', e = .returned v' ∧ Kept [] w w' ∧ NewS w w' v' fl.length (fl.map .bool) := by
  rcases h with ⟨rfl, rfl⟩ | ⟨b, off, c, rfl, _, hc⟩
  · refine (Try.slices_Clone_nil 0 0 w).mono ?_
    rintro e w' ⟨rfl, rfl⟩
    exact ⟨_, rfl, Kept.refl _ _, NewS.nil _ _⟩
  · obtain ⟨i0, hi0, hz0, hz1, hz2⟩ := info_split info_bool
    refine (Try.slices_Clone i0 _ 1 1 hi0 hz0 hz1 hz2 rfl (by decide) (fun w => by kernel_rfl) b off fl.length c (fl.map .bool) w (by simp) (by unfold maxLen; omega) (by omega) hc (by intro u hu; simp at hu; rcases hu with ⟨_, rfl⟩ | ⟨_, rfl⟩ <;> rfl)).mono ?_
    rintro e w' ⟨v', rfl, h1, _, h3⟩
    exact ⟨v', rfl, Kept.of_below h3, srcS_of_row h1⟩

theorem ob_new (q : Int) (hq : 0 ≤ q) (hq2 : q ≤ 9223372036854775807) (w : World) :
    Calls Try.prog 6 #[.int .i64 q] w fun e w' => e = .returned (.tuple #[.pointer (some ⟨w.heap.size, 0, none⟩), .int .i64 0]) ∧ Kept [] w w' ∧ Ob w' [w.heap.size] w.heap.size 58 [] q [] (.pointer none) [] 0 := by
  have hk := hid (show Kept [] w (w.alloc (.cells (stC q (.map none) 0 (.pointer none) (.slice none 0 0) 0 []) 58)) from (Kept.refl [] w).alloc _)
  have hob := hid (show Ob (w.alloc (.cells (stC q (.map none) 0 (.pointer none) (.slice none 0 0) 0 []) 58)) [w.heap.size] w.heap.size 58 [] q [] (.pointer none) [] 0 from
    ⟨⟨.map none, .slice none 0 0, [], by simp, heap_alloc_at rfl, Or.inl ⟨rfl, rfl⟩, by simp, SrcS.nil _ _, by simp⟩, by simp, by simp, ⟨hq, hq2⟩, by simp [sizeE]⟩)
  unfold stC at hk hob
  go_enter Try.func6, Try.ntmps6
  go_wp2
  go_ret2
  exact ⟨rfl, hk.out, hob.out⟩
theorem ob_new_bad (q : Int) (hq : q < 0) (hq2 : -9223372036854775808 ≤ q) (w : World) :
    Calls Try.prog 6 #[.int .i64 q] w fun e w' => e = .returned (.tuple #[.pointer none, .int .i64 1]) ∧ w = w' := by
  go_enter Try.func6, Try.ntmps6
  go_wp2
  go_ret2
  exact ⟨rfl, rfl⟩
section
variable (w : World) (U : List Nat) (p T : Nat) (more : List Value) (q : Int) (es : List Ent) (fv : Value) (fl : List Bool) (k : Nat) (h : Ob w U p T more q es fv fl k)
include h
theorem ob_size : Calls Try.prog 22 #[.pointer (some ⟨p, 0, none⟩)] w fun e w' => e = .returned (.int .i64 (sizeE es)) ∧ w = w' := by
  obtain ⟨⟨mv, flv, R, hR, hrow, hmp, hmpp, hfl, hth⟩, hp, hb, hq, hs⟩ := h
  obtain ⟨_, _, g2, _⟩ := st_cells hrow
  clear hrow hmp hR hmpp hp hb hq hs hth hfl
  go_enter Try.func22, Try.ntmps22
  go_wp2
  go_ret
  exact ⟨rfl, rfl⟩
theorem ob_ops : Calls Try.prog 20 #[.pointer (some ⟨p, 0, none⟩)] w fun e w' => e = .returned (.int .i64 k) ∧ w = w' := by
  obtain ⟨⟨mv, flv, R, hR, hrow, hmp, hmpp, hfl, hth⟩, hp, hb, hq, hs⟩ := h
  obtain ⟨_, _, _, _, _, g2⟩ := st_cells hrow
  clear hrow hmp hR hmpp hp hb hq hs hth hfl
  go_enter Try.func20, Try.ntmps20
  go_wp2
  go_ret
  exact ⟨rfl, rfl⟩
theorem ob_len : Calls Try.prog 21 #[.pointer (some ⟨p, 0, none⟩)] w fun e w' => e = .returned (.int .i64 es.length) ∧ w = w' := by
  obtain ⟨⟨mv, flv, R, hR, hrow, hmp, hmpp, hfl, hth⟩, hp, hb, hq, hs⟩ := h
  obtain ⟨_, g1, _⟩ := st_cells hrow
  have hlen := mp_len hmp
  obtain ⟨mb, rfl⟩ : ∃ b, mv = .map b := by
    rcases hmp with ⟨h, _⟩ | ⟨b, h, _⟩
    · exact ⟨_, h⟩
    · exact ⟨_, h⟩
  clear hrow hmp hR hmpp hp hb hq hs hth hfl
  go_enter Try.func21, Try.ntmps21
  go_wp2
  go_ret
  exact ⟨rfl, rfl⟩
theorem ob_arm (fv' flv' : Value) (fl' : List Bool) (hfv : ∃ a, fv' = .pointer a) (hfl' : BoolAt w U flv' fl') (hl : fl'.length ≤ 1000000) :
    Calls Try.prog 8 #[.pointer (some ⟨p, 0, none⟩), fv', flv'] w fun e w' => e = .returned (.tuple #[]) ∧ Kept [p] w w' ∧ ∃ U', (∀ x ∈ U', x ∈ U ∨ w.heap.size ≤ x) ∧ Ob w' U' p T more q es fv' fl' k := by
  obtain ⟨⟨mv, flv, R, hR, hrow, hmp, hmpp, hfl, hth⟩, hp, hb, hq, hs⟩ := h
  obtain ⟨fa, rfl⟩ := hfv
  have f3 : w.frozen? ⟨p, 3, none⟩ = false := free_of_row' hrow 3
  obtain ⟨_, _, _, g3, _⟩ := st_cells hrow
  have r1 := (st_set hrow (.pointer fa) 0).2.2.1
  have K1 := hid (show Kept [p] w (w.setCell ⟨p, 3, none⟩ (.pointer fa)) from (Kept.refl [p] w).setCell (p := ⟨p, 3, none⟩) (fun _ => by simp) _)
  obtain ⟨W, hW⟩ : ∃ W, W = w.setCell ⟨p, 3, none⟩ (.pointer fa) := ⟨_, rfl⟩
  have HW := hid hW
  rw [← hW] at r1 K1
  have hb1 : BoolAt W U flv' fl' := by
    rcases hfl' with h | ⟨b, off, c, h1, h2, h3⟩
    · exact Or.inl h
    · exact Or.inr ⟨b, off, c, h1, h2, fun j u hj => (K1.out.cell (World.block_lt_of_cell? _ _ (h3 j u hj)) (by simp; intro e; exact h2 (e ▸ hp))).trans (h3 j u hj)⟩
  have hcl := hid (flclone_any flv' U fl' W hb1 (by omega))
  have hRp := hid (show ∀ x ∈ R, x ∉ [p] from fun x hx hm => (hR x hx).2.1 (by simpa using hm))
  have hpm := hid (show ∀ x ∈ mpB mv, x ∉ [p] from fun x hx hm => by
    rcases hmp with ⟨h1, _⟩ | ⟨b, h1, _⟩
    · rw [h1] at hx; simp [mpB] at hx
    · rw [h1] at hx; simp [mpB] at hx; simp at hm; exact hmpp (by rw [h1, ← hm, hx]))
  have hm1 := hid (show Mp W U mv es from by
    rcases hmp with h | ⟨b, h1, h2, h3⟩
    · exact Or.inl h
    · exact Or.inr ⟨b, h1, h2, K1.out.ownsMap' h3 (fun hm => hmpp (by rw [h1]; simp at hm; rw [hm]))⟩)
  have hth1 := hid (fun e he => (hth e he).kept K1.out hRp.out)
  have R1 := hid r1
  have HR := hid hR; have HMPP := hid hmpp; have HP := hid hp; have HB := hid hb; have HQ := hid hq; have HS := hid hs; have HMP := hid hmp
  have hfls : ∃ a n c, flv' = .slice a n c := by
    rcases hfl' with ⟨h, _⟩ | ⟨b, off, c, h, _⟩
    · exact ⟨_, _, _, h⟩
    · exact ⟨_, _, _, h⟩
  obtain ⟨fa1, fn1, fc1, rfl⟩ := hfls
  clear hW r1 hrow hmp hR hmpp hp hb hq hs hth hfl hfl' hb1
  go_enter Try.func8, Try.ntmps8
  go_wp2_with fail
  rw [← HW.out]
  refine hcl.out.mono ?_
  rintro e W2 ⟨v', rfl, k2, U2, hU2, hs2⟩
  have K2 := hid k2
  have r2 := k2.at R1.out (by simp)
  have f4 : W2.frozen? ⟨p, 4, none⟩ = false := free_of_row' r2 4
  have gg4 := (st_cells r2).2.2.2.2.1
  have Hs2 := hid hs2
  obtain ⟨_, a2, c2, rfl, _⟩ := hs2
  have R3 := hid (st_set r2 (.slice a2 fl'.length c2) 0).2.2.2.1
  have K3 := hid (show Kept [p] W2 (W2.setCell ⟨p, 4, none⟩ (.slice a2 fl'.length c2)) from (Kept.refl [p] W2).setCell (p := ⟨p, 4, none⟩) (fun _ => by simp) _)
  have HU2 := hid hU2
  have hps := hid (lt_of_block R1.out)
  have hz2 := hid K2.out.size; have hz1 := hid K1.out.size; have hz3 := hid K3.out.size
  clear k2 hU2 r2 hcl
  go_wp2
  go_end0
  refine ⟨rfl, (K1.out.trans' K2.out (fun _ _ h => by simp at h)).trans K3.out, U ++ U2, fun x hx => ?_, ?_⟩
  · rcases List.mem_append.1 hx with h | h
    · exact Or.inl h
    · exact Or.inr (by have := (HU2.out x h).1; have := hz1.out; omega)
  · have hR2p : ∀ x ∈ U2, x ∉ [p] := fun x hx hm => by simp at hm; have := (HU2.out x hx).1; have := hps.out; omega
    refine ⟨⟨mv, _, R ++ U2, fun x hx => ?_, R3.out, ?_, HMPP.out, (Hs2.out.kept K3.out hR2p).more (fun x hx => by simp [hx]), fun e he => (((hth1.out e he).kept K2.out (by simp)).kept K3.out hRp.out).more (fun x hx => by simp [hx])⟩, by simp [HP.out], fun x hx => ?_, HQ.out, HS.out⟩
    · rcases List.mem_append.1 hx with h | h
      · exact ⟨by simp [(HR.out x h).1], (HR.out x h).2⟩
      · refine ⟨by simp [h], fun e => hR2p x h (by simp [e]), fun e => ?_⟩
        rcases HMP.out with ⟨h1, _⟩ | ⟨b, h1, _, h3⟩
        · rw [h1] at e; simp at e
        · rw [h1] at e; simp at e
          have := h3.lt; have := (HU2.out x h).1; have := hz1.out; omega
    · rcases hm1.out with h | ⟨b, h1, h2, h3⟩
      · exact Or.inl h
      · exact Or.inr ⟨b, h1, by simp [h2], K3.out.ownsMap' (K2.out.ownsMap' h3 (by simp)) (hpm.out b (by rw [h1]; simp [mpB]))⟩
    · rcases List.mem_append.1 hx with h | h
      · have := HB.out x h; have := hz1.out; have := hz2.out; have := hz3.out; omega
      · have := (HU2.out x h).2; have := hz3.out; omega
end
end Go.Proofs.Ytmholofhmpplcaa


/- object: Get, Drop; the fuse blows. -/
namespace Go.Proofs.Ytmholofhmpplcaa
open Go.RowKit Go.Lib Go.Maps

/-- The power goes as an operation begins. -/
theorem operate_blow (w : World) (U : List Nat) (p T : Nat) (more : List Value) (q : Int) (es : List Ent) (f : Nat) (fl : List Bool) (k : Nat) (h : Ob w U p T more q es (.pointer (some ⟨f, 0, none⟩)) fl k) (hf : FuV w U (.pointer (some ⟨f, 0, none⟩)) 0) :
    Calls Try.prog 34 #[.pointer (some ⟨p, 0, none⟩)] w fun e w' => Thrown 63 (.agg #[.pointer (some ⟨f, 0, none⟩)]) e ∧ w = w' := by
  obtain ⟨⟨mv, flv, R, hR, hrow, _⟩, _⟩ := h
  have g3 := (st_cells hrow).2.2.2.1
  have hst := hid (show Calls Try.prog 50 #[.pointer (some ⟨f, 0, none⟩)] w fun e w' => Thrown 63 (.agg #[.pointer (some ⟨f, 0, none⟩)]) e ∧ w = w' from by
    rcases hf with ⟨h, _⟩ | ⟨g, hg, _, h3, _⟩
    · simp at h
    · simp at hg; subst hg; exact step_none f w h3)
  clear hrow hR hf
  go_enter Try.func34, Try.ntmps34
  go_wp2_with fail
  refine hst.out.mono ?_
  rintro e w1 ⟨⟨older, rfl, hcalm⟩, rfl⟩
  exact ⟨rfl, ⟨older, rfl, hcalm⟩, rfl⟩

/-- The bytes of a name. -/
def lookB (nm : List UInt8) (es : List Ent) : List UInt8 := match findE nm es with | some e => e.b | none => []
/-- What a Get tells: the error, the bytes. -/
def gotE (fl : List Bool) (es : List Ent) (nm : List UInt8) : Int := if opE fl = 0 then (if (findE nm es).isSome then 0 else 4) else opE fl
def gotB (fl : List Bool) (es : List Ent) (nm : List UInt8) : List UInt8 := if opE fl = 0 then (lookB nm es) else []
/-- The state behind an operation that began. -/
structure Went (w w' : World) (U : List Nat) (p T : Nat) (more : List Value) (q : Int) (es : List Ent) (fv : Value) (fl : List Bool) (k : Nat) (left : Int) : Prop where
  ob : Ob w' U p T more q es fv fl k
  fu : FuV w' U fv left
theorem look_src {w : World} {U R : List Nat} {mv : Value} {es : List Ent} (hth : ∀ e ∈ es, SrcS w R e.v e.b.length (e.b.map B)) (nm : List UInt8) : Src w (lookV nm es) (lookB nm es).length ((lookB nm es).map B) := by
  unfold lookV lookB
  cases hf : findE nm es with
  | none => exact Or.inl ⟨rfl, rfl, rfl⟩
  | some e => exact (hth e (find_mem hf).1).src
theorem sizeE_mem {es : List Ent} {e : Ent} (h : e ∈ es) : e.b.length ≤ sizeE es := by
  induction es with
  | nil => cases h
  | cons y r ih =>
    have h5 : sizeE (y :: r) = y.b.length + sizeE r := by simp [sizeE]
    rcases List.mem_cons.1 h with rfl | h
    · omega
    · have := ih h; omega
theorem lookV_slice {w : World} {R : List Nat} {es : List Ent} (hth : ∀ e ∈ es, SrcS w R e.v e.b.length (e.b.map B)) (nm : List UInt8) : ∃ a c, lookV nm es = .slice a (lookB nm es).length c := by
  unfold lookV lookB
  cases hf : findE nm es with
  | none => exact ⟨none, 0, rfl⟩
  | some e => obtain ⟨_, a, c, h, _⟩ := hth e (find_mem hf).1; exact ⟨a, c, h⟩

set_option maxHeartbeats 1000000 in
theorem ob_get (w : World) (U : List Nat) (p T : Nat) (more : List Value) (q : Int) (es : List Ent) (fv : Value) (fl : List Bool) (k : Nat) (left : Int) (nm : List UInt8) (hnm : nm.length ≤ 1000000000) (h : Ob w U p T more q es fv fl k) (hk : k ≤ 1099511627776) (hf : FuV w U fv left) (h0 : left ≠ 0) :
    Calls Try.prog 16 #[.pointer (some ⟨p, 0, none⟩), .string (S nm)] w fun e w' => ∃ v', e = .returned (.tuple #[v', .int .i64 (gotE fl es nm)]) ∧ Kept (p :: fuB fv) w w' ∧ Ob w' U p T more q es fv (fl.drop 1) (k + 1) ∧ FuV w' U fv (decL left) ∧ NewS w w' v' (gotB fl es nm).length ((gotB fl es nm).map B) := by
  have hop := hid (operate_go w U p T more q es fv fl k left h hk hf h0)
  have hpU := hid h.hp
  have hbo := hid h.bound
  have hfuU := hid (show ∀ x ∈ fuB fv, x < w.heap.size from fun x hx => by
    rcases hf with ⟨rfl, _⟩ | ⟨f, rfl, _, h3, _⟩
    · simp [fuB] at hx
    · simp [fuB] at hx; subst hx; exact lt_of_block h3)
  clear h hf h0
  by_cases hop0 : opE fl = 0
  · have hE : gotE fl es nm = (if (findE nm es).isSome then 0 else 4) := by unfold gotE; rw [if_pos hop0]
    have hBB : gotB fl es nm = (lookB nm es) := by unfold gotB; rw [if_pos hop0]
    unfold Began at hop
    rw [hop0] at hop
    obtain ⟨gb, hgb⟩ : ∃ gb, gb = gotB fl es nm := ⟨_, rfl⟩
    obtain ⟨gl, hgl⟩ : ∃ gl, gl = gb.length := ⟨_, rfl⟩
    obtain ⟨er, her⟩ : ∃ er, er = gotE fl es nm := ⟨_, rfl⟩
    rw [← hgb, ← her, ← hgl]
    have HE := hid (her.trans hE); have HBB := hid (hgb.trans hBB); have HGL := hid hgl
    clear hE hBB hop0 hgb hgl her
    go_enter Try.func16, Try.ntmps16
    go_wp2_with fail
    refine hop.out.mono ?_
    rintro e w1 ⟨rfl, k1, ob1, fu1⟩
    have K1 := hid k1; have OB1 := hid ob1; have FU1 := hid fu1
    obtain ⟨⟨mv, flv, R, hR, hrow, hmp, hmpp, hfl, hth⟩, hp, hb, hq, hs⟩ := ob1
    obtain ⟨_, g1, _⟩ := st_cells hrow
    have hlk := mp_look hmp nm hnm
    have hcl := hid (bclone_any (lookV nm es) _ w1 (look_src (mv := mv) (U := U) hth nm) (by
      unfold lookB
      cases hf : findE nm es with
      | none => simp
      | some e => have h1 := sizeE_mem (find_mem hf).1; have h2 := hs.1; simp; omega))
    rw [← HBB.out] at hcl
    obtain ⟨la, lc, hlv⟩ := lookV_slice hth nm
    rw [← HBB.out] at hlv
    rw [hlv] at hlk hcl
    obtain ⟨fs, hfs⟩ : ∃ fs, fs = (findE nm es).isSome := ⟨_, rfl⟩
    rw [← hfs] at hlk
    rw [← HGL.out] at hlk hcl
    have hwh := hid (fun W => by have h := when_any (!fs) 4 W; rw [show (if (!fs) then (4 : Int) else 0) = er by rw [HE.out, hfs]; cases (findE nm es).isSome <;> rfl] at h; exact h)
    have hmv : ∃ b, mv = .map b := by
      rcases hmp with ⟨h, _⟩ | ⟨b, h, _⟩
      · exact ⟨_, h⟩
      · exact ⟨_, h⟩
    obtain ⟨mb, rfl⟩ := hmv
    clear k1 fu1 hrow hmp hmpp hfl hth hp hb hq hs hR hop hlv hfs
    go_wp2_with fail
    refine hcl.out.mono ?_
    rintro e w2 ⟨v', rfl, k2, U2, hU2, hs2⟩
    have K2 := hid k2; have HU2 := hid hU2; have HS2 := hid hs2
    clear k2 hU2 hs2 hcl
    go_wp2_with fail
    refine (hwh.out w2).mono ?_
    rintro e w3 ⟨rfl, rfl⟩
    clear hwh
    go_wp2
    go_ret2
    exact ⟨v', rfl, K1.out.trans' K2.out (fun _ _ h => by simp at h), OB1.out.kept K2.out (by simp), FU1.out.kept K2.out (by simp), U2, fun x hx => ⟨Nat.le_trans K1.out.size (HU2.out x hx).1, (HU2.out x hx).2⟩, HS2.out⟩
  · have hE : gotE fl es nm = opE fl := by unfold gotE; rw [if_neg hop0]
    have hBB : gotB fl es nm = [] := by unfold gotB; rw [if_neg hop0]
    rw [hE, hBB]
    obtain ⟨er, her⟩ : ∃ er, er = opE fl := ⟨_, rfl⟩
    have hne : (er != 0) = true := by rw [her]; simpa using hop0
    unfold Began at hop
    rw [← her] at hop ⊢
    clear hE hBB hop0 her
    go_enter Try.func16, Try.ntmps16
    go_wp2_with fail
    refine hop.out.mono ?_
    rintro e w1 ⟨rfl, k1, ob1, fu1⟩
    have K1 := hid k1; have OB1 := hid ob1; have FU1 := hid fu1
    clear k1 ob1 fu1 hop
    have hne2 : (er == 0) = false := by simpa [bne] using hne
    go_wp2
    go_ret2
    exact ⟨_, rfl, K1.out, OB1.out, FU1.out, NewS.nil _ _⟩
end Go.Proofs.Ytmholofhmpplcaa
