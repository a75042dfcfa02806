import Derived.Test.YtmfjfahlgcdehaaDoorMC
import Derived.Test.YtmfjfahlgcdehaaDoorHL

/- A reader's fields, each as it may be read or not; a call of a drawn region that may throw. -/
namespace Go.Proofs.YtmfjfahlgcdehaaDoor
open Go.RowKit Go.Lib

section
variable {P : Program} {md : Region.Mode} {Q : Exit → Act → World → Prop} {S : World → Prop} {l rest : List Oper} {oi : Oper} {fuel : Nat} {listed : Array Bool} {a : Act} {w : World}
theorem callX (i : Nat) (hi : l.drop i = oi :: rest) (hr : Region.ready md l.toArray listed = [i]) (hw : Region.wanted oi (yielded l.toArray a.tmps) = true) (f : FuncId) (args : Array Value)
    (hrun : (execOp a.eval oi).run P w = .ok (.enter f args) w)
    (hc : Calls P f args w fun e w' => (∃ val, e = .returned val ∧ S w' ∧ wpAnyH P md l.toArray Q S fuel (listed.setIfInBounds i true) (a.put oi.dst val) w') ∨ ∃ ch, e = .panicked ch ∧ Q (.panic ch) a w') :
    wpAnyH P md l.toArray Q S (fuel + 1) listed a w := by
  refine wpAnyH_ready hr (by simp) (AllReadyH.cons (getL_of_drop hi) (fun K hK => ?_) AllReadyH.nil)
  rw [if_pos hw]
  unfold Oper.wp
  rw [hrun]
  refine hc.mono ?_
  rintro e w' (⟨val, rfl, hS, h⟩ | ⟨ch, rfl, h⟩)
  · exact hK.out _ _ hS (fun _ => h)
  · exact h
end

theorem results_cell {P : Program} {fn : Func} {tmps : Array Value} {w : World} {k T : Nat} {x : Addr} {v : Value} (hr : fn.results = #[.cell k T]) (ht : tmps[k]?.getD undef = .pointer (some x)) (hl : (loadVar T x).run P w = .ok v w) : (results fn tmps).run P w = .ok v w := by
  unfold results
  rw [hr]
  simp [Sem.run_bind, ht, asAddr, hl]
theorem results_cell2 {P : Program} {fn : Func} {tmps : Array Value} {w : World} {k j T : Nat} {x : Addr} {v u : Value} (hr : fn.results = #[.cell k T, .tmp j]) (ht : tmps[k]?.getD undef = .pointer (some x)) (hu : tmps[j]?.getD undef = u) (hl : (loadVar T x).run P w = .ok v w) : (results fn tmps).run P w = .ok (.tuple #[v, u]) w := by
  unfold results
  rw [hr]
  simp [Sem.run_bind, ht, hu, asAddr, hl]

/-- A reader in block rb has xs left; all else is as it was in W0. -/
def Rv (W0 : World) (rb : Nat) (a0 : Option Addr) (xs : List UInt8) (W : World) : Prop :=
  ∃ a c, Rd W rb a c xs ∧ Kept [rb] W0 W ∧ ∀ x, a = some x → ∃ y, a0 = some y ∧ x.block = y.block
theorem Rv.new {W : World} {rb : Nat} {a : Option Addr} {c : Nat} {xs : List UInt8} (h : Rd W rb a c xs) : Rv W rb a xs W := ⟨a, c, h, Kept.refl _ _, fun x hx => ⟨x, hx, rfl⟩⟩
theorem Rv.later {W0 W W' : World} {rb : Nat} {a0 : Option Addr} {xs : List UInt8} (h : Rv W0 rb a0 xs W) (hk : Kept [] W W') : Rv W0 rb a0 xs W' := by
  obtain ⟨a, c, h1, h2, h3⟩ := h
  exact ⟨a, c, h1.kept hk (by simp) (fun _ _ => by simp), h2.trans (hk.wider (by simp)), h3⟩
theorem Rv.kept {W0 W : World} {rb : Nat} {a0 : Option Addr} {xs : List UInt8} (h : Rv W0 rb a0 xs W) : Kept [rb] W0 W := by obtain ⟨a, c, h1, h2, h3⟩ := h; exact h2

theorem Rv.base {W W1 v : World} {rb : Nat} {a0 : Option Addr} {xs : List UInt8} (hk : Kept [] W W1) (h : Rv W1 rb a0 xs v) : Rv W rb a0 xs v := by
  obtain ⟨a, c, h1, h2, h3⟩ := h
  exact ⟨a, c, h1, (hk.wider (by simp)).trans h2, h3⟩

def rNum (k : Nat) (xs : List UInt8) : Option (Nat × List UInt8) := if k ≤ xs.length then some (numOf (xs.take k), xs.drop k) else none
def rTxt (most : Nat) (xs : List UInt8) : Option (List UInt8 × List UInt8) := if 4 + said xs ≤ xs.length ∧ said xs ≤ most then some ((xs.drop 4).take (said xs), xs.drop (4 + said xs)) else none
def rRaw (k : Nat) (xs : List UInt8) : Option (List UInt8 × List UInt8) := if k ≤ xs.length then some (xs.take k, xs.drop k) else none
/-- It ends by throwing an error. -/
def Throws (e : Ending) : Prop := ∃ n : Int, n ≠ 0 ∧ Thrown 49 (.int .i64 n) e

theorem Rv.step {W0 W : World} {rb : Nat} {a0 : Option Addr} {xs : List UInt8} {a : Option Addr} {c m : Nat} (h1 : Rd W rb a c xs) (h2 : Kept [rb] W0 W) (h3 : ∀ x, a = some x → ∃ y, a0 = some y ∧ x.block = y.block) (hm : m ≤ xs.length) :
    Rv W0 rb a0 (xs.drop m) (nextW W rb a c xs m) :=
  ⟨_, _, h1.next hm, h2.trans (next_kept W rb a c xs m), fun x hx => by
    obtain ⟨z, hz, e⟩ := behind_block x hx
    obtain ⟨y, hy, e2⟩ := h3 z hz
    exact ⟨y, hy, e.trans e2⟩⟩

theorem Rv.num {W0 W : World} {rb : Nat} {a0 : Option Addr} {xs : List UInt8} (h : Rv W0 rb a0 xs W) (size : Int) (k : Nat) (hk : sz size = k) :
    Calls Tryd.prog 81 #[.pointer (some ⟨rb, 0, none⟩), .int .i64 size] W fun e w' =>
      (∃ N r, rNum k xs = some (N, r) ∧ e = .returned (.int .u64 (N : Int)) ∧ Rv W0 rb a0 r w') ∨ (rNum k xs = none ∧ Throws e ∧ Rv W0 rb a0 xs w') := by
  obtain ⟨a, c, h1, h2, h3⟩ := h
  subst hk
  by_cases hl : sz size ≤ xs.length
  · refine (rnum_ok rb a c xs size hl W h1).mono ?_
    rintro e w' ⟨rfl, rfl⟩
    exact Or.inl ⟨_, _, if_pos hl, rfl, Rv.step h1 h2 h3 hl⟩
  · refine (rnum_short rb a c xs size (by omega) W h1).mono ?_
    rintro e w' ⟨ht, rfl⟩
    exact Or.inr ⟨if_neg hl, ⟨20, by decide, ht⟩, a, c, h1, h2, h3⟩

theorem Rv.text {W0 W : World} {rb : Nat} {a0 : Option Addr} {xs : List UInt8} (h : Rv W0 rb a0 xs W) (most : Nat) :
    Calls Tryd.prog 93 #[.pointer (some ⟨rb, 0, none⟩), .int .i64 (most : Int)] W fun e w' =>
      (∃ t r, rTxt most xs = some (t, r) ∧ e = .returned (.string ⟨t.toArray⟩) ∧ Rv W0 rb a0 r w') ∨ (rTxt most xs = none ∧ Throws e ∧ Rv W0 rb a0 xs w') := by
  obtain ⟨a, c, h1, h2, h3⟩ := h
  by_cases h4 : xs.length < 4
  · refine (rtext_err 20 rb most W (counted_short rb a c xs most h4 W h1)).mono ?_
    rintro e w' ⟨ht, rfl⟩
    exact Or.inr ⟨if_neg (by omega), ⟨20, by decide, ht⟩, a, c, h1, h2, h3⟩
  by_cases h5 : max (most : Int) 0 < (said xs : Int)
  · refine (rtext_err 2 rb most W (counted_long rb a c xs most (by omega) h5 W h1)).mono ?_
    rintro e w' ⟨ht, rfl⟩
    exact Or.inr ⟨if_neg (by omega), ⟨2, by decide, ht⟩, a, c, h1, h2, h3⟩
  by_cases h6 : xs.length < 4 + said xs
  · refine (rtext_err 20 rb most W (counted_few rb a c xs most (by omega) (by omega) h6 W h1)).mono ?_
    rintro e w' ⟨ht, rfl⟩
    exact Or.inr ⟨if_neg (by omega), ⟨20, by decide, ht⟩, a, c, h1, h2, h3⟩
  · refine (rtext_ok rb a c xs most (by omega) (by omega) W h1).mono ?_
    rintro e w' ⟨rfl, rfl⟩
    exact Or.inl ⟨_, _, if_pos ⟨by omega, by omega⟩, rfl, Rv.step h1 h2 h3 (by omega)⟩

/-- Bytes that were read raw stand where they stood. -/
theorem Rv.raw {W0 W : World} {rb : Nat} {a0 : Option Addr} {xs : List UInt8} (h : Rv W0 rb a0 xs W) (k : Nat) (hk : 0 < k) :
    Calls Tryd.prog 83 #[.pointer (some ⟨rb, 0, none⟩), .int .i64 (k : Int)] W fun e w' =>
      (∃ t r x, rRaw k xs = some (t, r) ∧ e = .returned (.slice (some x) k k) ∧ t.length = k ∧ (∃ y, a0 = some y ∧ x.block = y.block) ∧ x.block ≠ rb ∧ (∀ (j : Nat) b, t[j]? = some b → W.cell? (x.add j) = some (B b)) ∧ Rv W0 rb a0 r w') ∨ (rRaw k xs = none ∧ Throws e ∧ Rv W0 rb a0 xs w') := by
  obtain ⟨a, c, h1, h2, h3⟩ := h
  by_cases hl : k ≤ xs.length
  · refine (raw_ok rb a c xs k k (by omega) hl W h1).mono ?_
    rintro e w' ⟨rfl, rfl⟩
    cases a with
    | none => have h6 := h1.nil rfl; have := h1.le; omega
    | some x =>
      refine Or.inl ⟨_, _, x, if_pos hl, rfl, by simp; omega, h3 x rfl, (h1.src x rfl).1, fun j b hj => ?_, Rv.step h1 h2 h3 hl⟩
      refine (h1.src x rfl).2 j b ?_
      rw [List.getElem?_take] at hj
      split at hj
      · exact hj
      · simp at hj
  · refine (raw_short rb a c xs k (by omega) W h1).mono ?_
    rintro e w' ⟨ht, rfl⟩
    exact Or.inr ⟨if_neg hl, ⟨20, by decide, ht⟩, a, c, h1, h2, h3⟩
end Go.Proofs.YtmfjfahlgcdehaaDoor
