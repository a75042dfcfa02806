import Derived.WalkKit
import Derived.WalkSmall

/- What a call keeps: all blocks that were there but those of a list. Small lemmas on worlds. No program is named here. -/
namespace Go.Proofs.Ytkabfdclecbnpaa
open Go.RowKit

/-- A goal that the walk leaves alone: 'go_wp2_with (at_builtin; refine halt ?_)' stops there. -/
def Halt (p : Prop) : Prop := p
theorem halt {p : Prop} (h : Halt p) : p := h
theorem Halt.mk {p : Prop} (h : p) : Halt p := h

theorem hid {p : Prop} (h : p) : Hid p := h

/-- Of what was there in w only the blocks of S may read otherwise in w'. -/
structure Kept (S : List Nat) (w w' : World) : Prop where
  os : w'.os = w.os
  tape : w'.tape = w.tape
  output : w'.output = w.output
  size : w.heap.size ≤ w'.heap.size
  block : ∀ k, k < w.heap.size → k ∉ S → w'.heap[k]? = w.heap[k]?

theorem Kept.refl (S : List Nat) (w : World) : Kept S w w := ⟨rfl, rfl, rfl, Nat.le_refl _, fun _ _ _ => rfl⟩
theorem Kept.trans' {S T : List Nat} {a b c : World} (h : Kept S a b) (k : Kept T b c) (hT : ∀ x, x < a.heap.size → x ∈ T → x ∈ S) : Kept S a c :=
  ⟨k.os.trans h.os, k.tape.trans h.tape, k.output.trans h.output, Nat.le_trans h.size k.size,
    fun x hx hS => (k.block x (Nat.lt_of_lt_of_le hx h.size) (fun ht => hS (hT x hx ht))).trans (h.block x hx hS)⟩
theorem Kept.trans {S : List Nat} {a b c : World} (h : Kept S a b) (k : Kept S b c) : Kept S a c := h.trans' k (fun _ _ h => h)
theorem Kept.wider {S T : List Nat} {a b : World} (h : Kept S a b) (hT : ∀ x, x < a.heap.size → x ∈ S → x ∈ T) : Kept T a b :=
  ⟨h.os, h.tape, h.output, h.size, fun x hx ht => h.block x hx (fun hs => ht (hT x hx hs))⟩
theorem Kept.alloc {S : List Nat} {a w : World} (h : Kept S a w) (o : Obj) : Kept S a (w.alloc o) :=
  h.trans ⟨rfl, rfl, rfl, by simp, fun k hk _ => Below.heap_alloc _ _ _ hk⟩
theorem Kept.setCell {S : List Nat} {a w : World} (h : Kept S a w) {p : Addr} (hp : p.block < a.heap.size → p.block ∈ S) (u : Value) : Kept S a (w.setCell p u) :=
  ⟨h.os, h.tape, h.output, Nat.le_trans h.size (by simp [World.setCell]), fun k hk hS => by
    rw [Below.heap_setCell _ _ _ _ (fun e => hS (by subst e; exact hp hk))]
    exact h.block k hk hS⟩
theorem Kept.setRow {S : List Nat} {a w : World} (h : Kept S a w) {g : Nat} (hp : g < a.heap.size → g ∈ S) (cs : Array Value) : Kept S a (w.setRow g cs) :=
  ⟨h.os, h.tape, h.output, Nat.le_trans h.size (by simp), fun k hk hS => by
    rw [setRow_other w g k cs (fun e => hS (by subst e; exact hp hk))]
    exact h.block k hk hS⟩
theorem Kept.drew {S : List Nat} {a w : World} (h : Kept S a w) : Kept S a w.drew := ⟨h.os, h.tape, h.output, h.size, h.block⟩
theorem Kept.drewN {S : List Nat} {a w : World} (h : Kept S a w) (n : Nat) : Kept S a (w.drewN n) := ⟨h.os, h.tape, h.output, h.size, h.block⟩
theorem Kept.below {S : List Nat} {a w : World} {B : Nat} (h : Kept S a w) (hB : B ≤ a.heap.size) (hS : ∀ x ∈ S, B ≤ x) : Below B a w :=
  ⟨h.os, h.tape, h.output, h.size, fun k hk => h.block k (by omega) (fun hx => by have := hS k hx; omega)⟩
theorem Kept.of_below {S : List Nat} {a w : World} (h : Below a.heap.size a w) : Kept S a w :=
  ⟨h.os, h.tape, h.output, h.size, fun k hk _ => h.block k hk⟩
/-- An old block that is not in the list. -/
theorem Kept.at {S : List Nat} {a w : World} (h : Kept S a w) {k : Nat} {o : Obj} (hk : a.heap[k]? = some o) (hS : k ∉ S) : w.heap[k]? = some o :=
  (h.block k (lt_of_block hk) hS).trans hk
theorem Kept.cell {S : List Nat} {a w : World} (h : Kept S a w) {p : Addr} (hk : p.block < a.heap.size) (hS : p.block ∉ S) : w.cell? p = a.cell? p := by
  unfold World.cell?; rw [h.block _ hk hS]
theorem Kept.frozen {S : List Nat} {a w : World} (h : Kept S a w) {p : Addr} (hk : p.block < a.heap.size) (hS : p.block ∉ S) : w.frozen? p = a.frozen? p := by
  unfold World.frozen?; rw [h.block _ hk hS]
theorem at_below {B : Nat} {a w : World} (h : Below B a w) {k : Nat} {o : Obj} (hk : a.heap[k]? = some o) (hB : k < B) : w.heap[k]? = some o :=
  (h.block k hB).trans hk
theorem heap_alloc_new' (w : World) (o : Obj) : (w.alloc o).heap[w.heap.size]? = some o := by
  show (w.heap.push o)[w.heap.size]? = _
  simp
theorem heap_alloc_at {w : World} {o : Obj} {k : Nat} (h : k = w.heap.size) : (w.alloc o).heap[k]? = some o := h ▸ heap_alloc_new' w o
theorem heap_alloc_old {w : World} {o o' : Obj} {k : Nat} (h : w.heap[k]? = some o') : (w.alloc o).heap[k]? = some o' :=
  (Below.heap_alloc _ _ _ (lt_of_block h)).trans h
theorem heap_setCell_other {w : World} {p : Addr} {u : Value} {o' : Obj} {k : Nat} (h : w.heap[k]? = some o') (hk : k ≠ p.block) : (w.setCell p u).heap[k]? = some o' :=
  (Below.heap_setCell _ _ _ _ hk).trans h
theorem Below.of_setCell {B : Nat} (w : World) {p : Addr} (hp : B ≤ p.block) (u : Value) : Below B w (w.setCell p u) := (Below.refl _ _).setCell hp u
theorem Below.of_alloc {B : Nat} (w : World) (hB : B ≤ w.heap.size) (o : Obj) : Below B w (w.alloc o) := (Below.refl _ _).alloc hB o
/-- A row of the call's own, in a block that is not in the list. -/
theorem Kept.owns {S : List Nat} {a w : World} (h : Kept S a w) {base : Nat} {e : TypeId} {size : Nat} {v : Value} {n : Nat} {xs : List Value} (ho : a.ownsRow base e size v n xs) (hv : ∀ g, v.ownBlock = some g → g ∉ S) : w.ownsRow base e size v n xs := by
  obtain ⟨h1, h2⟩ := ho
  refine ⟨h1, ?_⟩
  rcases h2 with h2 | ⟨g, cap, cur, rfl, hg, hh, r⟩
  · exact Or.inl h2
  · exact Or.inr ⟨g, cap, cur, rfl, hg, h.at hh (hv g rfl), r⟩
theorem Kept.of_grown {S : List Nat} {a w : World} {row : Option Nat} (hg : a.grownBy w row) (hr : ∀ k, row = some k → k < a.heap.size → k ∈ S) : Kept S a w :=
  ⟨hg.os, hg.tape, hg.output, hg.size, fun k hk hS => hg.block k hk (fun e => hS (hr k e.symm hk))⟩
theorem Kept.of_drew (S : List Nat) (w : World) : Kept S w w.drew := (Kept.refl S w).drew

theorem add_block (x : Addr) (i : Nat) : (x.add i).block = x.block := by unfold Addr.add; split <;> rfl
/-- A call of a Go function that returns, as one step of a region that draws its order. -/
theorem step_call {P : Program} {ops : Array Oper} {o : Oper} {a : Act} {w : World} {K : Act → World → Prop} {Q : Exit → Act → World → Prop} {E : Prop} (hg : o.guard = none) (f : FuncId) (args : Array Value)
    (hrun : (execOp a.eval o).run P w = .ok (.enter f args) w) (R : Value → World → Prop) (h : Calls P f args w fun e w' => ∃ v, e = .returned v ∧ R v w')
    (hK : ∀ v w', R v w' → K (a.put o.dst v) w') : if Region.wanted o (yielded ops a.tmps) = true then Oper.wp P o a w K Q else E := by
  have hw : Region.wanted o (yielded ops a.tmps) = true := by simp [Region.wanted, hg]
  rw [if_pos hw]
  unfold Oper.wp
  rw [hrun]
  exact h.mono fun e w' ⟨v, he, hr⟩ => by subst he; exact hK v w' hr
theorem Kept.of_row {a w : World} {row : Option Nat} (hg : a.grownBy w row) : Kept row.toList a w :=
  Kept.of_grown hg (fun k hk _ => by simp [hk])
theorem heap_grown {a w : World} {row : Option Nat} (hg : a.grownBy w row) {k : Nat} {o : Obj} (h : a.heap[k]? = some o) (hne : row ≠ some k) : w.heap[k]? = some o :=
  (hg.block k (lt_of_block h) (fun e => hne e.symm)).trans h
end Go.Proofs.Ytkabfdclecbnpaa
