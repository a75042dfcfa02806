/- bytes.Clone; a chunker's All, and what its iterator yields. -/
import Derived.RangeFuncNested
import Derived.RangeFuncBound
import Derived.RangeFuncCalls
import Derived.RangeFuncLeaves
import Derived.Shelf.Abstract
import Derived.OwnWalkIn
import Derived.TacticsInMore
import Derived.LoopNIn
import Derived.LoopIn
import Derived.Stop.RegionWithIn
import Derived.OwnWalk
import Derived.Lib.SliceRun
import Derived.Test.YtllcfffpagogbaaDoorQ2
import Derived.Test.YtllcfffpagogbaaDoorW1
namespace Go.Proofs.YtllcfffpagogbaaDoor
open Go.RowKit Go.Lib
attribute [local go_sem] Oper.semAt_some

theorem qinfo8 : (Tryd.prog.info? 5).map (fun i => (i.zero, i.size, i.bytes)) = some (some (.int .u8 0), 1, 1) := by kernel_rfl
theorem qslice {w : World} {base : Nat} {e : TypeId} {size : Nat} {v : Value} {n : Nat} {xs : List Value} (h : w.ownsRow base e size v n xs) : ∃ a c, v = .slice a n c := by
  rcases h.2 with ⟨rfl, rfl⟩ | ⟨g, cap, _, rfl, _⟩
  · exact ⟨none, 0, rfl⟩
  · exact ⟨_, cap, rfl⟩
theorem qone (l : List UInt8) : ∀ u ∈ l.map B, u.oneCell' = true := by
  intro u hu; obtain ⟨b, _, rfl⟩ := List.mem_map.1 hu; rfl
/-- A slice of bytes, with its capacity. -/
structure Sl (w : World) (a : Option Addr) (c : Nat) (ys : List UInt8) : Prop where
  reads : Reads w a ys
  le : ys.length ≤ c
  max : c ≤ 9223372036854775807
  nil : a = none → c = 0
theorem Sl.kept {S : List Nat} {w w' : World} {a : Option Addr} {c : Nat} {ys : List UInt8} (h : Sl w a c ys) (hk : Kept S w w') (hS : ∀ x, a = some x → x.block ∉ S) : Sl w' a c ys :=
  ⟨h.reads.kept hk (fun _ x hx => hS x hx), h.le, h.max, h.nil⟩
theorem Sl.take {w : World} {a : Option Addr} {c : Nat} {ys : List UInt8} (h : Sl w a c ys) (q : Nat) : Sl w a c (ys.take q) :=
  ⟨⟨fun e => by rw [h.reads.1 e]; simp, fun ad ha j u hu => h.reads.2 ad ha j u (by
    rw [List.getElem?_map, List.getElem?_take] at hu
    split at hu
    · rw [List.getElem?_map]; exact hu
    · simp at hu)⟩, by have := h.le; rw [List.length_take]; omega, h.max, h.nil⟩
/-- What a row of the call's own reads as. -/
theorem sl_of_own {w : World} {base : Nat} {a : Option Addr} {c : Nat} {ys : List UInt8} (h : w.ownsRow base 5 1 (.slice a ys.length c) ys.length (ys.map B)) : Sl w a c ys ∧ ∀ x, a = some x → base ≤ x.block ∧ x.block < w.heap.size ∧ x.off = 0 ∧ x.spot = none := by
  have hc := fun g (hg : a = some ⟨g, 0, none⟩) => h.cells (g := g) (by rw [hg]; rfl)
  rcases h.2 with ⟨h1, h2⟩ | ⟨g, cap, cur, h1, hb, hh, h3, h4, _⟩
  · injection h1 with e1 e2 e3
    subst e1; subst e3
    have h0 : ys = [] := List.eq_nil_of_length_eq_zero e2
    exact ⟨⟨⟨fun _ => h0, fun _ h => by cases h⟩, by rw [h0]; simp, by omega, fun _ => rfl⟩, fun x hx => by cases hx⟩
  · injection h1 with e1 e2 e3
    subst e1; subst e3
    refine ⟨⟨⟨fun h => (by cases h), fun ad had j u hj => ?_⟩, h3, by unfold maxLen at h4; omega, fun h => (by cases h)⟩, fun x hx => by cases hx; exact ⟨hb, lt_of_block hh, rfl, rfl⟩⟩
    cases had
    exact hc g rfl j u hj

/-- A block that nobody froze. -/
def Free (w : World) (k : Nat) : Prop := ∃ cs t, w.heap[k]? = some (.cells cs t (0, 0))
theorem Free.kept {S : List Nat} {w w' : World} {k : Nat} (h : Free w k) (hk : Kept S w w') (hS : k ∉ S) : Free w' k := by
  obtain ⟨cs, t, h⟩ := h
  exact ⟨cs, t, hk.at h hS⟩
theorem own_free {w : World} {base : Nat} {e : TypeId} {size : Nat} {a : Option Addr} {n c : Nat} {xs : List Value} (h : w.ownsRow base e size (.slice a n c) n xs) : ∀ x, a = some x → Free w x.block := by
  intro x hx
  rcases h.2 with ⟨h1, h2⟩ | ⟨g, cap, cur, h1, hb, hh, h3, h4, _⟩
  · injection h1 with e1 e2 e3; rw [e1] at hx; cases hx
  · injection h1 with e1 e2 e3; rw [e1] at hx; cases hx; exact ⟨cur, e, hh⟩

theorem clone_slf (a : Option Addr) (c : Nat) (ys : List UInt8) (w : World) (h : Sl w a c ys) (hl : ys.length ≤ 100000000) :
    Calls Tryd.prog 54 #[.slice a ys.length c] w fun e w' => ∃ a' c', e = .returned (.slice a' ys.length c') ∧ Kept [] w w' ∧ Sl w' a' c' ys ∧ (∀ x, a' = some x → w.heap.size ≤ x.block ∧ x.block < w'.heap.size ∧ x.off = 0 ∧ x.spot = none) ∧ ∀ x, a' = some x → Free w' x.block := by
  obtain ⟨i0, hi0, hz0, hz1, hz2⟩ := info_parts qinfo8
  cases a with
  | none =>
    have hc := h.nil rfl
    have hb : ys = [] := h.reads.1 rfl
    subst hc; subst hb
    have heq := fun (w : World) => run_eql_slice_nil (P := Tryd.prog) w 25 5 none 0 0 0 0 Tryd.underlying25
    go_enter Tryd.func54, Tryd.ntmps54
    go_wp2
    go_ret
    exact ⟨none, 0, rfl, Kept.refl _ _, ⟨⟨fun _ => rfl, fun _ h => by cases h⟩, by simp, by omega, fun _ => rfl⟩, fun x hx => (by cases hx), fun x hx => (by cases hx)⟩
  | some x =>
    have hsrc := hid (show Src (w.alloc (.cells #[] 5)) (.slice (some x) ys.length c) ys.length (ys.map B) from Or.inr ⟨x, c, rfl, fun j u hj => by
      have h1 := h.reads.2 x rfl j u hj
      exact (((Kept.refl [] w).alloc _).cell (World.block_lt_of_cell? w _ h1) (by simp)).trans h1⟩)
    clear h
    have heq := fun (w : World) => run_eql_slice_nil (P := Tryd.prog) w 25 5 (some x) ys.length c 0 0 Tryd.underlying25
    go_enter Tryd.func54, Tryd.ntmps54
    go_wp2_with (at_builtin; refine halt ?_)
    refine Halt.mk ?_
    refine wpList_append_src _ rfl _ _ _ rfl w.heap.size 5 i0 _ 1 Tryd.underlying25 hi0 hz0 hz1 hz2 rfl (.slice (some ⟨w.heap.size, 0, none⟩) 0 0) 0 [] rfl (World.ownsRow_made w (base := w.heap.size) (e := 5) (size := 1) #[] 0 (Nat.le_refl _) (by decide) (by simp)) (.slice (some x) ys.length c) ys.length (ys.map B) rfl hsrc.out (by simp) (qone ys) ?_ ?_ ?_ ?_
    · unfold maxLen; omega
    · omega
    · simp
    intro v2 w2 hown2 hgrow2 _ hf2
    obtain ⟨a2, c2, rfl⟩ := qslice hown2
    simp only [Nat.zero_add, List.nil_append] at hown2 ⊢
    have hk := hid (show Kept [] w w2 from ((Kept.refl [] w).alloc (.cells #[] 5)).trans' (Kept.of_row hgrow2) (fun y hy hm => by simp [Value.ownBlock] at hm; omega))
    have hr := hid (sl_of_own hown2)
    have hfr := hid (own_free hown2)
    clear hown2 hgrow2 hf2
    go_wp2
    go_ret
    exact ⟨a2, c2, rfl, hk.out, hr.out.1, hr.out.2, hfr.out⟩
theorem clone_sl (a : Option Addr) (c : Nat) (ys : List UInt8) (w : World) (h : Sl w a c ys) (hl : ys.length ≤ 100000000) :
    Calls Tryd.prog 54 #[.slice a ys.length c] w fun e w' => ∃ a' c', e = .returned (.slice a' ys.length c') ∧ Kept [] w w' ∧ Sl w' a' c' ys ∧ ∀ x, a' = some x → w.heap.size ≤ x.block ∧ x.block < w'.heap.size ∧ x.off = 0 ∧ x.spot = none :=
  (clone_slf a c ys w h hl).mono fun _ _ ⟨a', c', h1, h2, h3, h4, _⟩ => ⟨a', c', h1, h2, h3, h4⟩

theorem all_any (c : Nat) (a : Option Addr) (cap : Nat) (ys : List UInt8) (w : World) (h : Sl w a cap ys) (hl : ys.length ≤ 100000000) :
    Calls Tryd.prog 34 #[.pointer (some ⟨c, 0, none⟩), .slice a ys.length cap] w fun e w' => ∃ b1 b2 a' c', e = .returned (.func (.func 55) #[] #[.pointer (some ⟨b1, 0, none⟩), .pointer (some ⟨b2, 0, none⟩)]) ∧ Kept [] w w' ∧
      Sl w' a' c' ys ∧ (∀ x, a' = some x → w.heap.size ≤ x.block ∧ x.block < w'.heap.size ∧ x.off = 0 ∧ x.spot = none) ∧ w.heap.size ≤ b1 ∧ w.heap.size ≤ b2 ∧
      w'.heap[b1]? = some (.cells #[.pointer (some ⟨c, 0, none⟩)] 27 (0, 0)) ∧ w'.heap[b2]? = some (.cells #[.slice a' ys.length c'] 25 (0, 0)) := by
  have hmf : ∀ (fn : Fn) (first cap : Array Value) (w : World), (Instr.makeFunc fn first cap).run Tryd.prog w = .ok (.func fn first cap) w := fun _ _ _ _ => rfl
  have hcl := hid (clone_sl a cap ys (w.alloc (.cells #[.pointer (some ⟨c, 0, none⟩)] 27)) (h.kept ((Kept.refl [] w).alloc _) (by simp)) hl)
  clear h
  go_enter Tryd.func34, Tryd.ntmps34
  go_wp2_with fail
  refine hcl.out.mono ?_
  rintro e w1 ⟨a', c', rfl, hk1, hs1, hx1⟩
  have hb1 := hid (hk1.at (k := w.heap.size) (heap_alloc_at rfl) (by simp))
  have Hk := hid (((Kept.refl [] w).alloc (.cells #[.pointer (some ⟨c, 0, none⟩)] 27)).trans hk1)
  have hsz := hk1.size
  simp only [World.size_alloc] at hsz hx1
  have Hs := hid hs1; have Hx := hid hx1
  clear hk1 hs1 hx1
  go_wp2
  go_ret
  refine ⟨w.heap.size, w1.heap.size, a', c', rfl, Hk.out.alloc _, Hs.out.kept ((Kept.refl [] w1).alloc _) (by simp), fun x hx => ?_, Nat.le_refl _, by omega, ?_, ?_⟩
  · have h4 := Hx.out x hx
    exact ⟨by omega, by simp; omega, h4.2.2⟩
  · exact heap_alloc_old hb1.out
  · exact heap_alloc_at rfl

/-- What is yielded: where a chunk begins, and its bytes. -/
structure Piece where
  pos : Nat
  a : Option Addr
  c : Nat
  ys : List UInt8
abbrev pvals (x : Piece) : Array Value := #[.int .i64 (x.pos : Int), .slice x.a x.ys.length x.c]
/-- What is known of a piece as it is yielded. -/
structure PFt (p : Nat) (x : Piece) (w : World) : Prop where
  sl : Sl w x.a x.c x.ys
  ne : x.ys ≠ []
  at_ : ∀ y, x.a = some y → p < y.block ∧ y.block < w.heap.size ∧ y.off = 0 ∧ y.spot = none
  size : p < w.heap.size
  free : ∀ y, x.a = some y → Free w y.block
def lenP (xs : List Piece) : Nat := (xs.map fun x => x.ys.length).sum
/-- Pieces one behind the other. -/
def InRow (xs : List Piece) : Prop := ∀ i x, xs[i]? = some x → x.pos = lenP (xs.take i)
theorem lenP_snoc (xs : List Piece) (x : Piece) : lenP (xs ++ [x]) = lenP xs + x.ys.length := by simp [lenP]
theorem InRow.snoc {xs : List Piece} {x : Piece} (h : InRow xs) (hx : x.pos = lenP xs) : InRow (xs ++ [x]) := by
  intro i y hy
  rw [List.getElem?_append] at hy
  split at hy
  · rename_i hi
    rw [List.take_append_of_le_length (by omega)]
    exact h i y hy
  · rename_i hi
    have : i = xs.length := by
      rcases Nat.lt_or_ge (i - xs.length) 1 with h1 | h1
      · omega
      · rw [List.getElem?_eq_none (by simpa using h1)] at hy; cases hy
    subst this
    simp at hy
    subst hy
    rw [List.take_left' rfl, hx]

theorem Keep.cell {B' : Nat → Prop} {a b : World} (h : Keep B' a b) {p : Addr} (hB : B' p.block) (hl : p.block < a.heap.size) : b.cell? p = a.cell? p := by
  unfold World.cell?; rw [h.block _ hB hl]
theorem Sl.keep {B' : Nat → Prop} {w w' : World} {a : Option Addr} {c : Nat} {ys : List UInt8} (h : Sl w a c ys) (hk : Keep B' w w') (hB : ∀ x, a = some x → B' x.block) : Sl w' a c ys :=
  ⟨⟨h.reads.1, fun ad ha j u hu => by
    have hc := h.reads.2 ad ha j u hu
    exact (hk.cell (by rw [add_block]; exact hB ad ha) (World.block_lt_of_cell? w _ hc)).trans hc⟩, h.le, h.max, h.nil⟩
theorem Ch.keep {B' : Nat → Prop} {w w' : World} {c : Nat} {P : Chunk.Par} {seed : Int} {g : Nat} {T : UInt8 → Roll.W} (h : Ch w c P seed g T) (hk : Keep B' w w') (h1 : B' c) (h2 : B' g) (h3 : B' 1) : Ch w' c P seed g T :=
  ⟨hk.at h.here h1, fun d => (hk.cell (p := ⟨g, 0 + d.toNat, none⟩) h2 h.tb.lt).trans (h.tb d), fun i hi => (hk.cell (p := ⟨1, i, none⟩) h3 h.db.pos).trans (h.db i hi), h.ok⟩
theorem Win.keep {B' : Nat → Prop} {w w' : World} {p n : Nat} {T : UInt8 → Roll.W} {ys : List UInt8} (h : Win w p T n ys) (hk : Keep B' w w') (h1 : B' p) : Win w' p T n ys := by
  obtain ⟨nx, L, hh, hp⟩ := h
  exact ⟨nx, L, hk.at hh h1, hp⟩

/-- The blocks that the iterator wants as they are. -/
def Needs (c g b1 b2 : Nat) (a : Option Addr) (k : Nat) : Prop := k = c ∨ k = g ∨ k = 1 ∨ k = b1 ∨ k = b2 ∨ ∃ x, a = some x ∧ k = x.block
/-- What the iterator reads. -/
structure ItAt (w : World) (c : Nat) (P : Chunk.Par) (seed : Int) (g : Nat) (T : UInt8 → Roll.W) (b1 b2 : Nat) (a : Option Addr) (cap : Nat) (ys : List UInt8) : Prop where
  ch : Ch w c P seed g T
  sl : Sl w a cap ys
  one : w.heap[b1]? = some (.cells #[.pointer (some ⟨c, 0, none⟩)] 27 (0, 0))
  two : w.heap[b2]? = some (.cells #[.slice a ys.length cap] 25 (0, 0))
theorem ItAt.keep {w w' : World} {c : Nat} {P : Chunk.Par} {seed : Int} {g : Nat} {T : UInt8 → Roll.W} {b1 b2 : Nat} {a : Option Addr} {cap : Nat} {ys : List UInt8} (h : ItAt w c P seed g T b1 b2 a cap ys) (hk : Keep (Needs c g b1 b2 a) w w') : ItAt w' c P seed g T b1 b2 a cap ys :=
  ⟨h.ch.keep hk (.inl rfl) (.inr (.inl rfl)) (.inr (.inr (.inl rfl))), h.sl.keep hk (fun x hx => .inr (.inr (.inr (.inr (.inr ⟨x, hx, rfl⟩))))), hk.at h.one (.inr (.inr (.inr (.inl rfl)))), hk.at h.two (.inr (.inr (.inr (.inr (.inl rfl)))))⟩
theorem ItAt.lt {w : World} {c : Nat} {P : Chunk.Par} {seed : Int} {g : Nat} {T : UInt8 → Roll.W} {b1 b2 : Nat} {a : Option Addr} {cap : Nat} {ys : List UInt8} (h : ItAt w c P seed g T b1 b2 a cap ys) (hne : ys ≠ []) : ∀ k, Needs c g b1 b2 a k → k < w.heap.size := by
  rintro k (rfl | rfl | rfl | rfl | rfl | ⟨x, hx, rfl⟩)
  · exact lt_of_block h.ch.here
  · exact h.ch.tb.lt
  · exact h.ch.db.pos
  · exact lt_of_block h.one
  · exact lt_of_block h.two
  · exact h.sl.reads.lt hne x hx
end Go.Proofs.YtllcfffpagogbaaDoor
