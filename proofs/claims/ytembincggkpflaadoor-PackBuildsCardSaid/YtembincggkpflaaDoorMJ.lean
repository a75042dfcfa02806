import Derived.Test.YtembincggkpflaaDoorMC
import Derived.Test.YtembincggkpflaaDoorHL
import Derived.Test.YtembincggkpflaaDoorMP
import Derived.Test.YtembincggkpflaaDoorN2
import Derived.Test.YtembincggkpflaaDoorMI
import Derived.Test.YtembincggkpflaaDoorWV
import Derived.Test.YtembincggkpflaaDoorMS
import Derived.Test.YtembincggkpflaaDoorHW
import Derived.Sort.Grow
import Derived.Test.YtembincggkpflaaDoorN1
import Derived.Test.YtembincggkpflaaDoorWK
import Derived.Shelf.SlSortCmp.InsertionK
import Derived.Ground.SlsfProg
import Derived.Shelf.Lays
import Derived.Sort.LotA

/- A reader's fields, each as it may be read or not; a call of a drawn region that may throw. -/
namespace Go.Proofs.YtembincggkpflaaDoor
open Go.RowKit Go.Lib

section
variable {P : Program} {md : Region.Mode} {Q : Exit → Act → World → Prop} {S : World → Prop} {l rest : List Oper} {oi : Oper} {fuel : Nat} {listed : Array Bool} {a : Act} {w : World}
theorem callX (i : Nat) (hi : l.drop i = oi :: rest) (hr : Region.ready md l.toArray listed = [i]) (hw : Region.wanted oi (yielded l.toArray a.tmps) = true) (f : FuncId) (args : Array Value)
    (hrun : (execOp a.eval oi).run P w = .ok (.enter f args) w)
    (hc : Calls P f args w fun e w' => (∃ val, e = .returned val ∧ S w' ∧ wpAnyH P md l.toArray Q S fuel (listed.setIfInBounds i true) (a.put oi.dst val) w') ∨ ∃ ch, e = .panicked ch ∧ Q (.panic ch) a w') :
    wpAnyH P md l.toArray Q S (fuel + 1) listed a w := by
  refine wpAnyH_ready hr (by simp) (AllReadyH.cons (getL_of_drop hi) (fun K hK => ?_) AllReadyH.nil)
  rw [if_pos hw]
  unfold Oper.wp
  rw [hrun]
  refine hc.mono ?_
  rintro e w' (⟨val, rfl, hS, h⟩ | ⟨ch, rfl, h⟩)
  · exact hK.out _ _ hS (fun _ => h)
  · exact h
end

theorem results_cell {P : Program} {fn : Func} {tmps : Array Value} {w : World} {k T : Nat} {x : Addr} {v : Value} (hr : fn.results = #[.cell k T]) (ht : tmps[k]?.getD undef = .pointer (some x)) (hl : (loadVar T x).run P w = .ok v w) : (results fn tmps).run P w = .ok v w := by
  unfold results
  rw [hr]
  simp [Sem.run_bind, ht, asAddr, hl]
theorem results_cell2 {P : Program} {fn : Func} {tmps : Array Value} {w : World} {k j T : Nat} {x : Addr} {v u : Value} (hr : fn.results = #[.cell k T, .tmp j]) (ht : tmps[k]?.getD undef = .pointer (some x)) (hu : tmps[j]?.getD undef = u) (hl : (loadVar T x).run P w = .ok v w) : (results fn tmps).run P w = .ok (.tuple #[v, u]) w := by
  unfold results
  rw [hr]
  simp [Sem.run_bind, ht, hu, asAddr, hl]

/-- A reader in block rb has xs left; all else is as it was in W0. -/
def Rv (W0 : World) (rb : Nat) (a0 : Option Addr) (xs : List UInt8) (W : World) : Prop :=
  ∃ a c, Rd W rb a c xs ∧ Kept [rb] W0 W ∧ ∀ x, a = some x → ∃ y, a0 = some y ∧ x.block = y.block
theorem Rv.new {W : World} {rb : Nat} {a : Option Addr} {c : Nat} {xs : List UInt8} (h : Rd W rb a c xs) : Rv W rb a xs W := ⟨a, c, h, Kept.refl _ _, fun x hx => ⟨x, hx, rfl⟩⟩
theorem Rv.later {W0 W W' : World} {rb : Nat} {a0 : Option Addr} {xs : List UInt8} (h : Rv W0 rb a0 xs W) (hk : Kept [] W W') : Rv W0 rb a0 xs W' := by
  obtain ⟨a, c, h1, h2, h3⟩ := h
  exact ⟨a, c, h1.kept hk (by simp) (fun _ _ => by simp), h2.trans (hk.wider (by simp)), h3⟩
theorem Rv.kept {W0 W : World} {rb : Nat} {a0 : Option Addr} {xs : List UInt8} (h : Rv W0 rb a0 xs W) : Kept [rb] W0 W := by obtain ⟨a, c, h1, h2, h3⟩ := h; exact h2

theorem Rv.base {W W1 v : World} {rb : Nat} {a0 : Option Addr} {xs : List UInt8} (hk : Kept [] W W1) (h : Rv W1 rb a0 xs v) : Rv W rb a0 xs v := by
  obtain ⟨a, c, h1, h2, h3⟩ := h
  exact ⟨a, c, h1, (hk.wider (by simp)).trans h2, h3⟩

def rNum (k : Nat) (xs : List UInt8) : Option (Nat × List UInt8) := if k ≤ xs.length then some (numOf (xs.take k), xs.drop k) else none
def rTxt (most : Nat) (xs : List UInt8) : Option (List UInt8 × List UInt8) := if 4 + said xs ≤ xs.length ∧ said xs ≤ most then some ((xs.drop 4).take (said xs), xs.drop (4 + said xs)) else none
def rRaw (k : Nat) (xs : List UInt8) : Option (List UInt8 × List UInt8) := if k ≤ xs.length then some (xs.take k, xs.drop k) else none
/-- It ends by throwing an error. -/
def Throws (e : Ending) : Prop := ∃ n : Int, n ≠ 0 ∧ Thrown 39 (.int .i64 n) e

theorem Rv.step {W0 W : World} {rb : Nat} {a0 : Option Addr} {xs : List UInt8} {a : Option Addr} {c m : Nat} (h1 : Rd W rb a c xs) (h2 : Kept [rb] W0 W) (h3 : ∀ x, a = some x → ∃ y, a0 = some y ∧ x.block = y.block) (hm : m ≤ xs.length) :
    Rv W0 rb a0 (xs.drop m) (nextW W rb a c xs m) :=
  ⟨_, _, h1.next hm, h2.trans (next_kept W rb a c xs m), fun x hx => by
    obtain ⟨z, hz, e⟩ := behind_block x hx
    obtain ⟨y, hy, e2⟩ := h3 z hz
    exact ⟨y, hy, e.trans e2⟩⟩

theorem Rv.num {W0 W : World} {rb : Nat} {a0 : Option Addr} {xs : List UInt8} (h : Rv W0 rb a0 xs W) (size : Int) (k : Nat) (hk : sz size = k) :
    Calls Tryd.prog 51 #[.pointer (some ⟨rb, 0, none⟩), .int .i64 size] W fun e w' =>
      (∃ N r, rNum k xs = some (N, r) ∧ e = .returned (.int .u64 (N : Int)) ∧ Rv W0 rb a0 r w') ∨ (rNum k xs = none ∧ Throws e ∧ Rv W0 rb a0 xs w') := by
  obtain ⟨a, c, h1, h2, h3⟩ := h
  subst hk
  by_cases hl : sz size ≤ xs.length
  · refine (rnum_ok rb a c xs size hl W h1).mono ?_
    rintro e w' ⟨rfl, rfl⟩
    exact Or.inl ⟨_, _, if_pos hl, rfl, Rv.step h1 h2 h3 hl⟩
  · refine (rnum_short rb a c xs size (by omega) W h1).mono ?_
    rintro e w' ⟨ht, rfl⟩
    exact Or.inr ⟨if_neg hl, ⟨20, by decide, ht⟩, a, c, h1, h2, h3⟩

/-- Bytes that were read raw stand where they stood. -/
theorem Rv.raw {W0 W : World} {rb : Nat} {a0 : Option Addr} {xs : List UInt8} (h : Rv W0 rb a0 xs W) (k : Nat) (hk : 0 < k) :
    Calls Tryd.prog 53 #[.pointer (some ⟨rb, 0, none⟩), .int .i64 (k : Int)] W fun e w' =>
      (∃ t r x, rRaw k xs = some (t, r) ∧ e = .returned (.slice (some x) k k) ∧ t.length = k ∧ (∃ y, a0 = some y ∧ x.block = y.block) ∧ x.block ≠ rb ∧ (∀ (j : Nat) b, t[j]? = some b → W.cell? (x.add j) = some (B b)) ∧ Rv W0 rb a0 r w') ∨ (rRaw k xs = none ∧ Throws e ∧ Rv W0 rb a0 xs w') := by
  obtain ⟨a, c, h1, h2, h3⟩ := h
  by_cases hl : k ≤ xs.length
  · refine (raw_ok rb a c xs k k (by omega) hl W h1).mono ?_
    rintro e w' ⟨rfl, rfl⟩
    cases a with
    | none => have h6 := h1.nil rfl; have := h1.le; omega
    | some x =>
      refine Or.inl ⟨_, _, x, if_pos hl, rfl, by simp; omega, h3 x rfl, (h1.src x rfl).1, fun j b hj => ?_, Rv.step h1 h2 h3 hl⟩
      refine (h1.src x rfl).2 j b ?_
      rw [List.getElem?_take] at hj
      split at hj
      · exact hj
      · simp at hj
  · refine (raw_short rb a c xs k (by omega) W h1).mono ?_
    rintro e w' ⟨ht, rfl⟩
    exact Or.inr ⟨if_neg hl, ⟨20, by decide, ht⟩, a, c, h1, h2, h3⟩
end Go.Proofs.YtembincggkpflaaDoor


/- snap.Snap and tree.Node: what a part is; a snapshot's cells. -/
namespace Go.Proofs.YtembincggkpflaaDoor
open Go.RowKit Go.Lib

theorem j_parts_one : ∀ (s : List UInt8), 47 ∉ s → partsS s = [s]
  | [], _ => rfl
  | x :: s, h => by
    have h1 : x ≠ 47 := fun e => h (by simp [e])
    unfold partsS
    rw [if_neg h1, j_parts_one s (fun e => h (by simp [e]))]
theorem j_lastN_one : ∀ (s : List UInt8), 47 ∉ s → lastN s 47 = 0
  | [], _ => rfl
  | x :: s, h => by
    have h1 : x ≠ 47 := fun e => h (by simp [e])
    simp [lastN, j_lastN_one s (fun e => h (by simp [e])), h1]
theorem j_lastN_pos : ∀ (s : List UInt8), 47 ∈ s → 0 < lastN s 47
  | [], h => by simp at h
  | x :: s, h => by
    unfold lastN
    by_cases h1 : 0 < lastN s 47
    · rw [if_pos h1]; omega
    · rw [if_neg h1]
      have h2 : 47 ∉ s := fun hm => h1 (j_lastN_pos s hm)
      rcases List.mem_cons.1 h with e | e
      · rw [if_pos e.symm]; omega
      · exact absurd e h2
theorem j_okByte_sep : okByte 47 = false := by decide
theorem j_okPart_sep {s : List UInt8} (h : okPart s = true) : 47 ∉ s := by
  intro hm
  unfold okPart at h
  rw [Bool.and_eq_true, List.all_eq_true] at h
  have := h.2 47 hm
  rw [j_okByte_sep] at this; cases this
theorem j_okPart_ne {s : List UInt8} (h : okPart s = true) : s ≠ [] ∧ s.length ≤ 40 := by
  unfold okPart at h
  simp only [Bool.and_eq_true, decide_eq_true_eq] at h
  exact ⟨fun e => by rw [e] at h; simp at h, h.1.1.1.2⟩
/-- A part is a path that is what stands behind its last separator. -/
theorem part_iff (a : List UInt8) : okPart a = true ↔ okPath a = true ∧ baseL a = a := by
  constructor
  · intro h
    have h1 := j_okPart_sep h
    refine ⟨?_, by unfold baseL; rw [j_lastN_one a h1]; rfl⟩
    unfold okPath
    rw [Bool.and_eq_true, decide_eq_true_eq, j_parts_one a h1]
    exact ⟨by have := (j_okPart_ne h).2; omega, by simpa using h⟩
  · rintro ⟨h, hb⟩
    have h1 : 47 ∉ a := by
      intro hm
      have h2 := j_lastN_pos a hm
      have h3 := congrArg List.length hb
      have h4 : a ≠ [] := by rintro rfl; simp at hm
      have h5 := List.length_pos_iff.2 h4
      unfold baseL at h3
      rw [List.length_drop] at h3
      omega
    unfold okPath at h
    rw [Bool.and_eq_true, j_parts_one a h1] at h
    simpa using h.2

/-- A snapshot. -/
structure Sp where
  time : Int
  host : List UInt8
  tag : List UInt8
  root : List UInt8
  files : Int
  bytes : Int
def Sp.cells (s : Sp) : List Value := [.int .i64 s.time, .string (S s.host), .string (S s.tag)] ++ s.root.map B ++ [.int .i64 s.files, .int .i64 s.bytes]
def Sp.v (s : Sp) : Value := .agg s.cells.toArray
/-- Its fields are a machine's. -/
structure Sp.ok (s : Sp) : Prop where
  root : s.root.length = 32
  t1 : -9223372036854775808 ≤ s.time
  t2 : s.time ≤ 9223372036854775807
  f1 : -9223372036854775808 ≤ s.files
  f2 : s.files ≤ 9223372036854775807
  b1 : -9223372036854775808 ≤ s.bytes
  b2 : s.bytes ≤ 9223372036854775807
theorem Sp.size {s : Sp} (h : s.ok) : s.cells.length = 37 := by unfold Sp.cells; simp [h.root]
theorem Sp.c0 (s : Sp) : s.cells[0]? = some (.int .i64 s.time) := rfl
theorem Sp.c1 (s : Sp) : s.cells[1]? = some (.string (S s.host)) := rfl
theorem Sp.c2 (s : Sp) : s.cells[2]? = some (.string (S s.tag)) := rfl
theorem Sp.c35 {s : Sp} (h : s.ok) : s.cells[35]? = some (.int .i64 s.files) := by
  unfold Sp.cells; rw [List.getElem?_append_right (by simp [h.root])]; simp [h.root]
theorem Sp.c36 {s : Sp} (h : s.ok) : s.cells[36]? = some (.int .i64 s.bytes) := by
  unfold Sp.cells; rw [List.getElem?_append_right (by simp [h.root])]; simp [h.root]
theorem Sp.cr {s : Sp} (_ : s.ok) (k : Nat) (b : UInt8) (hk : s.root[k]? = some b) : s.cells[3 + k]? = some (B b) := by
  have hl := (List.getElem?_eq_some_iff.1 hk).1
  unfold Sp.cells
  rw [List.getElem?_append_left (by simp; omega), List.getElem?_append_right (by simp)]
  simp [hk]
theorem Sp.one (s : Sp) : ∀ v ∈ s.cells, v.oneCell' = true := by
  intro v hv
  unfold Sp.cells at hv
  simp only [List.mem_append, List.mem_cons, List.mem_map, List.not_mem_nil, or_false] at hv
  rcases hv with ((rfl | rfl | rfl) | ⟨b, _, rfl⟩) | (rfl | rfl) <;> rfl
/-- What is wrong with a snapshot. -/
def Sp.far (s : Sp) : Prop := s.time < 0 ∨ 1125899906842624 < s.time ∨ s.files < 0 ∨ 512 < s.files ∨ s.bytes < 0
instance (s : Sp) : Decidable s.far := by unfold Sp.far; infer_instance
def Sp.err (s : Sp) : Int := if s.far then 23 else if okPart s.host = true ∧ (s.tag = [] ∨ okPart s.tag = true) then 0 else 38
end Go.Proofs.YtembincggkpflaaDoor


/- cmp.Compare at numbers and texts; cmp.Or: what each call answers. -/
namespace Go.Proofs.YtembincggkpflaaDoor
open Go.RowKit Go.Lib

def cmpI (a b : Int) : Int := if a < b then -1 else if b < a then 1 else 0
def cmpS (a b : List UInt8) : Int := if a < b then -1 else if b < a then 1 else 0
theorem j_less_lex : ∀ (x y : List UInt8), Op.bytesLess x y = decide (x < y)
  | [], [] => by simp [Op.bytesLess]
  | [], _ :: _ => by simp [Op.bytesLess]
  | _ :: _, [] => by simp [Op.bytesLess]
  | s :: x, t :: y => by
    have ih := j_less_lex x y
    unfold Op.bytesLess
    rw [ih, Bool.eq_iff_iff]
    simp [List.cons_lt_cons_iff]
theorem jS_less (x y : List UInt8) : Op.bytesLess (S x).toList (S y).toList = decide (x < y) := by
  rw [S_toList, S_toList, j_less_lex]

/-- The first number that is not 0. -/
def orL : List Int → Int
  | [] => 0
  | x :: l => if x ≠ 0 then x else orL l
end Go.Proofs.YtembincggkpflaaDoor


/- snap.Check. -/
namespace Go.Proofs.YtembincggkpflaaDoor
open Go.RowKit Go.Lib

end Go.Proofs.YtembincggkpflaaDoor


/- snap.Encode. -/
namespace Go.Proofs.YtembincggkpflaaDoor
open Go.RowKit Go.Lib

/-- A snapshot's bytes, ahead of being sealed. -/
def Sp.enc (s : Sp) : List UInt8 := numB s.time.toNat 8 ++ (numB s.host.length 4 ++ s.host) ++ (numB s.tag.length 4 ++ s.tag) ++ s.root ++ numB s.files.toNat 4 ++ numB s.bytes.toNat 8
theorem Sp.err_far {s : Sp} (h : s.err = 0) : ¬ s.far := fun hf => by unfold Sp.err at h; rw [if_pos hf] at h; cases h
theorem Sp.err_part {s : Sp} (h : s.err = 0) : okPart s.host = true ∧ (s.tag = [] ∨ okPart s.tag = true) := by
  unfold Sp.err at h
  rw [if_neg (Sp.err_far h)] at h
  by_cases hp : okPart s.host = true ∧ (s.tag = [] ∨ okPart s.tag = true)
  · exact hp
  · rw [if_neg hp] at h; cases h
theorem Sp.err_len {s : Sp} (h : s.err = 0) : s.host.length ≤ 40 ∧ s.tag.length ≤ 40 := by
  obtain ⟨h1, h2⟩ := Sp.err_part h
  refine ⟨(j_okPart_ne h1).2, ?_⟩
  rcases h2 with h2 | h2
  · rw [h2]; simp
  · exact (j_okPart_ne h2).2
theorem Sp.enc_len {s : Sp} (h : s.ok) : s.enc.length = 60 + s.host.length + s.tag.length := by
  unfold Sp.enc; simp [numB_len, h.root]; omega
theorem sz8 : sz 8 = 8 := by decide

/-- A sum's field within a box, sliced. -/
theorem slice_root (g : Nat) (W : World) : (Instr.sliceAt 36 (.pointer (some ⟨g, 3, none⟩)) none none none).run Tryd.prog W = .ok (.slice (some ⟨g, 3, none⟩) 32 32) W := by
  have hal : Tryd.prog.arrayLen 36 = 32 := by simp [Program.arrayLen, Tryd.underlying36]
  rw [run_sliceAt_array_all W 36 ⟨g, 3, none⟩ (by simp [Program.arrayLen, Program.elem, Tryd.underlying36])]
  rw [hal]
  go_simp
/-- What Encode answers. -/
def Encoded (s : Sp) (w : World) (e : Ending) (w' : World) : Prop :=
  Kept [] w w' ∧ ((s.err ≠ 0 ∧ e = .returned (.tuple #[.slice none 0 0, .int .i64 s.err])) ∨
    (s.err = 0 ∧ ∃ a c, e = .returned (.tuple #[.slice a (sealed 83 s.enc).length c, .int .i64 0]) ∧ w'.ownsRow w.heap.size 5 1 (.slice a (sealed 83 s.enc).length c) (sealed 83 s.enc).length ((sealed 83 s.enc).map B)))

theorem S_data (a : List UInt8) : (S a).data.toList = a := rfl

end Go.Proofs.YtembincggkpflaaDoor


/- snap.compare, snap.Less. -/
namespace Go.Proofs.YtembincggkpflaaDoor
open Go.RowKit Go.Lib Go.Sort

theorem kept_grow (w : World) (q : Nat) (os : Array Obj) : Kept [] w (grow (w.drewN q) os) :=
  ⟨rfl, rfl, rfl, by simp [grow, World.drewN], fun k hk _ => by
    show (w.heap ++ os)[k]? = _
    rw [Array.getElem?_append_left hk]⟩
/-- A world that came of w by draws and new blocks alone. -/
def Grown (w v : World) : Prop := ∃ q os, v = grow (w.drewN q) os
theorem Grown.kept {w v : World} (h : Grown w v) : Kept [] w v := by obtain ⟨q, os, rfl⟩ := h; exact kept_grow w q os
theorem Grown.refl (w : World) : Grown w w := ⟨0, #[], by rw [grow_empty]; rfl⟩
theorem Grown.alloc {w v : World} (h : Grown w v) (o : Obj) : Grown w (v.alloc o) := by
  obtain ⟨q, os, rfl⟩ := h
  exact ⟨q, os ++ #[o], by rw [alloc_eq_grow, grow_grow]⟩
theorem Grown.drew {w v : World} (h : Grown w v) : Grown w v.drew := by
  obtain ⟨q, os, rfl⟩ := h
  exact ⟨q + 1, os, rfl⟩

/-- Which snapshot is ahead: below 0, if x is. -/
def Sp.cmp (x y : Sp) : Int := orL [cmpI x.time y.time, cmpS x.host y.host, cmpS x.tag y.tag, Lib.compareBytes x.root y.root, cmpI x.files y.files, cmpI x.bytes y.bytes]

end Go.Proofs.YtembincggkpflaaDoor


/- snap.read. -/
namespace Go.Proofs.YtembincggkpflaaDoor
open Go.RowKit Go.Lib

theorem i64_bounds (n : Int) : -9223372036854775808 ≤ IntKind.i64.wrap n ∧ IntKind.i64.wrap n ≤ 9223372036854775807 := by rw [IntKind.wrap_i64]; omega

/-- The snapshot that bytes begin with, and what is left of them. -/
def readS (xs : List UInt8) : Option (Sp × List UInt8) :=
  (rNum 8 xs).bind fun p1 => (rTxt 120 p1.2).bind fun p2 => (rTxt 120 p2.2).bind fun p3 => (rRaw 32 p3.2).bind fun p4 => (rNum 4 p4.2).bind fun p5 => (rNum 8 p5.2).bind fun p6 =>
    some (⟨IntKind.i64.wrap p1.1, p2.1, p3.1, p4.1, IntKind.i64.wrap p5.1, IntKind.i64.wrap p6.1⟩, p6.2)

set_option maxRecDepth 100000 in
theorem list32 : ∀ (r : List Value), r.length = 32 → ∃ x0 x1 x2 x3 x4 x5 x6 x7 x8 x9 y0 y1 y2 y3 y4 y5 y6 y7 y8 y9 z0 z1 z2 z3 z4 z5 z6 z7 z8 z9 v0 v1, r = [x0, x1, x2, x3, x4, x5, x6, x7, x8, x9, y0, y1, y2, y3, y4, y5, y6, y7, y8, y9, z0, z1, z2, z3, z4, z5, z6, z7, z8, z9, v0, v1] := by
  intro r h
  match r, h with
  | [x0, x1, x2, x3, x4, x5, x6, x7, x8, x9, y0, y1, y2, y3, y4, y5, y6, y7, y8, y9, z0, z1, z2, z3, z4, z5, z6, z7, z8, z9, v0, v1], _ => exact ⟨x0, x1, x2, x3, x4, x5, x6, x7, x8, x9, y0, y1, y2, y3, y4, y5, y6, y7, y8, y9, z0, z1, z2, z3, z4, z5, z6, z7, z8, z9, v0, v1, rfl⟩
def snapCells (t f b : Int) (h g : ByteArray) (r : List Value) : List Value := [Value.int .i64 t, Value.string h, Value.string g] ++ r ++ [Value.int .i64 f, Value.int .i64 b]
/-- How reading a snapshot ends. -/
def ReadS (W : World) (rb : Nat) (a0 : Option Addr) (xs : List UInt8) (e : Ending) (w' : World) : Prop :=
  (∃ s r, readS xs = some (s, r) ∧ s.ok ∧ e = .returned (.agg s.cells.toArray) ∧ Rv W rb a0 r w') ∨ (readS xs = none ∧ Throws e ∧ ∃ r, Rv W rb a0 r w')
def zSnap : List Value := [Value.int .i64 0, Value.string ⟨#[]⟩, Value.string ⟨#[]⟩] ++ List.replicate 32 (Value.int .u8 0) ++ [Value.int .i64 0, Value.int .i64 0]
theorem zSnap_len : zSnap.length = 37 := by unfold zSnap; simp
end Go.Proofs.YtembincggkpflaaDoor


/- snap.Decode's closure. -/
namespace Go.Proofs.YtembincggkpflaaDoor
open Go.RowKit Go.Lib

theorem j_load_if {P : Program} {ops : Array Oper} {rest : List Oper} {o : Oper} {a : Act} {w : World} {Q : Exit → Act → World → Prop} (hw : Region.wanted o (yielded ops a.tmps) = true) (ty : TypeId) (x : Operand) (ho : o.op = .load ty x)
    (ad : Addr) (hx : a.eval x = .pointer (some ad)) (cs : List Value) (d : TypeDesc) (hu : P.underlying ty = some d) (hd : (match d with | .struct _ | .array _ _ => true | _ => false) = true)
    (hi : (P.info? ty).map (·.size) = some cs.length) (hc : ∀ (j : Nat) v, cs[j]? = some v → w.cell? (ad.add j) = some v)
    (h : wpList P ops Q rest (a.put o.dst (.agg cs.toArray)) w) : wpList P ops Q (o :: rest) a w := by
  unfold wpList
  rw [if_pos hw]
  refine Or.inl ?_
  unfold Oper.wp execOp
  simp only [ho, hx, Instr.loadAt, Instr.sureAddr, Sem.run_bind, Sem.run_pure, Result.andThen_ok, run_loadVar_cells w ty ad cs d hu hd hi hc]
  exact h

/-- The snapshot of bytes. -/
def decS (bs : List UInt8) : Option Sp :=
  if unsealErr 83 bs = 0 then match readS (unsealed 83 bs) with
    | some (s, []) => if s.err = 0 then some s else none
    | _ => none
  else none
def zSp : Sp := ⟨0, [], [], List.replicate 32 0, 0, 0⟩
theorem zSp_cells : zSp.cells = zSnap := rfl
theorem zSp_ok : zSp.ok := ⟨by simp [zSp], by decide, by decide, by decide, by decide, by decide, by decide⟩
def decV (bs : List UInt8) : Sp := (decS bs).getD zSp
def decErr (bs : List UInt8) : Int := if unsealErr 83 bs ≠ 0 then unsealErr 83 bs else if (decS bs).isSome then 0 else 21
theorem unseal_more {k : UInt8} {bs : List UInt8} (h : unsealErr k bs ≠ 0) : unsealErr k bs = 20 ∨ unsealErr k bs = 36 ∨ unsealErr k bs = 21 := by
  unfold unsealErr at h ⊢
  split
  · simp
  · split
    · simp
    · split
      · simp
      · rename_i h1 h2 h3; simp [h1, h2, h3] at h
end Go.Proofs.YtembincggkpflaaDoor


/- snap.Decode. -/
namespace Go.Proofs.YtembincggkpflaaDoor
open Go.RowKit Go.Lib

end Go.Proofs.YtembincggkpflaaDoor


/- snap.Sort of few. -/
namespace Go.Proofs.YtembincggkpflaaDoor
open Go.RowKit Go.Lib Go.Sort Go.Shelf

/-- A snapshot whose fields are a machine's. -/
abbrev Sq := {s : Sp // s.ok}
instance : Inhabited Sq := ⟨⟨zSp, zSp_ok⟩⟩
def encQ (x : Sq) : List Value := x.1.cells
theorem encQ_len (x : Sq) : (encQ x).length = 37 := Sp.size x.2
def cmpQ (x y : Sq) : Int := x.1.cmp y.1
theorem sortWorld_kept (w : World) (blk off m : Nat) (d : Array Sq) (os : Array Obj) : Kept [blk] w (sortWorldK encQ 37 w blk off m d os) := by
  refine ⟨rfl, rfl, rfl, ?_, fun k hk hb => ?_⟩
  · show w.heap.size ≤ (((Sort.ahead w m).heap.modify blk _) ++ os).size
    simp [Sort.ahead]
  · show (((Sort.ahead w m).heap.modify blk _) ++ os)[k]? = _
    rw [Array.getElem?_append_left (by simpa [Sort.ahead] using hk), Array.getElem?_modify, if_neg (by intro e; simp at hb; exact hb e.symm)]
    rfl
/-- A row of snapshots. -/
structure Snaps (w : World) (a : Option Addr) (c : Nat) (xs : List Sq) : Prop where
  le : xs.length ≤ c
  max : c ≤ 9223372036854775807
  nil : a = none → xs = [] ∧ c = 0
  at_ : ∀ x, a = some x → ∀ i s, xs[i]? = some s → ∀ j v, (encQ s)[j]? = some v → w.cell? (x.add (i * 37 + j)) = some v
theorem Snaps.src {w : World} {a : Option Addr} {c : Nat} {xs : List Sq} (h : Snaps w a c xs) : Src w (.slice a xs.length c) xs.length (xs.flatMap encQ) := by
  cases a with
  | none => obtain ⟨h1, h2⟩ := h.nil rfl; subst h1; subst h2; exact Or.inl ⟨rfl, rfl, rfl⟩
  | some x =>
    refine Or.inr ⟨x, c, rfl, fun j u hj => ?_⟩
    have hl : j < xs.length * 37 := by rw [← flat_len encQ 37 encQ_len xs]; exact (List.getElem?_eq_some_iff.1 hj).1
    have hi : j / 37 < xs.length := by omega
    have e : j = j / 37 * 37 + j % 37 := by omega
    have hx : xs[j / 37]? = some xs[j / 37] := List.getElem?_eq_getElem hi
    rw [e] at hj ⊢
    rw [flat_get encQ 37 encQ_len xs _ _ _ hx (Nat.mod_lt _ (by decide))] at hj
    exact h.at_ x rfl _ _ hx _ _ hj
theorem encs_one (xs : List Sq) : ∀ u ∈ xs.flatMap encQ, u.oneCell' = true := by
  intro u hu
  obtain ⟨s, _, hs⟩ := List.mem_flatMap.1 hu
  exact s.1.one u hs

end Go.Proofs.YtembincggkpflaaDoor


/- The order of snapshots, as mathematics. -/
namespace Go.Proofs.YtembincggkpflaaDoor
open Go.RowKit Go.Lib

/-- Of two things one is less, or they are the same. -/
structure Cmp {α : Type} (f : α → α → Int) : Prop where
  neg : ∀ a b, f a b < 0 ↔ 0 < f b a
  zero : ∀ a b, f a b = 0 ↔ a = b
  trans : ∀ a b c, f a b < 0 → f b c < 0 → f a c < 0
def lexC {α β : Type} (f : α → α → Int) (g : β → β → Int) (x y : α × β) : Int := if f x.1 y.1 ≠ 0 then f x.1 y.1 else g x.2 y.2
theorem Cmp.lex {α β : Type} {f : α → α → Int} {g : β → β → Int} (hf : Cmp f) (hg : Cmp g) : Cmp (lexC f g) := by
  have hs : ∀ a b, f a b = 0 → f b a = 0 := fun a b h => (hf.zero b a).2 ((hf.zero a b).1 h).symm
  refine ⟨fun a b => ?_, fun a b => ?_, fun a b c => ?_⟩
  · unfold lexC
    by_cases h : f a.1 b.1 = 0
    · rw [if_neg (by simp [h]), if_neg (by simp [hs _ _ h])]; exact hg.neg _ _
    · rw [if_pos h, if_pos (fun e => h (hs _ _ e))]; exact hf.neg _ _
  · unfold lexC
    by_cases h : f a.1 b.1 = 0
    · rw [if_neg (by simp [h]), hg.zero]
      have h1 := (hf.zero _ _).1 h
      exact ⟨fun h2 => Prod.ext h1 h2, fun h2 => by rw [h2]⟩
    · rw [if_pos h]
      exact ⟨fun h2 => absurd h2 h, fun h2 => absurd ((hf.zero _ _).2 (by rw [h2])) h⟩
  · unfold lexC
    by_cases h : f a.1 b.1 = 0
    · have h1 := (hf.zero _ _).1 h
      rw [if_neg (by simp [h]), h1]
      by_cases k : f b.1 c.1 = 0
      · rw [if_neg (by simp [k]), if_neg (by simp [k])]; exact hg.trans _ _ _
      · rw [if_pos k, if_pos k]; exact fun _ h2 => h2
    · rw [if_pos h]
      by_cases k : f b.1 c.1 = 0
      · have h1 := (hf.zero _ _).1 k
        rw [if_neg (by simp [k]), ← h1, if_pos h]; exact fun h2 _ => h2
      · rw [if_pos k]
        intro h2 h3
        have h4 := hf.trans _ _ _ h2 h3
        rw [if_pos (by omega)]; exact h4
theorem cmpI_cmp : Cmp cmpI := by
  refine ⟨fun a b => ?_, fun a b => ?_, fun a b c => ?_⟩ <;> unfold cmpI <;> (repeat' split) <;> omega
theorem cmpS_cmp : Cmp cmpS := by
  have asy : ∀ a b : List UInt8, a < b → ¬ b < a := fun a b h h' => List.lt_irrefl a (List.lt_trans h h')
  refine ⟨fun a b => ?_, fun a b => ?_, fun a b c => ?_⟩
  · unfold cmpS
    by_cases h : a < b
    · rw [if_pos h, if_neg (asy a b h), if_pos h]; try decide
    · rw [if_neg h]
      by_cases k : b < a
      · rw [if_pos k, if_pos k]; try decide
      · rw [if_neg k, if_neg k, if_neg h]; try decide
  · unfold cmpS
    by_cases h : a < b
    · rw [if_pos h]; exact ⟨fun e => by simp at e, fun e => by subst e; exact absurd h (List.lt_irrefl a)⟩
    · rw [if_neg h]
      by_cases k : b < a
      · rw [if_pos k]; exact ⟨fun e => by simp at e, fun e => by subst e; exact absurd k h⟩
      · rw [if_neg k]; exact ⟨fun _ => List.le_antisymm (List.not_lt.1 k) (List.not_lt.1 h), fun _ => rfl⟩
  · intro h1 h2
    have e1 : a < b := by
      unfold cmpS at h1
      by_cases h : a < b
      · exact h
      · rw [if_neg h] at h1; split at h1 <;> omega
    have e2 : b < c := by
      unfold cmpS at h2
      by_cases h : b < c
      · exact h
      · rw [if_neg h] at h2; split at h2 <;> omega
    unfold cmpS
    rw [if_pos (List.lt_trans e1 e2)]; try decide
theorem bytes_cmpS : ∀ a b : List UInt8, Lib.compareBytes a b = cmpS a b
  | [], [] => by simp [Lib.compareBytes, cmpS]
  | [], _ :: _ => by simp [Lib.compareBytes, cmpS]
  | _ :: _, [] => by simp [Lib.compareBytes, cmpS]
  | x :: a, y :: b => by
    have ih := bytes_cmpS a b
    unfold Lib.compareBytes
    rw [ih]
    unfold cmpS
    simp only [List.cons_lt_cons_iff]
    by_cases h1 : x < y
    · simp [h1]
    · by_cases h2 : y < x
      · have h3 : x ≠ y := fun e => by subst e; exact h1 h2
        simp [h1, h2, h3, h3.symm]
      · have h3 : x = y := UInt8.le_antisymm (UInt8.not_lt.1 h2) (UInt8.not_lt.1 h1)
        subst h3
        simp [h1]

def Sp.key (s : Sp) : Int × List UInt8 × List UInt8 × List UInt8 × Int × Int := (s.time, s.host, s.tag, s.root, s.files, s.bytes)
theorem Sp.key_inj {a b : Sp} (h : a.key = b.key) : a = b := by
  cases a; cases b
  unfold Sp.key at h
  simp only [Prod.mk.injEq] at h
  obtain ⟨rfl, rfl, rfl, rfl, rfl, rfl⟩ := h
  rfl
def keyC := lexC cmpI (lexC cmpS (lexC cmpS (lexC cmpS (lexC cmpI cmpI))))
theorem keyC_cmp : Cmp keyC := cmpI_cmp.lex (cmpS_cmp.lex (cmpS_cmp.lex (cmpS_cmp.lex (cmpI_cmp.lex cmpI_cmp))))
theorem Sp.cmp_key (a b : Sp) : a.cmp b = keyC a.key b.key := by
  unfold Sp.cmp keyC lexC Sp.key
  rw [bytes_cmpS]
  unfold orL orL orL orL orL orL orL
  simp only []
  split <;> first | rfl | (split <;> first | rfl | (split <;> first | rfl | (split <;> first | rfl | (split <;> first | rfl | (split <;> simp_all)))))
theorem spC : Cmp Sp.cmp := by
  refine ⟨fun a b => ?_, fun a b => ?_, fun a b c => ?_⟩
  · rw [Sp.cmp_key, Sp.cmp_key]; exact keyC_cmp.neg _ _
  · rw [Sp.cmp_key, keyC_cmp.zero]; exact ⟨Sp.key_inj, fun h => by rw [h]⟩
  · rw [Sp.cmp_key, Sp.cmp_key, Sp.cmp_key]; exact keyC_cmp.trans _ _ _
end Go.Proofs.YtembincggkpflaaDoor


/- snap.Sort of few: what it answers. -/
namespace Go.Proofs.YtembincggkpflaaDoor
open Go.RowKit Go.Lib Go.Sort

theorem swoQ : SWO (ltOf cmpQ) where
  irrefl x := by
    unfold ltOf cmpQ
    have := (spC.zero x.1 x.1).2 rfl
    simp [this]
  trans x y z := by
    unfold ltOf cmpQ
    simp only [decide_eq_true_eq]
    exact spC.trans _ _ _
  ntrans x y z := by
    unfold ltOf cmpQ
    simp only [decide_eq_false_iff_not]
    intro h1 h2 h3
    by_cases e1 : x.1.cmp y.1 = 0
    · rw [(spC.zero _ _).1 e1] at h3; exact h2 h3
    · have k1 : y.1.cmp x.1 < 0 := by rw [spC.neg]; omega
      exact h2 (spC.trans _ _ _ k1 h3)
theorem ltQ_total (x y : Sq) (h1 : ltOf cmpQ x y = false) (h2 : ltOf cmpQ y x = false) : x = y := by
  unfold ltOf cmpQ at h1 h2
  simp only [decide_eq_false_iff_not] at h1 h2
  have h3 : x.1.cmp y.1 = 0 := by
    have := spC.neg y.1 x.1
    omega
  exact Subtype.ext ((spC.zero _ _).1 h3)

theorem holds_snaps {w : World} {g c : Nat} {d : Array Sq} (h : HoldsK encQ 37 w g 0 d) (hc : d.size ≤ c) (hm : c ≤ 9223372036854775807) : Snaps w (some ⟨g, 0, none⟩) c d.toList := by
  refine ⟨by simpa using hc, hm, fun h => by simp at h, fun x hx i s hs j v hv => ?_⟩
  simp at hx; subst hx
  obtain ⟨hi, rfl⟩ := List.getElem?_eq_some_iff.1 hs
  have hi' : i < d.size := by simpa using hi
  have hj : j < 37 := by rw [← encQ_len (d.toList[i])]; exact (List.getElem?_eq_some_iff.1 hv).1
  have hh := (h.cell (i := i) (c := j) hi' hj).1
  rw [plain_add]
  have e : 0 + (i * 37 + j) = 0 + i * 37 + j := by omega
  rw [e, hh]
  have e2 : d[i]! = d.toList[i] := by simp [hi']
  rw [e2]
  obtain ⟨h1, h2⟩ := List.getElem?_eq_some_iff.1 hv
  rw [getElem!_pos (encQ d.toList[i]) j h1, h2]

/-- What Sort answers. -/
def SortedQ (w : World) (xs : List Sq) (e : Ending) (w' : World) : Prop :=
  ∃ a c ys, e = .returned (.slice a ys.length c) ∧ Kept [] w w' ∧ Snaps w' a c ys ∧ ys.Perm xs ∧ ys.Pairwise (fun p q => ltOf cmpQ q p = false) ∧ ∀ x, a = some x → w.heap.size ≤ x.block
theorem sortedIn_pairwise {d : Array Sq} (h : SortedIn (ltOf cmpQ) 0 d.size d) : d.toList.Pairwise (fun p q => ltOf cmpQ q p = false) := by
  rw [List.pairwise_iff_getElem]
  intro i j hi hj hij
  have := h i j (Nat.zero_le _) hij (by simpa using hj)
  simp at hi hj
  simpa [hi, hj] using this
theorem permIn_perm {d d' : Array Sq} (h : PermIn 0 d.size d d') : d'.toList.Perm d.toList := by
  obtain ⟨h1, _, h3⟩ := h
  have e1 : d'.extract 0 d.size = d' := by rw [← h1]; simp
  have e2 : d.extract 0 d.size = d := by simp
  rw [e1, e2] at h3; exact h3

end Go.Proofs.YtembincggkpflaaDoor


/- Snapshots held against each other; snap.Name. -/
namespace Go.Proofs.YtembincggkpflaaDoor
open Go.RowKit Go.Lib

theorem part_one {t : TypeId} {d : TypeDesc} (hu : Tryd.prog.underlying t = some d) (hd : (match d with | .struct _ | .array _ _ => true | _ => false) = false) (xs : Array Value) (k : Nat) (v : Value) (h : xs[k]? = some v) (W : World) : (part t xs k).run Tryd.prog W = .ok v W := by
  simp only [part, isAgg, Sem.run_bind, run_underlying hu, Result.andThen_ok, Sem.run_pure]
  cases d <;> simp_all
theorem cells_root {x : Sp} (hx : x.ok) : List.take 32 (List.drop 3 x.cells) = x.root.map B := by
  unfold Sp.cells
  have h : (x.root.map B).length = 32 := by rw [List.length_map, hx.root]
  rw [List.append_assoc, show List.drop 3 ([Value.int .i64 x.time, .string (S x.host), .string (S x.tag)] ++ (x.root.map B ++ [Value.int .i64 x.files, .int .i64 x.bytes])) = x.root.map B ++ [Value.int .i64 x.files, .int .i64 x.bytes] from rfl, List.take_left' h]
theorem part_root {x : Sp} (hx : x.ok) (W : World) : (part 36 x.cells.toArray 3).run Tryd.prog W = .ok (.agg (x.root.map B).toArray) W := by
  have e := cells_root hx
  have hs : (Go.sizeOf 36).run Tryd.prog W = .ok 32 W := Tryd.sizeOf36 W
  have ha : (isAgg 36).run Tryd.prog W = .ok true W := Tryd.isAgg36 W
  simp only [part, Sem.run_bind, hs, ha, Result.andThen_ok, Sem.run_pure]
  simp [e]
instance : DecidableEq Sp := fun a b => decidable_of_iff (a.key = b.key) ⟨Sp.key_inj, fun h => by rw [h]⟩
theorem jS_inj {a b : List UInt8} (h : S a = S b) : a = b := S_inj h

section
variable {P : Program} {d : Nat} {xs ys : Array Value} {f : Field} {fs : List Field} {W : World} {a b : Value}
theorem eqF_true (hn : f.name ≠ "_") (ha : (part f.type xs f.offset).run P W = .ok a W) (hb : (part f.type ys f.offset).run P W = .ok b W) (hq : (Op.equalIn d f.type a b).run P W = .ok true W) :
    (Op.eqFields d xs ys (f :: fs)).run P W = (Op.eqFields d xs ys fs).run P W := by
  conv => lhs; unfold Op.eqFields
  rw [if_pos hn]
  simp [Sem.run_bind, ha, hb, hq]
theorem eqF_nil : (Op.eqFields d xs ys []).run P W = .ok true W := rfl
theorem eqF_false (hn : f.name ≠ "_") (ha : (part f.type xs f.offset).run P W = .ok a W) (hb : (part f.type ys f.offset).run P W = .ok b W) (hq : (Op.equalIn d f.type a b).run P W = .ok false W) :
    (Op.eqFields d xs ys (f :: fs)).run P W = .ok false W := by
  unfold Op.eqFields
  rw [if_pos hn]
  simp [Sem.run_bind, ha, hb, hq]
end
/-- The name of bytes in a store. -/
def nameS (ys : List UInt8) : List UInt8 := [115, 110, 97, 112, 47] ++ hexOf (Sha.sum ys)
theorem nameS_len (ys : List UInt8) : (nameS ys).length = 69 := by unfold nameS; simp [hexOf_len, Sha.sum_len]
end Go.Proofs.YtembincggkpflaaDoor
