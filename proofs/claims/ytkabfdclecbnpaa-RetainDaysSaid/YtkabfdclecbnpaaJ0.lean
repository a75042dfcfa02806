import Derived.Test.YtkabfdclecbnpaaMP
import Derived.Test.YtkabfdclecbnpaaN2

/- snap.Snap and tree.Node: what a part is; a snapshot's cells. -/
namespace Go.Proofs.Ytkabfdclecbnpaa
open Go.RowKit Go.Lib

theorem j_parts_one : ∀ (s : List UInt8), 47 ∉ s → partsS s = [s]
  | [], _ => rfl
  | x :: s, h => by
    have h1 : x ≠ 47 := fun e => h (by simp [e])
    unfold partsS
    rw [if_neg h1, j_parts_one s (fun e => h (by simp [e]))]
theorem j_lastN_one : ∀ (s : List UInt8), 47 ∉ s → lastN s 47 = 0
  | [], _ => rfl
  | x :: s, h => by
    have h1 : x ≠ 47 := fun e => h (by simp [e])
    simp [lastN, j_lastN_one s (fun e => h (by simp [e])), h1]
theorem j_lastN_pos : ∀ (s : List UInt8), 47 ∈ s → 0 < lastN s 47
  | [], h => by simp at h
  | x :: s, h => by
    unfold lastN
    by_cases h1 : 0 < lastN s 47
    · rw [if_pos h1]; omega
    · rw [if_neg h1]
      have h2 : 47 ∉ s := fun hm => h1 (j_lastN_pos s hm)
      rcases List.mem_cons.1 h with e | e
      · rw [if_pos e.symm]; omega
      · exact absurd e h2
theorem j_okByte_sep : okByte 47 = false := by decide
theorem j_okPart_sep {s : List UInt8} (h : okPart s = true) : 47 ∉ s := by
  intro hm
  unfold okPart at h
  rw [Bool.and_eq_true, List.all_eq_true] at h
  have := h.2 47 hm
  rw [j_okByte_sep] at this; cases this
theorem j_okPart_ne {s : List UInt8} (h : okPart s = true) : s ≠ [] ∧ s.length ≤ 40 := by
  unfold okPart at h
  simp only [Bool.and_eq_true, decide_eq_true_eq] at h
  exact ⟨fun e => by rw [e] at h; simp at h, h.1.1.1.2⟩
/-- A part is a path that is what stands behind its last separator. -/
theorem part_iff (a : List UInt8) : okPart a = true ↔ okPath a = true ∧ baseL a = a := by
  constructor
  · intro h
    have h1 := j_okPart_sep h
    refine ⟨?_, by unfold baseL; rw [j_lastN_one a h1]; rfl⟩
    unfold okPath
    rw [Bool.and_eq_true, decide_eq_true_eq, j_parts_one a h1]
    exact ⟨by have := (j_okPart_ne h).2; omega, by simpa using h⟩
  · rintro ⟨h, hb⟩
    have h1 : 47 ∉ a := by
      intro hm
      have h2 := j_lastN_pos a hm
      have h3 := congrArg List.length hb
      have h4 : a ≠ [] := by rintro rfl; simp at hm
      have h5 := List.length_pos_iff.2 h4
      unfold baseL at h3
      rw [List.length_drop] at h3
      omega
    unfold okPath at h
    rw [Bool.and_eq_true, j_parts_one a h1] at h
    simpa using h.2

/-- A snapshot. -/
structure Sp where
  time : Int
  host : List UInt8
  tag : List UInt8
  root : List UInt8
  files : Int
  bytes : Int
def Sp.cells (s : Sp) : List Value := [.int .i64 s.time, .string (S s.host), .string (S s.tag)] ++ s.root.map B ++ [.int .i64 s.files, .int .i64 s.bytes]
def Sp.v (s : Sp) : Value := .agg s.cells.toArray
/-- Its fields are a machine's. -/
structure Sp.ok (s : Sp) : Prop where
  root : s.root.length = 32
  t1 : -9223372036854775808 ≤ s.time
  t2 : s.time ≤ 9223372036854775807
  f1 : -9223372036854775808 ≤ s.files
  f2 : s.files ≤ 9223372036854775807
  b1 : -9223372036854775808 ≤ s.bytes
  b2 : s.bytes ≤ 9223372036854775807
theorem Sp.size {s : Sp} (h : s.ok) : s.cells.length = 37 := by unfold Sp.cells; simp [h.root]
theorem Sp.c0 (s : Sp) : s.cells[0]? = some (.int .i64 s.time) := rfl
theorem Sp.c1 (s : Sp) : s.cells[1]? = some (.string (S s.host)) := rfl
theorem Sp.c2 (s : Sp) : s.cells[2]? = some (.string (S s.tag)) := rfl
theorem Sp.c35 {s : Sp} (h : s.ok) : s.cells[35]? = some (.int .i64 s.files) := by
  unfold Sp.cells; rw [List.getElem?_append_right (by simp [h.root])]; simp [h.root]
theorem Sp.c36 {s : Sp} (h : s.ok) : s.cells[36]? = some (.int .i64 s.bytes) := by
  unfold Sp.cells; rw [List.getElem?_append_right (by simp [h.root])]; simp [h.root]
theorem Sp.cr {s : Sp} (_ : s.ok) (k : Nat) (b : UInt8) (hk : s.root[k]? = some b) : s.cells[3 + k]? = some (B b) := by
  have hl := (List.getElem?_eq_some_iff.1 hk).1
  unfold Sp.cells
  rw [List.getElem?_append_left (by simp; omega), List.getElem?_append_right (by simp)]
  simp [hk]
theorem snap_info : (Try.prog.info? 42).map (·.size) = some 37 := by kernel_rfl
theorem Sp.info {s : Sp} (h : s.ok) : (Try.prog.info? 42).map (·.size) = some s.cells.length := by rw [Sp.size h]; exact snap_info
theorem Sp.one (s : Sp) : ∀ v ∈ s.cells, v.oneCell' = true := by
  intro v hv
  unfold Sp.cells at hv
  simp only [List.mem_append, List.mem_cons, List.mem_map, List.not_mem_nil, or_false] at hv
  rcases hv with ((rfl | rfl | rfl) | ⟨b, _, rfl⟩) | (rfl | rfl) <;> rfl
/-- A box that holds a snapshot. -/
def At (w : World) (p : Nat) (s : Sp) : Prop := w.heap[p]? = some (.cells s.cells.toArray 42 (0, 0))
theorem At.cell {w : World} {p : Nat} {s : Sp} (h : At w p s) (j : Nat) (v : Value) (hj : s.cells[j]? = some v) : w.cell? ⟨p, j, none⟩ = some v := by
  rw [cell_of_row w _ j _ _ _ h]; simpa using hj
theorem At.reads {w : World} {p : Nat} {s : Sp} (h : At w p s) : ∀ (j : Nat) v, s.cells[j]? = some v → w.cell? ((⟨p, 0, none⟩ : Addr).add j) = some v := by
  intro j v hj
  have e : (⟨p, 0, none⟩ : Addr).add j = ⟨p, j, none⟩ := by unfold Addr.add; split <;> simp_all
  rw [e]; exact h.cell j v hj
theorem At.kept {S : List Nat} {w w' : World} {p : Nat} {s : Sp} (h : At w p s) (hk : Kept S w w') (hp : p ∉ S) : At w' p s := hk.at h hp

/-- What is wrong with a snapshot. -/
def Sp.far (s : Sp) : Prop := s.time < 0 ∨ 1125899906842624 < s.time ∨ s.files < 0 ∨ 512 < s.files ∨ s.bytes < 0
instance (s : Sp) : Decidable s.far := by unfold Sp.far; infer_instance
def Sp.err (s : Sp) : Int := if s.far then 23 else if okPart s.host = true ∧ (s.tag = [] ∨ okPart s.tag = true) then 0 else 38
end Go.Proofs.Ytkabfdclecbnpaa
