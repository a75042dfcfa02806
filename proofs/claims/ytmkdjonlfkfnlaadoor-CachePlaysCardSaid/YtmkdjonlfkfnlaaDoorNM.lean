import Derived.Test.YtmkdjonlfkfnlaaDoorN0
import Derived.Test.YtmkdjonlfkfnlaaDoorMP

/- Lists of nodes, as mathematics: what is wrong with one; which sums it names. -/
namespace Go.Proofs.YtmkdjonlfkfnlaaDoor
open Go.RowKit Go.Lib

/-- A node. -/
structure Nd where
  name : List UInt8
  dir : Bool
  size : Int
  parts : List (List UInt8)
  sub : List UInt8
def zid : List UInt8 := List.replicate 32 0
def Nd.formed (n : Nd) : Bool := if n.dir = true then decide (n.size = 0) && n.parts.isEmpty else decide (0 ≤ n.size) && decide (n.sub = zid)
/-- Does it stand behind the node ahead of it? -/
def late (p : Option (List UInt8)) (x : List UInt8) : Bool := match p with
  | none => true
  | some p => decide (p < x)
def Nd.err (p : Option (List UInt8)) (n : Nd) : Int :=
  if okPart n.name = false then 38 else if late p n.name = false then 24 else if n.formed = false then 21 else if 4096 < n.parts.length then 3 else 0
def errFrom : Option (List UInt8) → List Nd → Int
  | _, [] => 0
  | p, n :: l => if n.err p = 0 then errFrom (some n.name) l else n.err p
def errL (l : List Nd) : Int := if 512 < l.length then 3 else errFrom none l
def Nd.good (n : Nd) : Prop := okPart n.name = true ∧ n.formed = true ∧ n.parts.length ≤ 4096

theorem err_zero (p : Option (List UInt8)) (n : Nd) : n.err p = 0 ↔ n.good ∧ late p n.name = true := by
  unfold Nd.err Nd.good
  cases h1 : okPart n.name <;> cases h2 : late p n.name <;> cases h3 : n.formed <;> simp <;> omega
theorem errFrom_cons (p : Option (List UInt8)) (n : Nd) (l : List Nd) : errFrom p (n :: l) = if n.err p = 0 then errFrom (some n.name) l else n.err p := rfl
/-- The name ahead of place i. -/
def prevAt (l : List Nd) (i : Nat) : Option (List UInt8) := if i = 0 then none else (l[i - 1]?).map (·.name)
theorem prevAt_succ (l : List Nd) (i : Nat) (h : i < l.length) : prevAt l (i + 1) = some l[i].name := by
  unfold prevAt
  rw [if_neg (by omega), Nat.add_sub_cancel, List.getElem?_eq_getElem h]; rfl
theorem errFrom_step (l : List Nd) (i : Nat) (n : Nd) (h : l[i]? = some n) (he : errL l = errFrom (prevAt l i) (l.drop i)) :
    (n.err (prevAt l i) = 0 → errL l = errFrom (prevAt l (i + 1)) (l.drop (i + 1))) ∧ (n.err (prevAt l i) ≠ 0 → errL l = n.err (prevAt l i)) := by
  obtain ⟨hi, rfl⟩ := List.getElem?_eq_some_iff.1 h
  rw [List.drop_eq_getElem_cons hi, errFrom_cons] at he
  rw [prevAt_succ l i hi]
  exact ⟨fun h0 => by rw [he, if_pos h0], fun h0 => by rw [he, if_neg h0]⟩

theorem lt_asy (a b : List UInt8) (h : a < b) : ¬ b < a := fun h' => List.lt_irrefl a (List.lt_trans h h')

/-- A list in which nothing is wrong. -/
theorem errFrom_zero : ∀ (l : List Nd) (p : Option (List UInt8)), errFrom p l = 0 ↔ (∀ n ∈ l, n.good) ∧ (∀ q, p = some q → ∀ n ∈ l, q < n.name) ∧ l.Pairwise (fun a b => a.name < b.name)
  | [], p => by simp [errFrom]
  | n :: l, p => by
    rw [errFrom_cons]
    have ih := errFrom_zero l (some n.name)
    constructor
    · intro h
      by_cases h0 : n.err p = 0
      · rw [if_pos h0] at h
        obtain ⟨g, o, s⟩ := ih.1 h
        obtain ⟨gn, ln⟩ := (err_zero p n).1 h0
        refine ⟨fun m hm => ?_, fun q hq m hm => ?_, List.pairwise_cons.2 ⟨fun m hm => o _ rfl m hm, s⟩⟩
        · rcases List.mem_cons.1 hm with rfl | hm
          · exact gn
          · exact g m hm
        · subst hq
          have hqn : q < n.name := by simpa [late] using ln
          rcases List.mem_cons.1 hm with rfl | hm
          · exact hqn
          · exact List.lt_trans hqn (o _ rfl m hm)
      · rw [if_neg h0] at h; exact absurd h h0
    · rintro ⟨g, o, s⟩
      obtain ⟨s1, s2⟩ := List.pairwise_cons.1 s
      have h0 : n.err p = 0 := (err_zero p n).2 ⟨g n (by simp), by
        cases p with
        | none => rfl
        | some q => simpa [late] using o q rfl n (by simp)⟩
      rw [if_pos h0]
      exact ih.2 ⟨fun m hm => g m (by simp [hm]), fun q hq m hm => by cases hq; exact s1 m hm, s2⟩
theorem errL_zero (l : List Nd) : errL l = 0 ↔ l.length ≤ 512 ∧ (∀ n ∈ l, n.good) ∧ l.Pairwise (fun a b => a.name < b.name) := by
  unfold errL
  by_cases h : 512 < l.length
  · rw [if_pos h]; constructor
    · intro h; cases h
    · intro h'; omega
  · rw [if_neg h, errFrom_zero]
    exact ⟨fun h' => ⟨by omega, h'.1, h'.2.2⟩, fun h' => ⟨h'.2.1, (fun q hq => by cases hq), h'.2.2⟩⟩

/-- The sums that a list names. -/
def Nd.sums (n : Nd) : List (List UInt8) := if n.dir = true then [n.sub] else n.parts
def sumsL (l : List Nd) : List (List UInt8) := l.flatMap Nd.sums

/-- A handed node's. -/
def NodeR.nd (n : NodeR) : Nd := ⟨n.name.data.toList, n.dir, n.size, n.parts, n.sub⟩
/-- The first node of a name. -/
def findL (l : List Nd) (x : List UInt8) : Option Nd := l.find? (fun n => decide (n.name = x))
end Go.Proofs.YtmkdjonlfkfnlaaDoor
