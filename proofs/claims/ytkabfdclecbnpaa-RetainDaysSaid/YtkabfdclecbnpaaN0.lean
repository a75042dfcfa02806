import Derived.Test.YtkabfdclecbnpaaC0
import Derived.Test.YtkabfdclecbnpaaLib
import Derived.Test.YtkabfdclecbnpaaRows
import Derived.ProofKit
import Derived.OpenShut
import Derived.Deep.Slices

/- tree.Node, api.ID as arguments: the handed rows, opened to cells. -/
namespace Go.Proofs.Ytkabfdclecbnpaa
open Go.ChangeShapes Go.WideShapes Go.ChangeAt Go.RowKit Go.Deep Go.Lib

section
variable {H : Type} {enc : TypeId × Value → H} {w : World} {base : Nat} {held : Bool}

theorem nlist_of {α : Type} {p : Nat → α → Prop} : ∀ n, (∀ i, i < n → ∃ o, p i o) → ∃ l : List α, l.length = n ∧ ∀ i o, l[i]? = some o → p i o
  | 0, _ => ⟨[], rfl, fun i o h => by simp at h⟩
  | n + 1, h => by
    obtain ⟨l, hl, hp⟩ := nlist_of n (fun i hi => h i (by omega))
    obtain ⟨o, ho⟩ := h n (by omega)
    refine ⟨l ++ [o], by simp [hl], fun i q hq => ?_⟩
    rcases Nat.lt_or_ge i n with hi | hi
    · rw [List.getElem?_append_left (by omega)] at hq; exact hp i q hq
    · have hi2 : i = n := by
        have := (List.getElem?_eq_some_iff.1 hq).1
        simp [hl] at this; omega
      subst hi2
      rw [List.getElem?_append_right (by omega)] at hq
      simp [hl] at hq
      subst hq; exact ho

set_option maxRecDepth 100000 in
/-- A sum's cells. -/
theorem id_of_trod {fuel : Nat} {cs : List Value} {x : DataW H × List MemPlace} (h : DataW.trod enc Try.prog w base (fun _ => true) held fuel 40 cs = some x) :
    ∃ id : List UInt8, id.length = 32 ∧ cs = id.map B := by
  have hu : Try.prog.cellsOf 5 = 1 := by kernel_rfl
  have hc : Try.prog.cellsOf 40 = 32 := by kernel_rfl
  obtain ⟨xs, m, _, _, hl, hxl, hf⟩ := DataW.trod_array Try.underlying40 h
  rw [hc] at hl
  rw [hu] at hf
  obtain ⟨id, hid, hp⟩ := nlist_of (p := fun i (b : UInt8) => cs[i]? = some (B b)) 32 (fun i hi => by
    have h1 := hf i hi
    obtain ⟨z, e, _, wz⟩ := DataW.trod_int Try.underlying5 (h1.trans (List.getElem?_eq_getElem (show i < xs.length by omega)))
    have hb := bounds_u8 wz
    refine ⟨UInt8.ofNat z.toNat, ?_⟩
    have h2 : cs[i]? = some (.int .u8 z) := by
      have h3 : ((cs.drop (i * 1)).take 1)[0]? = some (.int .u8 z) := by rw [e]; rfl
      rw [List.getElem?_take_of_lt (by omega), List.getElem?_drop] at h3
      simpa using h3
    rw [h2]
    unfold B
    congr 1
    simp
    omega)
  refine ⟨id, hid, ?_⟩
  apply List.ext_getElem?
  intro i
  rcases Nat.lt_or_ge i 32 with hi | hi
  · rw [hp i id[i] (by simp [hid, hi]), List.getElem?_map]
    simp [hid, hi]
  · rw [List.getElem?_eq_none (by omega), List.getElem?_eq_none (by simp [hid]; omega)]

/-- A sum that lies somewhere. -/
def IdAt (w : World) (x : Addr) (id : List UInt8) : Prop := id.length = 32 ∧ ∀ (k : Nat) b, id[k]? = some b → w.cell? (x.add k) = some (B b)
/-- A row of sums. -/
structure Ids (w : World) (a : Option Addr) (c : Nat) (ids : List (List UInt8)) : Prop where
  le : ids.length ≤ c
  max : c ≤ 9223372036854775807
  nil : a = none → ids = []
  at_ : ∀ x, a = some x → ∀ i id, ids[i]? = some id → IdAt w (x.add (i * 32)) id

/-- A node as it was handed. -/
structure NodeR where
  name : ByteArray
  dir : Bool
  size : Int
  pa : Option Addr
  pc : Nat
  parts : List (List UInt8)
  sub : List UInt8
/-- A row of nodes, thirty-six cells each. -/
def NodeAt (w : World) (x : Addr) (n : NodeR) : Prop :=
  w.cell? x = some (.string n.name) ∧ w.cell? (x.add 1) = some (.bool n.dir) ∧ w.cell? (x.add 2) = some (.int .i64 n.size) ∧ w.cell? (x.add 3) = some (.slice n.pa n.parts.length n.pc) ∧ (∀ (k : Nat) b, n.sub[k]? = some b → w.cell? (x.add (4 + k)) = some (B b)) ∧
    n.sub.length = 32 ∧ Ids w n.pa n.pc n.parts ∧ -9223372036854775808 ≤ n.size ∧ n.size ≤ 9223372036854775807
structure Nodes (w : World) (a : Option Addr) (c : Nat) (ns : List NodeR) : Prop where
  le : ns.length ≤ c
  max : c ≤ 9223372036854775807
  nil : a = none → ns = []
  at_ : ∀ x, a = some x → ∀ i n, ns[i]? = some n → NodeAt w (x.add (i * 36)) n

end
end Go.Proofs.Ytkabfdclecbnpaa
