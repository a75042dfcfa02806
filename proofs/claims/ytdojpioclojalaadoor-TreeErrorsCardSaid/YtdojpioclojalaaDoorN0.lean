import Derived.Test.YtdojpioclojalaaDoorC0
import Derived.Test.YtdojpioclojalaaDoorLib
import Derived.Test.YtdojpioclojalaaDoorRows
import Derived.ProofKit
import Derived.OpenShut
import Derived.Deep.Slices

/- tree.Node, api.ID as arguments: the handed rows, opened to cells. -/
namespace Go.Proofs.YtdojpioclojalaaDoor
open Go.ChangeShapes Go.WideShapes Go.ChangeAt Go.RowKit Go.Deep Go.Lib

section
variable {H : Type} {enc : TypeId × Value → H} {w : World} {base : Nat} {held : Bool}

theorem nlist_of {α : Type} {p : Nat → α → Prop} : ∀ n, (∀ i, i < n → ∃ o, p i o) → ∃ l : List α, l.length = n ∧ ∀ i o, l[i]? = some o → p i o
  | 0, _ => ⟨[], rfl, fun i o h => by simp at h⟩
  | n + 1, h => by
    obtain ⟨l, hl, hp⟩ := nlist_of n (fun i hi => h i (by omega))
    obtain ⟨o, ho⟩ := h n (by omega)
    refine ⟨l ++ [o], by simp [hl], fun i q hq => ?_⟩
    rcases Nat.lt_or_ge i n with hi | hi
    · rw [List.getElem?_append_left (by omega)] at hq; exact hp i q hq
    · have hi2 : i = n := by
        have := (List.getElem?_eq_some_iff.1 hq).1
        simp [hl] at this; omega
      subst hi2
      rw [List.getElem?_append_right (by omega)] at hq
      simp [hl] at hq
      subst hq; exact ho

set_option maxRecDepth 100000 in
/-- A sum's cells. -/
theorem id_of_trod {fuel : Nat} {cs : List Value} {x : DataW H × List MemPlace} (h : DataW.trod enc Tryd.prog w base (fun _ => true) held fuel 40 cs = some x) :
    ∃ id : List UInt8, id.length = 32 ∧ cs = id.map B := by
  have hu : Tryd.prog.cellsOf 5 = 1 := by kernel_rfl
  have hc : Tryd.prog.cellsOf 40 = 32 := by kernel_rfl
  obtain ⟨xs, m, _, _, hl, hxl, hf⟩ := DataW.trod_array Tryd.underlying40 h
  rw [hc] at hl
  rw [hu] at hf
  obtain ⟨id, hid, hp⟩ := nlist_of (p := fun i (b : UInt8) => cs[i]? = some (B b)) 32 (fun i hi => by
    have h1 := hf i hi
    obtain ⟨z, e, _, wz⟩ := DataW.trod_int Tryd.underlying5 (h1.trans (List.getElem?_eq_getElem (show i < xs.length by omega)))
    have hb := bounds_u8 wz
    refine ⟨UInt8.ofNat z.toNat, ?_⟩
    have h2 : cs[i]? = some (.int .u8 z) := by
      have h3 : ((cs.drop (i * 1)).take 1)[0]? = some (.int .u8 z) := by rw [e]; rfl
      rw [List.getElem?_take_of_lt (by omega), List.getElem?_drop] at h3
      simpa using h3
    rw [h2]
    unfold B
    congr 1
    simp
    omega)
  refine ⟨id, hid, ?_⟩
  apply List.ext_getElem?
  intro i
  rcases Nat.lt_or_ge i 32 with hi | hi
  · rw [hp i id[i] (by simp [hid, hi]), List.getElem?_map]
    simp [hid, hi]
  · rw [List.getElem?_eq_none (by omega), List.getElem?_eq_none (by simp [hid]; omega)]

/-- A sum that lies somewhere. -/
def IdAt (w : World) (x : Addr) (id : List UInt8) : Prop := id.length = 32 ∧ ∀ (k : Nat) b, id[k]? = some b → w.cell? (x.add k) = some (B b)
/-- A row of sums. -/
structure Ids (w : World) (a : Option Addr) (c : Nat) (ids : List (List UInt8)) : Prop where
  le : ids.length ≤ c
  max : c ≤ 9223372036854775807
  nil : a = none → ids = []
  at_ : ∀ x, a = some x → ∀ i id, ids[i]? = some id → IdAt w (x.add (i * 32)) id

set_option maxRecDepth 100000 in
theorem ids_of_trod {fuel : Nat} {v : Value} {y : DataW H × List MemPlace} (h : DataW.trod enc Tryd.prog w base (fun _ => true) held fuel 38 [v] = some y) :
    ∃ a c ids, v = .slice a ids.length c ∧ Ids w a c ids := by
  have hC : Tryd.prog.cellsOf 40 = 32 := by kernel_rfl
  rcases open_slice Tryd.underlying38 h with ⟨hcs, _⟩ | ⟨x, l, c, m, n, D, Pl, hcs, hb, hl, hm, hmm, _, hi⟩
  · simp at hcs
    subst hcs
    exact ⟨none, 0, [], rfl, by simp, by omega, fun _ => rfl, fun x hx => by simp at hx⟩
  · simp at hcs
    subst hcs
    obtain ⟨ids, hil, hids⟩ := nlist_of (p := fun i id => IdAt w (x.add (i * 32)) id) l (fun i hil => by
      obtain ⟨cs, hc, ht⟩ := hi i (by simp at hmm; omega)
      rw [hC] at hc
      obtain ⟨_, hcl, hat⟩ := World.cells?_some hc
      obtain ⟨id, hidl, rfl⟩ := id_of_trod ht
      refine ⟨id, hidl, fun k b hk => ?_⟩
      have hk32 : k < 32 := by have := (List.getElem?_eq_some_iff.1 hk).1; omega
      rw [hat k hk32, List.getElem?_map, hk]; rfl)
    subst hil
    exact ⟨some x, c, ids, rfl, hl, by unfold maxLen at hm; omega, fun h => by simp at h, fun z hz i id hid => by simp at hz; subst hz; exact hids i id hid⟩

/-- A node as it was handed. -/
structure NodeR where
  name : ByteArray
  dir : Bool
  size : Int
  pa : Option Addr
  pc : Nat
  parts : List (List UInt8)
  sub : List UInt8
/-- A row of nodes, thirty-six cells each. -/
def NodeAt (w : World) (x : Addr) (n : NodeR) : Prop :=
  w.cell? x = some (.string n.name) ∧ w.cell? (x.add 1) = some (.bool n.dir) ∧ w.cell? (x.add 2) = some (.int .i64 n.size) ∧ w.cell? (x.add 3) = some (.slice n.pa n.parts.length n.pc) ∧ (∀ (k : Nat) b, n.sub[k]? = some b → w.cell? (x.add (4 + k)) = some (B b)) ∧
    n.sub.length = 32 ∧ Ids w n.pa n.pc n.parts ∧ -9223372036854775808 ≤ n.size ∧ n.size ≤ 9223372036854775807
structure Nodes (w : World) (a : Option Addr) (c : Nat) (ns : List NodeR) : Prop where
  le : ns.length ≤ c
  max : c ≤ 9223372036854775807
  nil : a = none → ns = []
  at_ : ∀ x, a = some x → ∀ i n, ns[i]? = some n → NodeAt w (x.add (i * 36)) n

set_option maxRecDepth 100000 in
theorem nodes_of_trod {fuel : Nat} {v : Value} {y : DataW H × List MemPlace} (h : DataW.trod enc Tryd.prog w base (fun _ => true) held fuel 22 [v] = some y) :
    ∃ a c ns, v = .slice a ns.length c ∧ Nodes w a c ns := by
  have hC : Tryd.prog.cellsOf 42 = 36 := by kernel_rfl
  have k0 : Tryd.prog.cellsOf 9 = 1 := by kernel_rfl
  have k1 : Tryd.prog.cellsOf 4 = 1 := by kernel_rfl
  have k2 : Tryd.prog.cellsOf 2 = 1 := by kernel_rfl
  have k3 : Tryd.prog.cellsOf 38 = 1 := by kernel_rfl
  have k4 : Tryd.prog.cellsOf 40 = 32 := by kernel_rfl
  rcases open_slice Tryd.underlying22 h with ⟨hcs, _⟩ | ⟨x, l, c, m, n, D, Pl, hcs, hb, hl, hm, hmm, _, hi⟩
  · simp at hcs
    subst hcs
    exact ⟨none, 0, [], rfl, by simp, by omega, fun _ => rfl, fun x hx => by simp at hx⟩
  · simp at hcs
    subst hcs
    obtain ⟨ns, hil, hns⟩ := nlist_of (p := fun i n => NodeAt w (x.add (i * 36)) n) l (fun i hil => by
      obtain ⟨cs, hc, ht⟩ := hi i (by simp at hmm; omega)
      rw [hC] at hc
      obtain ⟨_, hcl, hat⟩ := World.cells?_some hc
      obtain ⟨xs, n', _, _, _, hxl, hf⟩ := DataW.trod_struct Tryd.underlying42 ht
      have f0 : DataW.trod enc Tryd.prog w base (fun _ => true) held n' 9 ((cs.drop 0).take (Tryd.prog.cellsOf 9)) = xs[0]? := hf 0 _ rfl
      rw [k0] at f0
      have f1 : DataW.trod enc Tryd.prog w base (fun _ => true) held n' 4 ((cs.drop 1).take (Tryd.prog.cellsOf 4)) = xs[1]? := hf 1 _ rfl
      rw [k1] at f1
      have f2 : DataW.trod enc Tryd.prog w base (fun _ => true) held n' 2 ((cs.drop 2).take (Tryd.prog.cellsOf 2)) = xs[2]? := hf 2 _ rfl
      rw [k2] at f2
      have f3 : DataW.trod enc Tryd.prog w base (fun _ => true) held n' 38 ((cs.drop 3).take (Tryd.prog.cellsOf 38)) = xs[3]? := hf 3 _ rfl
      rw [k3] at f3
      have f4 : DataW.trod enc Tryd.prog w base (fun _ => true) held n' 40 ((cs.drop 4).take (Tryd.prog.cellsOf 40)) = xs[4]? := hf 4 _ rfl
      rw [k4] at f4
      have hx5 : xs.length = 5 := by simpa using hxl
      obtain ⟨s, e0, _⟩ := DataW.trod_string Tryd.underlying9 (f0.trans (List.getElem?_eq_getElem (show 0 < xs.length by omega)))
      obtain ⟨d, e1, _⟩ := DataW.trod_bool Tryd.underlying4 (f1.trans (List.getElem?_eq_getElem (show 1 < xs.length by omega)))
      obtain ⟨z, e2, _, wz⟩ := DataW.trod_int Tryd.underlying2 (f2.trans (List.getElem?_eq_getElem (show 2 < xs.length by omega)))
      have h3 : ∃ v, (cs.drop 3).take 1 = [v] := by
        match hq : (cs.drop 3).take 1 with
        | [v] => exact ⟨v, rfl⟩
        | [] => have := congrArg List.length hq; simp at this; omega
        | _ :: _ :: _ => have := congrArg List.length hq; simp at this; omega
      obtain ⟨v3, e3⟩ := h3
      have f3' := f3.trans (List.getElem?_eq_getElem (show 3 < xs.length by omega))
      rw [e3] at f3'
      obtain ⟨pa, pc, ids, rfl, hids⟩ := ids_of_trod f3'
      obtain ⟨id, hidl, e4⟩ := id_of_trod (f4.trans (List.getElem?_eq_getElem (show 4 < xs.length by omega)))
      have one : ∀ (j : Nat) v, (cs.drop j).take 1 = [v] → cs[j]? = some v := fun j v hj => by
        have h3 : ((cs.drop j).take 1)[0]? = some v := by rw [hj]; rfl
        rw [List.getElem?_take_of_lt (by omega), List.getElem?_drop] at h3
        simpa using h3
      have hb := bounds_i64 wz
      refine ⟨⟨s, d, z, pa, pc, ids, id⟩, ?_, ?_, ?_, ?_, fun k b hk => ?_, hidl, hids, by show _ ≤ z; omega, by show z ≤ _; omega⟩
      · have := hat 0 (by omega)
        rw [one 0 _ (by simpa using e0)] at this
        have e : (x.add (i * 36)).add 0 = x.add (i * 36) := by unfold Addr.add; split <;> simp_all
        rwa [e] at this
      · rw [hat 1 (by omega), one 1 _ (by simpa using e1)]
      · rw [hat 2 (by omega), one 2 _ (by simpa using e2)]
      · rw [hat 3 (by omega), one 3 _ e3]
      · have hk32 : k < 32 := by have h5 : k < id.length := (List.getElem?_eq_some_iff.1 hk).1; omega
        rw [hat (4 + k) (by omega)]
        have h4 : ((cs.drop 4).take 32)[k]? = some (B b) := by
          have e4' : (cs.drop 4).take 32 = id.map B := by simpa using e4
          rw [e4', List.getElem?_map, hk]; rfl
        rw [List.getElem?_take_of_lt hk32, List.getElem?_drop] at h4
        exact h4)
    subst hil
    exact ⟨some x, c, ns, rfl, hl, by unfold maxLen at hm; omega, fun h => by simp at h, fun z hz i n hn => by simp at hz; subst hz; exact hns i n hn⟩
end
end Go.Proofs.YtdojpioclojalaaDoor
