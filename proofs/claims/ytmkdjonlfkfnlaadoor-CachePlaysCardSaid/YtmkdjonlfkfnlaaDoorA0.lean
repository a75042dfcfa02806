import Derived.Test.YtmkdjonlfkfnlaaDoorC0
import Derived.Test.YtmkdjonlfkfnlaaDoorN2
import Derived.DeepKeys5
import Derived.Maps.OwnSet

/- Sums as a map's keys; a set of sums. -/
namespace Go.Proofs.YtmkdjonlfkfnlaaDoor
open Go.RowKit Go.Lib Go.Maps

theorem mapM_some {α β : Type} {f : α → Option β} : ∀ (l : List α), (∀ x ∈ l, ∃ y, f x = some y) → ∃ ys, l.mapM f = some ys
  | [], _ => ⟨[], rfl⟩
  | x :: l, h => by
    obtain ⟨y, hy⟩ := h x (by simp)
    obtain ⟨ys, hys⟩ := mapM_some l (fun z hz => h z (by simp [hz]))
    exact ⟨y :: ys, by simp [List.mapM_cons, hy, hys]⟩
theorem a_laid : laidOutB Tryd.prog = true := by kernel_rfl
theorem a_keyed : Keyed Tryd.prog 34 := Keyed.of_law (deep_law_gate a_laid (of_decide_eq_true (by kernel_rfl)) (of_decide_eq_true (by kernel_rfl)) (by kernel_rfl) (by kernel_rfl))
theorem id_lits (id : List UInt8) (h : id.length = 32) (d : Nat) : ∃ ls, Tryd.prog.keyLits (d + 2) 34 (id.map B) = some ls := by
  have c1 : Tryd.prog.cellsOf 5 = 1 := by kernel_rfl
  have c32 : Tryd.prog.cellsOf 34 = 32 := by kernel_rfl
  unfold Program.keyLits
  simp only [Tryd.underlying34, c32, c1, List.length_map, h, if_true]
  obtain ⟨ys, hy⟩ := mapM_some (f := fun i => Tryd.prog.keyLits (d + 1) 5 (((id.map B).drop (i * 1)).take 1)) (List.range 32) (fun i hi => by
    have hi' : i < 32 := List.mem_range.1 hi
    have e : ((id.map B).drop (i * 1)).take 1 = [B (id[i]'(by omega))] := by
      rw [Nat.mul_one, List.drop_eq_getElem_cons (by simpa using by omega)]
      simp
    rw [e]
    have hb := (id[i]'(by omega)).toNat_lt
    unfold Program.keyLits
    refine ⟨[.int .u8 ((id[i]'(by omega)).toNat : Int)], ?_⟩
    simp only [Tryd.underlying5, B]
    rw [if_pos ⟨trivial, WalkArith.wf_u8 ⟨by omega, by omega⟩⟩])
  exact ⟨ys.flatten, by rw [hy]; rfl⟩
theorem id_key (id : List UInt8) (h : id.length = 32) : ∃ kl, keyOf Tryd.prog 34 (.agg (id.map B).toArray) = some kl := by
  unfold keyOf
  simp only [Tryd.underlying34]
  have h1 : Tryd.prog.keyType 34 = true := by kernel_rfl
  have h2 : (Value.agg (id.map B).toArray).formed Tryd.prog 34 = true := by
    have c32 : Tryd.prog.cellsOf 34 = 32 := by kernel_rfl
    unfold Value.formed
    simp [Tryd.underlying34, c32, h]
  rw [h1, h2]
  obtain ⟨ls, hl⟩ := id_lits id h (Tryd.prog.types.size - 1)
  have e : Tryd.prog.types.size - 1 + 2 = Tryd.prog.types.size + 1 := by
    have : 1 ≤ Tryd.prog.types.size := of_decide_eq_true (by kernel_rfl)
    omega
  rw [e] at hl
  refine ⟨.string (keyBytes ls), ?_⟩
  have e2 : (Value.agg (id.map B).toArray).cells.toList = id.map B := rfl
  rw [e2, hl]; rfl

/-- A map that is a set of sums. -/
def Set32 (w : World) (v : Value) (ids : List (List UInt8)) : Prop :=
  (v = .map none ∧ ids = []) ∨ ∃ b n, ∃ D : DataW Unit, v = .map (some b) ∧ n ≤ ids.length ∧ w.ownsMap Tryd.prog 34 unitElem b n D ∧ ∀ id kl, id.length = 32 → keyOf Tryd.prog 34 (.agg (id.map B).toArray) = some kl → Maps.has D kl = decide (id ∈ ids)
def mapBlock : Value → Option Nat
  | .map b => b
  | _ => none
theorem Kept.ownsMap {S : List Nat} {w w' : World} (hk : Kept S w w') {H : Type} {P : Program} {k : TypeId} {R : Value → Option (DataW H × List MemPlace)} {b n : Nat} {D : DataW H} (h : w.ownsMap P k R b n D) (hb : b ∉ S) : w'.ownsMap P k R b n D := by
  obtain ⟨es, clock, h1, r⟩ := h
  exact ⟨es, clock, hk.at h1 hb, r⟩
theorem Set32.kept {S : List Nat} {w w' : World} {v : Value} {ids : List (List UInt8)} (h : Set32 w v ids) (hk : Kept S w w') (hb : ∀ b, mapBlock v = some b → b ∉ S) : Set32 w' v ids := by
  rcases h with h | ⟨b, n, D, rfl, hn, ho, hh⟩
  · exact Or.inl h
  · exact Or.inr ⟨b, n, D, rfl, hn, hk.ownsMap ho (hb b rfl), hh⟩
theorem set32_new (w : World) : Set32 (w.alloc (.map #[] 0)) (.map (some w.heap.size)) [] :=
  Or.inr ⟨_, 0, _, rfl, Nat.le_refl _, World.ownsMap_made w _ _ _, fun id kl _ _ => by simp [Maps.has]⟩
theorem bytesV_inj {x y : List UInt8} (h : Value.agg (x.map B).toArray = Value.agg (y.map B).toArray) : x = y := by
  have h1 : x.map B = y.map B := by simpa using h
  exact List.map_inj_right (fun a b h => by
    unfold B at h
    have : (a.toNat : Int) = b.toNat := by simpa using h
    exact UInt8.toNat_inj.1 (by omega)) |>.1 h1
/-- A sum more in the set. -/
theorem has_put_ids {D : DataW Unit} (hD : IsMap D) {id : List UInt8} {kl : Lit} (h32 : id.length = 32) (hk : keyOf Tryd.prog 34 (.agg (id.map B).toArray) = some kl) {ids : List (List UInt8)} (d : DataW Unit)
    (hh : ∀ id kl, id.length = 32 → keyOf Tryd.prog 34 (.agg (id.map B).toArray) = some kl → Maps.has D kl = decide (id ∈ ids)) :
    ∀ id2 kl2, id2.length = 32 → keyOf Tryd.prog 34 (.agg (id2.map B).toArray) = some kl2 → Maps.has (D.put kl d) kl2 = decide (id2 ∈ ids ++ [id]) := by
  intro id2 kl2 h2 hk2
  by_cases e : kl2 = kl
  · subst e
    have e2 : id2 = id := bytesV_inj (a_keyed.inj hk2 hk)
    subst e2
    rw [has_put_same hD (a_keyed.key hk2)]; simp
  · rw [has_put_other e, hh id2 kl2 h2 hk2]
    have e2 : id2 ≠ id := fun h => by subst h; rw [hk2] at hk; exact e (Option.some.inj hk)
    simp [e2]
end Go.Proofs.YtmkdjonlfkfnlaaDoor
