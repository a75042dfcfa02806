import Derived.Test.YtmkdjonlfkfnlaaDoorN4
import Derived.Test.YtmkdjonlfkfnlaaDoorWK
import Derived.Test.YtmkdjonlfkfnlaaDoorMC

/- Rows of sums as cells; slices.Clone of them. -/
namespace Go.Proofs.YtmkdjonlfkfnlaaDoor
open Go.RowKit Go.Lib

/-- A sum's cells, thirty-two whatever it is. -/
def e32 (id : List UInt8) : List Value := ((id ++ zid).take 32).map B
theorem e32_len (id : List UInt8) : (e32 id).length = 32 := by unfold e32 zid; simp
theorem e32_of {id : List UInt8} (h : id.length = 32) : e32 id = id.map B := by unfold e32; rw [List.take_left' h]
theorem e32_one (xs : List (List UInt8)) : ∀ u ∈ xs.flatMap e32, u.oneCell' = true := by
  intro u hu
  obtain ⟨s, _, hs⟩ := List.mem_flatMap.1 hu
  unfold e32 at hs
  obtain ⟨b, _, rfl⟩ := List.mem_map.1 hs
  rfl
theorem n_add_add (x : Addr) (i j : Nat) : (x.add i).add j = x.add (i + j) := by
  unfold Addr.add
  by_cases hi : i = 0
  · subst hi; simp
  · by_cases hj : j = 0
    · subst hj; simp [hi]
    · simp [hi, hj, Nat.add_assoc]
theorem Ids.cells {w : World} {a : Option Addr} {c : Nat} {ids : List (List UInt8)} (h : Ids w a c ids) : ∀ x, a = some x → ∀ (j : Nat) u, (ids.flatMap e32)[j]? = some u → w.cell? (x.add j) = some u := by
  intro x hx j u hj
  have hl : j < ids.length * 32 := by rw [← flat_len e32 32 e32_len ids]; exact (List.getElem?_eq_some_iff.1 hj).1
  have hi : j / 32 < ids.length := by omega
  have e : j = j / 32 * 32 + j % 32 := by omega
  have hx2 : ids[j / 32]? = some ids[j / 32] := List.getElem?_eq_getElem hi
  obtain ⟨h32, hc⟩ := h.at_ x hx _ _ hx2
  rw [e] at hj ⊢
  rw [flat_get e32 32 e32_len ids _ _ _ hx2 (Nat.mod_lt _ (by decide)), e32_of h32, List.getElem?_map] at hj
  obtain ⟨b, hb, rfl⟩ := Option.map_eq_some_iff.1 hj
  rw [← n_add_add]
  exact hc _ _ hb
theorem ids_of_cells {w : World} {a : Option Addr} {c : Nat} {ids : List (List UInt8)} (hle : ids.length ≤ c) (hm : c ≤ 9223372036854775807) (hn : a = none → ids = []) (h32 : ∀ id ∈ ids, id.length = 32)
    (h : ∀ x, a = some x → ∀ (j : Nat) u, (ids.flatMap e32)[j]? = some u → w.cell? (x.add j) = some u) : Ids w a c ids := by
  refine ⟨hle, hm, hn, fun x hx i id hi => ⟨h32 id (List.mem_of_getElem? hi), fun k b hk => ?_⟩⟩
  have hk32 : k < 32 := by have := (List.getElem?_eq_some_iff.1 hk).1; rw [h32 id (List.mem_of_getElem? hi)] at this; exact this
  rw [n_add_add]
  refine h x hx _ _ ?_
  rw [flat_get e32 32 e32_len ids i k id hi hk32, e32_of (h32 id (List.mem_of_getElem? hi)), List.getElem?_map, hk]
  rfl
theorem Ids.h32 {w : World} {a : Option Addr} {c : Nat} {ids : List (List UInt8)} (h : Ids w a c ids) : ∀ id ∈ ids, id.length = 32 := by
  intro id hm
  obtain ⟨i, hi, he⟩ := List.getElem_of_mem hm
  cases a with
  | none => have := h.nil rfl; rw [this] at hm; simp at hm
  | some x => exact (h.at_ x rfl i id (by rw [List.getElem?_eq_getElem hi, he])).1
theorem ids_of_row {W : World} {base : Nat} {a : Option Addr} {c : Nat} {ids : List (List UInt8)} (h32 : ∀ id ∈ ids, id.length = 32) (ho : W.ownsRow base 34 32 (.slice a ids.length c) ids.length (ids.flatMap e32)) :
    Ids W a c ids ∧ ∀ x, a = some x → base ≤ x.block ∧ x.spot = none := by
  rcases ho.2 with ⟨h1, h2⟩ | ⟨g, cap, cur, hv, hg, hh, hc, hm, hs, ht⟩
  · simp at h1
    obtain ⟨rfl, h1, rfl⟩ := h1
    have h3 : ids = [] := List.eq_nil_of_length_eq_zero h2
    subst h3
    exact ⟨⟨by simp, by omega, fun _ => rfl, fun x hx => by simp at hx⟩, fun x hx => by simp at hx⟩
  · simp at hv
    obtain ⟨rfl, rfl⟩ := hv
    refine ⟨ids_of_cells (by omega) (by unfold maxLen at hm; omega) (fun h => by simp at h) h32 (fun x hx => ?_), fun x hx => by simp at hx; subst hx; exact ⟨hg, rfl⟩⟩
    simp at hx
    subst hx
    exact ho.cells (g := g) rfl

theorem id_zero : (Tryd.prog.info? 34).map (fun i => (i.zero, i.size, i.bytes)) = some (some (.agg (zid.map B).toArray), 32, 32) := by kernel_rfl
theorem ids_nil (c : Nat) (W : World) : (binOp .eql 46 (.slice none 0 c) (.slice none 0 0)).run Tryd.prog W = .ok (.bool true) W := by kernel_rfl
theorem ids_nnil (x : Addr) (n c : Nat) (W : World) : (binOp .eql 46 (.slice (some x) n c) (.slice none 0 0)).run Tryd.prog W = .ok (.bool false) W := by kernel_rfl
end Go.Proofs.YtmkdjonlfkfnlaaDoor
