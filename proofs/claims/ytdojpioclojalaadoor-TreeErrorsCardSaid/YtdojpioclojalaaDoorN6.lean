import Derived.Test.YtdojpioclojalaaDoorN4
import Derived.Test.YtdojpioclojalaaDoorWK
import Derived.Test.YtdojpioclojalaaDoorC1

/- Rows of sums as cells; slices.Clone of them. -/
namespace Go.Proofs.YtdojpioclojalaaDoor
open Go.RowKit Go.Lib

/-- A sum's cells, thirty-two whatever it is. -/
def e32 (id : List UInt8) : List Value := ((id ++ zid).take 32).map B
theorem e32_len (id : List UInt8) : (e32 id).length = 32 := by unfold e32 zid; simp
theorem e32_of {id : List UInt8} (h : id.length = 32) : e32 id = id.map B := by unfold e32; rw [List.take_left' h]
theorem e32_one (xs : List (List UInt8)) : ∀ u ∈ xs.flatMap e32, u.oneCell' = true := by
  intro u hu
  obtain ⟨s, _, hs⟩ := List.mem_flatMap.1 hu
  unfold e32 at hs
  obtain ⟨b, _, rfl⟩ := List.mem_map.1 hs
  rfl
theorem n_add_add (x : Addr) (i j : Nat) : (x.add i).add j = x.add (i + j) := by
  unfold Addr.add
  by_cases hi : i = 0
  · subst hi; simp
  · by_cases hj : j = 0
    · subst hj; simp [hi]
    · simp [hi, hj, Nat.add_assoc]
theorem Ids.cells {w : World} {a : Option Addr} {c : Nat} {ids : List (List UInt8)} (h : Ids w a c ids) : ∀ x, a = some x → ∀ (j : Nat) u, (ids.flatMap e32)[j]? = some u → w.cell? (x.add j) = some u := by
  intro x hx j u hj
  have hl : j < ids.length * 32 := by rw [← flat_len e32 32 e32_len ids]; exact (List.getElem?_eq_some_iff.1 hj).1
  have hi : j / 32 < ids.length := by omega
  have e : j = j / 32 * 32 + j % 32 := by omega
  have hx2 : ids[j / 32]? = some ids[j / 32] := List.getElem?_eq_getElem hi
  obtain ⟨h32, hc⟩ := h.at_ x hx _ _ hx2
  rw [e] at hj ⊢
  rw [flat_get e32 32 e32_len ids _ _ _ hx2 (Nat.mod_lt _ (by decide)), e32_of h32, List.getElem?_map] at hj
  obtain ⟨b, hb, rfl⟩ := Option.map_eq_some_iff.1 hj
  rw [← n_add_add]
  exact hc _ _ hb
theorem ids_of_cells {w : World} {a : Option Addr} {c : Nat} {ids : List (List UInt8)} (hle : ids.length ≤ c) (hm : c ≤ 9223372036854775807) (hn : a = none → ids = []) (h32 : ∀ id ∈ ids, id.length = 32)
    (h : ∀ x, a = some x → ∀ (j : Nat) u, (ids.flatMap e32)[j]? = some u → w.cell? (x.add j) = some u) : Ids w a c ids := by
  refine ⟨hle, hm, hn, fun x hx i id hi => ⟨h32 id (List.mem_of_getElem? hi), fun k b hk => ?_⟩⟩
  have hk32 : k < 32 := by have := (List.getElem?_eq_some_iff.1 hk).1; rw [h32 id (List.mem_of_getElem? hi)] at this; exact this
  rw [n_add_add]
  refine h x hx _ _ ?_
  rw [flat_get e32 32 e32_len ids i k id hi hk32, e32_of (h32 id (List.mem_of_getElem? hi)), List.getElem?_map, hk]
  rfl
theorem Ids.h32 {w : World} {a : Option Addr} {c : Nat} {ids : List (List UInt8)} (h : Ids w a c ids) : ∀ id ∈ ids, id.length = 32 := by
  intro id hm
  obtain ⟨i, hi, he⟩ := List.getElem_of_mem hm
  cases a with
  | none => have := h.nil rfl; rw [this] at hm; simp at hm
  | some x => exact (h.at_ x rfl i id (by rw [List.getElem?_eq_getElem hi, he])).1
theorem ids_of_row {W : World} {base : Nat} {a : Option Addr} {c : Nat} {ids : List (List UInt8)} (h32 : ∀ id ∈ ids, id.length = 32) (ho : W.ownsRow base 40 32 (.slice a ids.length c) ids.length (ids.flatMap e32)) :
    Ids W a c ids ∧ ∀ x, a = some x → base ≤ x.block ∧ x.spot = none := by
  rcases ho.2 with ⟨h1, h2⟩ | ⟨g, cap, cur, hv, hg, hh, hc, hm, hs, ht⟩
  · simp at h1
    obtain ⟨rfl, h1, rfl⟩ := h1
    have h3 : ids = [] := List.eq_nil_of_length_eq_zero h2
    subst h3
    exact ⟨⟨by simp, by omega, fun _ => rfl, fun x hx => by simp at hx⟩, fun x hx => by simp at hx⟩
  · simp at hv
    obtain ⟨rfl, rfl⟩ := hv
    refine ⟨ids_of_cells (by omega) (by unfold maxLen at hm; omega) (fun h => by simp at h) h32 (fun x hx => ?_), fun x hx => by simp at hx; subst hx; exact ⟨hg, rfl⟩⟩
    simp at hx
    subst hx
    exact ho.cells (g := g) rfl

theorem id_zero : (Tryd.prog.info? 40).map (fun i => (i.zero, i.size, i.bytes)) = some (some (.agg (zid.map B).toArray), 32, 32) := by kernel_rfl
theorem ids_nil (c : Nat) (W : World) : (binOp .eql 38 (.slice none 0 c) (.slice none 0 0)).run Tryd.prog W = .ok (.bool true) W := by kernel_rfl
theorem ids_nnil (x : Addr) (n c : Nat) (W : World) : (binOp .eql 38 (.slice (some x) n c) (.slice none 0 0)).run Tryd.prog W = .ok (.bool false) W := by kernel_rfl
set_option maxRecDepth 100000 in
theorem clone_ids (a : Option Addr) (c : Nat) (xs : List (List UInt8)) (w : World) (h : Ids w a c xs) (hl : xs.length ≤ 1000000) :
    Calls Tryd.prog 37 #[.slice a xs.length c] w fun e w' => ∃ a2 c2, e = .returned (.slice a2 xs.length c2) ∧ Kept [] w w' ∧ Ids w' a2 c2 xs ∧ ∀ x, a2 = some x → w.heap.size ≤ x.block ∧ x.spot = none := by
  obtain ⟨i0, hi0, hz0, hz1, hz2⟩ := info_parts id_zero
  have H32 := hid h.h32
  cases a with
  | none =>
    have h1 := h.nil rfl
    subst h1
    clear h
    go_enter Tryd.func37, Tryd.ntmps37
    have hnn := ids_nil c
    go_wp2
    go_ret
    exact ⟨none, 0, rfl, Kept.refl _ _, ⟨by simp, by omega, fun _ => rfl, fun x hx => by simp at hx⟩, fun x hx => by simp at hx⟩
  | some x =>
    have Hs := hid (h.cells x rfl)
    have hone := hid (e32_one xs); have hfl := hid (flat_len e32 32 e32_len xs)
    have Hr := hid (fun (W : World) (b : Option Addr) (d base : Nat) (ho : W.ownsRow base 40 32 (.slice b xs.length d) xs.length (xs.flatMap e32)) => ids_of_row H32.out ho)
    clear h
    generalize xs.flatMap e32 = news at *
    generalize xs.length = m at *
    go_enter Tryd.func37, Tryd.ntmps37
    have hnn := ids_nnil x m c
    go_wp2_with (at_builtin; refine halt ?_)
    refine Halt.mk ?_
    refine wpList_append_k _ rfl _ _ _ rfl w.heap.size 40 i0 _ 32 32 Tryd.underlying38 hi0 hz0 hz1 hz2 (by rw [Value.cells]; rfl) (by decide) (.slice (some ⟨w.heap.size, 0, none⟩) 0 0) 0 [] rfl ⟨by simp, Or.inr ⟨w.heap.size, 0, #[], rfl, Nat.le_refl _, heap_alloc_at rfl, by simp, by unfold maxLen; omega, by simp, by simp⟩⟩ (.slice (some x) m c) m news rfl ?_ hfl.out hone.out (by unfold maxLen; omega) (by omega) (by simp) ?_
    · refine Or.inr ⟨x, c, rfl, fun j u hj => ?_⟩
      have hc := Hs.out j u hj
      exact (((Kept.refl [] w).alloc _).cell (World.block_lt_of_cell? w _ hc) (by simp)).trans hc
    intro v2 w2 hown2 hgrow2 _ hf2
    simp only [Nat.zero_add, List.nil_append] at hown2
    have hk2 := hid (show Kept [] w w2 from ((Kept.refl [] w).alloc _).trans' (Kept.of_row hgrow2) (fun x hx hm => by simp [Value.ownBlock] at hm; omega))
    obtain ⟨a2, c2, rfl⟩ := owns_slice hown2
    have Ho := hid (Hr.out _ _ _ _ hown2)
    clear hown2 hgrow2 hf2 hnn
    go_wp2
    go_ret
    exact ⟨_, _, rfl, hk2.out, Ho.out.1, Ho.out.2⟩
end Go.Proofs.YtdojpioclojalaaDoor
