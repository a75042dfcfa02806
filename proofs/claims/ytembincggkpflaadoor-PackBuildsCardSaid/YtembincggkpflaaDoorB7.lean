import Derived.Test.YtembincggkpflaaDoorB6
import Derived.Test.YtembincggkpflaaDoorAT

/- The reference of layer 12 beside the builder: one blob more, whatever comes of it. -/
namespace Go.Proofs.YtembincggkpflaaDoor
open Go.RowKit Go.Lib Go.Maps

theorem src_cap {w : World} {a : Option Addr} {n c : Nat} {ys : List UInt8} (h : SrcB w (.slice a n c) ys) : a = none → c = 0 := by
  rintro rfl
  rcases h with ⟨h1, _⟩ | ⟨ad, c', h1, _⟩
  · simp at h1; exact h1.2
  · simp at h1
/-- What is told of a blob's place: nothing, if there is an error. -/
def entE (bl : List (List UInt8)) (r : List UInt8) : En := if took bl r then addE (ens bl) (Sha.sum r) r.length else ⟨List.replicate 32 0, 0, 0⟩
theorem entE_id (bl : List (List UInt8)) (r : List UInt8) : (entE bl r).id.length = 32 := by
  unfold entE
  split
  · exact sum32 r
  · simp
theorem entE_took {bl : List (List UInt8)} {r : List UInt8} (h : took bl r = true) : entE bl r = addE (ens bl) (Sha.sum r) r.length := by unfold entE; rw [h]; rfl
theorem entE_not {bl : List (List UInt8)} {r : List UInt8} (h : took bl r = false) : (entE bl r).cells = zEnC := by unfold entE; rw [h]; rfl
/-- The reference's pack of these blobs. -/
structure PkAt (w : World) (bl : List (List UInt8)) (a : Option Addr) (m c : Nat) (d : Option Addr) (n k : Nat) : Prop where
  hm : m = bl.flatten.length
  hn : n = bl.length
  hs : SrcB w (.slice a m c) bl.flatten
  he : EnsW w d (ens bl)
  hdk : d = none → k = 0
theorem PkAt.kept {w w' : World} {bl : List (List UInt8)} {a d : Option Addr} {m c n k : Nat} (h : PkAt w bl a m c d n k) (hk : Kept [] w w') : PkAt w' bl a m c d n k :=
  ⟨h.hm, h.hn, by have h1 := h.hs; rw [h.hm] at h1 ⊢; exact h1.kept hk (by simp), h.he.kept hk, h.hdk⟩
theorem PkAt.zero (w : World) : PkAt w [] none 0 0 none 0 0 :=
  ⟨rfl, rfl, Or.inl ⟨rfl, rfl, rfl⟩, ⟨fun _ => rfl, fun x hx => by simp at hx⟩, fun _ => rfl⟩
def RAny (w : World) (bl : List (List UInt8)) (r : List UInt8) (a d : Option Addr) (e : Ending) (w' : World) : Prop :=
  ∃ a' m' c' d' n' k', e = .returned (.tuple #[.agg #[.slice a' m' c', .slice d' n' k'], .agg (entE bl r).cells.toArray, .int .i64 (addErr (ens bl) (Sha.sum r) r.length)]) ∧ Kept [] w w' ∧ PkAt w' (more1 bl r) a' m' c' d' n' k' ∧
    (∀ x, a' = some x → (a = some x ∧ more1 bl r = bl) ∨ w.heap.size ≤ x.block) ∧ ∀ x, d' = some x → (d = some x ∧ more1 bl r = bl) ∨ w.heap.size ≤ x.block
theorem r12_add_any (bl : List (List UInt8)) (r : List UInt8) (a : Option Addr) (m c : Nat) (d : Option Addr) (n k : Nat) (ar : Option Addr) (cr : Nat) (w : World) (h : PkAt w bl a m c d n k) (hl : bl.length ≤ 20) (hbs : ∀ b ∈ bl, b.length ≤ 200) (hr : SrcB w (.slice ar r.length cr) r) :
    Calls Tryd.prog 7 #[.agg #[.slice a m c, .slice d n k], .slice ar r.length cr] w (RAny w bl r a d) := by
  obtain ⟨hm, hn, hs, he, hdk⟩ := h
  have hfl := flat_small hbs
  have hel := ens_len bl
  by_cases hlong : 65536 < r.length
  · have ha : addErr (ens bl) (Sha.sum r) r.length = 2 := by unfold addErr; rw [if_pos hlong]
    have ht : took bl r = false := by unfold took; rw [ha]; decide
    have hm1 : more1 bl r = bl := by unfold more1; rw [ht]; rfl
    refine (r12_add_long a m c d n k ar r.length cr w hlong).mono ?_
    rintro e w' ⟨rfl, kw⟩
    refine ⟨a, m, c, d, n, k, by rw [ha, entE_not ht], kw, ?_, fun x hx => Or.inl ⟨hx, hm1⟩, fun x hx => Or.inl ⟨hx, hm1⟩⟩
    rw [hm1]
    exact PkAt.kept ⟨hm, hn, hs, he, hdk⟩ kw
  · have hs' : SrcB w (.slice a bl.flatten.length c) bl.flatten := by rw [← hm]; exact hs
    cases hh : hasE (ens bl) (Sha.sum r)
    · refine (r12_add_new a m c d n k ar cr bl.flatten r (ens bl) w hm (by rw [hm, ens_ends]) hs' he (by rw [hn, hel]) (by omega) hr (src_cap hr) (by omega) (by omega) hh hdk (ens_ids bl)).mono ?_
      rintro e w' ⟨ha, a', c', d', k', rfl, kw, hs2, he2, hdn, hla, hld⟩
      have ht : took bl r = true := by unfold took; rw [ha]; rfl
      have hm1 : more1 bl r = bl ++ [r] := by unfold more1; rw [ht]; rfl
      refine ⟨a', m + r.length, c', d', n + 1, k', by rw [ha, entE_took ht], kw, ?_, fun x hx => Or.inr (hla x hx), fun x hx => Or.inr (hld x hx)⟩
      rw [hm1]
      refine ⟨by rw [hm]; simp, by rw [hn]; simp, ?_, by rw [ens_snoc]; exact he2, fun h => absurd h hdn⟩
      rw [List.flatten_append, List.flatten_cons, List.flatten_nil, List.append_nil]
      exact hs2
    · refine (r12_add_twice a m c d n k ar cr bl.flatten r (ens bl) w hm (by rw [hm, ens_ends]) hs' he (by rw [hn, hel]) (by omega) hr (src_cap hr) (by omega) (by omega) hh).mono ?_
      have ha : addErr (ens bl) (Sha.sum r) r.length = 5 := by
        unfold addErr
        rw [if_neg hlong, if_neg (by omega), if_pos (hasE_id.1 hh)]
      have ht : took bl r = false := by unfold took; rw [ha]; decide
      have hm1 : more1 bl r = bl := by unfold more1; rw [ht]; rfl
      rintro e w' (⟨_, rfl, kw⟩ | ⟨h0, _⟩)
      · refine ⟨a, m, c, d, n, k, by rw [ha, entE_not ht], kw, ?_, fun x hx => Or.inl ⟨hx, hm1⟩, fun x hx => Or.inl ⟨hx, hm1⟩⟩
        rw [hm1]
        exact PkAt.kept ⟨hm, hn, hs, he, hdk⟩ kw
      · rw [ha] at h0; exact absurd h0 (by decide)
end Go.Proofs.YtembincggkpflaaDoor
