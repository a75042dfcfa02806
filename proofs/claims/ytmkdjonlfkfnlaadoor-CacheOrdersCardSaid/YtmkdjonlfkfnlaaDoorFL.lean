import Derived.Test.YtmkdjonlfkfnlaaDoorFK

/- CacheKeeps. -/
namespace Go.Proofs.YtmkdjonlfkfnlaaDoor
open Go.RowKit Go.Lib Go.Maps
theorem evict_small (lim : Int) (k : Nat) (l : List (List UInt8 × List UInt8)) (h : (k : Int) ≤ lim) : (szD (evict lim k l) : Int) + k ≤ lim := by
  induction l with
  | nil => simp [evict, szD]; exact h
  | cons e r ih =>
    unfold evict
    split
    · exact ih
    · omega
theorem putD_size {lim : Int} {l : List (List UInt8 × List UInt8)} (ys : List UInt8) (h : (szD l : Int) ≤ lim) : (szD (putD lim l ys) : Int) ≤ lim := by
  unfold putD
  split
  · have := szD_drop (Sha.sum ys) l; omega
  · rename_i hlt
    have := evict_small lim ys.length (dropD (Sha.sum ys) l) (by omega)
    rw [szD_app]
    simp [szD] at this ⊢
    omega
theorem putD_len (lim : Int) (l : List (List UInt8 × List UInt8)) (ys : List UInt8) : (putD lim l ys).length ≤ l.length + 1 := by
  have hl : (dropD (Sha.sum ys) l).length ≤ l.length := List.length_filter_le _ _
  unfold putD
  split
  · omega
  · have h2 := evict_len lim ys.length (dropD (Sha.sum ys) l)
    simp
    omega
theorem find_drop {id : List UInt8} {l : List (List UInt8 × List UInt8)} {bs : List UInt8} (h : findD id l = some bs) : szD (dropD id l) + bs.length ≤ szD l ∧ (dropD id l).length + 1 ≤ l.length := by
  induction l with
  | nil => simp [findD] at h
  | cons e r ih =>
    have e1 : dropD id (e :: r) = if e.1 = id then dropD id r else e :: dropD id r := by
      unfold dropD
      rw [List.filter_cons]
      by_cases he : e.1 = id <;> simp [he]
    have e2 : szD (e :: r) = e.2.length + szD r := by unfold szD; simp
    have h1 := szD_drop id r
    have h2 : (dropD id r).length ≤ r.length := List.length_filter_le _ _
    unfold findD at h
    rw [e1, e2]
    by_cases he : e.1 = id
    · rw [if_pos he] at h ⊢
      rw [Option.some.inj h]
      exact ⟨by omega, by simp; omega⟩
    · rw [if_neg he] at h ⊢
      have h3 := ih h
      have e3 : szD (e :: dropD id r) = e.2.length + szD (dropD id r) := by unfold szD; simp
      rw [e3]
      exact ⟨by omega, by simp; omega⟩
theorem getO_find {id : List UInt8} {l : List (List UInt8 × List UInt8)} {bs : List UInt8} (h : getO id l = some bs) : findD id l = some bs ∧ Sha.sum bs = id := by
  unfold getO at h
  split at h
  · rename_i b hb
    split at h
    · rename_i hs
      have := Option.some.inj h
      subst this
      exact ⟨hb, hs⟩
    · cases h
  · cases h
theorem getL_size (id : List UInt8) (l : List (List UInt8 × List UInt8)) : szD (getL id l) ≤ szD l ∧ (getL id l).length ≤ l.length := by
  have h1 := szD_drop id l
  have h2 : (dropD id l).length ≤ l.length := List.length_filter_le _ _
  unfold getL
  split
  · rename_i bs hb
    have h3 := find_drop (getO_find hb).1
    rw [szD_app]
    simp [szD] at h3 ⊢
    omega
  · exact ⟨h1, h2⟩
theorem spoil_size (id : List UInt8) (bit : Int) (l : List (List UInt8 × List UInt8)) : szD ((spoilL id bit l).getD l) = szD l ∧ ((spoilL id bit l).getD l).length = l.length := by
  unfold spoilL
  split
  · split
    · exact ⟨rfl, rfl⟩
    · refine ⟨?_, by simp⟩
      unfold szD
      simp only [Option.getD_some, List.map_map]
      congr 1
      refine List.map_congr_left fun e _ => ?_
      simp only [Function.comp]
      split
      · exact flip_len _ _
      · rfl
  · exact ⟨rfl, rfl⟩
theorem findD_last {id : List UInt8} {a : List (List UInt8 × List UInt8)} {bs : List UInt8} (h : ∀ e ∈ a, e.1 ≠ id) : findD id (a ++ [(id, bs)]) = some bs := by
  induction a with
  | nil => simp [findD]
  | cons e r ih =>
    rw [List.cons_append]
    unfold findD
    rw [if_neg (h e (by simp)), ih (fun x hx => h x (by simp [hx]))]
theorem get_put (lim : Int) (l : List (List UInt8 × List UInt8)) (ys : List UInt8) : getO (Sha.sum ys) (putD lim l ys) = if (ys.length : Int) ≤ lim then some ys else none := by
  unfold putD
  by_cases h : (ys.length : Int) ≤ lim
  · rw [if_pos h, if_neg (by omega)]
    unfold getO
    rw [findD_last (fun e he => (dropD_mem.1 (evict_mem he)).2)]
    simp
  · rw [if_neg h, if_pos (by omega)]
    unfold getO
    rw [findD_none (fun e he => (dropD_mem.1 he).2)]
/-- The state behind i steps. -/
structure KW (w W : World) (mb p : Nat) (lm : Int) (i : Nat) : Prop where
  cs : ∃ U l, CS w W U p lm l ∧ (szD l : Int) ≤ lm ∧ l.length ≤ i ∧ szD l ≤ 100 * i ∧ mb ∉ U
  tm : TM W mb i
  mw : w.heap.size ≤ mb
end Go.Proofs.YtmkdjonlfkfnlaaDoor
