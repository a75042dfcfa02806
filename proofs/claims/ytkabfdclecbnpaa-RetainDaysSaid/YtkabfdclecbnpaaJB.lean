import Derived.Test.YtkabfdclecbnpaaJA
import Derived.Sort.LotA

/- snap.Sort of few: what it answers. -/
namespace Go.Proofs.Ytkabfdclecbnpaa
open Go.RowKit Go.Lib Go.Sort

theorem swoQ : SWO (ltOf cmpQ) where
  irrefl x := by
    unfold ltOf cmpQ
    have := (spC.zero x.1 x.1).2 rfl
    simp [this]
  trans x y z := by
    unfold ltOf cmpQ
    simp only [decide_eq_true_eq]
    exact spC.trans _ _ _
  ntrans x y z := by
    unfold ltOf cmpQ
    simp only [decide_eq_false_iff_not]
    intro h1 h2 h3
    by_cases e1 : x.1.cmp y.1 = 0
    · rw [(spC.zero _ _).1 e1] at h3; exact h2 h3
    · have k1 : y.1.cmp x.1 < 0 := by rw [spC.neg]; omega
      exact h2 (spC.trans _ _ _ k1 h3)
theorem ltQ_total (x y : Sq) (h1 : ltOf cmpQ x y = false) (h2 : ltOf cmpQ y x = false) : x = y := by
  unfold ltOf cmpQ at h1 h2
  simp only [decide_eq_false_iff_not] at h1 h2
  have h3 : x.1.cmp y.1 = 0 := by
    have := spC.neg y.1 x.1
    omega
  exact Subtype.ext ((spC.zero _ _).1 h3)

theorem own_holds {w : World} {base g n c : Nat} {xs : List Sq} (h : w.ownsRow base 42 37 (.slice (some ⟨g, 0, none⟩) n c) n (xs.flatMap encQ)) (hn : n = xs.length) : HoldsK encQ 37 w g 0 xs.toArray := by
  intro j hj
  have hsz : (flatK encQ 37 xs.toArray).size = xs.length * 37 := by simp [flatK]
  rw [hsz] at hj
  have hc := h.cells (g := g) rfl j
  have hi : j / 37 < xs.length := by omega
  have e : j = j / 37 * 37 + j % 37 := by omega
  have hx : xs[j / 37]? = some xs[j / 37] := List.getElem?_eq_getElem hi
  have hm := Nat.mod_lt j (show 0 < 37 by decide)
  have hg : (xs.flatMap encQ)[j]? = (encQ xs[j / 37])[j % 37]? := by
    conv => lhs; rw [e]
    exact flat_get encQ 37 encQ_len xs _ _ _ hx hm
  have hl : j % 37 < (encQ xs[j / 37]).length := by rw [encQ_len]; exact hm
  rw [List.getElem?_eq_getElem hl] at hg
  have hc2 := hc _ hg
  rw [plain_add] at hc2
  refine ⟨?_, h.frozenAt _⟩
  rw [hc2, get_flatK encQ 37 xs.toArray j (by simpa using hj)]
  simp [hi, hl]
theorem holds_snaps {w : World} {g c : Nat} {d : Array Sq} (h : HoldsK encQ 37 w g 0 d) (hc : d.size ≤ c) (hm : c ≤ 9223372036854775807) : Snaps w (some ⟨g, 0, none⟩) c d.toList := by
  refine ⟨by simpa using hc, hm, fun h => by simp at h, fun x hx i s hs j v hv => ?_⟩
  simp at hx; subst hx
  obtain ⟨hi, rfl⟩ := List.getElem?_eq_some_iff.1 hs
  have hi' : i < d.size := by simpa using hi
  have hj : j < 37 := by rw [← encQ_len (d.toList[i])]; exact (List.getElem?_eq_some_iff.1 hv).1
  have hh := (h.cell (i := i) (c := j) hi' hj).1
  rw [plain_add]
  have e : 0 + (i * 37 + j) = 0 + i * 37 + j := by omega
  rw [e, hh]
  have e2 : d[i]! = d.toList[i] := by simp [hi']
  rw [e2]
  obtain ⟨h1, h2⟩ := List.getElem?_eq_some_iff.1 hv
  rw [getElem!_pos (encQ d.toList[i]) j h1, h2]

/-- What Sort answers. -/
def SortedQ (w : World) (xs : List Sq) (e : Ending) (w' : World) : Prop :=
  ∃ a c ys, e = .returned (.slice a ys.length c) ∧ Kept [] w w' ∧ Snaps w' a c ys ∧ ys.Perm xs ∧ ys.Pairwise (fun p q => ltOf cmpQ q p = false) ∧ ∀ x, a = some x → w.heap.size ≤ x.block
theorem sortedIn_pairwise {d : Array Sq} (h : SortedIn (ltOf cmpQ) 0 d.size d) : d.toList.Pairwise (fun p q => ltOf cmpQ q p = false) := by
  rw [List.pairwise_iff_getElem]
  intro i j hi hj hij
  have := h i j (Nat.zero_le _) hij (by simpa using hj)
  simp at hi hj
  simpa [hi, hj] using this
theorem permIn_perm {d d' : Array Sq} (h : PermIn 0 d.size d d') : d'.toList.Perm d.toList := by
  obtain ⟨h1, _, h3⟩ := h
  have e1 : d'.extract 0 d.size = d' := by rw [← h1]; simp
  have e2 : d.extract 0 d.size = d := by simp
  rw [e1, e2] at h3; exact h3

theorem sortstable_any (blk off cap : Nat) (d : Array Sq) (w : World) (hH : HoldsK encQ 37 w blk off d) (hblk : blk < w.heap.size) (hn : d.size < 20) :
    Calls Try.prog 35 #[.slice (some ⟨blk, off, none⟩) d.size cap, .func (.func 36) #[] #[]] w fun e w' =>
      e = .returned (.tuple #[]) ∧ ∃ n os d', PermIn 0 d.size d d' ∧ SortedIn (ltOf cmpQ) 0 d.size d' ∧ w' = sortWorldK encQ 37 w blk off n d' os := by
  refine (sortstable_small blk off cap d w hH hblk hn).mono ?_
  rintro e w' ⟨he, n, os, hw⟩
  obtain ⟨h1, h2⟩ := insertionSort_holds swoQ d 0 d.size (Nat.zero_le _) (Nat.le_refl _)
  exact ⟨he, n, os, _, h1, h2, hw⟩
set_option maxRecDepth 100000 in
theorem insertion_nil (w : World) :
    Calls Try.prog 63 #[.slice none 0 0, .int .i64 0, .int .i64 0, .func (.func 36) #[] #[]] w fun e w' => e = .returned (.tuple #[]) ∧ w = w' := by
  go_enter Try.func63, Try.ntmps63
  go_wp2_with fail
  go_loopw [8] (fun a wr => a = .int .i64 1 ∧ wr = w) (fun _ _ => 0)
  case atStart => exact ⟨rfl, rfl⟩
  case round =>
    obtain ⟨rfl, rfl⟩ := hrel
    go_wp2
    go_end0
    exact ⟨rfl, rfl⟩
set_option maxRecDepth 100000 in
theorem stable_nil (w : World) :
    Calls Try.prog 46 #[.slice none 0 0, .int .i64 0, .func (.func 36) #[] #[]] w fun e w' => e = .returned (.tuple #[]) ∧ w = w' := by
  go_enter Try.func46, Try.ntmps46
  go_wp2_with fail
  go_loopw [7, 8] (fun a b wr => a = .int .i64 0 ∧ b = .int .i64 20 ∧ wr = w) (fun _ _ _ => 0)
  case atStart => exact ⟨rfl, rfl, rfl⟩
  case round =>
    obtain ⟨rfl, rfl, rfl⟩ := hrel
    go_wp2_with fail
    refine (insertion_nil _).mono ?_
    rintro e w1 ⟨rfl, rfl⟩
    go_wp2_with fail
    go_loopw [6] (fun a wr2 => a = .int .i64 20 ∧ wr2 = wr) (fun _ _ => 0)
    case atStart => exact ⟨rfl, rfl⟩
    case round =>
      obtain ⟨rfl, rfl⟩ := hrel
      go_wp2
      go_end0
      exact ⟨rfl, rfl⟩
theorem sortstable_nil (w : World) :
    Calls Try.prog 35 #[.slice none 0 0, .func (.func 36) #[] #[]] w fun e w' => e = .returned (.tuple #[]) ∧ Kept [] w w' := by
  go_enter Try.func35, Try.ntmps35
  go_wp2_with fail
  refine (stable_nil _).mono ?_
  rintro e w1 ⟨rfl, rfl⟩
  go_wp2
  go_end0
  exact ⟨rfl, Kept.refl _ _⟩

end Go.Proofs.Ytkabfdclecbnpaa
