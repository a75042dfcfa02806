/- coldstoreref03: first, letter, digit, Less, Text, Parse. -/
import Derived.Test.YtieaolnnlfaagaaDoorKH
import Derived.Test.YtieaolnnlfaagaaDoorHB
namespace Go.Proofs.YtieaolnnlfaagaaDoor
open Go.RowKit Go.Lib

def kCells : List Value := (List.range 64).map fun i => U (Sha.kAt i)
theorem kCells_get (i : Nat) (h : i < 64) : kCells[i]? = some (U (Sha.kAt i)) := by simp [kCells, h]
theorem wpList_run {P : Program} {ops : Array Oper} {rest : List Oper} {o : Oper} {a : Act} {w : World} {Q : Exit → Act → World → Prop} (hg : o.guard = none) (v : Value) (w' : World) (hr : (execOp a.eval o).run P w = .ok (.value v) w')
    (h : wpList P ops Q rest (a.put o.dst v) w') : wpList P ops Q (o :: rest) a w :=
  wpList_plain hg fun _ hK => by
    unfold Oper.wp
    rw [hr]
    exact hK _ _ h
set_option maxHeartbeats 1000000 in
theorem first_any (w : World) :
    Calls Tryd.prog 18 #[] w fun e w' => ∃ g1 g2, e = .returned (.tuple #[.slice (some ⟨g1, 0, none⟩) 8 8, .slice (some ⟨g2, 0, none⟩) 64 64]) ∧ Kept [] w w' ∧ w.heap.size ≤ g1 ∧ w.heap.size ≤ g2 ∧
      (∀ (j : Nat) u, (stL Sha.first)[j]? = some u → w'.cell? ⟨g1, j, none⟩ = some u) ∧ ∀ i, i < 64 → w'.cell? ⟨g2, i, none⟩ = some (U (Sha.kAt i)) := by
  obtain ⟨c1, hc1⟩ : ∃ c, c = (stL Sha.first).toArray := ⟨_, rfl⟩
  obtain ⟨c2, hc2⟩ : ∃ c, c = kCells.toArray := ⟨_, rfl⟩
  have Hc1 := hid hc1; have Hc2 := hid hc2
  clear hc1 hc2
  go_enter Tryd.func18, Tryd.ntmps18
  go_wp2_with (first
    | (refine wpList_run (w := w) rfl (.slice (some ⟨w.heap.size, 0, none⟩) 8 8) (w.alloc (.cells c1 35)) (by rw [Hc1.out]; kernel_rfl) ?_)
    | (refine wpList_run (w := w.alloc (.cells c1 35)) rfl (.slice (some ⟨(w.alloc (.cells c1 35)).heap.size, 0, none⟩) 64 64) ((w.alloc (.cells c1 35)).alloc (.cells c2 35)) (by rw [Hc2.out]; kernel_rfl) ?_))
  go_ret2
  refine ⟨_, _, rfl, ((Kept.refl [] w).alloc _).alloc _, Nat.le_refl _, by simp, fun j u hj => ?_, fun i hi => ?_⟩
  · rw [cell_of_row _ _ _ _ _ _ (heap_alloc_old (heap_alloc_at rfl)), Hc1.out]; simpa using hj
  · rw [cell_of_row _ _ _ _ _ _ (heap_alloc_at (by simp)), Hc2.out]
    have := kCells_get i hi
    simpa using this

theorem letter_any (k : Nat) (hk : k < 16) (w : World) :
    Calls Tryd.prog 21 #[.int .u8 (k : Int)] w fun e w' => e = .returned (B (hexd k)) ∧ w = w' := by
  by_cases h : k < 10
  · have e : B (hexd k) = .int .u8 (48 + (k : Int)) := by
      unfold hexd B; rw [if_pos h]; congr 1; simp; omega
    rw [e]
    go_enter Tryd.func21, Tryd.ntmps21
    go_wp2
    go_ret
    exact ⟨rfl, rfl⟩
  · have e : B (hexd k) = .int .u8 (87 + (k : Int)) := by
      unfold hexd B; rw [if_neg h]; congr 1; simp; omega
    rw [e]
    go_enter Tryd.func21, Tryd.ntmps21
    go_wp2
    go_ret
    exact ⟨rfl, rfl⟩

/-- A digit's number, 16 of none. -/
def rdig (c : UInt8) : Nat := if 0 ≤ dig c then (dig c).toNat else 16
theorem rdig_lt (c : UInt8) : rdig c ≤ 16 := by unfold rdig; have := dig_lt c; split <;> omega
theorem rdig_ok (c : UInt8) : rdig c ≤ 15 ↔ 0 ≤ dig c := by unfold rdig; have := dig_lt c; split <;> omega
theorem rdigit_any (c : UInt8) (w : World) :
    Calls Tryd.prog 17 #[.int .u8 (c.toNat : Int)] w fun e w' => e = .returned (.int .u8 (rdig c : Int)) ∧ w = w' := by
  have hc := c.toNat_lt
  by_cases h1 : 48 ≤ c.toNat ∧ c.toNat ≤ 57
  · have e : (rdig c : Int) = (c.toNat : Int) - 48 := by unfold rdig dig; simp only [h1, and_self, if_true]; split <;> omega
    rw [e]
    obtain ⟨n, hn⟩ : ∃ n, n = c.toNat := ⟨_, rfl⟩
    rw [← hn] at h1 hc ⊢
    obtain ⟨h2, h3⟩ := h1
    clear hn e
    go_enter Tryd.func17, Tryd.ntmps17
    go_wp2
    go_ret
    exact ⟨rfl, rfl⟩
  · by_cases h4 : 97 ≤ c.toNat ∧ c.toNat ≤ 102
    · have e : (rdig c : Int) = (c.toNat : Int) - 87 := by unfold rdig dig; simp only [h1, if_false, h4, and_self, if_true]; split <;> omega
      rw [e]
      obtain ⟨n, hn⟩ : ∃ n, n = c.toNat := ⟨_, rfl⟩
      rw [← hn] at h1 h4 hc ⊢
      obtain ⟨h2, h3⟩ := h4
      have h5 : ¬ (n : Int) ≤ 57 := by omega
      clear hn e h1
      go_enter Tryd.func17, Tryd.ntmps17
      go_wp2
      go_ret
      exact ⟨rfl, rfl⟩
    · have e : rdig c = 16 := by unfold rdig dig; simp [h1, h4]
      rw [e]
      obtain ⟨n, hn⟩ : ∃ n, n = c.toNat := ⟨_, rfl⟩
      rw [← hn] at h1 h4 hc ⊢
      have H1 := hid h1; have H4 := hid h4
      clear hn e h1 h4
      go_enter Tryd.func17, Tryd.ntmps17
      go_wp2
      all_goals first
        | (go_ret; exact ⟨rfl, rfl⟩)
        | (exfalso; have := H1.out; have := H4.out; omega)
end Go.Proofs.YtieaolnnlfaagaaDoor
