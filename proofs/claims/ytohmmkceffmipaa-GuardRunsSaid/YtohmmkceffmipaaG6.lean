/- coldstorelaw01.through, and the fuse's part of GuardNests. -/
import Derived.Test.YtohmmkceffmipaaG4
namespace Go.Proofs.Ytohmmkceffmipaa
open Go.RowKit

theorem i64_and7 (n : Int) : bits .and .i64 n 7 = n % 8 := by
  have h7 : (BitVec.ofInt 64 7).toNat = 2 ^ 3 - 1 := by decide
  have key : (BitVec.ofInt 64 n &&& BitVec.ofInt 64 7).toNat = (n % ((2 ^ 64 : Nat) : Int)).toNat % 2 ^ 3 := by
    rw [BitVec.toNat_and, BitVec.toNat_ofInt, h7, Nat.and_two_pow_sub_one_eq_mod]
  show IntKind.i64.wrap ((BitVec.ofInt 64 n &&& BitVec.ofInt 64 7).toNat : Nat) = n % 8
  rw [key, IntKind.wrap_i64]
  omega

theorem enters_through1 : Enters 59 := fun args w => by simp [go_sem]
theorem enters_nests2 : Enters 28 := fun args w => by simp [go_sem]
theorem enters_nests21 : Enters 30 := fun args w => by simp [go_sem]

/-- What a function throws that is no error goes through any number of runs. -/
theorem through_any (T : TypeId) (hT : T ≠ 26) (v : Value) (k : Nat) (hk : Enters k) (caps : Array Value) (w0 : World)
    (h : ∀ W, Kept [] w0 W → Calls Try.prog k caps W fun e w' => Thrown T v e ∧ Kept [] W w') :
    ∀ (d : Nat) (w : World), d ≤ 100 → Kept [] w0 w → Calls Try.prog 29 #[.int .i64 d, .func (.func k) #[] caps] w fun e w' => Thrown T v e ∧ Kept [] w w' := by
  have hmf : ∀ (fn : Fn) (first cap : Array Value) (w : World), (Instr.makeFunc fn first cap).run Try.prog w = .ok (.func fn first cap) w := fun _ _ _ _ => rfl
  intro d
  induction d with
  | zero =>
    intro w _ h0
    have H := hid (h _ ((h0.alloc (.cells #[.int .i64 0] 3)).alloc (.cells #[.func (.func k) #[] caps] 1)))
    have h0' := hid h0
    clear h h0
    unfold Enters at hk
    go_enter Try.func29, Try.ntmps29
    go_wp2_with fail
    refine H.out.mono ?_
    rintro e w1 ⟨⟨older, rfl, hcalm⟩, hk1⟩
    exact ⟨rfl, ⟨older, rfl, hcalm⟩, (((Kept.refl [] w).alloc _).alloc _).trans hk1⟩
  | succ d ih =>
    intro w hd h0
    have hrun := hid (run_blown 59 enters_through1 #[.pointer (some ⟨w.heap.size, 0, none⟩), .pointer (some ⟨w.heap.size + 1, 0, none⟩)] ((w.alloc (.cells #[.int .i64 (d + 1)] 3)).alloc (.cells #[.func (.func k) #[] caps] 1)) T hT v
      (fun w' => Kept [] w w') (by
        have hk0 : Kept [] w (((w.alloc (.cells #[.int .i64 (d + 1)] 3)).alloc (.cells #[.func (.func k) #[] caps] 1)).alloc (.cells #[.int .i64 0] 26)) := (((Kept.refl [] w).alloc _).alloc _).alloc _
        have ihc := hid (ih _ (by omega) (h0.trans hk0))
        have c0 := cell_of_one (show (((w.alloc (.cells #[.int .i64 (d + 1)] 3)).alloc (.cells #[.func (.func k) #[] caps] 1)).alloc (.cells #[.int .i64 0] 26)).heap[w.heap.size]? = some (.cells #[.int .i64 (d + 1)] 3 (0, 0)) from heap_alloc_old (heap_alloc_old (heap_alloc_at rfl)))
        have c1 := cell_of_one (show (((w.alloc (.cells #[.int .i64 (d + 1)] 3)).alloc (.cells #[.func (.func k) #[] caps] 1)).alloc (.cells #[.int .i64 0] 26)).heap[w.heap.size + 1]? = some (.cells #[.func (.func k) #[] caps] 1 (0, 0)) from heap_alloc_old (heap_alloc_at (by simp)))
        generalize (((w.alloc (.cells #[.int .i64 (d + 1)] 3)).alloc (.cells #[.func (.func k) #[] caps] 1)).alloc (.cells #[.int .i64 0] 26)) = W at *
        have hk0' := hid hk0
        clear hk0 ih h h0
        go_enter Try.func59, Try.ntmps59
        go_wp2_with fail
        refine ihc.out.mono ?_
        rintro e w1 ⟨⟨older, rfl, hcalm⟩, hk1⟩
        exact ⟨rfl, ⟨older, rfl, hcalm⟩, hk0'.out.trans hk1⟩))
    clear ih h h0
    go_enter Try.func29, Try.ntmps29
    go_wp2_with fail
    refine hrun.out.mono ?_
    rintro e w1 ⟨⟨older, rfl, hcalm⟩, hk1⟩
    exact ⟨rfl, ⟨older, rfl, hcalm⟩, hk1⟩

theorem nests_21 (f v c : Nat) (w : World) (hf : w.heap[f]? = some (.cells #[.int .i64 0] 70 (0, 0))) (hv : w.heap[v]? = some (.cells #[.pointer (some ⟨f, 0, none⟩)] 38 (0, 0))) :
    Calls Try.prog 30 #[.pointer (some ⟨v, 0, none⟩), .pointer (some ⟨c, 0, none⟩)] w fun e w' => Thrown 72 (.agg #[.pointer (some ⟨f, 0, none⟩)]) e ∧ Kept [] w w' := by
  have gv := cell_of_one hv
  have hs := hid (step_none f w hf)
  clear hf hv
  go_enter Try.func30, Try.ntmps30
  go_wp2_with fail
  refine hs.out.mono ?_
  rintro e w1 ⟨⟨older, rfl, hcalm⟩, rfl⟩
  exact ⟨rfl, ⟨older, rfl, hcalm⟩, Kept.refl _ _⟩

theorem nests_2 (p f v c d : Nat) (hd : d ≤ 100) (w : World) (hp : w.heap[p]? = some (.cells #[.int .i64 d] 3 (0, 0))) (hf : w.heap[f]? = some (.cells #[.int .i64 0] 70 (0, 0))) (hv : w.heap[v]? = some (.cells #[.pointer (some ⟨f, 0, none⟩)] 38 (0, 0))) :
    Calls Try.prog 28 #[.pointer (some ⟨p, 0, none⟩), .pointer (some ⟨v, 0, none⟩), .pointer (some ⟨c, 0, none⟩)] w fun e w' => Thrown 72 (.agg #[.pointer (some ⟨f, 0, none⟩)]) e ∧ Kept [] w w' := by
  have hmf : ∀ (fn : Fn) (first cap : Array Value) (w : World), (Instr.makeFunc fn first cap).run Try.prog w = .ok (.func fn first cap) w := fun _ _ _ _ => rfl
  have gp := cell_of_one hp
  have ht := hid (through_any 72 (by decide) (.agg #[.pointer (some ⟨f, 0, none⟩)]) 30 enters_nests21 #[.pointer (some ⟨v, 0, none⟩), .pointer (some ⟨c, 0, none⟩)] w
    (fun W hW => nests_21 f v c W (hW.at hf (by simp)) (hW.at hv (by simp))) d w hd (Kept.refl _ _))
  clear hp hf hv
  go_enter Try.func28, Try.ntmps28
  go_wp2_with fail
  refine ht.out.mono ?_
  rintro e w1 ⟨⟨older, rfl, hcalm⟩, hk⟩
  exact ⟨rfl, ⟨older, rfl, hcalm⟩, hk⟩
end Go.Proofs.Ytohmmkceffmipaa
