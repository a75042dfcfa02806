
/- guard.Must, guard.Run and its deferred closure: what each call does. -/
import Derived.Test.YtnkolgamnakegaaRows
import Derived.WalkKit
import Derived.WalkSpells
import Derived.WalkLawsBesides
import Derived.Test.YtnkolgamnakegaaLib
namespace Go.Proofs.Ytnkolgamnakegaa
open Go.RowKit

theorem must_ok (w : World) :
    Calls Try.prog 80 #[.int .i64 0] w fun e w' => e = .returned (.tuple #[]) ∧ w = w' := by
  go_enter Try.func80, Try.ntmps80
  go_wp2
  go_end0
  exact ⟨rfl, rfl⟩

theorem must_err (n : Int) (hn : (n == 0) = false) (w : World) :
    Calls Try.prog 80 #[.int .i64 n] w fun e w' => e = .panicked [{ v := .iface 27 (.int .i64 n), recovered := false }] ∧ w = w' := by
  go_enter Try.func80, Try.ntmps80
  go_wp2
  exact ⟨rfl, rfl, rfl⟩

theorem assert_errno (v : Value) (w : World) : (Instr.typeAssert (.iface 27 v) 20 27 true).run Try.prog w = .ok (.tuple #[v, .bool true]) w := by kernel_rfl

theorem zero_errno (w : World) : (zeroValue 27).run Try.prog w = .ok (.int .i64 0) w := by kernel_rfl

theorem assert_other (T : TypeId) (hT : T ≠ 27) (v : Value) (w : World) : (Instr.typeAssert (.iface T v) 20 27 true).run Try.prog w = .ok (.tuple #[.int .i64 0, .bool false]) w := by
  simp [Instr.typeAssert, run_underlying Try.underlying27, hT, go_sem]

theorem run_catch_idle (p : Addr) (w : World) :
    CallsD Try.prog 84 #[.pointer (some p)] .returning w fun e u' w' => e = .returned (.tuple #[]) ∧ u' = .returning ∧ w = w' := by
  refine callsD_of_wpS Try.func84 rfl fun c₀ cs hu => ?_
  apply wpS_seq
  apply wpS_region
  simp [wpOpsS, go_sem, recoverD, hu, Try.ntmps84, Exit.thenS]
  refine wpS_of_wp (wp_mono (Q := fun e a' w' => e = .normal ∧ a'.defers = [] ∧ w = w') ?_ ?_)
  · simp only [Array.replicate_succ, Array.replicate_zero, List.push_toArray, List.nil_append, List.cons_append]
    go_wp2
  · rintro e a' w' ⟨rfl, hd, rfl⟩
    cases c₀
    simp_all [bodyPostS, results, Try.results84]

theorem run_catch_errno (p : Addr) (n x : Int) (older : List PanicEntry) (w : World) (hc : w.cell? p = some (.int .i64 x)) (hz : w.frozen? p = false) :
    CallsD Try.prog 84 #[.pointer (some p)] (.panicking ({ v := .iface 27 (.int .i64 n), recovered := false } :: older)) w fun e u' w' =>
      e = .returned (.tuple #[]) ∧ u' = .panicking ({ v := .iface 27 (.int .i64 n), recovered := true } :: older) ∧ w.setCell p (.int .i64 n) = w' := by
  have hta := assert_errno
  refine callsD_of_wpS Try.func84 rfl fun c₀ cs hu => ?_
  apply wpS_seq
  apply wpS_region
  simp [wpOpsS, go_sem, recoverD, hu, Try.ntmps84, Exit.thenS]
  refine wpS_of_wp (wp_mono (Q := fun e a' w' => e = .normal ∧ a'.defers = [] ∧ w.setCell p (.int .i64 n) = w') ?_ ?_)
  · clear hu c₀
    simp only [Array.replicate_succ, Array.replicate_zero, List.push_toArray, List.nil_append, List.cons_append]
    go_wp2
  · rintro e a' w' ⟨rfl, hd, rfl⟩
    simp_all [bodyPostS, results, Try.results84]

theorem run_catch_other (p : Addr) (T : TypeId) (v : Value) (hT : T ≠ 27) (older : List PanicEntry) (w : World) :
    CallsD Try.prog 84 #[.pointer (some p)] (.panicking ({ v := .iface T v, recovered := false } :: older)) w fun e u' w' =>
      e = .panicked [{ v := .iface T v, recovered := false }] ∧ u' = .panicking ({ v := .iface T v, recovered := true } :: older) ∧ w = w' := by
  have hta := assert_other T hT
  clear hT
  refine callsD_of_wpS Try.func84 rfl fun c₀ cs hu => ?_
  apply wpS_seq
  apply wpS_region
  simp [wpOpsS, go_sem, recoverD, hu, Try.ntmps84, Exit.thenS]
  refine wpS_of_wp (wp_mono (Q := fun e a' w' => e = .panic [{ v := .iface T v, recovered := false }] ∧ a'.defers = [] ∧ w = w') ?_ ?_)
  · clear hu c₀
    simp only [Array.replicate_succ, Array.replicate_zero, List.push_toArray, List.nil_append, List.cons_append]
    go_wp2
  · rintro e a' w' ⟨rfl, hd, rfl⟩
    simp_all [bodyPostS]

/-- No entry of the chain is a Goexit: what is recovered ahead of it lets the call return. -/
def Calm (older : List PanicEntry) : Prop := older.dropWhile (!·.goexit) = []
theorem Calm.nil : Calm [] := rfl
theorem Calm.cons {v : Value} {r : Bool} {older : List PanicEntry} (h : Calm older) : Calm ({ v, recovered := r } :: older) := by
  unfold Calm at *; simpa [List.dropWhile] using h

/-- A panic of v, a value of type T. -/
def Thrown (T : TypeId) (v : Value) (e : Ending) : Prop := ∃ older, e = .panicked ({ v := .iface T v, recovered := false } :: older) ∧ Calm older

/-- How a closure without results ends: it returns (0), or throws the error n. -/
def Threw (R : Int → World → Prop) (e : Ending) (w : World) : Prop :=
  (e = .returned (.tuple #[]) ∧ R 0 w) ∨ ∃ n, Thrown 27 (.int .i64 n) e ∧ R n w

theorem func_neq_nil (fn : Fn) (a b : Array Value) (w : World) : (binOp .neq 1 (.func fn a b) .nilFunc).run Try.prog w = .ok (.bool true) w := by kernel_rfl
theorem nil_neq_nil (w : World) : (binOp .neq 1 .nilFunc .nilFunc).run Try.prog w = .ok (.bool false) w := by kernel_rfl

/-- Function k has a body of its own: a call of it comes into it. -/
def Enters (k : Nat) : Prop := ∀ (args : Array Value) (w : World), (callFunc k args).run Try.prog w = .ok (.enter k args) w

theorem run_err (k : Nat) (hk : Enters k) (caps : Array Value) (w : World) (R : Int → World → Prop)
    (h : Calls Try.prog k caps (w.alloc (.cells #[.int .i64 0] 27)) (Threw fun n w' => w'.heap[w.heap.size]? = some (.cells #[.int .i64 0] 27 (0, 0)) ∧ R n w')) :
    Calls Try.prog 78 #[.func (.func k) #[] caps] w fun e w' => ∃ n w1, e = .returned (.int .i64 n) ∧ R n w1 ∧ w' = w1.setCell ⟨w.heap.size, 0, none⟩ (.int .i64 n) := by
  have hmf : ∀ (fn : Fn) (first cap : Array Value) (w : World), (Instr.makeFunc fn first cap).run Try.prog w = .ok (.func fn first cap) w := fun _ _ _ _ => rfl
  have hne := func_neq_nil
  have H : Hid (Calls Try.prog k caps (w.alloc (.cells #[.int .i64 0] 27)) (Threw fun n w' => w'.heap[w.heap.size]? = some (.cells #[.int .i64 0] 27 (0, 0)) ∧ R n w')) := h
  clear h
  unfold Enters at hk
  go_enter_defers Try.func78, Try.ntmps78
  go_wp2_with fail
  refine H.out.mono ?_
  rintro e w1 (⟨rfl, hb, hR⟩ | ⟨n, ⟨older, rfl, hcalm⟩, hb, hR⟩)
  · have hc := cell_of_one hb
    have hf := free_of_one hb
    have hb' := one_setCell (u := .int .i64 0) hb
    clear hb
    go_wp2
    refine leaves_cons (f := 84) (args := #[.pointer (some ⟨w.heap.size, 0, none⟩)]) (by simp) (by simp [go_sem]) ?_
    refine (run_catch_idle ⟨w.heap.size, 0, none⟩ _).mono ?_
    rintro e u' w'' ⟨rfl, rfl, rfl⟩
    simp [Leaves, settle, results, Try.results78, go_sem, cell_of_one hb']
    exact ⟨w1, hR, rfl⟩
  · have hb' := one_setCell (u := .int .i64 n) hb
    refine leaves_cons (f := 84) (args := #[.pointer (some ⟨w.heap.size, 0, none⟩)]) (by simp) (by simp [go_sem]) ?_
    refine (run_catch_errno ⟨w.heap.size, 0, none⟩ n 0 older _ (cell_of_one hb) (free_of_one hb)).mono ?_
    rintro e u' w'' ⟨rfl, rfl, rfl⟩
    unfold Calm at hcalm
    simp [Leaves, settle, hcalm, results, Try.results78, go_sem, cell_of_one hb']
    exact ⟨w1, hR, rfl⟩

theorem run_blown (k : Nat) (hk : Enters k) (caps : Array Value) (w : World) (T : TypeId) (hT : T ≠ 27) (v : Value) (R : World → Prop)
    (h : Calls Try.prog k caps (w.alloc (.cells #[.int .i64 0] 27)) fun e w' => Thrown T v e ∧ R w') :
    Calls Try.prog 78 #[.func (.func k) #[] caps] w fun e w' => Thrown T v e ∧ R w' := by
  have hmf : ∀ (fn : Fn) (first cap : Array Value) (w : World), (Instr.makeFunc fn first cap).run Try.prog w = .ok (.func fn first cap) w := fun _ _ _ _ => rfl
  have hne := func_neq_nil
  have H : Hid (Calls Try.prog k caps (w.alloc (.cells #[.int .i64 0] 27)) fun e w' => Thrown T v e ∧ R w') := h
  clear h
  unfold Enters at hk
  go_enter_defers Try.func78, Try.ntmps78
  go_wp2_with fail
  refine H.out.mono ?_
  rintro e w1 ⟨⟨older, rfl, hcalm⟩, hR⟩
  refine leaves_cons (f := 84) (args := #[.pointer (some ⟨w.heap.size, 0, none⟩)]) (by simp) (by simp [go_sem]) ?_
  refine (run_catch_other ⟨w.heap.size, 0, none⟩ T v hT older _).mono ?_
  rintro e u' w'' ⟨rfl, rfl, rfl⟩
  simp only [Leaves, raised]
  exact ⟨⟨_, rfl, hcalm.cons⟩, hR⟩

/-- Run, told by what is kept: what the closure writes lies below, and what is said of it hangs on what lies below. -/
theorem run_kept (k : Nat) (hk : Enters k) (caps : Array Value) (w : World) (S : List Nat) (hS : ∀ b ∈ S, b < w.heap.size) (Q : Int → World → Prop)
    (hQ : ∀ n W W', Q n W → Below w.heap.size W W' → Q n W')
    (h : Calls Try.prog k caps (w.alloc (.cells #[.int .i64 0] 27)) (Threw fun n w' => Kept S (w.alloc (.cells #[.int .i64 0] 27)) w' ∧ Q n w')) :
    Calls Try.prog 78 #[.func (.func k) #[] caps] w fun e w' => ∃ n, e = .returned (.int .i64 n) ∧ Kept S w w' ∧ Q n w' := by
  have hnew : ∀ {W'}, Kept S (w.alloc (.cells #[.int .i64 0] 27)) W' → W'.heap[w.heap.size]? = some (.cells #[.int .i64 0] 27 (0, 0)) := fun hk =>
    hk.at (heap_alloc_new' _ _) (fun hm => by have := hS _ hm; omega)
  refine (run_err k hk caps w (fun n w' => Kept S (w.alloc (.cells #[.int .i64 0] 27)) w' ∧ Q n w') (h.mono ?_)).mono ?_
  · rintro e w' (⟨he, hk, hq⟩ | ⟨n, he, hk, hq⟩)
    · exact Or.inl ⟨he, hnew hk, hk, hq⟩
    · exact Or.inr ⟨n, he, hnew hk, hk, hq⟩
  · rintro e w' ⟨n, w1, rfl, ⟨hk, hq⟩, rfl⟩
    exact ⟨n, rfl, (((Kept.refl S w).alloc _).trans hk).setCell (fun h => absurd h (Nat.lt_irrefl _)) _, hQ _ _ _ hq (Below.of_setCell w1 (p := ⟨w.heap.size, 0, none⟩) (Nat.le_refl _) _)⟩

theorem run_nil (w : World) :
    Calls Try.prog 78 #[.nilFunc] w fun e w' => e = .returned (.int .i64 0) ∧ w' = (w.alloc (.cells #[.int .i64 0] 27)).setCell ⟨w.heap.size, 0, none⟩ (.int .i64 0) := by
  have hmf : ∀ (fn : Fn) (first cap : Array Value) (w : World), (Instr.makeFunc fn first cap).run Try.prog w = .ok (.func fn first cap) w := fun _ _ _ _ => rfl
  have hne := nil_neq_nil
  go_enter_defers Try.func78, Try.ntmps78
  go_wp2
  refine leaves_cons (f := 84) (args := #[.pointer (some ⟨w.heap.size, 0, none⟩)]) (by simp) (by simp [go_sem]) ?_
  refine (run_catch_idle ⟨w.heap.size, 0, none⟩ _).mono ?_
  rintro e u' w'' ⟨rfl, rfl, rfl⟩
  simp [Leaves, settle, results, Try.results78, go_sem]
end Go.Proofs.Ytnkolgamnakegaa
