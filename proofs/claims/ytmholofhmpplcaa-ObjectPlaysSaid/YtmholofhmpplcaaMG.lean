import Derived.Test.YtmholofhmpplcaaRows
import Derived.WalkKit
import Derived.WalkSpells
import Derived.WalkLawsBesides
import Derived.Test.YtmholofhmpplcaaLib
import Derived.LaidEqlPtr
import Derived.Handy

/- guard.Must, guard.Run and its deferred closure: what each call does. -/
namespace Go.Proofs.Ytmholofhmpplcaa
open Go.RowKit

theorem must_ok (w : World) :
    Calls Try.prog 55 #[.int .i64 0] w fun e w' => e = .returned (.tuple #[]) ∧ w = w' := by
  go_enter Try.func55, Try.ntmps55
  go_wp2
  go_end0
  exact ⟨rfl, rfl⟩

theorem must_err (n : Int) (hn : (n == 0) = false) (w : World) :
    Calls Try.prog 55 #[.int .i64 n] w fun e w' => e = .panicked [{ v := .iface 27 (.int .i64 n), recovered := false }] ∧ w = w' := by
  go_enter Try.func55, Try.ntmps55
  go_wp2
  exact ⟨rfl, rfl, rfl⟩

theorem assert_errno (v : Value) (w : World) : (Instr.typeAssert (.iface 27 v) 20 27 true).run Try.prog w = .ok (.tuple #[v, .bool true]) w := by kernel_rfl

theorem zero_errno (w : World) : (zeroValue 27).run Try.prog w = .ok (.int .i64 0) w := by kernel_rfl

theorem assert_other (T : TypeId) (hT : T ≠ 27) (v : Value) (w : World) : (Instr.typeAssert (.iface T v) 20 27 true).run Try.prog w = .ok (.tuple #[.int .i64 0, .bool false]) w := by
  simp [Instr.typeAssert, run_underlying Try.underlying27, hT, go_sem]

theorem run_catch_idle (p : Addr) (w : World) :
    CallsD Try.prog 59 #[.pointer (some p)] .returning w fun e u' w' => e = .returned (.tuple #[]) ∧ u' = .returning ∧ w = w' := by
  refine callsD_of_wpS Try.func59 rfl fun c₀ cs hu => ?_
  apply wpS_seq
  apply wpS_region
  simp [wpOpsS, go_sem, recoverD, hu, Try.ntmps59, Exit.thenS]
  refine wpS_of_wp (wp_mono (Q := fun e a' w' => e = .normal ∧ a'.defers = [] ∧ w = w') ?_ ?_)
  · simp only [Array.replicate_succ, Array.replicate_zero, List.push_toArray, List.nil_append, List.cons_append]
    go_wp2
  · rintro e a' w' ⟨rfl, hd, rfl⟩
    cases c₀
    simp_all [bodyPostS, results, Try.results59]

theorem run_catch_errno (p : Addr) (n x : Int) (older : List PanicEntry) (w : World) (hc : w.cell? p = some (.int .i64 x)) (hz : w.frozen? p = false) :
    CallsD Try.prog 59 #[.pointer (some p)] (.panicking ({ v := .iface 27 (.int .i64 n), recovered := false } :: older)) w fun e u' w' =>
      e = .returned (.tuple #[]) ∧ u' = .panicking ({ v := .iface 27 (.int .i64 n), recovered := true } :: older) ∧ w.setCell p (.int .i64 n) = w' := by
  have hta := assert_errno
  refine callsD_of_wpS Try.func59 rfl fun c₀ cs hu => ?_
  apply wpS_seq
  apply wpS_region
  simp [wpOpsS, go_sem, recoverD, hu, Try.ntmps59, Exit.thenS]
  refine wpS_of_wp (wp_mono (Q := fun e a' w' => e = .normal ∧ a'.defers = [] ∧ w.setCell p (.int .i64 n) = w') ?_ ?_)
  · clear hu c₀
    simp only [Array.replicate_succ, Array.replicate_zero, List.push_toArray, List.nil_append, List.cons_append]
    go_wp2
  · rintro e a' w' ⟨rfl, hd, rfl⟩
    simp_all [bodyPostS, results, Try.results59]

theorem run_catch_other (p : Addr) (T : TypeId) (v : Value) (hT : T ≠ 27) (older : List PanicEntry) (w : World) :
    CallsD Try.prog 59 #[.pointer (some p)] (.panicking ({ v := .iface T v, recovered := false } :: older)) w fun e u' w' =>
      e = .panicked [{ v := .iface T v, recovered := false }] ∧ u' = .panicking ({ v := .iface T v, recovered := true } :: older) ∧ w = w' := by
  have hta := assert_other T hT
  clear hT
  refine callsD_of_wpS Try.func59 rfl fun c₀ cs hu => ?_
  apply wpS_seq
  apply wpS_region
  simp [wpOpsS, go_sem, recoverD, hu, Try.ntmps59, Exit.thenS]
  refine wpS_of_wp (wp_mono (Q := fun e a' w' => e = .panic [{ v := .iface T v, recovered := false }] ∧ a'.defers = [] ∧ w = w') ?_ ?_)
  · clear hu c₀
    simp only [Array.replicate_succ, Array.replicate_zero, List.push_toArray, List.nil_append, List.cons_append]
    go_wp2
  · rintro e a' w' ⟨rfl, hd, rfl⟩
    simp_all [bodyPostS]

/-- No entry of the chain is a Goexit: what is recovered ahead of it lets the call return. -/
def Calm (older : List PanicEntry) : Prop := older.dropWhile (!·.goexit) = []
theorem Calm.nil : Calm [] := rfl
theorem Calm.cons {v : Value} {r : Bool} {older : List PanicEntry} (h : Calm older) : Calm ({ v, recovered := r } :: older) := by
  unfold Calm at *; simpa [List.dropWhile] using h

/-- A panic of v, a value of type T. -/
def Thrown (T : TypeId) (v : Value) (e : Ending) : Prop := ∃ older, e = .panicked ({ v := .iface T v, recovered := false } :: older) ∧ Calm older

/-- How a closure without results ends: it returns (0), or throws the error n. -/
def Threw (R : Int → World → Prop) (e : Ending) (w : World) : Prop :=
  (e = .returned (.tuple #[]) ∧ R 0 w) ∨ ∃ n, Thrown 27 (.int .i64 n) e ∧ R n w

theorem func_neq_nil (fn : Fn) (a b : Array Value) (w : World) : (binOp .neq 1 (.func fn a b) .nilFunc).run Try.prog w = .ok (.bool true) w := by kernel_rfl
theorem nil_neq_nil (w : World) : (binOp .neq 1 .nilFunc .nilFunc).run Try.prog w = .ok (.bool false) w := by kernel_rfl

/-- Function k has a body of its own: a call of it comes into it. -/
def Enters (k : Nat) : Prop := ∀ (args : Array Value) (w : World), (callFunc k args).run Try.prog w = .ok (.enter k args) w

theorem run_err (k : Nat) (hk : Enters k) (caps : Array Value) (w : World) (R : Int → World → Prop)
    (h : Calls Try.prog k caps (w.alloc (.cells #[.int .i64 0] 27)) (Threw fun n w' => w'.heap[w.heap.size]? = some (.cells #[.int .i64 0] 27 (0, 0)) ∧ R n w')) :
    Calls Try.prog 53 #[.func (.func k) #[] caps] w fun e w' => ∃ n w1, e = .returned (.int .i64 n) ∧ R n w1 ∧ w' = w1.setCell ⟨w.heap.size, 0, none⟩ (.int .i64 n) := by
  have hmf : ∀ (fn : Fn) (first cap : Array Value) (w : World), (Instr.makeFunc fn first cap).run Try.prog w = .ok (.func fn first cap) w := fun _ _ _ _ => rfl
  have hne := func_neq_nil
  have H : Hid (Calls Try.prog k caps (w.alloc (.cells #[.int .i64 0] 27)) (Threw fun n w' => w'.heap[w.heap.size]? = some (.cells #[.int .i64 0] 27 (0, 0)) ∧ R n w')) := h
  clear h
  unfold Enters at hk
  go_enter_defers Try.func53, Try.ntmps53
  go_wp2_with fail
  refine H.out.mono ?_
  rintro e w1 (⟨rfl, hb, hR⟩ | ⟨n, ⟨older, rfl, hcalm⟩, hb, hR⟩)
  · have hc := cell_of_one hb
    have hf := free_of_one hb
    have hb' := one_setCell (u := .int .i64 0) hb
    clear hb
    go_wp2
    refine leaves_cons (f := 59) (args := #[.pointer (some ⟨w.heap.size, 0, none⟩)]) (by simp) (by simp [go_sem]) ?_
    refine (run_catch_idle ⟨w.heap.size, 0, none⟩ _).mono ?_
    rintro e u' w'' ⟨rfl, rfl, rfl⟩
    simp [Leaves, settle, results, Try.results53, go_sem, cell_of_one hb']
    exact ⟨w1, hR, rfl⟩
  · have hb' := one_setCell (u := .int .i64 n) hb
    refine leaves_cons (f := 59) (args := #[.pointer (some ⟨w.heap.size, 0, none⟩)]) (by simp) (by simp [go_sem]) ?_
    refine (run_catch_errno ⟨w.heap.size, 0, none⟩ n 0 older _ (cell_of_one hb) (free_of_one hb)).mono ?_
    rintro e u' w'' ⟨rfl, rfl, rfl⟩
    unfold Calm at hcalm
    simp [Leaves, settle, hcalm, results, Try.results53, go_sem, cell_of_one hb']
    exact ⟨w1, hR, rfl⟩

theorem run_blown (k : Nat) (hk : Enters k) (caps : Array Value) (w : World) (T : TypeId) (hT : T ≠ 27) (v : Value) (R : World → Prop)
    (h : Calls Try.prog k caps (w.alloc (.cells #[.int .i64 0] 27)) fun e w' => Thrown T v e ∧ R w') :
    Calls Try.prog 53 #[.func (.func k) #[] caps] w fun e w' => Thrown T v e ∧ R w' := by
  have hmf : ∀ (fn : Fn) (first cap : Array Value) (w : World), (Instr.makeFunc fn first cap).run Try.prog w = .ok (.func fn first cap) w := fun _ _ _ _ => rfl
  have hne := func_neq_nil
  have H : Hid (Calls Try.prog k caps (w.alloc (.cells #[.int .i64 0] 27)) fun e w' => Thrown T v e ∧ R w') := h
  clear h
  unfold Enters at hk
  go_enter_defers Try.func53, Try.ntmps53
  go_wp2_with fail
  refine H.out.mono ?_
  rintro e w1 ⟨⟨older, rfl, hcalm⟩, hR⟩
  refine leaves_cons (f := 59) (args := #[.pointer (some ⟨w.heap.size, 0, none⟩)]) (by simp) (by simp [go_sem]) ?_
  refine (run_catch_other ⟨w.heap.size, 0, none⟩ T v hT older _).mono ?_
  rintro e u' w'' ⟨rfl, rfl, rfl⟩
  simp only [Leaves, raised]
  exact ⟨⟨_, rfl, hcalm.cons⟩, hR⟩

/-- Run, told by what is kept: what the closure writes lies below, and what is said of it hangs on what lies below. -/
theorem run_kept (k : Nat) (hk : Enters k) (caps : Array Value) (w : World) (S : List Nat) (hS : ∀ b ∈ S, b < w.heap.size) (Q : Int → World → Prop)
    (hQ : ∀ n W W', Q n W → Below w.heap.size W W' → Q n W')
    (h : Calls Try.prog k caps (w.alloc (.cells #[.int .i64 0] 27)) (Threw fun n w' => Kept S (w.alloc (.cells #[.int .i64 0] 27)) w' ∧ Q n w')) :
    Calls Try.prog 53 #[.func (.func k) #[] caps] w fun e w' => ∃ n, e = .returned (.int .i64 n) ∧ Kept S w w' ∧ Q n w' := by
  have hnew : ∀ {W'}, Kept S (w.alloc (.cells #[.int .i64 0] 27)) W' → W'.heap[w.heap.size]? = some (.cells #[.int .i64 0] 27 (0, 0)) := fun hk =>
    hk.at (heap_alloc_new' _ _) (fun hm => by have := hS _ hm; omega)
  refine (run_err k hk caps w (fun n w' => Kept S (w.alloc (.cells #[.int .i64 0] 27)) w' ∧ Q n w') (h.mono ?_)).mono ?_
  · rintro e w' (⟨he, hk, hq⟩ | ⟨n, he, hk, hq⟩)
    · exact Or.inl ⟨he, hnew hk, hk, hq⟩
    · exact Or.inr ⟨n, he, hnew hk, hk, hq⟩
  · rintro e w' ⟨n, w1, rfl, ⟨hk, hq⟩, rfl⟩
    exact ⟨n, rfl, (((Kept.refl S w).alloc _).trans hk).setCell (fun h => absurd h (Nat.lt_irrefl _)) _, hQ _ _ _ hq (Below.of_setCell w1 (p := ⟨w.heap.size, 0, none⟩) (Nat.le_refl _) _)⟩

theorem run_nil (w : World) :
    Calls Try.prog 53 #[.nilFunc] w fun e w' => e = .returned (.int .i64 0) ∧ w' = (w.alloc (.cells #[.int .i64 0] 27)).setCell ⟨w.heap.size, 0, none⟩ (.int .i64 0) := by
  have hmf : ∀ (fn : Fn) (first cap : Array Value) (w : World), (Instr.makeFunc fn first cap).run Try.prog w = .ok (.func fn first cap) w := fun _ _ _ _ => rfl
  have hne := nil_neq_nil
  go_enter_defers Try.func53, Try.ntmps53
  go_wp2
  refine leaves_cons (f := 59) (args := #[.pointer (some ⟨w.heap.size, 0, none⟩)]) (by simp) (by simp [go_sem]) ?_
  refine (run_catch_idle ⟨w.heap.size, 0, none⟩ _).mono ?_
  rintro e u' w'' ⟨rfl, rfl, rfl⟩
  simp [Leaves, settle, results, Try.results53, go_sem]
end Go.Proofs.Ytmholofhmpplcaa


/- guard.Value, guard.NewFuse, Left, Step, Catch. -/
namespace Go.Proofs.Ytmholofhmpplcaa
open Go.RowKit

theorem newfuse_any (n : Int) (h0 : 0 ≤ n) (w : World) :
    Calls Try.prog 7 #[.int .i64 n] w fun e w' => e = .returned (.pointer (some ⟨w.heap.size, 0, none⟩)) ∧ w.alloc (.cells #[.int .i64 n] 60) = w' := by
  go_enter Try.func7, Try.ntmps7
  go_wp2
  go_ret
  exact ⟨rfl, rfl⟩

theorem step_some (b : Nat) (n : Int) (h0 : 0 < n) (hn : n ≤ 9223372036854775807) (w : World) (hb : w.heap[b]? = some (.cells #[.int .i64 n] 60 (0, 0))) :
    Calls Try.prog 50 #[.pointer (some ⟨b, 0, none⟩)] w fun e w' => e = .returned (.tuple #[]) ∧ w.setCell ⟨b, 0, none⟩ (.int .i64 (n - 1)) = w' := by
  have hc := cell_of_one hb
  have hf := free_of_one hb
  have h1 : (n == -1) = false := by simp; omega
  have h2 : (n == 0) = false := by simp; omega
  clear hb
  go_enter Try.func50, Try.ntmps50
  go_wp2
  go_end0
  exact ⟨rfl, rfl⟩

theorem step_none (b : Nat) (w : World) (hb : w.heap[b]? = some (.cells #[.int .i64 0] 60 (0, 0))) :
    Calls Try.prog 50 #[.pointer (some ⟨b, 0, none⟩)] w fun e w' => Thrown 63 (.agg #[.pointer (some ⟨b, 0, none⟩)]) e ∧ w = w' := by
  have hc := cell_of_one hb
  clear hb
  go_enter Try.func50, Try.ntmps50
  go_wp2
  exact ⟨rfl, ⟨_, rfl, Calm.nil⟩, rfl⟩

theorem assert_blown (v : Value) (w : World) : (Instr.typeAssert (.iface 63 v) 20 63 true).run Try.prog w = .ok (.tuple #[v, .bool true]) w := by kernel_rfl

theorem catch_idle (p q : Addr) (w : World) :
    CallsD Try.prog 24 #[.pointer (some p), .pointer (some q)] .returning w fun e u' w' => e = .returned (.tuple #[]) ∧ u' = .returning ∧ w = w' := by
  refine callsD_of_wpS Try.func24 rfl fun c₀ cs hu => ?_
  apply wpS_seq
  apply wpS_region
  simp [wpOpsS, go_sem, recoverD, hu, Try.ntmps24, Exit.thenS]
  refine wpS_of_wp (wp_mono (Q := fun e a' w' => e = .normal ∧ a'.defers = [] ∧ w = w') ?_ ?_)
  · clear hu c₀
    simp only [Array.replicate_succ, Array.replicate_zero, List.push_toArray, List.nil_append, List.cons_append]
    go_wp2
  · rintro e a' w' ⟨rfl, hd, rfl⟩
    cases c₀
    simp_all [bodyPostS, results, Try.results24]

theorem fuse_ptr_same (a : Addr) (w : World) : (binOp .neq 30 (.pointer (some a)) (.pointer (some a))).run Try.prog w = .ok (.bool false) w := by
  have h : ∀ d : Nat, (Op.equalIn (d + 1) 30 (.pointer (some a)) (.pointer (some a))).run Try.prog w = .ok true w := fun d => by
    have hs : (Try.prog.info? 60).isSome = true := by kernel_rfl
    obtain ⟨j, hte⟩ := Option.isSome_iff_exists.1 hs
    simp [Op.equalIn, run_underlying Try.underlying30, sizeOf, typeInfo, hte, run_sameAddr_same]
  simp only [binOp]
  simp [Op.equal, Op.maxDepth, h 9999]

theorem catch_own (p q f : Addr) (b : Bool) (older : List PanicEntry) (w : World) (hp : w.cell? p = some (.pointer (some f))) (hpl : p.block < w.heap.size) (hc : w.cell? q = some (.bool b)) (hz : w.frozen? q = false) (hql : q.block < w.heap.size) :
    CallsD Try.prog 24 #[.pointer (some p), .pointer (some q)] (.panicking ({ v := .iface 63 (.agg #[.pointer (some f)]), recovered := false } :: older)) w fun e u' w' =>
      e = .returned (.tuple #[]) ∧ u' = .panicking ({ v := .iface 63 (.agg #[.pointer (some f)]), recovered := true } :: older) ∧ (w.alloc (.cells #[.pointer (some f)] 63)).setCell q (.bool true) = w' := by
  have hta := assert_blown
  have hsame := fuse_ptr_same
  have hc' : (w.alloc (.cells #[.pointer (some f)] 63)).cell? q = some (.bool b) := (((Kept.refl [] w).alloc _).cell hql (by simp)).trans hc
  have hz' : (w.alloc (.cells #[.pointer (some f)] 63)).frozen? q = false := (((Kept.refl [] w).alloc _).frozen hql (by simp)).trans hz
  have hp' : (w.alloc (.cells #[.pointer (some f)] 63)).cell? p = some (.pointer (some f)) := (((Kept.refl [] w).alloc _).cell hpl (by simp)).trans hp
  refine callsD_of_wpS Try.func24 rfl fun c₀ cs hu => ?_
  apply wpS_seq
  apply wpS_region
  simp [wpOpsS, go_sem, recoverD, hu, Try.ntmps24, Exit.thenS]
  refine wpS_of_wp (wp_mono (Q := fun e a' w' => e = .normal ∧ a'.defers = [] ∧ (w.alloc (.cells #[.pointer (some f)] 63)).setCell q (.bool true) = w') ?_ ?_)
  · clear hu c₀ hp hc hz
    simp only [Array.replicate_succ, Array.replicate_zero, List.push_toArray, List.nil_append, List.cons_append]
    go_wp2
  · rintro e a' w' ⟨rfl, hd, rfl⟩
    simp_all [bodyPostS, results, Try.results24]

/-- A closure that returns: the fuse did not blow. -/
theorem catch_ret (f : Addr) (k : Nat) (hk : Enters k) (caps : Array Value) (w : World) (S : List Nat) (hS : ∀ b ∈ S, b < w.heap.size) (Q : World → Prop)
    (hQ : ∀ W W', Q W → Below w.heap.size W W' → Q W')
    (h : Calls Try.prog k caps ((w.alloc (.cells #[.pointer (some f)] 30)).alloc (.cells #[.bool false] 4)) fun e w' => e = .returned (.tuple #[]) ∧ Kept S ((w.alloc (.cells #[.pointer (some f)] 30)).alloc (.cells #[.bool false] 4)) w' ∧ Q w') :
    Calls Try.prog 10 #[.pointer (some f), .func (.func k) #[] caps] w fun e w' => e = .returned (.bool false) ∧ Kept S w w' ∧ Q w' := by
  have hmf : ∀ (fn : Fn) (first cap : Array Value) (w : World), (Instr.makeFunc fn first cap).run Try.prog w = .ok (.func fn first cap) w := fun _ _ _ _ => rfl
  have hne := func_neq_nil
  have H : Hid (Calls Try.prog k caps ((w.alloc (.cells #[.pointer (some f)] 30)).alloc (.cells #[.bool false] 4)) fun e w' => e = .returned (.tuple #[]) ∧ Kept S ((w.alloc (.cells #[.pointer (some f)] 30)).alloc (.cells #[.bool false] 4)) w' ∧ Q w') := h
  have HS : Hid (∀ b ∈ S, b < w.heap.size) := hS
  have HQ : Hid (∀ W W', Q W → Below w.heap.size W W' → Q W') := hQ
  clear h hS hQ
  unfold Enters at hk
  go_enter_defers Try.func10, Try.ntmps10
  go_wp2_with fail
  refine H.out.mono ?_
  rintro e w1 ⟨rfl, hkept, hq⟩
  have hb : w1.heap[w.heap.size + 1]? = some (.cells #[.bool false] 4 (0, 0)) :=
    hkept.at (by have := heap_alloc_new' (w.alloc (.cells #[.pointer (some f)] 30)) (.cells #[.bool false] 4); simpa using this) (fun hm => by have := HS.out _ hm; omega)
  have hc := cell_of_one hb
  have hf := free_of_one hb
  have hb' := one_setCell (u := .bool false) hb
  have HK : Hid (Kept S w w1) := ((((Kept.refl S w).alloc _).alloc _).trans hkept)
  clear hb hkept
  go_wp2
  refine leaves_cons (f := 24) (args := #[.pointer (some ⟨w.heap.size, 0, none⟩), .pointer (some ⟨w.heap.size + 1, 0, none⟩)]) (by simp) (by simp [go_sem]) ?_
  refine (catch_idle ⟨w.heap.size, 0, none⟩ ⟨w.heap.size + 1, 0, none⟩ _).mono ?_
  rintro e u' w'' ⟨rfl, rfl, rfl⟩
  simp [Leaves, settle, results, Try.results10, go_sem, cell_of_one hb']
  exact ⟨HK.out.setCell (fun h => absurd h (by simp)) _, HQ.out _ _ hq (Below.of_setCell _ (p := ⟨w.heap.size + 1, 0, none⟩) (by simp) _)⟩

/-- A closure that blows the fuse. -/
theorem catch_blown (f : Addr) (k : Nat) (hk : Enters k) (caps : Array Value) (w : World) (S : List Nat) (hS : ∀ b ∈ S, b < w.heap.size) (Q : World → Prop)
    (hQ : ∀ W W', Q W → Below w.heap.size W W' → Q W')
    (h : Calls Try.prog k caps ((w.alloc (.cells #[.pointer (some f)] 30)).alloc (.cells #[.bool false] 4)) fun e w' => Thrown 63 (.agg #[.pointer (some f)]) e ∧ Kept S ((w.alloc (.cells #[.pointer (some f)] 30)).alloc (.cells #[.bool false] 4)) w' ∧ Q w') :
    Calls Try.prog 10 #[.pointer (some f), .func (.func k) #[] caps] w fun e w' => e = .returned (.bool true) ∧ Kept S w w' ∧ Q w' := by
  have hmf : ∀ (fn : Fn) (first cap : Array Value) (w : World), (Instr.makeFunc fn first cap).run Try.prog w = .ok (.func fn first cap) w := fun _ _ _ _ => rfl
  have hne := func_neq_nil
  have H : Hid (Calls Try.prog k caps ((w.alloc (.cells #[.pointer (some f)] 30)).alloc (.cells #[.bool false] 4)) fun e w' => Thrown 63 (.agg #[.pointer (some f)]) e ∧ Kept S ((w.alloc (.cells #[.pointer (some f)] 30)).alloc (.cells #[.bool false] 4)) w' ∧ Q w') := h
  have HS : Hid (∀ b ∈ S, b < w.heap.size) := hS
  have HQ : Hid (∀ W W', Q W → Below w.heap.size W W' → Q W') := hQ
  clear h hS hQ
  unfold Enters at hk
  go_enter_defers Try.func10, Try.ntmps10
  go_wp2_with fail
  refine H.out.mono ?_
  rintro e w1 ⟨⟨older, rfl, hcalm⟩, hkept, hq⟩
  have hb : w1.heap[w.heap.size + 1]? = some (.cells #[.bool false] 4 (0, 0)) :=
    hkept.at (by have := heap_alloc_new' (w.alloc (.cells #[.pointer (some f)] 30)) (.cells #[.bool false] 4); simpa using this) (fun hm => by have := HS.out _ hm; omega)
  have hb0 : w1.heap[w.heap.size]? = some (.cells #[.pointer (some f)] 30 (0, 0)) :=
    hkept.at (heap_alloc_old (heap_alloc_new' _ _)) (fun hm => by have := HS.out _ hm; omega)
  have hk1 := ((((Kept.refl S w).alloc _).alloc _).trans hkept)
  refine leaves_cons (f := 24) (args := #[.pointer (some ⟨w.heap.size, 0, none⟩), .pointer (some ⟨w.heap.size + 1, 0, none⟩)]) (by simp) (by simp [go_sem]) ?_
  refine (catch_own ⟨w.heap.size, 0, none⟩ ⟨w.heap.size + 1, 0, none⟩ f false older _ (cell_of_one hb0) (lt_of_block hb0) (cell_of_one hb) (free_of_one hb) (lt_of_block hb)).mono ?_
  rintro e u' w'' ⟨rfl, rfl, rfl⟩
  have hb' := one_setCell (u := .bool true) (heap_alloc_old (o := .cells #[.pointer (some f)] 63) hb)
  unfold Calm at hcalm
  simp [Leaves, settle, hcalm, results, Try.results10, go_sem, cell_of_one hb']
  exact ⟨(hk1.alloc _).setCell (fun h => absurd h (by simp)) _, HQ.out _ _ hq ((Below.of_alloc _ (by have := hk1.size; omega) _).setCell (p := ⟨w.heap.size + 1, 0, none⟩) (by simp) _)⟩
end Go.Proofs.Ytmholofhmpplcaa


/- guard.All with its outcome, guard.Finally. -/
namespace Go.Proofs.Ytmholofhmpplcaa
open Go.RowKit

theorem must_threw (n : Int) (w : World) : Calls Try.prog 55 #[.int .i64 n] w (Threw fun m w' => m = n ∧ w = w') := by
  by_cases hn : n = 0
  · subst hn
    exact (must_ok w).mono fun e w' ⟨h, hw⟩ => Or.inl ⟨h, rfl, hw⟩
  · exact (must_err n (by simpa using hn) w).mono fun e w' ⟨h, hw⟩ => Or.inr ⟨n, ⟨_, h, Calm.nil⟩, rfl, hw⟩

theorem enters_run1 : Enters 59 := fun args w => by simp [go_sem]
theorem enters_outcome1 : Enters 54 := fun args w => by simp [go_sem]
theorem outcome1_any (k : Nat) (hk : Enters k) (caps : Array Value) (n : Int) (b : Nat) (w : World) (hb : w.heap[b]? = some (.cells #[.func (.func k) #[] caps] 82 (0, 0))) (R : World → Prop)
    (h : Calls Try.prog k caps w fun e w' => e = .returned (.int .i64 n) ∧ R w') :
    Calls Try.prog 54 #[.pointer (some ⟨b, 0, none⟩)] w (Threw fun m w' => m = n ∧ R w') := by
  have hc := cell_of_one hb
  have H : Hid (Calls Try.prog k caps w fun e w' => e = .returned (.int .i64 n) ∧ R w') := h
  clear h hb
  unfold Enters at hk
  go_enter Try.func54, Try.ntmps54
  go_wp2_with fail
  refine H.out.mono ?_
  rintro e w1 ⟨rfl, hR⟩
  go_wp2_with fail
  refine (must_threw n w1).mono ?_
  rintro e w' (⟨rfl, hm, rfl⟩ | ⟨m, ⟨older, rfl, hcalm⟩, hm, rfl⟩)
  · go_wp2
    go_end0
    exact Or.inl ⟨rfl, hm, hR⟩
  · exact ⟨rfl, Or.inr ⟨m, ⟨older, rfl, hcalm⟩, hm, hR⟩⟩

theorem func2_eq_nil (fn : Fn) (a b : Array Value) (w : World) : (binOp .eql 82 (.func fn a b) .nilFunc).run Try.prog w = .ok (.bool false) w := by kernel_rfl

theorem outcome_any (k : Nat) (hk : Enters k) (caps : Array Value) (n : Int) (w : World) (S : List Nat) (hS : ∀ b ∈ S, b < w.heap.size) (Q : World → Prop)
    (hQ : ∀ W W', Q W → Below w.heap.size W W' → Q W')
    (h : ∀ W, Kept [] w W → Calls Try.prog k caps W fun e w' => e = .returned (.int .i64 n) ∧ Kept S W w' ∧ Q w') :
    Calls Try.prog 49 #[.func (.func k) #[] caps] w fun e w' => e = .returned (.int .i64 n) ∧ Kept S w w' ∧ Q w' := by
  have hmf : ∀ (fn : Fn) (first cap : Array Value) (w : World), (Instr.makeFunc fn first cap).run Try.prog w = .ok (.func fn first cap) w := fun _ _ _ _ => rfl
  have hne := func2_eq_nil
  have hrun := run_kept 54 enters_outcome1 #[.pointer (some ⟨w.heap.size, 0, none⟩)] (w.alloc (.cells #[.func (.func k) #[] caps] 82)) S (fun b hb => by have := hS b hb; simp; omega)
    (fun m W => m = n ∧ Q W) (fun m W W' ⟨hm, hq⟩ hb => ⟨hm, hQ _ _ hq (hb.mono (by simp))⟩)
    ((outcome1_any k hk caps n w.heap.size _ (heap_alloc_old (heap_alloc_new' _ _)) _ (h _ (((Kept.refl [] w).alloc _).alloc _))).mono fun e w' hx => by
      rcases hx with ⟨he, hm, hkk, hq⟩ | ⟨m, he, hm, hkk, hq⟩
      · exact Or.inl ⟨he, hkk, hm, hq⟩
      · exact Or.inr ⟨m, he, hkk, hm, hq⟩)
  have H := hid hrun
  clear hrun h hS hQ
  go_enter Try.func49, Try.ntmps49
  go_wp2_with fail
  refine H.out.mono ?_
  rintro e w1 ⟨m, rfl, hkk, rfl, hq⟩
  go_wp2
  go_ret
  exact ⟨rfl, ((Kept.refl S w).alloc _).trans hkk, hq⟩

/-- How far a row of answers comes: the first that is not 0 among those from i on (m of them left). -/
def firstFrom (E : Nat → Int) : Nat → Nat → Nat × Int
  | 0, i => (i, 0)
  | m + 1, i => if E i = 0 then firstFrom E m (i + 1) else (i, E i)

/-- How many steps were begun. -/
def begun (E : Nat → Int) (n : Nat) : Nat := min ((firstFrom E n 0).1 + 1) n

theorem firstFrom_le (E : Nat → Int) : ∀ m i, (firstFrom E m i).1 ≤ i + m ∧ i ≤ (firstFrom E m i).1
  | 0, i => by simp [firstFrom]
  | m + 1, i => by
    have := firstFrom_le E m (i + 1)
    simp only [firstFrom]
    split
    · omega
    · dsimp only; omega

set_option maxHeartbeats 1000000 in
theorem all_any (n : Nat) (hn : n ≤ 4611686018427387904) (b off : Nat) (cap : Nat) (kf : Nat → Nat) (capf : Nat → Array Value) (E : Nat → Int) (w : World) (S : List Nat) (hS : ∀ x ∈ S, x < w.heap.size)
    (ha : b < w.heap.size) (haS : b ∉ S) (hk : ∀ i, i < n → Enters (kf i))
    (hcell : ∀ i, i < n → w.cell? ⟨b, off + i, none⟩ = some (.func (.func (kf i)) #[] (capf i)))
    (St : Nat → World → Prop) (hSt : ∀ i W W', St i W → Below w.heap.size W W' → St i W') (h0 : St 0 w)
    (h : ∀ i, i < n → ∀ W, St i W → Kept S w W → Calls Try.prog (kf i) (capf i) W fun e w' => e = .returned (.int .i64 (E i)) ∧ Kept S W w' ∧ St (i + 1) w') :
    Calls Try.prog 33 #[.slice (some ⟨b, off, none⟩) n cap] w fun e w' =>
      e = .returned (.tuple #[.int .i64 ((firstFrom E n 0).1 : Nat), .int .i64 (firstFrom E n 0).2]) ∧ Kept S w w' ∧ St (begun E n) w' := by
  have HS := hid hS; have Hk := hid hk; have Hcell := hid hcell; have HSt := hid hSt; have H := hid h
  clear hS hk hcell hSt h
  go_enter Try.func33, Try.ntmps33
  go_wp2_with fail
  go_loopw [9] (fun v wr => ∃ i : Nat, i ≤ n ∧ v = .int .i64 i ∧ Kept S w wr ∧ St i wr ∧ Hid (firstFrom E n 0 = firstFrom E (n - i) i)) (fun v _ => n - (intOf v).toNat)
  case atStart => exact ⟨0, Nat.zero_le _, rfl, Kept.refl _ _, h0, rfl⟩
  case round =>
    obtain ⟨i, hi, rfl, hkw, hst, hff⟩ := hrel
    by_cases hlt : i < n
    · have hci : wr.cell? ⟨b, off + i, none⟩ = some (.func (.func (kf i)) #[] (capf i)) := (hkw.cell (p := ⟨b, off + i, none⟩) ha haS).trans (Hcell.out i hlt)
      have hcall := hid (outcome_any (kf i) (Hk.out i hlt) (capf i) (E i) wr S (fun x hx => Nat.lt_of_lt_of_le (HS.out x hx) hkw.size) (St (i + 1))
        (fun W W' hs hb => HSt.out _ _ _ hs (hb.mono hkw.size))
        (fun W hW => H.out i hlt W (HSt.out _ _ _ hst (hW.below hkw.size (fun x hx => absurd hx (by simp)))) (hkw.trans (hW.wider (fun x _ hx => absurd hx (by simp))))))
      have hkw' := hid hkw
      clear hkw hst h0
      by_cases hE : E i = 0
      · have hff' : Hid (firstFrom E n 0 = firstFrom E (n - (i + 1)) (i + 1)) := by
          have := hff.out
          rw [show n - i = (n - (i + 1)) + 1 by omega] at this
          exact hid (by simpa [firstFrom, hE] using this)
        have hE' := hid hE
        clear hE hff
        rw [hE'.out] at hcall
        go_wp2_with fail
        refine hcall.out.mono ?_
        rintro e w1 ⟨rfl, hk1, hs1⟩
        go_wp2
        go_roundw
        case rel => exact ⟨i + 1, by omega, by go_num, hkw'.out.trans hk1, hs1, hff'⟩
        case measure => simp [intOf]; omega
      · have hne : (E i == 0) = false := by simpa using hE
        have hres : Hid (firstFrom E n 0 = (i, E i)) := by
          have := hff.out
          rw [show n - i = (n - (i + 1)) + 1 by omega] at this
          exact hid (by simpa [firstFrom, hE] using this)
        clear hE hff
        go_wp2_with fail
        refine hcall.out.mono ?_
        rintro e w1 ⟨rfl, hk1, hs1⟩
        go_wp2
        go_ret2
        rw [show begun E n = i + 1 by unfold begun; rw [hres.out]; omega, hres.out]
        exact ⟨rfl, hkw'.out.trans hk1, hs1⟩
    · have hin : i = n := by omega
      subst hin
      have hres : Hid (firstFrom E i 0 = (i, 0)) := by
        have := hff.out
        exact hid (by simpa [firstFrom] using this)
      clear hff h0 hlt
      go_wp2
      go_ret2
      rw [show begun E i = i by unfold begun; rw [hres.out]; simp, hres.out]
      exact ⟨rfl, hkw, hst⟩

theorem all_nil (w : World) : Calls Try.prog 33 #[.slice none 0 0] w fun e w' => e = .returned (.tuple #[.int .i64 0, .int .i64 0]) ∧ w = w' := by
  go_enter Try.func33, Try.ntmps33
  go_wp2
  go_rounds 1
  go_ret2
  exact ⟨rfl, rfl⟩

def Fin1 (b : Nat) (n : Int) (S : List Nat) (w : World) (Q : Int → World → Prop) (e : Ending) (w' : World) : Prop :=
  e = .returned (.tuple #[]) ∧ ∃ m, Kept ((b + 1) :: S) w w' ∧ Q m w' ∧ w'.heap[b + 1]? = some (.cells #[.int .i64 (if n = 0 then m else n)] 27 (0, 0))

end Go.Proofs.Ytmholofhmpplcaa
