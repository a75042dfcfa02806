
/- guard.Value, guard.NewFuse, Left, Step, Catch. -/
import Derived.Test.YtnkolgamnakegaaG1
import Derived.LaidEqlPtr
namespace Go.Proofs.Ytnkolgamnakegaa
open Go.RowKit

theorem newfuse_any (n : Int) (h0 : 0 ≤ n) (w : World) :
    Calls Try.prog 10 #[.int .i64 n] w fun e w' => e = .returned (.pointer (some ⟨w.heap.size, 0, none⟩)) ∧ w.alloc (.cells #[.int .i64 n] 89) = w' := by
  go_enter Try.func10, Try.ntmps10
  go_wp2
  go_ret
  exact ⟨rfl, rfl⟩

theorem step_some (b : Nat) (n : Int) (h0 : 0 < n) (hn : n ≤ 9223372036854775807) (w : World) (hb : w.heap[b]? = some (.cells #[.int .i64 n] 89 (0, 0))) :
    Calls Try.prog 75 #[.pointer (some ⟨b, 0, none⟩)] w fun e w' => e = .returned (.tuple #[]) ∧ w.setCell ⟨b, 0, none⟩ (.int .i64 (n - 1)) = w' := by
  have hc := cell_of_one hb
  have hf := free_of_one hb
  have h1 : (n == -1) = false := by simp; omega
  have h2 : (n == 0) = false := by simp; omega
  clear hb
  go_enter Try.func75, Try.ntmps75
  go_wp2
  go_end0
  exact ⟨rfl, rfl⟩

theorem step_none (b : Nat) (w : World) (hb : w.heap[b]? = some (.cells #[.int .i64 0] 89 (0, 0))) :
    Calls Try.prog 75 #[.pointer (some ⟨b, 0, none⟩)] w fun e w' => Thrown 92 (.agg #[.pointer (some ⟨b, 0, none⟩)]) e ∧ w = w' := by
  have hc := cell_of_one hb
  clear hb
  go_enter Try.func75, Try.ntmps75
  go_wp2
  exact ⟨rfl, ⟨_, rfl, Calm.nil⟩, rfl⟩

theorem assert_blown (v : Value) (w : World) : (Instr.typeAssert (.iface 92 v) 20 92 true).run Try.prog w = .ok (.tuple #[v, .bool true]) w := by kernel_rfl

theorem catch_idle (p q : Addr) (w : World) :
    CallsD Try.prog 41 #[.pointer (some p), .pointer (some q)] .returning w fun e u' w' => e = .returned (.tuple #[]) ∧ u' = .returning ∧ w = w' := by
  refine callsD_of_wpS Try.func41 rfl fun c₀ cs hu => ?_
  apply wpS_seq
  apply wpS_region
  simp [wpOpsS, go_sem, recoverD, hu, Try.ntmps41, Exit.thenS]
  refine wpS_of_wp (wp_mono (Q := fun e a' w' => e = .normal ∧ a'.defers = [] ∧ w = w') ?_ ?_)
  · clear hu c₀
    simp only [Array.replicate_succ, Array.replicate_zero, List.push_toArray, List.nil_append, List.cons_append]
    go_wp2
  · rintro e a' w' ⟨rfl, hd, rfl⟩
    cases c₀
    simp_all [bodyPostS, results, Try.results41]

theorem fuse_ptr_same (a : Addr) (w : World) : (binOp .neq 30 (.pointer (some a)) (.pointer (some a))).run Try.prog w = .ok (.bool false) w := by
  have h : ∀ d : Nat, (Op.equalIn (d + 1) 30 (.pointer (some a)) (.pointer (some a))).run Try.prog w = .ok true w := fun d => by
    have hs : (Try.prog.info? 89).isSome = true := by kernel_rfl
    obtain ⟨j, hte⟩ := Option.isSome_iff_exists.1 hs
    simp [Op.equalIn, run_underlying Try.underlying30, sizeOf, typeInfo, hte, run_sameAddr_same]
  simp only [binOp]
  simp [Op.equal, Op.maxDepth, h 9999]

theorem catch_own (p q f : Addr) (b : Bool) (older : List PanicEntry) (w : World) (hp : w.cell? p = some (.pointer (some f))) (hpl : p.block < w.heap.size) (hc : w.cell? q = some (.bool b)) (hz : w.frozen? q = false) (hql : q.block < w.heap.size) :
    CallsD Try.prog 41 #[.pointer (some p), .pointer (some q)] (.panicking ({ v := .iface 92 (.agg #[.pointer (some f)]), recovered := false } :: older)) w fun e u' w' =>
      e = .returned (.tuple #[]) ∧ u' = .panicking ({ v := .iface 92 (.agg #[.pointer (some f)]), recovered := true } :: older) ∧ (w.alloc (.cells #[.pointer (some f)] 92)).setCell q (.bool true) = w' := by
  have hta := assert_blown
  have hsame := fuse_ptr_same
  have hc' : (w.alloc (.cells #[.pointer (some f)] 92)).cell? q = some (.bool b) := (((Kept.refl [] w).alloc _).cell hql (by simp)).trans hc
  have hz' : (w.alloc (.cells #[.pointer (some f)] 92)).frozen? q = false := (((Kept.refl [] w).alloc _).frozen hql (by simp)).trans hz
  have hp' : (w.alloc (.cells #[.pointer (some f)] 92)).cell? p = some (.pointer (some f)) := (((Kept.refl [] w).alloc _).cell hpl (by simp)).trans hp
  refine callsD_of_wpS Try.func41 rfl fun c₀ cs hu => ?_
  apply wpS_seq
  apply wpS_region
  simp [wpOpsS, go_sem, recoverD, hu, Try.ntmps41, Exit.thenS]
  refine wpS_of_wp (wp_mono (Q := fun e a' w' => e = .normal ∧ a'.defers = [] ∧ (w.alloc (.cells #[.pointer (some f)] 92)).setCell q (.bool true) = w') ?_ ?_)
  · clear hu c₀ hp hc hz
    simp only [Array.replicate_succ, Array.replicate_zero, List.push_toArray, List.nil_append, List.cons_append]
    go_wp2
  · rintro e a' w' ⟨rfl, hd, rfl⟩
    simp_all [bodyPostS, results, Try.results41]

/-- A closure that returns: the fuse did not blow. -/
theorem catch_ret (f : Addr) (k : Nat) (hk : Enters k) (caps : Array Value) (w : World) (S : List Nat) (hS : ∀ b ∈ S, b < w.heap.size) (Q : World → Prop)
    (hQ : ∀ W W', Q W → Below w.heap.size W W' → Q W')
    (h : Calls Try.prog k caps ((w.alloc (.cells #[.pointer (some f)] 30)).alloc (.cells #[.bool false] 4)) fun e w' => e = .returned (.tuple #[]) ∧ Kept S ((w.alloc (.cells #[.pointer (some f)] 30)).alloc (.cells #[.bool false] 4)) w' ∧ Q w') :
    Calls Try.prog 13 #[.pointer (some f), .func (.func k) #[] caps] w fun e w' => e = .returned (.bool false) ∧ Kept S w w' ∧ Q w' := by
  have hmf : ∀ (fn : Fn) (first cap : Array Value) (w : World), (Instr.makeFunc fn first cap).run Try.prog w = .ok (.func fn first cap) w := fun _ _ _ _ => rfl
  have hne := func_neq_nil
  have H : Hid (Calls Try.prog k caps ((w.alloc (.cells #[.pointer (some f)] 30)).alloc (.cells #[.bool false] 4)) fun e w' => e = .returned (.tuple #[]) ∧ Kept S ((w.alloc (.cells #[.pointer (some f)] 30)).alloc (.cells #[.bool false] 4)) w' ∧ Q w') := h
  have HS : Hid (∀ b ∈ S, b < w.heap.size) := hS
  have HQ : Hid (∀ W W', Q W → Below w.heap.size W W' → Q W') := hQ
  clear h hS hQ
  unfold Enters at hk
  go_enter_defers Try.func13, Try.ntmps13
  go_wp2_with fail
  refine H.out.mono ?_
  rintro e w1 ⟨rfl, hkept, hq⟩
  have hb : w1.heap[w.heap.size + 1]? = some (.cells #[.bool false] 4 (0, 0)) :=
    hkept.at (by have := heap_alloc_new' (w.alloc (.cells #[.pointer (some f)] 30)) (.cells #[.bool false] 4); simpa using this) (fun hm => by have := HS.out _ hm; omega)
  have hc := cell_of_one hb
  have hf := free_of_one hb
  have hb' := one_setCell (u := .bool false) hb
  have HK : Hid (Kept S w w1) := ((((Kept.refl S w).alloc _).alloc _).trans hkept)
  clear hb hkept
  go_wp2
  refine leaves_cons (f := 41) (args := #[.pointer (some ⟨w.heap.size, 0, none⟩), .pointer (some ⟨w.heap.size + 1, 0, none⟩)]) (by simp) (by simp [go_sem]) ?_
  refine (catch_idle ⟨w.heap.size, 0, none⟩ ⟨w.heap.size + 1, 0, none⟩ _).mono ?_
  rintro e u' w'' ⟨rfl, rfl, rfl⟩
  simp [Leaves, settle, results, Try.results13, go_sem, cell_of_one hb']
  exact ⟨HK.out.setCell (fun h => absurd h (by simp)) _, HQ.out _ _ hq (Below.of_setCell _ (p := ⟨w.heap.size + 1, 0, none⟩) (by simp) _)⟩

/-- A closure that blows the fuse. -/
theorem catch_blown (f : Addr) (k : Nat) (hk : Enters k) (caps : Array Value) (w : World) (S : List Nat) (hS : ∀ b ∈ S, b < w.heap.size) (Q : World → Prop)
    (hQ : ∀ W W', Q W → Below w.heap.size W W' → Q W')
    (h : Calls Try.prog k caps ((w.alloc (.cells #[.pointer (some f)] 30)).alloc (.cells #[.bool false] 4)) fun e w' => Thrown 92 (.agg #[.pointer (some f)]) e ∧ Kept S ((w.alloc (.cells #[.pointer (some f)] 30)).alloc (.cells #[.bool false] 4)) w' ∧ Q w') :
    Calls Try.prog 13 #[.pointer (some f), .func (.func k) #[] caps] w fun e w' => e = .returned (.bool true) ∧ Kept S w w' ∧ Q w' := by
  have hmf : ∀ (fn : Fn) (first cap : Array Value) (w : World), (Instr.makeFunc fn first cap).run Try.prog w = .ok (.func fn first cap) w := fun _ _ _ _ => rfl
  have hne := func_neq_nil
  have H : Hid (Calls Try.prog k caps ((w.alloc (.cells #[.pointer (some f)] 30)).alloc (.cells #[.bool false] 4)) fun e w' => Thrown 92 (.agg #[.pointer (some f)]) e ∧ Kept S ((w.alloc (.cells #[.pointer (some f)] 30)).alloc (.cells #[.bool false] 4)) w' ∧ Q w') := h
  have HS : Hid (∀ b ∈ S, b < w.heap.size) := hS
  have HQ : Hid (∀ W W', Q W → Below w.heap.size W W' → Q W') := hQ
  clear h hS hQ
  unfold Enters at hk
  go_enter_defers Try.func13, Try.ntmps13
  go_wp2_with fail
  refine H.out.mono ?_
  rintro e w1 ⟨⟨older, rfl, hcalm⟩, hkept, hq⟩
  have hb : w1.heap[w.heap.size + 1]? = some (.cells #[.bool false] 4 (0, 0)) :=
    hkept.at (by have := heap_alloc_new' (w.alloc (.cells #[.pointer (some f)] 30)) (.cells #[.bool false] 4); simpa using this) (fun hm => by have := HS.out _ hm; omega)
  have hb0 : w1.heap[w.heap.size]? = some (.cells #[.pointer (some f)] 30 (0, 0)) :=
    hkept.at (heap_alloc_old (heap_alloc_new' _ _)) (fun hm => by have := HS.out _ hm; omega)
  have hk1 := ((((Kept.refl S w).alloc _).alloc _).trans hkept)
  refine leaves_cons (f := 41) (args := #[.pointer (some ⟨w.heap.size, 0, none⟩), .pointer (some ⟨w.heap.size + 1, 0, none⟩)]) (by simp) (by simp [go_sem]) ?_
  refine (catch_own ⟨w.heap.size, 0, none⟩ ⟨w.heap.size + 1, 0, none⟩ f false older _ (cell_of_one hb0) (lt_of_block hb0) (cell_of_one hb) (free_of_one hb) (lt_of_block hb)).mono ?_
  rintro e u' w'' ⟨rfl, rfl, rfl⟩
  have hb' := one_setCell (u := .bool true) (heap_alloc_old (o := .cells #[.pointer (some f)] 92) hb)
  unfold Calm at hcalm
  simp [Leaves, settle, hcalm, results, Try.results13, go_sem, cell_of_one hb']
  exact ⟨(hk1.alloc _).setCell (fun h => absurd h (by simp)) _, HQ.out _ _ hq ((Below.of_alloc _ (by have := hk1.size; omega) _).setCell (p := ⟨w.heap.size + 1, 0, none⟩) (by simp) _)⟩
end Go.Proofs.Ytnkolgamnakegaa
