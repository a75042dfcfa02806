/- roll.Window: a new one, Sum, Reset, oldest, Push. -/
import Derived.Test.YtllcfffpagogbaaDoorR2
import Derived.Deep.RegionLaw
import Derived.Deep.RegionHeld3
import Derived.Deep.DeepCutAuto
namespace Go.Proofs.YtllcfffpagogbaaDoor
open Go.RowKit

theorem Pw.cell {w : World} {p n nx : Nat} {T : UInt8 → Roll.W} {ys : List UInt8} {L : List Value} (_ : Pw T n nx ys L) (hh : w.heap[p]? = some (.cells L.toArray 110 (0, 0))) (i : Nat) : w.cell? ⟨p, i, none⟩ = L[i]? := by
  rw [cell_of_row w _ _ _ _ _ hh]; simp

theorem reset_any (p n : Nat) (T : UInt8 → Roll.W) (ys : List UInt8) (w : World) (h : Win w p T n ys) :
    Calls Tryd.prog 56 #[.pointer (some ⟨p, 0, none⟩)] w fun e w' => e = .returned (.tuple #[]) ∧ Kept [p] w w' ∧ Win w' p T n [] := by
  obtain ⟨nx, L, hh, hp⟩ := h
  have c1 : w.cell? ⟨p, 323, none⟩ = some (U (Roll.sum T (Roll.last n ys))) := (hp.cell hh 323).trans hp.sum
  have c2 : w.cell? ⟨p, 322, none⟩ = some (.int .i64 ((min ys.length n : Nat) : Int)) := (hp.cell hh 322).trans hp.count
  have f1 := frozen_of_row w _ 323 _ _ hh
  have f2 := frozen_of_row w _ 322 _ _ hh
  have H := hid (show Kept [p] w ((w.setCell ⟨p, 322, none⟩ (.int .i64 0)).setCell ⟨p, 323, none⟩ (U 0)) ∧ Win ((w.setCell ⟨p, 322, none⟩ (.int .i64 0)).setCell ⟨p, 323, none⟩ (U 0)) p T n [] from
    ⟨((Kept.refl _ _).setCell (fun _ => by simp) _).setCell (fun _ => by simp) _, nx, _, by
      rw [Go.heap_setCell_same _ p 323 _ _ _ (Go.heap_setCell_same w p 322 _ _ _ hh), List.setIfInBounds_toArray, List.setIfInBounds_toArray], hp.reset⟩)
  clear hh hp
  go_enter Tryd.func56, Tryd.ntmps56
  go_wp2
  go_end0
  exact ⟨rfl, H.out⟩

theorem oldest_raw (p n nx k : Nat) (b : UInt8) (w : World) (c1 : w.cell? ⟨p, 321, none⟩ = some (.int .i64 (nx : Int))) (c2 : w.cell? ⟨p, 256, none⟩ = some (.int .i64 (n : Int))) (c3 : w.cell? ⟨p, 257 + k, none⟩ = some (B b))
    (hk : k = (nx + 64 - n) % 64) (hnx : nx < 64) (h1 : 1 ≤ n) (hn : n ≤ 64) :
    Calls Tryd.prog 83 #[.pointer (some ⟨p, 0, none⟩)] w fun e w' => e = .returned (B b) ∧ w.drew = w' := by
  have hmod : ((nx : Int) + 64 - (n : Int)).tmod 64 = (k : Int) := by rw [Int.tmod_eq_emod_of_nonneg (by omega)]; omega
  have hk64 : k < 64 := by omega
  clear hk
  go_enter Tryd.func83, Tryd.ntmps83
  go_wp2_with fail
  go_region
  go_wp2
  go_ret
  exact ⟨rfl, rfl⟩

theorem built_window (T : UInt8 → Roll.W) (n : Nat) : Tryd.prog.built 110 [(0, .agg (tabL T).toArray), (1, .int .i64 (n : Int))] = some (newL T n).toArray := by kernel_rfl

theorem tabL_one (T : UInt8 → Roll.W) : (tabL T).toArray.all (·.oneCell') = true := by
  rw [Array.all_eq_true_iff_forall_mem]
  intro x hx
  simp only [List.mem_toArray, tabL, List.mem_map] at hx
  obtain ⟨_, _, rfl⟩ := hx
  rfl

theorem plain_add (g o j : Nat) : (⟨g, o, none⟩ : Addr).add j = ⟨g, o + j, none⟩ := by unfold Addr.add; split <;> simp_all
theorem wpList_build_two {P : Program} {ops : Array Oper} {rest : List Oper} {o : Oper} {a : Act} {w : World} {Q : Exit → Act → World → Prop} (hg : o.guard = none) (t : TypeId) (i j : Nat) (x y : Operand) (ho : o.op = .build t #[(i, x), (j, y)])
    (u v : Value) (hx : a.eval x = u) (hy : a.eval y = v) (cells : Array Value) (hc : P.built t [(i, u), (j, v)] = some cells) (h : wpList P ops Q rest (a.put o.dst (.agg cells)) w) : wpList P ops Q (o :: rest) a w := by
  have hc' : P.built t ((#[(i, x), (j, y)] : Array (Nat × Operand)).map fun (i, x) => (i, a.eval x)).toList = some cells := by simpa [hx, hy] using hc
  exact wpList_build hg t _ ho (by rw [hc']; rfl) (by rw [hc']; exact h)

theorem window_bad (k : Int) (hk : k < 1 ∨ 64 < k) (g : Value) (w : World) :
    Calls Tryd.prog 32 #[g, .int .i64 k] w fun e w' => e = .returned (.tuple #[.pointer none, .int .i64 1]) ∧ w = w' := by
  by_cases h1 : k < 1
  · go_enter Tryd.func32, Tryd.ntmps32
    go_wp2
    go_ret2
    exact ⟨rfl, rfl⟩
  · have h2 : 64 < k := by omega
    go_enter Tryd.func32, Tryd.ntmps32
    go_wp2
    go_ret2
    exact ⟨rfl, rfl⟩

set_option maxRecDepth 100000 in
set_option maxHeartbeats 1000000 in
theorem window_ok (p n : Nat) (T : UInt8 → Roll.W) (w : World) (h1 : 1 ≤ n) (hn : n ≤ 64) (h : Tb w p 0 T) :
    Calls Tryd.prog 32 #[.pointer (some ⟨p, 0, none⟩), .int .i64 (n : Int)] w fun e w' => e = .returned (.tuple #[.pointer (some ⟨w.heap.size, 0, none⟩), .int .i64 0]) ∧ Kept [] w w' ∧ Win w' w.heap.size T n [] := by
  obtain ⟨cs, hcs⟩ : ∃ cs, cs = tabL T := ⟨_, rfl⟩
  obtain ⟨L, hL⟩ : ∃ L, L = newL T n := ⟨_, rfl⟩
  have hcl : cs.length = 256 := by rw [hcs]; exact tabL_len T
  have hsz : (Tryd.prog.info? 106).map (·.size) = some cs.length := by rw [hcl]; kernel_rfl
  have hload : ∀ (j : Nat) v, cs[j]? = some v → w.cell? ((⟨p, 0, none⟩ : Addr).add j) = some v := by
    intro j v hj
    have hj2 : j < 256 := by rw [← hcl]; exact (List.getElem?_eq_some_iff.1 hj).1
    have := h (UInt8.ofNat j)
    rw [plain_add, Nat.zero_add]
    rw [Nat.zero_add, show (UInt8.ofNat j).toNat = j by simp; omega] at this
    rw [this, ← hj, hcs]
    simp [tabL, hj2]
  have hb := built_window T n
  rw [← hcs, ← hL] at hb
  have Hb := hid hb
  have hLl : L.length = 324 := by rw [hL]; exact (newL_pw T n).len
  have HL := hid hL; have Hcs := hid hcs; have Hload := hid hload
  clear hL hcs hload hb h
  go_enter Tryd.func32, Tryd.ntmps32
  go_wp2_with (first | (refine wpList_build_two rfl 110 0 1 (.tmp 14) (.tmp 15) rfl (.agg cs.toArray) (.int .i64 (n : Int)) rfl rfl L.toArray Hb.out ?_) | (refine wpList_load_cells rfl 106 (.tmp 13) rfl ⟨p, 0, none⟩ rfl cs _ Tryd.underlying106 rfl hsz Hload.out ?_))
  go_ret2
  exact ⟨rfl, (Kept.refl _ _).alloc _, 0, L, heap_alloc_at rfl, by rw [HL.out]; exact newL_pw T n⟩
end Go.Proofs.YtllcfffpagogbaaDoor
