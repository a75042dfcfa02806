/- roll: Push whatever the window holds; a table made; a handed row of bytes. -/
import Derived.Test.YtllcfffpagogbaaDoorR5
import Derived.OpenShut
namespace Go.Proofs.YtllcfffpagogbaaDoor
open Go.RowKit

theorem push_any (p n : Nat) (T : UInt8 → Roll.W) (ys : List UInt8) (c : UInt8) (w : World) (h : Win w p T n ys) (h1 : 1 ≤ n) (hn : n ≤ 64) :
    Calls Tryd.prog 58 #[.pointer (some ⟨p, 0, none⟩), B c] w fun e w' => e = .returned (U (Roll.sum T (Roll.last n (ys ++ [c])))) ∧ Kept [p] w w' ∧ Win w' p T n (ys ++ [c]) := by
  by_cases hs : ys.length < n
  · exact push_short_any p n T ys c w h h1 hn hs
  · exact push_full_any p n T ys c w h h1 hn (by omega)

theorem tb_of {w : World} {g : Nat} {T : UInt8 → Roll.W} (h : w.heap[g]? = some (.cells (tabL T).toArray 106 (0, 0))) : Tb w g 0 T := fun c => by
  rw [cell_of_row w _ _ _ _ _ h, Nat.zero_add]
  simpa using tabL_get T c
theorem make_tb (s : Int) (w : World) (h0 : 0 ≤ s) (h1 : s < 18446744073709551616) :
    Calls Tryd.prog 31 #[.int .u64 s] w fun e w' => e = .returned (.pointer (some ⟨w.heap.size, 0, none⟩)) ∧ Kept [] w w' ∧ Tb w' w.heap.size 0 (num s) :=
  (make_any s w h0 h1).mono fun _ _ h => ⟨h.1, h.2.1, tb_of h.2.2⟩
theorem reads_one (w : World) (b : UInt8) : Reads (w.alloc (.cells #[.int .u8 (b.toNat : Int)] 5)) (some ⟨w.heap.size, 0, none⟩) [b] :=
  ⟨fun h => by simp at h, fun ad had j u hj => by
    simp at had; subst had
    rw [plain_add, Nat.zero_add, cell_of_row _ _ _ _ _ _ (heap_alloc_at rfl)]
    rcases j with _ | j
    · exact hj
    · simp at hj⟩

/-- A handed row of bytes, as its bytes. -/
theorem bytes_of_row {w : World} {a : Option Addr} {len cap : Nat} {zs : List Int} (h : (a = none ∧ len = 0 ∧ cap = 0 ∧ zs = []) ∨
    ∃ x, a = some x ∧ len ≤ cap ∧ cap ≤ maxLen ∧ zs.length = cap ∧ (∀ i, i < zs.length → w.cell? (x.add i) = some (.int .u8 (zs.getD i 0))) ∧ ∀ n ∈ zs, (Lit.int .u8 n).wf = true) :
    ∃ ys : List UInt8, len = ys.length ∧ Reads w a ys ∧ ys.length ≤ cap ∧ cap ≤ 9223372036854775807 ∧ (a = none → cap = 0) := by
  rcases h with ⟨rfl, rfl, rfl, rfl⟩ | ⟨x, rfl, hl, hm, hz, hc, hw⟩
  · exact ⟨[], rfl, ⟨fun _ => rfl, fun _ h => by simp at h⟩, by simp, by omega, fun _ => rfl⟩
  · refine ⟨(zs.take len).map fun z => UInt8.ofNat z.toNat, by simp; omega, ⟨fun h => by simp at h, fun ad had j u hj => ?_⟩, by simp; omega, by unfold maxLen at hm; omega, fun h => by simp at h⟩
    simp at had
    subst had
    rw [List.map_map, List.getElem?_map, List.getElem?_take] at hj
    split at hj
    · rename_i hjl
      have hjz : j < zs.length := by omega
      rw [List.getElem?_eq_getElem hjz] at hj
      simp at hj
      have hb := bounds_u8 (hw _ (List.getElem_mem hjz))
      rw [hc j hjz, ← hj]
      have e : zs.getD j 0 = zs[j] := by simp [hjz]
      rw [e]
      unfold B
      congr 2
      simp
      omega
    · simp at hj


end Go.Proofs.YtllcfffpagogbaaDoor
