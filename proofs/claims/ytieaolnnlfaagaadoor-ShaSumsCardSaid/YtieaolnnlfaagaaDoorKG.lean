/- A sum as an argument, opened to its bytes. -/
import Derived.Test.YtieaolnnlfaagaaDoorK7
import Derived.Lib.LaidTab
import Derived.OpenShut
namespace Go.Proofs.YtieaolnnlfaagaaDoor
open Go.RowKit

/-- A handed row of bytes, as its bytes. -/
theorem bytes_of_row {w : World} {a : Option Addr} {len cap : Nat} {zs : List Int} (h : (a = none ∧ len = 0 ∧ cap = 0 ∧ zs = []) ∨
    ∃ x, a = some x ∧ len ≤ cap ∧ cap ≤ maxLen ∧ zs.length = cap ∧ (∀ i, i < zs.length → w.cell? (x.add i) = some (.int .u8 (zs.getD i 0))) ∧ ∀ n ∈ zs, (Lit.int .u8 n).wf = true) :
    ∃ ys : List UInt8, len = ys.length ∧ Reads w a ys ∧ ys.length ≤ cap ∧ cap ≤ 9223372036854775807 ∧ (a = none → cap = 0) := by
  rcases h with ⟨rfl, rfl, rfl, rfl⟩ | ⟨x, rfl, hl, hm, hz, hc, hw⟩
  · exact ⟨[], rfl, ⟨fun _ => rfl, fun _ h => by simp at h⟩, by simp, by omega, fun _ => rfl⟩
  · refine ⟨(zs.take len).map fun z => UInt8.ofNat z.toNat, by simp; omega, ⟨fun h => by simp at h, fun ad had j u hj => ?_⟩, by simp; omega, by unfold maxLen at hm; omega, fun h => by simp at h⟩
    simp at had
    subst had
    rw [List.map_map, List.getElem?_map, List.getElem?_take] at hj
    split at hj
    · rename_i hjl
      have hjz : j < zs.length := by omega
      rw [List.getElem?_eq_getElem hjz] at hj
      simp at hj
      have hb := bounds_u8 (hw _ (List.getElem_mem hjz))
      rw [hc j hjz, ← hj]
      have e : zs.getD j 0 = zs[j] := by simp [hjz]
      rw [e]
      unfold B
      congr 2
      simp
      omega
    · simp at hj


theorem open_id {H : Type} {enc : TypeId × Value → H} {w : World} {base : Nat} {sp : Nat → Bool} {held : Bool} {v : Value} {d : DataW H} {p : List MemPlace} (h : DataW.Trod enc Tryd.prog w base sp held 24 v d p) :
    ∃ bs : List UInt8, v = .agg (bs.map B).toArray ∧ bs.length = 32 := by
  obtain ⟨fuel, h⟩ := h
  have hcE : Tryd.prog.cellsOf 5 = 1 := by kernel_rfl
  have hcT : Tryd.prog.cellsOf 24 = 32 := by kernel_rfl
  obtain ⟨cs, hcs⟩ : ∃ cs, cs = v.cells.toList := ⟨_, rfl⟩
  rw [← hcs] at h
  cases fuel with
  | zero => simp [DataW.trod] at h
  | succ fuel =>
    simp only [DataW.trod, Tryd.underlying24, hcE, hcT, Nat.mul_one] at h
    split at h
    · rename_i hl
      obtain ⟨xs, hm, hx⟩ := Option.map_eq_some_iff.1 h
      have key : ∀ i, i < 32 → ∃ b : UInt8, cs[i]? = some (B b) := fun i hi => by
        obtain ⟨b, hb, hf⟩ := Lib.mapM_at hm i i (by simp [hi])
        obtain ⟨z, hc, _, hw⟩ := DataW.trod_int Tryd.underlying5 hf
        have hb8 := bounds_u8 hw
        refine ⟨UInt8.ofNat z.toNat, ?_⟩
        have h1 : cs[i]? = some (.int .u8 z) := by
          have := congrArg (·[0]?) hc
          simpa [List.getElem?_take, List.getElem?_drop] using this
        rw [h1, B_ofNat]
        congr 2
        omega
      have hcl : cs.length = 32 := by omega
      refine ⟨cs.map fun c => match c with | .int _ z => UInt8.ofNat z.toNat | _ => 0, ?_, by simp [hcl]⟩
      have he : (cs.map fun c => match c with | .int _ z => UInt8.ofNat z.toNat | _ => (0 : UInt8)).map B = cs := by
        apply List.ext_getElem?
        intro i
        by_cases hi : i < 32
        · obtain ⟨b, hb⟩ := key i hi
          simp only [List.getElem?_map, hb, Option.map_some]
          simp [B]
        · rw [List.getElem?_eq_none (by simp; omega), List.getElem?_eq_none (by omega)]
      rw [he]
      cases v with
      | agg a => simp [Value.cells] at hcs; rw [hcs]
      | _ => simp [Value.cells] at hcs; rw [hcs] at hcl; simp at hcl
    · cases h
end Go.Proofs.YtieaolnnlfaagaaDoor
