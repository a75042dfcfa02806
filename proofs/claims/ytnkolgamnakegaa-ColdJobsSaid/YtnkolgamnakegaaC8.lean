
/- Bytes as they were handed: written, turned into a text, held against others. -/
import Derived.Test.YtnkolgamnakegaaC6
import Derived.OpenShut
namespace Go.Proofs.Ytnkolgamnakegaa
open Go.RowKit Go.Lib

/-- A slice of bytes at any address, turned into a text. -/
theorem text_any (w : World) (a : Option Addr) (c : Nat) (ys : List UInt8) (h : SrcB w (.slice a ys.length c) ys) :
    (convert 36 9 (.slice a ys.length c)).run Try.prog w = .ok (.string ⟨ys.toArray⟩) w := by
  rcases h with ⟨h1, h2, _⟩ | ⟨x, c', h1, hc⟩
  · simp at h1
    obtain ⟨rfl, h1, rfl⟩ := h1
    have hy : ys = [] := List.eq_nil_of_length_eq_zero h2
    subst hy
    exact run_convert_bytes_nil (P := Try.prog) w _ _ Try.underlying36 Try.underlying5 0 0 _ Try.underlying9
  · simp at h1
    obtain ⟨rfl, rfl⟩ := h1
    have hl : (loadCells x ys.length).run Try.prog w = .ok ((ys.map fun y => (y.toNat : Int)).map (Value.int .u8)).toArray w := by
      have := run_loadCells_list (P := Try.prog) w x (ys.map B) hc
      have eB : (ys.map fun y => (y.toNat : Int)).map (Value.int .u8) = ys.map B := by rw [List.map_map]; rfl
      rw [eB]
      simpa using this
    rw [run_convert_bytes_string w _ _ _ _ ys.length c Try.underlying36 Try.underlying5 Try.underlying9, run_bytesToString w _ ys.length c _ hl, foldl_push_bytes]
    have e : (ys.map fun y => (y.toNat : Int)).map (fun n => UInt8.ofNat n.toNat) = ys := by
      rw [List.map_map]
      conv => rhs; rw [← List.map_id ys]
      apply List.map_congr_left
      intro y _
      simp
    rw [e]
    simp [ByteArray.empty, ByteArray.emptyWithCapacity]
    rfl

theorem same_src (a b : Option Addr) (c d : Nat) (xs : List UInt8) (w : World) (ha : SrcB w (.slice a xs.length c) xs) (hb : SrcB w (.slice b xs.length d) xs) :
    Calls Try.prog 33 #[.slice a xs.length c, .slice b xs.length d] w fun e w' => e = .returned (.bool true) ∧ w = w' := by
  have h1 := text_any w a c xs ha
  have h2 := text_any w b d xs hb
  clear ha hb
  generalize xs.length = n at *
  go_enter Try.func33, Try.ntmps33
  go_wp2
  go_ret
  exact ⟨by simp, rfl⟩

/-- A row of bytes that was handed. -/
theorem src_of_row {w : World} {a : Option Addr} {len cap : Nat} {zs : List Int} (h : (a = none ∧ len = 0 ∧ cap = 0 ∧ zs = []) ∨
    ∃ x, a = some x ∧ len ≤ cap ∧ cap ≤ maxLen ∧ zs.length = cap ∧ (∀ i, i < zs.length → w.cell? (x.add i) = some (.int .u8 (zs.getD i 0))) ∧ ∀ n ∈ zs, (Lit.int .u8 n).wf = true) :
    ∃ bs : List UInt8, bs.length = len ∧ SrcB w (.slice a bs.length cap) bs ∧ (a = none → cap = 0) ∧ len ≤ cap ∧ cap ≤ maxLen := by
  rcases h with ⟨rfl, rfl, rfl, rfl⟩ | ⟨x, rfl, h1, h2, h3, h4, h5⟩
  · exact ⟨[], rfl, Or.inl ⟨rfl, rfl, rfl⟩, fun _ => rfl, Nat.le_refl _, by unfold maxLen; omega⟩
  · have hl : ((zs.take len).map fun z => UInt8.ofNat z.toNat).length = len := by simp; omega
    refine ⟨(zs.take len).map fun z => UInt8.ofNat z.toNat, hl, Or.inr ⟨x, cap, rfl, fun j u hj => ?_⟩, fun h => by simp at h, h1, h2⟩
    have hjl : j < len := by
      rcases Nat.lt_or_ge j len with h' | h'
      · exact h'
      · rw [List.getElem?_eq_none (by simp; omega)] at hj; simp at hj
    have hz : j < zs.length := by omega
    simp [List.getElem?_take, hjl, hz] at hj
    subst hj
    rw [h4 j hz]
    have hw := bounds_u8 (h5 zs[j] (List.getElem_mem hz))
    simp [B, List.getD, hz]
    omega

theorem SrcB.take {w : World} {a : Option Addr} {c : Nat} {xs : List UInt8} (h : SrcB w (.slice a xs.length c) xs) {n : Nat} (hn : n ≤ xs.length) (hne : xs ≠ []) : SrcB w (.slice a (xs.take n).length c) (xs.take n) := by
  rcases h with ⟨h1, h2, _⟩ | ⟨x, c', h1, hc⟩
  · exact absurd (List.eq_nil_of_length_eq_zero h2) hne
  · simp at h1
    obtain ⟨rfl, rfl⟩ := h1
    refine Or.inr ⟨x, c, rfl, fun j u hj => ?_⟩
    have hjl : j < n := by
      rcases Nat.lt_or_ge j n with h' | h'
      · exact h'
      · rw [List.getElem?_eq_none (by simp; omega)] at hj; simp at hj
    exact hc j u (by simpa [List.getElem?_take, hjl] using hj)

theorem i64_and255 (n : Int) : bits .and .i64 n 255 = n % 256 := by
  have h7 : (BitVec.ofInt 64 255).toNat = 2 ^ 8 - 1 := by decide
  have key : (BitVec.ofInt 64 n &&& BitVec.ofInt 64 255).toNat = (n % ((2 ^ 64 : Nat) : Int)).toNat % 2 ^ 8 := by
    rw [BitVec.toNat_and, BitVec.toNat_ofInt, h7, Nat.and_two_pow_sub_one_eq_mod]
  show IntKind.i64.wrap ((BitVec.ofInt 64 n &&& BitVec.ofInt 64 255).toNat : Nat) = n % 256
  rw [key, IntKind.wrap_i64]
  omega
end Go.Proofs.Ytnkolgamnakegaa
