import Derived.Test.YtmkdjonlfkfnlaaDoorHA
import Derived.ChangeKeysEq

/- Sums held against each other; texts cut; digits told back. -/
namespace Go.Proofs.YtmkdjonlfkfnlaaDoor
open Go.RowKit

theorem eqItems_bytes (x y : List UInt8) (hx : x.length = 32) (hy : y.length = 32) (W : World) : ∀ is : List Nat, (∀ j ∈ is, j < 32) →
    (Op.eqItems 9999 5 1 (x.map B).toArray (y.map B).toArray is).run Tryd.prog W = .ok (is.all fun j => x.getD j 0 == y.getD j 0) W
  | [], _ => by simp [Op.eqItems]
  | j :: is, h => by
    have hj := h j (by simp)
    have p : ∀ l : List UInt8, l.length = 32 → (part 5 (l.map B).toArray (j * 1)).run Tryd.prog W = .ok (.int .u8 ((l.getD j 0).toNat : Int)) W := fun l hl => by
      have hg : (l.map B).toArray[j]? = some (.int .u8 ((l.getD j 0).toNat : Int)) := by simp [B, hl, hj]
      simp only [part, isAgg, Sem.run_bind, run_underlying Tryd.underlying5, Result.andThen_ok, Sem.run_pure, Nat.mul_one, hg]
      rfl
    have ih := eqItems_bytes x y hx hy W is (fun k hk => h k (by simp [hk]))
    have he := run_equalIn_int (P := Tryd.prog) W 9998 5 .u8 .u8 ((x.getD j 0).toNat : Int) ((y.getD j 0).toNat : Int) Tryd.underlying5
    have hb : (((x.getD j 0).toNat : Int) == ((y.getD j 0).toNat : Int)) = (x.getD j 0 == y.getD j 0) := by
      rw [Bool.eq_iff_iff]
      simp only [beq_iff_eq]
      constructor
      · intro h; exact UInt8.toNat_inj.1 (by omega)
      · intro h; rw [h]
    rw [hb] at he
    simp only [Op.eqItems, Sem.run_bind, p x hx, p y hy, Result.andThen_ok, he]
    cases hq : (x.getD j 0 == y.getD j 0)
    · have hq2 : ((x[j]?.getD 0) == (y[j]?.getD 0)) = false := by simpa using hq
      simp [hq2]
    · have hq2 : ((x[j]?.getD 0) == (y[j]?.getD 0)) = true := by simpa using hq
      simp [hq2, ih]

set_option maxRecDepth 100000 in
theorem id_equal (x y : List UInt8) (hx : x.length = 32) (hy : y.length = 32) (W : World) :
    (Op.equalIn 10000 34 (.agg (x.map B).toArray) (.agg (y.map B).toArray)).run Tryd.prog W = .ok (decide (x = y)) W := by
  obtain ⟨i0, hi0, hz0, hz1, hz2⟩ := info_parts sha_info_u8
  have h := run_equalIn_array (P := Tryd.prog) W 9999 (i := i0) (x.map B).toArray (y.map B).toArray Tryd.underlying34 hi0
  rw [show (10000 : Nat) = 9999 + 1 from rfl, h, show Tryd.prog.cellsOf 5 = 1 by kernel_rfl, eqItems_bytes x y hx hy W _ (fun j hj => List.mem_range.1 hj)]
  congr 1
  rw [Bool.eq_iff_iff, List.all_eq_true, decide_eq_true_eq]
  constructor
  · intro ha
    apply List.ext_getElem (by omega)
    intro j h1 h2
    have := ha j (List.mem_range.2 (by omega))
    simpa [h1, h2] using this
  · rintro rfl j _
    simp

/-- The load of a sum, by a name of its own. -/
def ldID (x : Value) : Sem Value := Instr.loadAt 34 x
theorem loadAt_id (x : Value) : Instr.loadAt 34 x = ldID x := rfl
theorem run_ldID (W : World) (g : Nat) (cs : Array Value) (h : W.heap[g]? = some (.cells cs 34 (0, 0))) (hs : cs.size = 32) : (ldID (.pointer (some ⟨g, 0, none⟩))).run Tryd.prog W = .ok (.agg cs) W := by
  have := run_loadVar_row (P := Tryd.prog) W g _ 34 cs _ _ h Tryd.underlying34 rfl (by rw [hs]; exact info_id)
  unfold ldID
  simp only [Instr.loadAt, Instr.sureAddr, Sem.run_bind, Sem.run_pure, Result.andThen_ok, this]

theorem extract_l (l : List UInt8) (a b : Nat) : (⟨l.toArray⟩ : ByteArray).extract a b = ⟨((l.take b).drop a).toArray⟩ := by
  apply ByteArray.ext
  rw [ByteArray.data_extract]
  apply Array.ext'
  simp [List.drop_take]
theorem sha_cut_to (l : List UInt8) (n : Nat) (h : n ≤ l.length) (W : World) : (Instr.sliceAt 9 (.string ⟨l.toArray⟩) none (some (.int .i64 (n : Int))) none).run Tryd.prog W = .ok (.string ⟨(l.take n).toArray⟩) W := by
  rw [run_sliceAt_string W 9 _ _ _ _ Tryd.underlying9, run_slice_string_h W 9 _ Tryd.underlying9 .i64 (n : Int) (by omega) (by show (n : Int) ≤ (l.toArray.size : Int); simp; omega), extract_l]
  simp
theorem sha_cut_from (l : List UInt8) (n : Nat) (h : n ≤ l.length) (W : World) : (Instr.sliceAt 9 (.string ⟨l.toArray⟩) (some (.int .i64 (n : Int))) none none).run Tryd.prog W = .ok (.string ⟨(l.drop n).toArray⟩) W := by
  rw [run_sliceAt_string W 9 _ _ _ _ Tryd.underlying9, run_slice_string_l W 9 _ Tryd.underlying9 .i64 (n : Int) (by omega) (by show (n : Int) ≤ (l.toArray.size : Int); simp; omega), extract_l]
  have e : (⟨l.toArray⟩ : ByteArray).size = l.length := by show l.toArray.size = _; simp
  simp [e]

theorem hexOf_get (l : List UInt8) : ∀ i, i < l.length → (hexOf l).getD (2 * i) 0 = hexd ((l.getD i 0).toNat / 16) ∧ (hexOf l).getD (2 * i + 1) 0 = hexd ((l.getD i 0).toNat % 16) := by
  induction l with
  | nil => intro i h; simp at h
  | cons b l ih =>
    intro i h
    rcases i with _ | i
    · simp [hexOf]
    · have := ih i (by simpa using h)
      simpa [hexOf, Nat.mul_succ] using this
theorem hexOf_ok (l : List UInt8) (h : l.length = 32) : okHex (hexOf l) = true := by
  unfold okHex
  rw [Bool.and_eq_true]
  refine ⟨by simp [hexOf_len, h], List.all_eq_true.2 fun c hc => ?_⟩
  obtain ⟨b, hb, hc⟩ := List.mem_flatMap.1 hc
  have h1 := b.toNat_lt
  simp at hc
  rcases hc with rfl | rfl
  · rw [dig_hexd _ (by omega)]; simp; omega
  · rw [dig_hexd _ (by omega)]; simp; omega
theorem parse_text (l : List UInt8) (h : l.length = 32) : parsedL (hexOf l) = l ∧ parsedE (hexOf l) = 0 := by
  unfold parsedL parsedE
  rw [hexOf_ok l h]
  refine ⟨?_, rfl⟩
  rw [if_pos rfl]
  apply List.ext_getElem (by simp [unhex_len, h])
  intro j h1 h2
  have hj : j < l.length := h2
  obtain ⟨e1, e2⟩ := hexOf_get l j hj
  have hb := (l.getD j 0).toNat_lt
  simp only [unhex, List.getElem_map, List.getElem_range]
  rw [e1, e2, dig_hexd _ (by omega), dig_hexd _ (by omega)]
  have e3 : (((((l.getD j 0).toNat / 16 : Nat) : Int) * 16 + (((l.getD j 0).toNat % 16 : Nat) : Int))).toNat = (l.getD j 0).toNat := by omega
  rw [e3]
  simp [hj]
theorem parse_short (l : List UInt8) (h : l.length ≠ 64) : parsedL l = List.replicate 32 0 ∧ parsedE l = 21 := by
  have : okHex l = false := by unfold okHex; simp [h]
  unfold parsedL parsedE
  rw [this]; simp

theorem hex_nil : (hexOf (Sha.sum [])).take 8 = [101, 51, 98, 48, 99, 52, 52, 50] := by decide +kernel
theorem hex_abc : (hexOf (Sha.sum [97, 98, 99])).take 8 = [98, 97, 55, 56, 49, 54, 98, 102] := by decide +kernel
theorem less_abc : lessL (Sha.sum [97, 98, 99]) (Sha.sum []) = true := by decide +kernel
end Go.Proofs.YtmkdjonlfkfnlaaDoor
