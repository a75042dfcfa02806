import Derived.Test.YtmkdjonlfkfnlaaDoorFF
import Derived.Test.YtmkdjonlfkfnlaaDoorMC
import Derived.Test.YtmkdjonlfkfnlaaDoorMK

/- CacheSpoils. -/
namespace Go.Proofs.YtmkdjonlfkfnlaaDoor
open Go.RowKit Go.Lib Go.Maps
theorem bytes_row_k {w : World} {a : Option Addr} {len cap : Nat} {zs : List Int} (h : (a = none ∧ len = 0 ∧ cap = 0 ∧ zs = []) ∨
    ∃ x, a = some x ∧ len ≤ cap ∧ cap ≤ maxLen ∧ zs.length = cap ∧ (∀ i, i < zs.length → w.cell? (x.add i) = some (.int .u8 (zs.getD i 0))) ∧ ∀ n ∈ zs, (Lit.int .u8 n).wf = true) :
    ∃ ys : List UInt8, len = ys.length ∧ Reads w a ys ∧ ys.length ≤ cap ∧ cap ≤ 9223372036854775807 ∧ (a = none → cap = 0) := by
  rcases h with ⟨rfl, rfl, rfl, rfl⟩ | ⟨x, rfl, hl, hm, hz, hc, hw⟩
  · exact ⟨[], rfl, ⟨fun _ => rfl, fun _ h => by simp at h⟩, by simp, by omega, fun _ => rfl⟩
  · refine ⟨(zs.take len).map fun z => UInt8.ofNat z.toNat, by simp; omega, ⟨fun h => by simp at h, fun ad had j u hj => ?_⟩, by simp; omega, by unfold maxLen at hm; omega, fun h => by simp at h⟩
    simp at had
    subst had
    rw [List.map_map, List.getElem?_map, List.getElem?_take] at hj
    split at hj
    · rename_i hjl
      have hjz : j < zs.length := by omega
      rw [List.getElem?_eq_getElem hjz] at hj
      simp at hj
      have hb := bounds_u8 (hw _ (List.getElem_mem hjz))
      rw [hc j hjz, ← hj]
      have e : zs.getD j 0 = zs[j] := by simp [hjz]
      rw [e]
      unfold B
      congr 2
      simp
      omega
    · simp at hj


theorem same_deck (a b : Option Addr) (c d : Nat) (xs ys : List UInt8) (w : World) (ha : SrcB w (.slice a xs.length c) xs) (hb : SrcB w (.slice b ys.length d) ys) :
    Calls Tryd.prog 13 #[.slice a xs.length c, .slice b ys.length d] w fun e w' => e = .returned (.bool (decide (xs = ys))) ∧ w = w' := by
  by_cases hxy : xs = ys
  · subst hxy
    exact (same_src a b c d xs w ha hb).mono fun e w' h => ⟨by rw [h.1]; simp, h.2⟩
  · have h1 := text_any w a c xs ha
    have h2 := text_any w b d ys hb
    have Hxy := hid hxy
    have hD := hid (show decide (xs = ys) = false from decide_eq_false hxy)
    clear ha hb hxy
    rw [hD.out]
    clear hD
    generalize xs.length = n at *
    generalize ys.length = m at *
    go_enter Tryd.func13, Tryd.ntmps13
    go_wp2
    go_ret
    exact ⟨by simpa using Hxy.out, rfl⟩
theorem and_16 (n : Int) : bits .and .i64 n 65535 = n % 65536 := by
  have h7 : (BitVec.ofInt 64 65535).toNat = 2 ^ 16 - 1 := by decide
  have key : (BitVec.ofInt 64 n &&& BitVec.ofInt 64 65535).toNat = (n % ((2 ^ 64 : Nat) : Int)).toNat % 2 ^ 16 := by
    rw [BitVec.toNat_and, BitVec.toNat_ofInt, h7, Nat.and_two_pow_sub_one_eq_mod]
  show IntKind.i64.wrap ((BitVec.ofInt 64 n &&& BitVec.ofInt 64 65535).toNat : Nat) = n % 65536
  rw [key, IntKind.wrap_i64]
  omega
theorem flip_len (bs : List UInt8) (u : Nat) : (flipB bs u).length = bs.length := by simp [flipB]
theorem xor_cancel (a b : UInt8) : a ^^^ b ^^^ b = a := by
  apply UInt8.toNat_inj.1
  rw [UInt8.toNat_xor, UInt8.toNat_xor, Nat.xor_assoc, Nat.xor_self, Nat.xor_zero]
theorem flip_twice (bs : List UInt8) (u : Nat) (hu : u < 8 * bs.length) : flipB (flipB bs u) u = bs := by
  unfold flipB
  have hi : u / 8 < bs.length := by omega
  rw [List.set_set]
  have e1 : (bs.set (u / 8) (bs.getD (u / 8) 0 ^^^ UInt8.ofNat (2 ^ (u % 8)))).getD (u / 8) 0 = bs.getD (u / 8) 0 ^^^ UInt8.ofNat (2 ^ (u % 8)) := by
    simp [List.getD_eq_getElem?_getD, List.getElem?_set, hi]
  rw [e1, xor_cancel]
  apply List.ext_getElem?
  intro j
  rw [List.getElem?_set]
  split
  · rename_i h
    subst h
    simp [hi, List.getD_eq_getElem?_getD]
  · rfl
theorem bitAt_small (u : Nat) (bs : List UInt8) (hu : u < 8 * bs.length) : bitAt (u : Int) bs = u := by
  unfold bitAt
  rw [Int.emod_eq_of_lt (by omega) (by omega)]; simp
theorem bitAt_less (u : Nat) (bs : List UInt8) (hu : u < 8 * bs.length) : bitAt ((u : Int) - ((8 * bs.length : Nat) : Int)) bs = u := by
  unfold bitAt
  rw [Int.sub_emod, Int.emod_self, Int.sub_zero, Int.emod_emod, Int.emod_eq_of_lt (by omega) (by omega)]; simp
/-- An answer's bytes, that no call turns. -/
structure Out (W : World) (U : List Nat) (v : Value) (bs : List UInt8) : Prop where
  row : ∃ base, W.ownsRow base 5 1 v bs.length (bs.map B)
  off : ∀ g, v.ownBlock = some g → g ∉ U ∧ g < W.heap.size
theorem Out.next {W W' : World} {U U' : List Nat} {v : Value} {bs : List UInt8} (h : Out W U v bs) (hk : Kept U W W') (hm : More W W' U U') : Out W' U' v bs := by
  obtain ⟨base, h1⟩ := h.row
  refine ⟨⟨base, hk.owns h1 (fun g hg => (h.off g hg).1)⟩, fun g hg => ⟨fun hx => ?_, Nat.lt_of_lt_of_le (h.off g hg).2 hk.size⟩⟩
  rcases hm.1 g hx with h2 | h2
  · exact (h.off g hg).1 h2
  · have := (h.off g hg).2; omega
theorem Out.of {W W' : World} {U' : List Nat} {v : Value} {bs : List UInt8} (h : AnsV W W' U' v (some bs)) : Out W' U' v bs := by
  have h : W'.ownsRow W.heap.size 5 1 v bs.length (bs.map B) ∧ ∀ g, v.ownBlock = some g → g ∉ U' := h
  exact ⟨⟨_, h.1⟩, fun g hg => ⟨h.2 g hg, by obtain ⟨cur, hc⟩ := ow_type h.1 hg; exact lt_of_block hc⟩⟩
theorem Out.src {W : World} {U : List Nat} {a : Option Addr} {c : Nat} {n : Nat} {bs : List UInt8} (h : Out W U (.slice a n c) bs) (hn : n = bs.length) : SrcB W (.slice a bs.length c) bs := by
  subst hn
  obtain ⟨base, h1⟩ := h.row
  have h2 := reads_row h1
  exact src_reads h2.1 h2.2.2.2.2
theorem More.refl (W W' : World) (U : List Nat) : More W W' U U := ⟨fun x hx => Or.inl hx, fun x hx => hx⟩
theorem refof_sum (a : Option Addr) (c : Nat) (ys : List UInt8) (w : World) (hr : Reads w a ys) (hn : a = none → c = 0) (hl : ys.length ≤ 1000000) :
    Calls Tryd.prog 8 #[.slice a ys.length c] w fun e w' => e = .returned (.agg ((Sha.sum ys).map B).toArray) ∧ Kept [] w w' := refof_any a c ys w hr hn hl (fun s b gh ch gk ck gb ob cb w h1 h2 h3 h4 => refmix_any s b gh ch gk ck gb ob cb w h1 h2 h3 h4)

/-- What the law does not ask. -/
def Ask (xs ys : List UInt8) : Prop := xs ≠ [] ∧ xs.length ≤ 100 ∧ ys.length ≤ 100 ∧ xs ≠ ys
end Go.Proofs.YtmkdjonlfkfnlaaDoor
