/- seal.Sum: what it tells. -/
import Derived.Test.YtijkpnggehnmcabDoorC8
import Derived.Test.YtijkpnggehnmcabDoorS0
namespace Go.Proofs.YtijkpnggehnmcabDoor
open Go.RowKit Go.Lib

/-- The table stands where its initialiser laid it. -/
def Tab (w : World) : Prop := ∀ i, i < 16 → w.cell? ⟨0, i, none⟩ = some (.int .u32 ((Crc.tbl.getD i 0 : Nat) : Int))
theorem Tab.pos {w : World} (h : Tab w) : 0 < w.heap.size := World.block_lt_of_cell? w _ (h 0 (by omega))
theorem Tab.kept {S : List Nat} {w w' : World} (h : Tab w) (hk : Kept S w w') (hS : 0 ∉ S) : Tab w' := fun i hi => (hk.cell (p := ⟨0, i, none⟩) h.pos hS).trans (h i hi)

theorem xor_u32 (a b : Nat) (ha : a < 4294967296) (hb : b < 4294967296) : bits .xor .u32 (a : Int) (b : Int) = ((a ^^^ b : Nat) : Int) := by
  have key : (BitVec.ofInt 32 (a : Int) ^^^ BitVec.ofInt 32 (b : Int)).toNat = a ^^^ b := by
    rw [BitVec.toNat_xor, BitVec.toNat_ofInt, BitVec.toNat_ofInt]
    have h1 : ((a : Int) % ((2 ^ 32 : Nat) : Int)).toNat = a := by omega
    have h2 : ((b : Int) % ((2 ^ 32 : Nat) : Int)).toNat = b := by omega
    rw [h1, h2]
  have hx : a ^^^ b < 2 ^ 32 := Nat.xor_lt_two_pow (by omega) (by omega)
  show IntKind.u32.wrap ((BitVec.ofInt 32 (a : Int) ^^^ BitVec.ofInt 32 (b : Int)).toNat : Nat) = _
  rw [key, IntKind.wrap_u32]
  omega
theorem and15_u32 (a : Nat) (ha : a < 4294967296) : bits .and .u32 (a : Int) 15 = ((a % 16 : Nat) : Int) := by
  have key : (BitVec.ofInt 32 (a : Int) &&& BitVec.ofInt 32 15).toNat = a % 16 := by
    rw [BitVec.toNat_and, BitVec.toNat_ofInt]
    have h1 : ((a : Int) % ((2 ^ 32 : Nat) : Int)).toNat = a := by omega
    have h2 : (BitVec.ofInt 32 15).toNat = 2 ^ 4 - 1 := by decide
    rw [h1, h2, Nat.and_two_pow_sub_one_eq_mod]
  show IntKind.u32.wrap ((BitVec.ofInt 32 (a : Int) &&& BitVec.ofInt 32 15).toNat : Nat) = _
  rw [key, IntKind.wrap_u32]
  omega

theorem nib_tab {w : World} (ht : Tab w) (x : Int) (s : Crc.W32) (hx : x = (s.toNat : Int)) :
    ∃ t : Nat, 0 ≤ bits .and .u32 x 15 ∧ bits .and .u32 x 15 < 16 ∧ w.cell? ⟨0, (bits .and .u32 x 15).toNat, none⟩ = some (.int .u32 (t : Int)) ∧ bits .xor .u32 (x / 16) (t : Int) = ((Crc.Tn 4 s).toNat : Int) := by
  subst hx
  have hs := s.isLt
  have ha := and15_u32 s.toNat (by omega)
  have hm : s.toNat % 16 < 16 := Nat.mod_lt _ (by omega)
  have htl : Crc.tbl.getD (s.toNat % 16) 0 < 4294967296 := by
    have : ∀ k : Fin 16, Crc.tbl.getD k.val 0 < 4294967296 := by decide
    exact this ⟨_, hm⟩
  refine ⟨Crc.tbl.getD (s.toNat % 16) 0, by rw [ha]; omega, by rw [ha]; omega, ?_, ?_⟩
  · rw [ha, Int.toNat_natCast]
    exact ht _ hm
  · rw [show ((s.toNat : Int) / 16) = ((s.toNat / 16 : Nat) : Int) by omega, xor_u32 _ _ (by omega) htl, Crc.nib, BitVec.toNat_xor, BitVec.toNat_ushiftRight, Nat.shiftRight_eq_div_pow, BitVec.toNat_ofNat, Nat.mod_eq_of_lt htl]
theorem start_tab (s : Crc.W32) (b : UInt8) : bits .xor .u32 (s.toNat : Int) (b.toNat : Int) = (((s ^^^ BitVec.ofNat 32 b.toNat).toNat : Nat) : Int) := by
  have hs := s.isLt
  have hb := b.toNat_lt
  rw [xor_u32 _ _ (by omega) (by omega), BitVec.toNat_xor, BitVec.toNat_ofNat, Nat.mod_eq_of_lt (by omega)]
theorem not_tab (s : Crc.W32) : bits .xor .u32 IntKind.u32.max (s.toNat : Int) = (((~~~ s).toNat : Nat) : Int) := by
  have hs := s.isLt
  rw [show IntKind.u32.max = ((4294967295 : Nat) : Int) from rfl, xor_u32 _ _ (by omega) (by omega), Crc.not_xor, BitVec.toNat_xor, BitVec.toNat_allOnes, Nat.xor_comm]

set_option maxHeartbeats 1000000 in
theorem sum_any (sv : Value) (ys : List UInt8) (w : World) (h : SrcB w sv ys) (ht : Tab w) (hlen : ys.length ≤ 1000000000) :
    Calls Tryd.prog 13 #[sv] w fun e w' => e = .returned (.int .u32 (((Crc.sum ys).toNat : Nat) : Int)) ∧ w = w' := by
  obtain ⟨a, c, rfl⟩ := h.size
  have Hs := hid h; have Ht := hid ht
  clear h ht
  go_enter Tryd.func13, Tryd.ntmps13
  go_wp2_with fail
  go_loop [3, 8] (fun n s => ∃ i : Nat, i ≤ ys.length ∧ s = .int .i64 i ∧ n = .int .u32 (((Crc.feed (BitVec.allOnes 32) (ys.take i)).toNat : Nat) : Int)) (fun _ s => ys.length - (intOf s).toNat)
  case atStart => exact ⟨0, Nat.zero_le _, rfl, by simp [Crc.feed]⟩
  case round =>
    obtain ⟨i, hi, rfl, rfl⟩ := hrel
    by_cases hlt : i < ys.length
    · rcases Hs.out with ⟨h1, _⟩ | ⟨ad, c', h1, hc⟩
      · simp at h1; omega
      · simp at h1
        obtain ⟨rfl, rfl⟩ := h1
        have gx : w.cell? (ad.add i) = some (.int .u8 (ys[i].toNat : Int)) := hc i (B ys[i]) (by simp [hlt])
        clear hc
        obtain ⟨st, hst⟩ : ∃ st, st = Crc.feed (BitVec.allOnes 32) (ys.take i) := ⟨_, rfl⟩
        have hc256 : ys[i].toNat < 256 := ys[i].toNat_lt
        obtain ⟨t1, f1, f1', g1, e1⟩ := nib_tab Ht.out _ _ (start_tab st ys[i])
        obtain ⟨t2, f2, f2', g2, e2⟩ := nib_tab Ht.out _ _ e1
        have hfin : Hid (bits .xor .u32 (bits .xor .u32 (bits .xor .u32 (st.toNat : Int) (ys[i].toNat : Int) / 16) (t1 : Int) / 16) (t2 : Int) = (((Crc.feed (BitVec.allOnes 32) (ys.take (i + 1))).toNat : Nat) : Int)) := by
          refine hid ?_
          rw [e2, List.take_succ_eq_append_getElem hlt, Crc.feed_append, ← hst, Crc.feed_cons, Crc.feed_nil, Crc.put_nib]
        rw [← hst]
        clear hst e1 e2
        generalize ys[i].toNat = cc at *
        generalize st.toNat = n at *
        go_wp2
        go_round
        case rel => exact ⟨i + 1, by omega, by go_num, by rw [hfin.out]⟩
        case measure => simp [intOf]; omega
    · have hin : i = ys.length := by omega
      subst hin
      obtain ⟨f, hf⟩ : ∃ f, f = Crc.feed (BitVec.allOnes 32) ys := ⟨_, rfl⟩
      have hn := hid (show bits .xor .u32 IntKind.u32.max (f.toNat : Int) = (((Crc.sum ys).toNat : Nat) : Int) by rw [not_tab, hf]; rfl)
      rw [List.take_length, ← hf]
      clear hf
      go_wp2
      go_ret
      exact ⟨by rw [hn.out]; rfl, rfl⟩
end Go.Proofs.YtijkpnggehnmcabDoor
