/- coldstorelaw04.SealBursts: the walk. -/
import Derived.Test.YtijkpnggehnmcabDoorSK
import Derived.StillTailTactics
namespace Go.Proofs.YtijkpnggehnmcabDoor
open Go.RowKit Go.Lib

theorem i64_and24 (n : Int) : bits .and .i64 n 16777215 = n % 16777216 := by
  have h7 : (BitVec.ofInt 64 16777215).toNat = 2 ^ 24 - 1 := by decide
  have key : (BitVec.ofInt 64 n &&& BitVec.ofInt 64 16777215).toNat = (n % ((2 ^ 64 : Nat) : Int)).toNat % 2 ^ 24 := by
    rw [BitVec.toNat_and, BitVec.toNat_ofInt, h7, Nat.and_two_pow_sub_one_eq_mod]
  show IntKind.i64.wrap ((BitVec.ofInt 64 n &&& BitVec.ofInt 64 16777215).toNat : Nat) = n % 16777216
  rw [key, IntKind.wrap_i64]
  omega
theorem bit_at (at0 : Int) (n : Nat) : ∃ p : Nat, (bits .and .i64 at0 16777215).tmod (8 * ((n : Int) + 5 - 4) + 1) = (p : Int) ∧ p ≤ 8 * (n + 1) := by
  rw [i64_and24]
  have h0 : 0 ≤ at0 % 16777216 := by omega
  have e : (at0 % 16777216).tmod (8 * ((n : Int) + 5 - 4) + 1) = (at0 % 16777216) % (8 * ((n : Int) + 5 - 4) + 1) := Int.tmod_eq_emod_of_nonneg h0
  have h1 := Int.emod_nonneg (at0 % 16777216) (show 8 * ((n : Int) + 5 - 4) + 1 ≠ 0 by omega)
  have h2 := Int.emod_lt_of_pos (at0 % 16777216) (show 0 < 8 * ((n : Int) + 5 - 4) + 1 by omega)
  exact ⟨((at0 % 16777216) % (8 * ((n : Int) + 5 - 4) + 1)).toNat, by omega, by omega⟩

theorem shl_u8 (r : Nat) (h : r < 8) : ∃ m : UInt8, m = UInt8.ofNat (2 ^ r) ∧ ∀ w : World, (Op.shift .shl .u8 1 .i64 (r : Int)).run Tryd.prog w = .ok (.int .u8 (m.toNat : Int)) w :=
  match r, h with
  | 0, _ => ⟨1, rfl, fun _ => by kernel_rfl⟩
  | 1, _ => ⟨2, rfl, fun _ => by kernel_rfl⟩
  | 2, _ => ⟨4, rfl, fun _ => by kernel_rfl⟩
  | 3, _ => ⟨8, rfl, fun _ => by kernel_rfl⟩
  | 4, _ => ⟨16, rfl, fun _ => by kernel_rfl⟩
  | 5, _ => ⟨32, rfl, fun _ => by kernel_rfl⟩
  | 6, _ => ⟨64, rfl, fun _ => by kernel_rfl⟩
  | 7, _ => ⟨128, rfl, fun _ => by kernel_rfl⟩
theorem pow8 (r : Nat) (h : r < 8) : (2 : Int) ^ min r 8 % 256 = ((UInt8.ofNat (2 ^ r)).toNat : Int) := by
  have : ∀ k : Fin 8, (2 : Int) ^ min k.val 8 % 256 = ((UInt8.ofNat (2 ^ k.val)).toNat : Int) := by decide
  exact this ⟨r, h⟩
theorem bit_u32 (turn i : Nat) (ht : turn < 4294967296) : bits .and .u32 ((turn : Int) / 2 ^ i) 1 = if turn.testBit i then 1 else 0 := by
  have e : ((turn : Int) / 2 ^ i) = ((turn / 2 ^ i : Nat) : Int) := by push_cast; rfl
  have hle : turn / 2 ^ i < 4294967296 := Nat.lt_of_le_of_lt (Nat.div_le_self _ _) ht
  have key : (BitVec.ofInt 32 ((turn / 2 ^ i : Nat) : Int) &&& BitVec.ofInt 32 1).toNat = turn / 2 ^ i % 2 := by
    rw [BitVec.toNat_and, BitVec.toNat_ofInt]
    have h1 : (((turn / 2 ^ i : Nat) : Int) % ((2 ^ 32 : Nat) : Int)).toNat = turn / 2 ^ i := by
      generalize turn / 2 ^ i = y at *
      omega
    have h2 : (BitVec.ofInt 32 1).toNat = 2 ^ 1 - 1 := by decide
    rw [h1, h2, Nat.and_two_pow_sub_one_eq_mod]
  rw [e]
  show IntKind.u32.wrap ((BitVec.ofInt 32 ((turn / 2 ^ i : Nat) : Int) &&& BitVec.ofInt 32 1).toNat : Nat) = _
  rw [key, IntKind.wrap_u32, Nat.testBit_eq_decide_div_mod_eq]
  have := Nat.mod_lt (turn / 2 ^ i) (show 0 < 2 by decide)
  by_cases h : turn / 2 ^ i % 2 = 1
  · simp [h]
  · simp [h]; omega

set_option maxRecDepth 100000 in
set_option maxHeartbeats 4000000 in
theorem sealbursts (kind : UInt8) (a : Option Addr) (c : Nat) (bs : List UInt8) (at0 : Int) (turn : Nat) (w : World) (h : SrcB w (.slice a bs.length c) bs) (ht : Tab w) (hm : bs.length ≤ 9223372036854775807) (htl : turn < 4294967296) (hat : -9223372036854775808 ≤ at0 ∧ at0 ≤ 9223372036854775807) :
    Calls Tryd.prog 4 #[.int .u8 (kind.toNat : Int), .slice a bs.length c, .int .i64 at0, .int .u32 (turn : Int)] w fun e w' => e = .returned (.bool true) ∧ Kept [] w w' := by
  have ha := hid (alive04 w ht)
  have H := hid h; have Ht := hid ht
  have hkl := kind.toNat_lt
  clear h ht
  by_cases hl : 300 < bs.length
  · have hl' : (300 : Int) < (bs.length : Int) := by omega
    go_enter Tryd.func4, Tryd.ntmps4
    go_wp2_with fail
    refine ha.out.mono ?_
    rintro e w1 ⟨rfl, hk1⟩
    have Hk1 := hid hk1
    clear hk1
    go_wp2
    go_ret
    exact ⟨rfl, Hk1.out⟩
  · have hl' : ¬ (300 : Int) < (bs.length : Int) := by omega
    go_enter Tryd.func4, Tryd.ntmps4
    go_wp2_with fail
    refine ha.out.mono ?_
    rintro e w1 ⟨rfl, hk1⟩
    have hs2 := hid (seal_any' kind _ bs w1 (H.out.kept hk1 (by simp)) (Ht.out.kept hk1 (by simp)) (by omega))
    have Hk1 := hid hk1
    clear hk1 ha
    go_wp2_with fail
    refine hs2.out.mono ?_
    rintro e w2 ⟨g, c2, rfl, hg, hk2, ho2⟩
    have Hk2 := hid (Hk1.out.trans hk2)
    have Ho2 := hid ho2
    have hg2 := hid (own_block_ge ho2 g rfl)
    have Hg := hid hg
    clear hk2 ho2 hs2 hg
    go_wp2_with fail
    obtain ⟨p, hp, hpl⟩ := bit_at at0 bs.length
    rw [hp]
    clear hp
    have hat0 := hid (show Kept [g] w2 w2 ∧ w2.ownsRow w1.heap.size 5 1 (.slice (some ⟨g, 0, none⟩) (bs.length + 5) c2) (bs.length + 5) ((Crc.flips (sealed kind bs) p turn 0).map B) from ⟨Kept.refl _ _, Ho2.out⟩)
    go_loopw [29] (fun s wr => ∃ i : Nat, i ≤ 32 ∧ s = .int .i64 i ∧ Hid (Kept [g] w2 wr ∧ wr.ownsRow w1.heap.size 5 1 (.slice (some ⟨g, 0, none⟩) (bs.length + 5) c2) (bs.length + 5) ((Crc.flips (sealed kind bs) p turn i).map B))) (fun s _ => 32 - (intOf s).toNat)
    case atStart => exact ⟨0, Nat.zero_le _, rfl, hat0⟩
    case round =>
      obtain ⟨i, hi, rfl, hr⟩ := hrel
      by_cases hlt : i < 32
      · by_cases hb : turn.testBit i = true
        · have hb1 : (bits .and .u32 ((turn : Int) / 2 ^ i) 1 == 1) = true := by rw [bit_u32 turn i htl, if_pos hb]; rfl
          obtain ⟨q, hq⟩ : ∃ q, q = p + i := ⟨_, rfl⟩
          have hqlt : q / 8 < bs.length + 5 := by omega
          have hfll := Crc.flips_len (sealed kind bs) p turn i
          obtain ⟨sb, hsb⟩ : ∃ sb, (Crc.flips (sealed kind bs) p turn i)[q / 8]? = some sb := ⟨(Crc.flips (sealed kind bs) p turn i)[q / 8]'(by rw [hfll, sealed_len]; exact hqlt), by simp⟩
          have gl := hr.out.2.cellAt (q / 8) (by omega)
          rw [List.getElem?_map, hsb] at gl
          have gl' : wr.cell? ⟨g, q / 8, none⟩ = some (.int .u8 (sb.toNat : Int)) := gl
          have gf : wr.frozen? ⟨g, q / 8, none⟩ = false := hr.out.2.frozenAt _
          have hcap := (bsl_of_row (xs := Crc.flips (sealed kind bs) p turn i) (by rw [hfll, sealed_len]; exact hr.out.2)).max
          have Hsb := hid hsb; have Hq := hid hq; have Hfll := hid hfll
          have Hb := hid hb
          clear hb gl hsb hfll hcap
          have hpi : (p : Int) + (i : Int) = (q : Int) := by omega
          have hql : q < 100000 := by omega
          obtain ⟨k, hk⟩ : ∃ k, k = q / 8 := ⟨_, rfl⟩
          obtain ⟨r, hr8⟩ : ∃ r, r = q % 8 := ⟨_, rfl⟩
          obtain ⟨m, hm2, hsh⟩ := shl_u8 r (by omega)
          rw [← hk] at hqlt gl' gf
          have f1 : (0 : Int) ≤ (k : Int) := by omega
          have f2 : (k : Int) < (bs.length : Int) + 5 := by omega
          have f3 : k < bs.length + 5 := hqlt
          have e6 : 0 ≤ (p : Int) + (i : Int) := by omega
          have d2 : ((p : Int) + (i : Int)).tdiv 8 = (k : Int) := by rw [Int.tdiv_eq_ediv_of_nonneg e6]; omega
          have e3 : ((p : Int) + (i : Int)).tmod 8 = (r : Int) := by rw [Int.tmod_eq_emod_of_nonneg e6]; omega
          have e2 : IntKind.i64.wrap (((p : Int) + (i : Int)).tdiv 8) = (k : Int) := by rw [d2]; exact IntWalk.i64_in _ (by omega)
          have e4 : IntKind.i64.wrap (((p : Int) + (i : Int)).tmod 8) = (r : Int) := by rw [e3]; exact IntWalk.i64_in _ (by omega)
          clear d2
          have e1 : IntKind.i64.wrap ((p : Int) + (i : Int)) = (p : Int) + (i : Int) := IntWalk.i64_in _ (by omega)
          have gld : wr.drew.cell? ⟨g, k, none⟩ = some (.int .u8 (sb.toNat : Int)) := gl'
          have Hk := hid hk; have Hr8 := hid hr8; have Hm2 := hid hm2
          clear hk hr8 hm2 hqlt hpi hql
          go_wp2_with fail
          refine wp_region_still_tail 14 (by kernel_rfl) (by kernel_rfl) ?_
          simp only [List.take_succ_cons, List.take_zero, List.drop_succ_cons, List.drop_zero]
          change wpStill _ _ wr.drew _ _ _
          repeat still_step
          refine wpStill_nil ?_
          clear e1 e2 e3 e4 hsh
          have hfin := hid (fun (V : Value) (hV : V = B (sb ^^^ m)) => hid (show Kept [g] w2 (wr.drew.setCell ⟨g, k, none⟩ V) ∧ (wr.drew.setCell ⟨g, k, none⟩ V).ownsRow w1.heap.size 5 1 (.slice (some ⟨g, 0, none⟩) (bs.length + 5) c2) (bs.length + 5) ((Crc.flips (sealed kind bs) p turn (i + 1)).map B) from by
            subst hV
            refine ⟨hr.out.1.drew.setCell (p := ⟨g, k, none⟩) (fun _ => by simp) _, ?_⟩
            have hset := flip_set (Crc.flips (sealed kind bs) p turn i) q sb Hsb.out
            rw [← Hk.out, ← Hr8.out, ← Hm2.out] at hset
            have hfs : Crc.flips (sealed kind bs) p turn (i + 1) = Crc.flip (Crc.flips (sealed kind bs) p turn i) q := by
              show (if turn.testBit i then Crc.flip (Crc.flips (sealed kind bs) p turn i) (p + i) else Crc.flips (sealed kind bs) p turn i) = _
              rw [if_pos Hb.out, Hq.out]
            rw [hfs, ← hset]
            exact own_set (w := wr.drew) hr.out.2 k (sb ^^^ m)))
          have hxv := hid (xor_u8 sb m)
          have hp8 := hid (show (2 : Int) ^ min r 8 % 256 = (m.toNat : Int) by rw [Hm2.out]; exact pow8 r (by have := Hr8.out; omega))
          go_wp2
          go_roundw
          case rel => exact ⟨i + 1, by omega, by go_num, hfin.out _ (by rw [hp8.out, hxv.out]; rfl)⟩
          case measure => simp [intOf]; omega
        · have hb1 : (bits .and .u32 ((turn : Int) / 2 ^ i) 1 == 1) = false := by rw [bit_u32 turn i htl, if_neg hb]; rfl
          have hfs : Crc.flips (sealed kind bs) p turn (i + 1) = Crc.flips (sealed kind bs) p turn i := by
            show (if turn.testBit i then Crc.flip (Crc.flips (sealed kind bs) p turn i) (p + i) else Crc.flips (sealed kind bs) p turn i) = _
            rw [if_neg hb]
          have hfin := hid (show Hid (Kept [g] w2 wr ∧ wr.ownsRow w1.heap.size 5 1 (.slice (some ⟨g, 0, none⟩) (bs.length + 5) c2) (bs.length + 5) ((Crc.flips (sealed kind bs) p turn (i + 1)).map B)) by rw [hfs]; exact hr)
          clear hb hfs
          go_wp2
          go_roundw
          case rel => exact ⟨i + 1, by omega, by go_num, hfin.out⟩
          case measure => simp [intOf]; omega
      · have h32 : i = 32 := by omega
        subst h32
        obtain ⟨hkg, hor⟩ := hr.out
        have hgw := hid (show w.heap.size ≤ g from Nat.le_trans Hk1.out.size Hg.out)
        have hk3 := hid (show Kept [] w wr from Hk2.out.trans' hkg (fun x hx hm => by simp at hm; have := hgw.out; omega))
        have hfl := Crc.flips_len (sealed kind bs) p turn 32
        rw [sealed_len] at hfl
        have hus := unseal_any kind (.slice (some ⟨g, 0, none⟩) (bs.length + 5) c2) (Crc.flips (sealed kind bs) p turn 32) wr (ownsRow_src (by rw [hfl]; exact hor)) (Ht.out.kept hk3.out (by simp)) (by rw [hfl]; omega)
        by_cases ht0 : turn = 0
        · subst ht0
          have hf0 : ∀ n, Crc.flips (sealed kind bs) p 0 n = sealed kind bs := by
            intro n
            induction n with
            | zero => rfl
            | succ n ih => simp [Crc.flips, ih]
          unfold Unsealed at hus
          rw [hf0, (unseal_own kind bs).1, (unseal_own kind bs).2] at hus
          have Hus := hid hus
          clear hus hf0 hkg hor hfl hr
          go_wp2_with fail
          refine Hus.out.mono ?_
          rintro e w3 ⟨a3, c3, rfl, hk4, hb4, hx4⟩
          have hk34 := hid (hk3.out.trans hk4)
          have hsame := hid (same_src a3 a c3 c bs w3 hb4.1 (H.out.kept hk34.out (by simp)))
          clear hk4 hb4 hx4
          go_wp2_with fail
          refine hsame.out.mono ?_
          rintro e w4 ⟨rfl, rfl⟩
          go_wp2
          go_ret
          exact ⟨rfl, hk34.out⟩
        · have hbad := unseal_bad kind (Crc.flips (sealed kind bs) p turn 32) (by rw [hfl]; omega) (Crc.burst (sealed kind bs) p turn (by omega) ht0 (by rw [sealed_len]; omega) (sealed_good kind bs))
          unfold Unsealed at hus
          rw [hbad.1, hbad.2] at hus
          have Hus := hid hus
          have htf : ((turn : Int) == 0) = false := by simpa using ht0
          clear hus hbad hkg hor hfl hr ht0
          go_wp2_with fail
          refine Hus.out.mono ?_
          rintro e w3 ⟨a3, c3, rfl, hk4, hb4, hx4⟩
          have hk34 := hid (hk3.out.trans hk4)
          clear hk4 hb4 hx4
          go_wp2
          go_ret
          exact ⟨rfl, hk34.out⟩
end Go.Proofs.YtijkpnggehnmcabDoor
