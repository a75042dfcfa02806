/- coldstorelaw04.SealBytes: the walk. -/
import Derived.Test.YtijkpnggehnmcabDoorSN
namespace Go.Proofs.YtijkpnggehnmcabDoor
open Go.RowKit Go.Lib

set_option maxHeartbeats 2000000 in
theorem sealbytes (kind other : UInt8) (a : Option Addr) (c : Nat) (bs : List UInt8) (w : World) (h : BSl w a c bs) (ht : Tab w) (hm : bs.length ≤ 9223372036854775807) :
    Calls Tryd.prog 3 #[.int .u8 (kind.toNat : Int), .int .u8 (other.toNat : Int), .slice a bs.length c] w fun e w' => e = .returned (.bool true) ∧ Kept [] w w' := by
  have ha := hid (alive04 w ht)
  have H := hid h.src; have Ht := hid ht
  have HB := hid (fun (W : World) (hk : Kept [] w W) => show BSl W a c bs from ⟨h.src.kept hk (by simp), h.le, h.max, h.nil⟩)
  have hkl := kind.toNat_lt; have hol := other.toNat_lt
  clear h ht
  by_cases hl : 300 < bs.length
  · have hl' : (300 : Int) < (bs.length : Int) := by omega
    go_enter Tryd.func3, Tryd.ntmps3
    go_wp2_with fail
    refine ha.out.mono ?_
    rintro e w1 ⟨rfl, hk1⟩
    have Hk1 := hid hk1
    clear hk1
    go_wp2
    go_ret
    exact ⟨rfl, Hk1.out⟩
  · have hl' : ¬ (300 : Int) < (bs.length : Int) := by omega
    go_enter Tryd.func3, Tryd.ntmps3
    go_wp2_with fail
    refine ha.out.mono ?_
    rintro e w1 ⟨rfl, hk1⟩
    have Hk1 := hid hk1
    have hs2 := hid (unseal_any kind _ bs w1 (H.out.kept hk1 (by simp)) (Ht.out.kept hk1 (by simp)) (by omega))
    clear hk1 ha
    go_wp2_with fail
    refine hs2.out.mono ?_
    rintro e w2 ⟨a2, c2, rfl, hk2, hb2, _⟩
    obtain ⟨U, hU⟩ : ∃ U, U = unsealed kind bs := ⟨_, rfl⟩
    obtain ⟨E, hE⟩ : ∃ E, E = unsealErr kind bs := ⟨_, rfl⟩
    rw [← hU] at hb2
    rw [← hU, ← hE]
    have Hk2 := hid (Hk1.out.trans hk2)
    have Hb2 := hid hb2
    have hs3 := refunseal_any kind a c bs w2 (HB.out w2 Hk2.out) (by omega)
    unfold RefUnsealed at hs3
    rw [← hU, ← hE] at hs3
    have hs3 := hid hs3
    clear hk2 hb2 hs2 hU hE
    go_wp2_with fail
    refine hs3.out.mono ?_
    rintro e w3 ⟨a3, c3, rfl, hk3, hy3⟩
    have Hk3 := hid (Hk2.out.trans hk3)
    have Hb3 := hid (Hb2.out.kept hk3 (by simp))
    have Hy3 := hid hy3
    have hs4 := hid (seal_any' kind _ bs w3 (H.out.kept Hk3.out (by simp)) (Ht.out.kept Hk3.out (by simp)) (by omega))
    clear hk3 hy3 hs3
    go_wp2_with fail
    refine hs4.out.mono ?_
    rintro e w4 ⟨g, c4, rfl, hg, hk4, ho4⟩
    have Hk4 := hid (Hk3.out.trans hk4)
    have Hk34 := hid hk4
    have Hb4 := hid (Hb3.out.kept hk4 (by simp))
    have Ho4 := hid ho4
    obtain ⟨n1, n2, hn12⟩ : ∃ (n1 : Int) (n2 : List UInt8), Hid (unsealErr other (sealed kind bs) = n1 ∧ unsealed other (sealed kind bs) = n2) := ⟨_, _, hid ⟨rfl, rfl⟩⟩
    have hs5 := hid (unseal_any other (.slice (some ⟨g, 0, none⟩) (bs.length + 5) c4) (sealed kind bs) w4 (ownsRow_src (by rw [sealed_len]; exact ho4)) (Ht.out.kept Hk4.out (by simp)) (by rw [sealed_len]; omega))
    clear hk4 ho4 hs4 hg
    go_wp2_with fail
    refine hs5.out.mono ?_
    rintro e w5 ⟨a5, c5, rfl, hk5, hb5, _⟩
    rw [hn12.out.1, hn12.out.2]
    rw [hn12.out.2] at hb5
    have Hk5 := hid (Hk4.out.trans hk5)
    have Hk35 := hid (Hk34.out.trans hk5)
    have Hb5 := hid (Hb4.out.kept hk5 (by simp))
    have Hu5 := hid hb5
    have Ho5 := hid (hk5.owns Ho4.out (by simp))
    have hs6 := hid (sum_any (.slice a bs.length c) bs w5 (H.out.kept Hk5.out (by simp)) (Ht.out.kept Hk5.out (by simp)) (by omega))
    have hs7 := hid (refsum_any (.slice a bs.length c) bs w5 (H.out.kept Hk5.out (by simp)) (by omega))
    have hs8 := hid (refseal_any kind a c bs w5 (H.out.kept Hk5.out (by simp)) (by omega))
    have hsl := (Crc.sum bs).isLt
    clear hk5 hb5 hs5
    generalize (Crc.sum bs).toNat = sv at *
    go_wp2_with fail
    refine hs6.out.mono ?_
    rintro e w6 ⟨rfl, rfl⟩
    go_wp2_with fail
    refine hs7.out.mono ?_
    rintro e w6 ⟨rfl, rfl⟩
    go_wp2_with fail
    refine hs8.out.mono ?_
    rintro e w6 ⟨a6, c6, rfl, hk6, hb6, _⟩
    rw [sealed_len]
    have Hk6 := hid (Hk5.out.trans hk6)
    have Hk36 := hid (Hk35.out.trans hk6)
    have Hb6 := hid (Hb5.out.kept hk6 (by simp))
    have Hu6 := hid (Hu5.out.kept hk6 (by simp))
    have hs9 := same_src (some ⟨g, 0, none⟩) a6 c4 c6 (sealed kind bs) w6 (ownsRow_src (by rw [sealed_len]; exact hk6.owns Ho5.out (by simp))) hb6.1
    rw [sealed_len] at hs9
    have hs9 := hid hs9
    have hs10 := hid (same_src a2 a3 c2 c3 U w6 Hb6.out.1 (Hy3.out w6 Hk36.out))
    clear hk6 hb6 hs6 hs7 hs8
    go_wp2_with fail
    refine hs9.out.mono ?_
    rintro e w7 ⟨rfl, rfl⟩
    go_wp2_with fail
    refine hs10.out.mono ?_
    rintro e w7 ⟨rfl, rfl⟩
    clear hs9 hs10
    by_cases hko : kind = other
    · subst hko
      obtain ⟨h1, h2⟩ := hn12.out
      have e1 : n1 = 0 := by rw [← h1]; exact (unseal_own kind bs).1
      have e2 : n2 = bs := by rw [← h2]; exact (unseal_own kind bs).2
      subst e1 e2
      have hs11 := hid (same_src a5 a c5 c n2 w6 Hu6.out.1 (H.out.kept Hk6.out (by simp)))
      clear h1 h2
      go_wp2_with fail
      refine hs11.out.mono ?_
      rintro e w7 ⟨rfl, rfl⟩
      go_wp2
      go_ret
      exact ⟨rfl, Hk6.out⟩
    · obtain ⟨h1, h2⟩ := hn12.out
      have e1 : n1 = 21 := by rw [← h1]; exact (unseal_other kind other bs hko).1
      have e2 : n2 = [] := by rw [← h2]; exact (unseal_other kind other bs hko).2
      subst e1 e2
      have hkn : (kind.toNat : Int) ≠ (other.toNat : Int) := fun h => hko (UInt8.toNat_inj.1 (by omega))
      have hkf : ((kind.toNat : Int) == (other.toNat : Int)) = false := by simpa using hkn
      have hkt : ((kind.toNat : Int) != (other.toNat : Int)) = true := by simpa using hkn
      clear h1 h2 hko hkn
      go_wp2
      go_ret
      exact ⟨rfl, Hk6.out⟩
end Go.Proofs.YtijkpnggehnmcabDoor
