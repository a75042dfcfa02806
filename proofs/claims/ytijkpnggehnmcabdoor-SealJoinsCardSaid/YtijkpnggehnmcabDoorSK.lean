/- coldstorelaw04.SealKinds: the walk. -/
import Derived.Test.YtijkpnggehnmcabDoorSC
namespace Go.Proofs.YtijkpnggehnmcabDoor
open Go.RowKit Go.Lib

theorem seal_any' (kind : UInt8) (sv : Value) (ys : List UInt8) (w : World) (hsrc : SrcB w sv ys) (ht : Tab w) (hlen : ys.length ≤ 400000000) :
    Calls Tryd.prog 12 #[.int .u8 (kind.toNat : Int), sv] w fun e w' => ∃ g c, e = .returned (.slice (some ⟨g, 0, none⟩) (ys.length + 5) c) ∧ w.heap.size ≤ g ∧ Kept [] w w' ∧ w'.ownsRow w.heap.size 5 1 (.slice (some ⟨g, 0, none⟩) (ys.length + 5) c) (ys.length + 5) ((sealed kind ys).map B) := by
  refine (seal_any kind sv ys w hsrc ht hlen).mono ?_
  rintro e w' ⟨a, c, rfl, hk, ho⟩
  rw [sealed_len] at ho ⊢
  obtain ⟨g, cap, hv⟩ := Go.Joins.ownsRow_form ho (by omega)
  rw [hv] at ho ⊢
  exact ⟨g, cap, rfl, (own_block_ge ho g rfl).1, hk, ho⟩

set_option maxHeartbeats 2000000 in
theorem sealkinds (kind other : UInt8) (a : Option Addr) (c : Nat) (bs : List UInt8) (w : World) (h : SrcB w (.slice a bs.length c) bs) (ht : Tab w) (hm : bs.length ≤ 9223372036854775807) :
    Calls Tryd.prog 6 #[.int .u8 (kind.toNat : Int), .int .u8 (other.toNat : Int), .slice a bs.length c] w fun e w' => e = .returned (.bool true) ∧ Kept [] w w' := by
  have ha := hid (alive04 w ht)
  have H := hid h; have Ht := hid ht
  have hkl := kind.toNat_lt; have hol := other.toNat_lt
  clear h ht
  by_cases hl : 300 < bs.length
  · have hl' : (300 : Int) < (bs.length : Int) := by omega
    go_enter Tryd.func6, Tryd.ntmps6
    go_wp2_with fail
    refine ha.out.mono ?_
    rintro e w1 ⟨rfl, hk1⟩
    have Hk1 := hid hk1
    clear hk1
    go_wp2
    go_ret
    exact ⟨rfl, Hk1.out⟩
  · have hl' : ¬ (300 : Int) < (bs.length : Int) := by omega
    go_enter Tryd.func6, Tryd.ntmps6
    go_wp2_with fail
    refine ha.out.mono ?_
    rintro e w1 ⟨rfl, hk1⟩
    have hs2 := hid (seal_any' kind _ bs w1 (H.out.kept hk1 (by simp)) (Ht.out.kept hk1 (by simp)) (by omega))
    have Hk1 := hid hk1
    clear hk1 ha
    go_wp2_with fail
    refine hs2.out.mono ?_
    rintro e w2 ⟨g, c2, rfl, hg, hk2, ho2⟩
    have Hk2 := hid (Hk1.out.trans hk2)
    have Ho2 := hid ho2
    have hg2 := hid (own_block_ge ho2 g rfl)
    have hsl := hid (sealed_len kind bs)
    have hss := hid (fun (W : World) (ho : W.ownsRow w1.heap.size 5 1 (.slice (some ⟨g, 0, none⟩) (bs.length + 5) c2) (bs.length + 5) ((sealed kind bs).map B)) => show SrcB W (.slice (some ⟨g, 0, none⟩) (bs.length + 5) c2) (sealed kind bs) from ownsRow_src (by rw [sealed_len]; exact ho))
    have hs3 := hid (unseal_own' kind _ bs _ w2 rfl (hss.out _ ho2) (Ht.out.kept Hk2.out (by simp)) (by omega))
    clear hk2 ho2 hs2
    go_wp2_with fail
    refine hs3.out.mono ?_
    rintro e w3 ⟨a3, c3, rfl, hk3, hb3, hx3⟩
    have Hk3 := hid (Hk2.out.trans hk3)
    have Ho3 := hid (hk3.owns Ho2.out (by simp))
    have Hb3 := hid hb3; have Hx3 := hid hx3
    have hsz3 := hid hk3.size
    clear hk3 hb3 hx3 hs3
    obtain ⟨n1, n2, hs4⟩ : ∃ (n1 : Int) (n2 : List UInt8), Hid (unsealErr other (sealed kind bs) = n1 ∧ unsealed other (sealed kind bs) = n2) := ⟨_, _, hid ⟨rfl, rfl⟩⟩
    have hs5 := hid (unseal_any other _ _ w3 (hss.out _ Ho3.out) (Ht.out.kept Hk3.out (by simp)) (by rw [sealed_len]; omega))
    go_wp2_with fail
    refine hs5.out.mono ?_
    rintro e w4 ⟨a4, c4, rfl, hk4, _, _⟩
    rw [hs4.out.1, hs4.out.2]
    have Hk4 := hid (Hk3.out.trans hk4)
    have Ho4 := hid (hk4.owns Ho3.out (by simp))
    have Hb4 := hid (Hb3.out.kept hk4 (by simp))
    have hsz4 := hid hk4.size
    clear hk4 hs5
    have hmin1 : (4 : Int) < (bs.length : Int) + 5 := by omega
    have hmin2 : ¬ (bs.length : Int) + 5 < 4 := by omega
    have hcap := (bsl_of_row (xs := sealed kind bs) (by rw [sealed_len]; exact Ho2.out)).le
    rw [sealed_len] at hcap
    have hcapm := (bsl_of_row (xs := sealed kind bs) (by rw [sealed_len]; exact Ho2.out)).max
    unfold maxLen at hcapm
    have hcap4 : (4 : Int) ≤ (c2 : Int) := by omega
    go_wp2_with fail
    have hs6 := hid (unseal_none' kind (.slice (some ⟨g, 0, none⟩) 4 c2) ((sealed kind bs).take 4) 20 w4 (unseal_short kind _ (by simp; omega)) ((bsl_of_row (xs := sealed kind bs) (by rw [sealed_len]; exact Ho4.out)).take (by rw [sealed_len]; omega)) (Ht.out.kept Hk4.out (by simp)) (by simp; omega))
    refine hs6.out.mono ?_
    rintro e w5 ⟨a5, c5, rfl, hk5⟩
    have Hk5 := hid (Hk4.out.trans hk5)
    have Ho5 := hid (hk5.owns Ho4.out (by simp))
    have Hb5 := hid (Hb4.out.kept hk5 (by simp))
    have hsz5 := hid hk5.size
    clear hk5 hs6
    obtain ⟨i0, hi0, hz0, hz1, hz2⟩ := info_parts info_u8
    go_wp2_with (at_builtin; refine halt ?_)
    refine Halt.mk ?_
    refine wpList_append_src _ rfl _ _ _ rfl w5.heap.size 5 i0 _ 1 Tryd.underlying22 hi0 hz0 hz1 hz2 rfl (.slice none 0 0) 0 [] rfl (World.ownsRow_nil _ _ _ 1) (.slice (some ⟨g, 0, none⟩) (bs.length + 5) c2) (bs.length + 5) ((sealed kind bs).map B) rfl (by have := hss.out _ Ho5.out; unfold SrcB at this; rwa [sealed_len] at this) (by simp [sealed_len]) (B_oneCell _) ?_ ?_ ?_ ?_
    · unfold maxLen; omega
    · omega
    · exact Nat.le_refl _
    intro v6 w6 hown6 hgrow6 _ hf6
    obtain ⟨a6, c6, rfl⟩ := owns_slice hown6
    simp only [Nat.zero_add, List.nil_append] at hown6 ⊢
    obtain ⟨g6, cap6, hv6⟩ := Go.Joins.ownsRow_form hown6 (by omega)
    simp at hv6
    obtain ⟨rfl, rfl⟩ := hv6
    have hk6 := hid (show Kept [] w5 w6 from Kept.of_row hgrow6)
    have hg6 := hid (own_block_ge hown6 g6 rfl)
    have Ho6 := hid hown6
    have Hs6 := hid (hk6.out.owns Ho5.out (by simp))
    have Hk6 := hid (Hk5.out.trans hk6.out)
    have Hb6 := hid (Hb5.out.kept hk6.out (by simp))
    have hlast := Hs6.out.cellAt (bs.length + 4) (by omega)
    obtain ⟨lb, hlb⟩ : ∃ lb, (sealed kind bs)[bs.length + 4]? = some lb := ⟨(sealed kind bs)[bs.length + 4]'(by rw [sealed_len]; omega), by simp [sealed_len]⟩
    have Hlb := hid hlb
    have gl6 : w6.cell? ⟨g, bs.length + 4, none⟩ = some (.int .u8 (lb.toNat : Int)) := by rw [hlast, List.getElem?_map, hlb]; rfl
    have gf6 : w6.frozen? ⟨g, bs.length + 4, none⟩ = false := Hs6.out.frozenAt _
    clear hown6 hgrow6 hf6 hlast hlb
    have hi1 : (bs.length : Int) + 5 - 1 = (bs.length : Int) + 4 := by omega
    have hi2 : ((bs.length : Int) + 4).toNat = bs.length + 4 := by omega
    go_wp2_with fail
    have hxr := xor_u8 lb 1
    rw [show (((1 : UInt8).toNat : Nat) : Int) = 1 from rfl] at hxr
    rw [hxr]
    obtain ⟨w7, hw7⟩ : ∃ w7, w7 = w6.setCell ⟨g, bs.length + 4, none⟩ (B (lb ^^^ 1)) := ⟨_, rfl⟩
    rw [show (w6.setCell ⟨g, bs.length + 4, none⟩ (.int .u8 (((lb ^^^ 1).toNat : Nat) : Int))) = w7 from hw7.symm]
    have hfl : (sealed kind bs).set (bs.length + 4) (lb ^^^ 1) = Crc.flip (sealed kind bs) (8 * (bs.length + 4)) := by
      have h0 : 8 * (bs.length + 4) / 8 = bs.length + 4 := by omega
      have h1 : 8 * (bs.length + 4) % 8 = 0 := by omega
      have := flip_set (sealed kind bs) (8 * (bs.length + 4)) lb (by rw [h0]; exact Hlb.out)
      rw [h0, h1] at this
      exact this
    have hbad := unseal_bad kind (Crc.flip (sealed kind bs) (8 * (bs.length + 4))) (by rw [Crc.flip_len, sealed_len]; omega) (flip_bad _ _ (by rw [sealed_len]; omega) (sealed_good kind bs))
    have hos7 := own_set Hs6.out (bs.length + 4) (lb ^^^ 1)
    rw [← hw7, hfl] at hos7
    have hgw : w.heap.size ≤ g := Nat.le_trans Hk1.out.size hg
    have hk7 := hid (show Kept [] w w7 from hw7 ▸ Hk6.out.setCell (p := ⟨g, bs.length + 4, none⟩) (fun h => absurd h (by simp; omega)) _)
    have hkg := hid (show Kept [g] w6 w7 from hw7 ▸ (Kept.refl _ _).setCell (p := ⟨g, bs.length + 4, none⟩) (fun _ => by simp) _)
    have hlt2 := hid (show g < w2.heap.size from hg2.out.2)
    have Hb7 := hid (Hb6.out.kept hkg.out (fun y hy => by have := Hx3.out y hy; have := hlt2.out; simp; omega))
    have hlt5 := hid (show g < w5.heap.size by have := hlt2.out; have := hsz3.out; have := hsz4.out; have := hsz5.out; omega)
    have Ho7 := hid (hkg.out.owns Ho6.out (fun y hy => by simp [Value.ownBlock] at hy; have := hg6.out.1; have := hlt5.out; simp; omega))
    have hs8 := hid (unseal_none' kind (.slice (some ⟨g, 0, none⟩) (bs.length + 5) c2) (Crc.flip (sealed kind bs) (8 * (bs.length + 4))) 36 w7 hbad (by have := ownsRow_src (xs := Crc.flip (sealed kind bs) (8 * (bs.length + 4))) (w := w7) (base := w1.heap.size) (v := .slice (some ⟨g, 0, none⟩) (bs.length + 5) c2) (by rw [Crc.flip_len, sealed_len]; exact hos7); exact this) (Ht.out.kept hk7.out (by simp)) (by rw [Crc.flip_len, sealed_len]; omega))
    clear hxr hw7 hfl hbad hos7 gl6 gf6 hg
    refine hs8.out.mono ?_
    rintro e w8 ⟨a8, c8, rfl, hk8⟩
    have Hk8 := hid (hk7.out.trans hk8)
    have Hb8 := hid (Hb7.out.kept hk8 (by simp))
    have Ho8 := hid (hk8.owns Ho7.out (by simp))
    have hs9 := hid (unseal_own' kind (.slice (some ⟨g6, 0, none⟩) (bs.length + 5) c6) bs _ w8 rfl (ownsRow_src (by rw [sealed_len]; exact Ho8.out)) (Ht.out.kept Hk8.out (by simp)) (by omega))
    clear hk8 hs8
    go_wp2_with fail
    refine hs9.out.mono ?_
    rintro e w9 ⟨a9, c9, rfl, hk9, _, _⟩
    have Hk9 := hid (Hk8.out.trans hk9)
    have Hb9 := hid (Hb8.out.kept hk9 (by simp))
    have Ho9 := hid (hk9.owns Ho8.out (by simp))
    have gb9 : w9.cell? ⟨g6, 0, none⟩ = some (.int .u8 (kind.toNat : Int)) := Ho9.out.cellAt 0 (by omega)
    have hsame := hid (same_src a3 a c3 c bs w9 Hb9.out.1 (H.out.kept Hk9.out (by simp)))
    clear hk9 hs9
    have hbl : 0 < bs.length + 5 := by omega
    by_cases hko : kind = other
    · subst hko
      obtain ⟨h1, h2⟩ := hs4.out
      have e1 : n1 = 0 := by rw [← h1]; exact (unseal_own kind bs).1
      have e2 : n2 = bs := by rw [← h2]; exact (unseal_own kind bs).2
      subst e1 e2
      clear h1 h2
      go_wp2_with fail
      refine hsame.out.mono ?_
      rintro e w10 ⟨rfl, rfl⟩
      go_wp2
      go_ret
      exact ⟨rfl, Hk9.out⟩
    · obtain ⟨h1, h2⟩ := hs4.out
      have e1 : n1 = 21 := by rw [← h1]; exact (unseal_other kind other bs hko).1
      have e2 : n2 = [] := by rw [← h2]; exact (unseal_other kind other bs hko).2
      subst e1 e2
      have hkf : ((kind.toNat : Int) == (other.toNat : Int)) = false := by
        simp only [beq_eq_false_iff_ne]
        exact fun h => hko (UInt8.toNat_inj.1 (by omega))
      clear h1 h2 hko
      go_wp2_with fail
      refine hsame.out.mono ?_
      rintro e w10 ⟨rfl, rfl⟩
      go_wp2
      go_ret
      exact ⟨rfl, Hk9.out⟩
end Go.Proofs.YtijkpnggehnmcabDoor
