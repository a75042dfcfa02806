/- coldstorelaw04.alive. -/
import Derived.Test.YtijkpnggehnmcabDoorSA
import Derived.Lib.SlBytesConst
namespace Go.Proofs.YtijkpnggehnmcabDoor
open Go.RowKit Go.Lib

def nine : List UInt8 := [49, 50, 51, 52, 53, 54, 55, 56, 57]
theorem sum_nine : (Crc.sum nine).toNat = 3808858755 := by decide +kernel
theorem sum_nil : (Crc.sum []).toNat = 0 := by decide +kernel

def ab : List UInt8 := [97, 98]
def ab7 : List UInt8 := sealed 7 ab
theorem ab7_len : ab7.length = 7 := sealed_len _ _

def two : List (List UInt8) := [[97], []]
def two17 : List UInt8 := chainB two
theorem two17_len : two17.length = 17 := by simp [two17, two, chainB, linkB_len]
theorem two18 {rows : List (List UInt8)} {rest : List UInt8} (h : Unch (two17 ++ [1]) rows rest) : rows.length = 2 ∧ rest.length = 1 := by
  have h2 := unch_chain two [1] [] [1] (by intro r hr; simp [two] at hr; rcases hr with rfl | rfl <;> decide) (Unch.stop _ (row1_short _ (by decide)))
  obtain ⟨h3, h4⟩ := h.det h2
  subst h3 h4
  exact ⟨rfl, rfl⟩

theorem unseal_own' (k : UInt8) (sv : Value) (ys xs : List UInt8) (w : World) (hx : xs = sealed k ys) (hsrc : SrcB w sv xs) (ht : Tab w) (hlen : ys.length ≤ 400000000) :
    Calls Tryd.prog 10 #[.int .u8 (k.toNat : Int), sv] w fun e w' => ∃ a c, e = .returned (.tuple #[.slice a ys.length c, .int .i64 0]) ∧ Kept [] w w' ∧ Bys w' a c ys ∧ ∀ x, a = some x → w.heap.size ≤ x.block := by
  subst hx
  have h := unseal_any k sv _ w hsrc ht (by rw [sealed_len]; omega)
  unfold Unsealed at h
  rw [(unseal_own k ys).1, (unseal_own k ys).2] at h
  exact h
theorem unseal_none' (k : UInt8) (sv : Value) (xs : List UInt8) (n : Int) (w : World) (hx : unsealErr k xs = n ∧ unsealed k xs = []) (hsrc : SrcB w sv xs) (ht : Tab w) (hlen : xs.length ≤ 500000000) :
    Calls Tryd.prog 10 #[.int .u8 (k.toNat : Int), sv] w fun e w' => ∃ a c, e = .returned (.tuple #[.slice a 0 c, .int .i64 n]) ∧ Kept [] w w' := by
  have h := unseal_any k sv xs w hsrc ht hlen
  unfold Unsealed at h
  rw [hx.1, hx.2] at h
  exact h.mono fun e w' ⟨a, c, h1, h2, _⟩ => ⟨a, c, h1, h2⟩

set_option maxHeartbeats 1000000 in
theorem alive04 (w : World) (ht : Tab w) : Calls Tryd.prog 9 #[] w fun e w' => e = .returned (.bool true) ∧ Kept [] w w' := by
  have kc := fun (w : World) (C : Array Value) (n c : Nat) => Lib.run_convert_bytes_const (P := Tryd.prog) w 22 5 C n c Tryd.underlying22 Tryd.underlying5
  have Ht := hid ht
  clear ht
  obtain ⟨w1, hw1⟩ : ∃ w1, w1 = w.alloc (.cells #[.int .u8 49, .int .u8 50, .int .u8 51, .int .u8 52, .int .u8 53, .int .u8 54, .int .u8 55, .int .u8 56, .int .u8 57] 5 (9, 10)) := ⟨_, rfl⟩
  have hk1 := hid (show Kept [] w w1 from hw1 ▸ (Kept.refl [] w).alloc _)
  have hb1 : SrcB w1 (.slice (some ⟨w.heap.size, 0, none⟩) 9 9) nine := hw1 ▸ src_alloc w nine 9 (9, 10)
  have hs1 := sum_any _ nine w1 hb1 (Ht.out.kept hk1.out (by simp)) (by decide)
  have hs2 := sum_any (.slice none 0 0) [] w1 (Or.inl ⟨rfl, rfl, rfl⟩) (Ht.out.kept hk1.out (by simp)) (by decide)
  rw [sum_nine] at hs1
  rw [sum_nil] at hs2
  have hs1 := hid hs1; have hs2 := hid hs2; have Hw1 := hid hw1
  clear hb1 hw1
  go_enter Tryd.func9, Tryd.ntmps9
  go_wp2_with fail
  rw [← Hw1.out]
  refine hs1.out.mono ?_
  rintro e w2 ⟨rfl, rfl⟩
  go_wp2_with fail
  refine hs2.out.mono ?_
  rintro e w2 ⟨rfl, rfl⟩
  go_wp2_with fail
  obtain ⟨w2, hw2⟩ : ∃ w2, w2 = w1.alloc (.cells #[.int .u8 97, .int .u8 98] 5 (2, 3)) := ⟨_, rfl⟩
  rw [← hw2]
  have hk2 := hid (hk1.out.trans (show Kept [] w1 w2 from hw2 ▸ (Kept.refl [] w1).alloc _))
  have hb2 : SrcB w2 (.slice (some ⟨w1.heap.size, 0, none⟩) 2 2) ab := hw2 ▸ src_alloc w1 ab 2 (2, 3)
  have hs3 := hid (show Calls Tryd.prog 12 #[.int .u8 7, .slice (some ⟨w1.heap.size, 0, none⟩) 2 2] w2 (Gives w2 [] ab7) from seal_any 7 _ ab w2 hb2 (Ht.out.kept hk2.out (by simp)) (by decide))
  clear hb2 hw2 hs1 hs2
  refine hs3.out.mono ?_
  rintro e w3 ⟨a3, c3, rfl, hk3, ho3⟩
  rw [ab7_len] at ho3 ⊢
  have Hk3 := hid (hk2.out.trans hk3)
  have Ho3 := hid ho3
  have hs4 := hid (show Calls Tryd.prog 10 #[.int .u8 7, .slice a3 7 c3] w3 _ from unseal_own' 7 _ ab ab7 w3 rfl (ownsRow_src (xs := ab7) (by rw [ab7_len]; exact ho3)) (Ht.out.kept Hk3.out (by simp)) (by decide))
  clear hk3 ho3 hs3
  go_wp2_with fail
  refine hs4.out.mono ?_
  rintro e w4 ⟨a4, c4, rfl, hk4, hb4, hx4⟩
  have Hk4 := hid (Hk3.out.trans hk4)
  have Hb4 := hid hb4
  have Ho4 := hid (hk4.owns Ho3.out (by simp))
  have hs5 := hid (show Calls Tryd.prog 10 #[.int .u8 8, .slice a3 7 c3] w4 _ from unseal_none' 8 _ ab7 21 w4 (unseal_other 7 8 ab (by decide)) (ownsRow_src (xs := ab7) (by rw [ab7_len]; exact Ho4.out)) (Ht.out.kept Hk4.out (by simp)) (by decide))
  clear hk4 hb4 hx4 hs4
  go_wp2_with fail
  refine hs5.out.mono ?_
  rintro e w5 ⟨a5, c5, rfl, hk5⟩
  have Hk5 := hid (Hk4.out.trans hk5)
  have Hb5 := hid (Hb4.out.kept hk5 (by simp))
  have hs6 := hid (show Calls Tryd.prog 10 #[.int .u8 7, .slice none 0 0] w5 _ from unseal_none' 7 _ [] 20 w5 (unseal_short 7 [] (by decide)) (Or.inl ⟨rfl, rfl, rfl⟩) (Ht.out.kept Hk5.out (by simp)) (by decide))
  clear hk5 hs5
  go_wp2_with fail
  refine hs6.out.mono ?_
  rintro e w6 ⟨a6, c6, rfl, hk6⟩
  have Hk6 := hid (Hk5.out.trans hk6)
  have Hb6 := hid (Hb5.out.kept hk6 (by simp))
  clear hk6 hs6
  go_wp2_with fail
  obtain ⟨w8, hw8⟩ : ∃ w8, w8 = (w6.alloc (.cells #[.int .u8 97] 5 (1, 2))).alloc (.cells #[.slice (some ⟨w6.heap.size, 0, none⟩) 1 1, .slice none 0 0] 22) := ⟨_, rfl⟩
  rw [← hw8]
  have hk68 := hid (show Kept [] w6 w8 from hw8 ▸ ((Kept.refl [] w6).alloc _).alloc _)
  have Hk8 := hid (Hk6.out.trans hk68.out)
  have hrow8 := hid (show w8.heap[w6.heap.size + 1]? = some (.cells #[.slice (some ⟨w6.heap.size, 0, none⟩) 1 1, .slice none 0 0] 22 (0, 0)) from hw8 ▸ heap_alloc_at (by simp))
  have hsr8 := hid (show SrcB w8 (.slice (some ⟨w6.heap.size, 0, none⟩) 1 1) [97] from (src_alloc w6 [97] 1 (1, 2)).kept (hw8 ▸ (Kept.refl [] _).alloc _) (by simp))
  have hir := hid (show IsRows w8 (some ⟨w6.heap.size + 1, 0, none⟩) two from ⟨fun h => by simp at h, fun x hx i r hi => by
    simp at hx
    subst hx
    match i with
    | 0 =>
      simp [two] at hi
      subst hi
      exact ⟨_, 1, by unfold World.cell?; simp [hrow8.out, Addr.add], hsr8.out⟩
    | 1 =>
      simp [two] at hi
      subst hi
      exact ⟨none, 0, by unfold World.cell?; simp [hrow8.out, Addr.add], Or.inl ⟨rfl, rfl, rfl⟩⟩
    | i + 2 => simp [two] at hi⟩)
  have hs9 := hid (show Calls Tryd.prog 18 #[.slice (some ⟨w6.heap.size + 1, 0, none⟩) 2 2] w8 (Gives w8 [] two17) from chain_any _ 2 two w8 hir.out (Ht.out.kept Hk8.out (by simp)) (by decide) (by intro r hr; simp [two] at hr; rcases hr with rfl | rfl <;> decide))
  clear hw8
  refine hs9.out.mono ?_
  rintro e w9 ⟨a9, c9, rfl, hk9, ho9⟩
  rw [two17_len] at ho9 ⊢
  have Hk9 := hid (Hk8.out.trans hk9)
  have hk69 := hid (hk68.out.trans hk9)
  obtain ⟨i0, hi0, hz0, hz1, hz2⟩ := info_parts info_u8
  have ho9' := hid (((Kept.refl [] w9).alloc (.cells #[.int .u8 1] 5)).owns ho9 (by simp))
  have hg9 := hid (own_block_ge ho9)
  have hsz9 := hid hk9.size
  clear hk9 ho9 hs9
  go_wp2_with (at_builtin; refine halt ?_)
  refine Halt.mk ?_
  refine wpList_append_src _ rfl _ _ _ rfl w8.heap.size 5 i0 _ 1 Tryd.underlying22 hi0 hz0 hz1 hz2 rfl (.slice a9 17 c9) 17 (two17.map B) rfl ho9'.out _ 1 [B 1] rfl (Or.inr ⟨_, _, rfl, cell_one_new _ _ _⟩) rfl (by simp [B, Value.oneCell']) ?_ ?_ ?_ ?_
  · unfold maxLen; simp
  · simp
  · have := hsz9.out; simp; omega
  intro v10 w10 hown10 hgrow10 _ hf10
  obtain ⟨a10, c10, rfl⟩ := owns_slice hown10
  have hk10 := hid (show Kept [] w w10 from (Hk9.out.alloc _).trans' (Kept.of_row hgrow10) (fun x hx hm => by
    simp at hm
    have := (hg9.out x hm).1
    have := Hk8.out.size
    omega))
  have Hb10 := hid (Hb6.out.kept (show Kept [] w6 w10 from (hk69.out.alloc _).trans' (Kept.of_row hgrow10) (fun x hx hm => by
    simp at hm
    have := (hg9.out x hm).1
    have := hk68.out.size
    omega)) (by simp))
  have hs11 := hid (show Calls Tryd.prog 19 #[.slice a10 18 c10] w10 (Unchained w10 (two17 ++ [1])) from by
    have := unchain_any a10 c10 (two17 ++ [1]) w10 (fun W hk => bsl_of_row (base := w8.heap.size) (by have := hk.owns hown10 (by simp); rw [List.length_append, two17_len]; simpa using this)) (Ht.out.kept hk10.out (by simp)) (by simp [two17_len])
    rw [List.length_append, two17_len] at this
    exact this)
  clear hown10 hgrow10 hf10
  go_wp2_with fail
  refine hs11.out.mono ?_
  rintro e w11 ⟨rows, rest, av, cv, vals, a11, c11, hu, rfl, hk11, _, _, _, _⟩
  obtain ⟨hr2, hr1⟩ := two18 hu
  rw [hr2, hr1]
  have hfin := hid (hk10.out.trans hk11)
  have hab := (Hb10.out.kept hk11 (by simp)).text
  have hat : ab.toArray = #[97, 98] := rfl
  rw [hat] at hab
  clear hu hk11 hs11 hat hr1 hr2
  go_wp2
  go_ret
  exact ⟨rfl, hfin.out⟩
end Go.Proofs.YtijkpnggehnmcabDoor
