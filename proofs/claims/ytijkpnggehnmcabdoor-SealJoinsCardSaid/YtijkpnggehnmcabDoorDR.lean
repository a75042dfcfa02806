/- coldstoreref01.Held, coldstoreref02.Num, coldstoreref01.Join of two: the document's bytes. -/
import Derived.Test.YtijkpnggehnmcabDoorC8
namespace Go.Proofs.YtijkpnggehnmcabDoor
open Go.RowKit Go.Lib

theorem held_any (size : Int) (w : World) : Calls Tryd.prog 43 #[.int .i64 size, .int .i64 1, .int .i64 8] w fun e w' => e = .returned (.int .i64 (sz size)) ∧ w = w' := by
  by_cases h1 : size < 1
  · have e : sz size = 1 := by unfold sz; rw [if_pos h1]
    have h2 : ¬ 8 < size := by omega
    rw [e]
    go_enter Tryd.func43, Tryd.ntmps43
    go_wp2
    go_ret
    exact ⟨by simp, rfl⟩
  · by_cases h2 : 8 < size
    · have e : sz size = 8 := by unfold sz; rw [if_neg h1, if_pos h2]
      rw [e]
      go_enter Tryd.func43, Tryd.ntmps43
      go_wp2
      go_ret
      exact ⟨by simp, rfl⟩
    · have e : (sz size : Int) = size := by unfold sz; rw [if_neg h1, if_neg h2]; omega
      rw [e]
      go_enter Tryd.func43, Tryd.ntmps43
      go_wp2
      go_ret
      exact ⟨by simp, rfl⟩

/-- A row of bytes that a call made: v is it, in the world wr. -/
def RowAt (w : World) (base : Nat) (v : Value) (xs : List UInt8) (wr : World) : Prop :=
  Kept [] w wr ∧ w.heap.size ≤ base ∧ base ≤ wr.heap.size ∧ wr.ownsRow base 5 1 v xs.length (xs.map B)
theorem RowAt.step {w wr w1 w2 : World} {base : Nat} {v v2 : Value} {xs ys : List UInt8} (h : RowAt w base v xs wr) (hk : Kept [] wr w1) (hown : w2.ownsRow base 5 1 v2 (xs ++ ys).length ((xs ++ ys).map B)) (hg : w1.grownBy w2 v.ownBlock) : RowAt w base v2 (xs ++ ys) w2 := by
  obtain ⟨h1, h2, h3, h4⟩ := h
  refine ⟨(h1.trans hk).trans' (Kept.of_row hg) (fun x hx hm => ?_), h2, by have := hk.size; have := hg.size; omega, hown⟩
  simp at hm
  rcases h4.2 with ⟨rfl, _⟩ | ⟨g, _, _, rfl, hb, _⟩
  · simp [Value.ownBlock] at hm
  · simp [Value.ownBlock] at hm; omega
theorem RowAt.fresh (w : World) : RowAt w w.heap.size (.slice (some ⟨w.heap.size, 0, none⟩) 0 0) [] (w.alloc (.cells #[] 5)) :=
  ⟨(Kept.refl [] w).alloc _, Nat.le_refl _, by simp, by simp, Or.inr ⟨w.heap.size, 0, #[], rfl, Nat.le_refl _, heap_alloc_new' _ _, by simp, by unfold maxLen; omega, by simp, by simp⟩⟩

set_option maxHeartbeats 1000000 in
theorem refnum_any (N : Nat) (hN : N < 18446744073709551616) (size : Int) (w : World) :
    Calls Tryd.prog 31 #[.int .u64 N, .int .i64 size] w fun e w' => ∃ v, e = .returned v ∧ RowAt w w.heap.size v (numB N (sz size)) w' := by
  obtain ⟨i0, hi0, hz0, hz1, hz2⟩ := info_parts info_u8
  have hs := sz_le size
  have hfr := hid (RowAt.fresh w)
  go_enter Tryd.func31, Tryd.ntmps31
  go_wp2_with fail
  go_loopw [0, 5, 6] (fun n v s wr => ∃ i : Nat, i ≤ sz size ∧ s = .int .i64 i ∧ n = .int .u64 ((N / 256 ^ i : Nat) : Int) ∧ RowAt w w.heap.size v (numB N i) wr) (fun _ _ s _ => sz size - (intOf s).toNat)
  case atStart => exact ⟨0, Nat.zero_le _, rfl, by simp, by simpa [numB] using hfr.out⟩
  case round =>
    obtain ⟨i, hi, rfl, rfl, hw⟩ := hrel
    have HW := hid hw
    clear hw
    by_cases hlt : i < sz size
    · have hb : N / 256 ^ i < 18446744073709551616 := Nat.lt_of_le_of_lt (Nat.div_le_self _ _) hN
      obtain ⟨M, hM⟩ : ∃ M, M = N / 256 ^ i := ⟨_, rfl⟩
      have hM2 : Hid (M / 256 = N / 256 ^ (i + 1)) := hid (by rw [hM, Nat.div_div_eq_div_mul, Nat.pow_succ])
      have hnb : Hid (numB N (i + 1) = numB N i ++ [UInt8.ofNat M]) := hid (by rw [numB_succ, hM])
      rw [← hM] at hb ⊢
      clear hM
      have hlt' : (i : Int) < (sz size : Int) := by omega
      go_wp2_with fail
      refine (held_any _ _).mono ?_
      rintro e w1 ⟨rfl, rfl⟩
      have hown := hid (((Kept.refl [] wr).alloc (.cells #[.int .u8 ((M : Int) % 256)] 5)).owns HW.out.2.2.2 (by simp))
      go_wp2_with (at_builtin; refine halt ?_)
      refine Halt.mk ?_
      refine wpList_append_src _ rfl _ _ _ rfl w.heap.size 5 i0 _ 1 Tryd.underlying22 hi0 hz0 hz1 hz2 rfl u5 (numB N i).length ((numB N i).map B) rfl hown.out _ 1 [B (UInt8.ofNat M)] rfl (Or.inr ⟨_, _, rfl, by rw [B_ofNat]; exact cell_one_new _ _ _⟩) rfl (by simp [B, Value.oneCell']) ?_ ?_ ?_ ?_
      · have := numB_len N i; unfold maxLen; omega
      · have := numB_len N i; omega
      · have := HW.out.2.2.1; simp; omega
      intro v2 w2 hown2 hgrow2 _ hf2
      obtain ⟨a2, c2, rfl⟩ := owns_slice hown2
      have hstep := hid (RowAt.step (ys := [UInt8.ofNat M]) HW.out ((Kept.refl [] wr).alloc (.cells #[.int .u8 ((M : Int) % 256)] 5)) (by simpa using hown2) hgrow2)
      clear hown2 hgrow2 hf2 hown
      go_wp2
      go_roundw
      case rel => exact ⟨i + 1, by omega, by go_num, by rw [← hM2.out]; go_num, by rw [hnb.out]; exact hstep.out⟩
      case measure => simp [intOf]; omega
    · have hin : i = sz size := by omega
      subst hin
      have hlt' : ¬ ((sz size : Nat) : Int) < (sz size : Int) := by omega
      go_wp2_with fail
      refine (held_any _ _).mono ?_
      rintro e w1 ⟨rfl, rfl⟩
      go_wp2
      go_ret
      exact ⟨_, rfl, HW.out⟩

theorem RowAt.src {w : World} {base : Nat} {v : Value} {xs : List UInt8} {wr : World} (h : RowAt w base v xs wr) : SrcB wr v xs := by
  obtain ⟨a, c, rfl⟩ := owns_slice h.2.2.2
  exact (bys_of_row h.2.2.2).1

/-- A row of two slices of bytes, joined. -/
theorem join2_any (p : Nat) (v1 v2 : Value) (xs ys : List UInt8) (w : World) (hp : w.heap[p]? = some (.cells #[v1, v2] 22 (0, 0))) (h1 : SrcB w v1 xs) (h2 : SrcB w v2 ys) (hx : xs.length ≤ 1000) (hy : ys.length ≤ 1000) :
    Calls Tryd.prog 30 #[.slice (some ⟨p, 0, none⟩) 2 2] w fun e w' => ∃ v, e = .returned v ∧ RowAt w w.heap.size v (xs ++ ys) w' := by
  obtain ⟨i0, hi0, hz0, hz1, hz2⟩ := info_parts info_u8
  obtain ⟨a1, c1, rfl⟩ := h1.size
  obtain ⟨a2, c2, rfl⟩ := h2.size
  have hc0 : w.cell? ⟨p, 0, none⟩ = some (.slice a1 xs.length c1) := by unfold World.cell?; simp [hp]
  have hc1 : w.cell? ⟨p, 1, none⟩ = some (.slice a2 ys.length c2) := by unfold World.cell?; simp [hp]
  have lp := lt_of_block hp
  have hfr := hid (RowAt.fresh w)
  have H1 := hid h1; have H2 := hid h2
  clear hp h1 h2
  go_enter Tryd.func30, Tryd.ntmps30
  go_wp2_with fail
  go_loopw [3, 4] (fun v s wr => (s = .int .i64 0 ∧ RowAt w w.heap.size v [] wr) ∨ (s = .int .i64 1 ∧ RowAt w w.heap.size v xs wr) ∨ (s = .int .i64 2 ∧ RowAt w w.heap.size v (xs ++ ys) wr)) (fun _ s _ => 2 - (intOf s).toNat)
  case atStart => exact Or.inl ⟨rfl, hfr.out⟩
  case round =>
    rcases hrel with ⟨rfl, hr⟩ | ⟨rfl, hr⟩ | ⟨rfl, hr⟩
    · have hk := hr.1
      have kc := (hk.cell (p := ⟨p, 0, none⟩) lp (by simp)).trans hc0
      have hsrc := hid (H1.out.kept hk (by simp))
      have HR := hid hr
      clear hk hr
      go_wp2_with (at_builtin; refine halt ?_)
      refine Halt.mk ?_
      refine wpList_append_src _ rfl _ _ _ rfl w.heap.size 5 i0 _ 1 Tryd.underlying22 hi0 hz0 hz1 hz2 rfl u3 ([] : List UInt8).length (([] : List UInt8).map B) rfl HR.out.2.2.2 (.slice a1 xs.length c1) xs.length (xs.map B) rfl hsrc.out (by simp) (B_oneCell _) ?_ ?_ ?_ ?_
      · unfold maxLen; simp; omega
      · simp; omega
      · exact HR.out.2.2.1
      intro v2 w2 hown2 hgrow2 _ hf2
      obtain ⟨b2, d2, rfl⟩ := owns_slice hown2
      have hstep := hid (RowAt.step (ys := xs) HR.out (Kept.refl [] wr) (by simpa using hown2) hgrow2)
      clear hown2 hgrow2 hf2
      go_wp2
      go_roundw
      case rel => exact Or.inr (Or.inl ⟨by go_num, by simpa using hstep.out⟩)
      case measure => simp [intOf]
    · have hk := hr.1
      have kc := (hk.cell (p := ⟨p, 1, none⟩) lp (by simp)).trans hc1
      have hsrc := hid (H2.out.kept hk (by simp))
      have HR := hid hr
      clear hk hr
      go_wp2_with (at_builtin; refine halt ?_)
      refine Halt.mk ?_
      refine wpList_append_src _ rfl _ _ _ rfl w.heap.size 5 i0 _ 1 Tryd.underlying22 hi0 hz0 hz1 hz2 rfl u3 (xs).length ((xs).map B) rfl HR.out.2.2.2 (.slice a2 ys.length c2) ys.length (ys.map B) rfl hsrc.out (by simp) (B_oneCell _) ?_ ?_ ?_ ?_
      · unfold maxLen; simp; omega
      · simp; omega
      · exact HR.out.2.2.1
      intro v2 w2 hown2 hgrow2 _ hf2
      obtain ⟨b2, d2, rfl⟩ := owns_slice hown2
      have hstep := hid (RowAt.step (ys := ys) HR.out (Kept.refl [] wr) (by simpa using hown2) hgrow2)
      clear hown2 hgrow2 hf2
      go_wp2
      go_roundw
      case rel => exact Or.inr (Or.inr ⟨by go_num, by simpa using hstep.out⟩)
      case measure => simp [intOf]
    · have HR := hid hr
      clear hr
      go_wp2
      go_ret
      exact ⟨_, rfl, HR.out⟩
end Go.Proofs.YtijkpnggehnmcabDoor
