import Derived.Test.YtdojpioclojalaaDoorC1

/- code.Writer: Raw, Bytes. -/
namespace Go.Proofs.YtdojpioclojalaaDoor
open Go.RowKit Go.Lib

theorem wraw (p : Nat) (v sv : Value) (xs ys : List UInt8) (w : World) (h : Wr w p v xs) (hsrc : SrcB w sv ys) (hlen : xs.length ≤ 1000000000) (hlen2 : ys.length ≤ 1000000000) :
    Calls Tryd.prog 49 #[.pointer (some ⟨p, 0, none⟩), sv] w fun e w' => e = .returned (.tuple #[]) ∧ Wrote p v w (xs ++ ys) w' := by
  have gc := cell_of_one h.1
  have gf := free_of_one h.1
  have H := hid h; have Hs := hid hsrc
  clear h hsrc
  obtain ⟨i0, hi0, hz0, hz1, hz2⟩ := info_parts info_u8
  go_enter Tryd.func49, Tryd.ntmps49
  go_wp2_with (at_builtin; refine halt ?_)
  refine Halt.mk ?_
  refine wpList_append_src _ rfl _ _ _ rfl (p + 1) 5 i0 _ 1 Tryd.underlying23 hi0 hz0 hz1 hz2 rfl v xs.length (xs.map B) rfl H.out.2 sv ys.length (ys.map B) rfl Hs.out (by simp) (B_oneCell ys) ?_ ?_ ?_ ?_
  · unfold maxLen; omega
  · omega
  · have := lt_of_block H.out.1; omega
  intro v2 w2 hown2 hgrow2 _ hf2
  obtain ⟨a2, c2, rfl⟩ := owns_slice hown2
  have hw2 := hid (wrote_of (ys := ys) H.out (Kept.refl [] w) (by simpa using hown2) hgrow2 hf2)
  have hg2 := heap_grown hgrow2 H.out.1 (fun e => by have := H.out.own_ne e; omega)
  have hgc := cell_of_one hg2
  have hgf := free_of_one hg2
  clear hown2 hgrow2 hf2 gc gf hg2
  go_wp2
  go_end0
  exact ⟨rfl, hw2.out⟩

end Go.Proofs.YtdojpioclojalaaDoor
