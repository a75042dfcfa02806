import Derived.Test.YtdojpioclojalaaDoorC1

/- code.Writer.Text: what it writes. -/
namespace Go.Proofs.YtdojpioclojalaaDoor
open Go.RowKit Go.Lib

theorem wtext (p : Nat) (v : Value) (s : ByteArray) (xs : List UInt8) (w : World) (h : Wr w p v xs) (hlen : xs.length ≤ 1000000000) (hlen2 : s.size ≤ 1000000000) :
    Calls Tryd.prog 48 #[.pointer (some ⟨p, 0, none⟩), .string s] w fun e w' => e = .returned (.tuple #[]) ∧ Wrote p v w (xs ++ (numB s.size 4 ++ s.data.toList)) w' := by
  have hnum := wnum p s.size 4 (by omega) v xs w h hlen
  rw [sz4] at hnum
  have hnum := hid hnum
  clear h
  obtain ⟨i0, hi0, hz0, hz1, hz2⟩ := info_parts info_u8
  go_enter Tryd.func48, Tryd.ntmps48
  go_wp2_with fail
  refine hnum.out.mono ?_
  rintro e w1 ⟨rfl, v1, hk1, hw1, hf1⟩
  have gc := cell_of_one hw1.1
  have gf := free_of_one hw1.1
  have Hk1 := hid hk1; have Hw1 := hid hw1; have Hf1 := hid hf1
  clear hk1 hw1 hf1 hnum
  go_wp2_with (at_builtin; refine halt ?_)
  refine Halt.mk ?_
  refine wpList_append_text _ rfl _ _ _ _ rfl (p + 1) 5 i0 Tryd.underlying23 Tryd.underlying9 hi0 hz0 hz1 hz2 v1 (xs ++ numB s.size 4).length ((xs ++ numB s.size 4).map B) rfl Hw1.out.2 s rfl ?_ ?_ ?_ ?_
  · have := numB_len s.size 4; unfold maxLen; simp; omega
  · have := numB_len s.size 4; simp; omega
  · have := lt_of_block Hw1.out.1; omega
  intro v2 w2 hown2 hgrow2 hf2
  obtain ⟨a2, c2, rfl⟩ := owns_slice hown2
  rw [strCells_B] at hown2
  have hw2 := hid (wrote_of (ys := s.data.toList) Hw1.out (Kept.refl [] w1) (by simpa [Nat.add_assoc] using hown2) hgrow2 hf2)
  have hg2 := heap_grown hgrow2 Hw1.out.1 (fun e => by have := Hw1.out.own_ne e; omega)
  have hgc := cell_of_one hg2
  have hgf := free_of_one hg2
  clear hown2 hgrow2 hf2 gc gf hg2
  go_wp2
  go_end0
  refine ⟨rfl, ?_⟩
  rw [← List.append_assoc]
  exact Wrote.trans Hk1.out Hf1.out (by simpa [List.length_append] using hw2.out)
end Go.Proofs.YtdojpioclojalaaDoor
