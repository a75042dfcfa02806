import Derived.Test.YtdojpioclojalaaDoorC0
import Derived.Test.YtdojpioclojalaaDoorG1

/- code.Writer: what each call writes. -/
namespace Go.Proofs.YtdojpioclojalaaDoor
open Go.RowKit Go.Lib

theorem info_u8 : (Tryd.prog.info? 5).map (fun i => (i.zero, i.size, i.bytes)) = some (some (.int .u8 0), 1, 1) := by kernel_rfl

/-- The lowest k bytes of a number, the lowest first. -/
def numB (N k : Nat) : List UInt8 := (List.range k).map fun j => UInt8.ofNat (N / 256 ^ j)
theorem numB_len (N k : Nat) : (numB N k).length = k := by simp [numB]
theorem numB_succ (N k : Nat) : numB N (k + 1) = numB N k ++ [UInt8.ofNat (N / 256 ^ k)] := by simp [numB, List.range_succ]

/-- How many bytes a number has that is asked to have so many. -/
def sz (size : Int) : Nat := if size < 1 then 1 else if 8 < size then 8 else size.toNat
theorem sz4 : sz 4 = 4 := by decide
theorem sz_le (size : Int) : 1 ≤ sz size ∧ sz size ≤ 8 := by unfold sz; split <;> (try split) <;> omega

/-- A writer in block p holds the value v, which owns the bytes xs. -/
def Wr (w : World) (p : Nat) (v : Value) (xs : List UInt8) : Prop :=
  w.heap[p]? = some (.cells #[v] 64 (0, 0)) ∧ w.ownsRow (p + 1) 5 1 v xs.length (xs.map B)

/-- Behind a call the writer holds xs; nothing else of what was there has turned. -/
def Wrote (p : Nat) (v : Value) (w : World) (xs : List UInt8) (w' : World) : Prop :=
  ∃ v', Kept (p :: v.ownBlock.toList) w w' ∧ Wr w' p v' xs ∧ ∀ g, v'.ownBlock = some g → v.ownBlock = some g ∨ w.heap.size ≤ g

theorem Wr.own_ne {w : World} {p : Nat} {v : Value} {xs : List UInt8} (h : Wr w p v xs) {g : Nat} (hg : v.ownBlock = some g) : p < g := by
  rcases h.2.2 with ⟨rfl, _⟩ | ⟨g', _, _, rfl, hb, _⟩
  · simp [Value.ownBlock] at hg
  · simp [Value.ownBlock] at hg; omega
theorem Wr.own_lt {w : World} {p : Nat} {v : Value} {xs : List UInt8} (h : Wr w p v xs) {g : Nat} (hg : v.ownBlock = some g) : g < w.heap.size := by
  rcases h.2.2 with ⟨rfl, _⟩ | ⟨g', _, _, rfl, hb, hh, _⟩
  · simp [Value.ownBlock] at hg
  · simp [Value.ownBlock] at hg; exact hg ▸ lt_of_block hh
theorem Wr.kept {S : List Nat} {w w' : World} {p : Nat} {v : Value} {xs : List UInt8} (h : Wr w p v xs) (hk : Kept S w w') (hp : p ∉ S) (hv : ∀ g, v.ownBlock = some g → g ∉ S) : Wr w' p v xs :=
  ⟨hk.at h.1 hp, hk.owns h.2 hv⟩
theorem Wrote.refl {w : World} {p : Nat} {v : Value} {xs : List UInt8} (h : Wr w p v xs) : Wrote p v w xs w := ⟨v, Kept.refl _ _, h, fun _ h => Or.inl h⟩
theorem Wrote.trans {p : Nat} {v v1 : Value} {w w1 w2 : World} {ys : List UInt8} (hk : Kept (p :: v.ownBlock.toList) w w1) (hf : ∀ g, v1.ownBlock = some g → v.ownBlock = some g ∨ w.heap.size ≤ g)
    (h : Wrote p v1 w1 ys w2) : Wrote p v w ys w2 := by
  obtain ⟨v2, k2, h2, f2⟩ := h
  refine ⟨v2, hk.trans' k2 (fun x hx hm => ?_), h2, fun g hg => ?_⟩
  · simp at hm ⊢
    rcases hm with rfl | hm
    · exact Or.inl rfl
    · rcases hf x hm with h | h
      · exact Or.inr h
      · omega
  · rcases f2 g hg with h | h
    · exact hf g h
    · exact Or.inr (Nat.le_trans hk.size h)

theorem owns_slice {w : World} {base : Nat} {e : TypeId} {size : Nat} {v : Value} {n : Nat} {xs : List Value} (h : w.ownsRow base e size v n xs) : ∃ a c, v = .slice a n c := by
  rcases h.2 with ⟨rfl, rfl⟩ | ⟨g, cap, _, rfl, _⟩
  · exact ⟨none, 0, rfl⟩
  · exact ⟨_, cap, rfl⟩

/-- An append to the writer's field, and its store. -/
theorem wrote_of {p : Nat} {v v' : Value} {w w1 w2 : World} {xs ys : List UInt8} (h : Wr w p v xs) (hk : Kept [] w w1) (hown : w2.ownsRow (p + 1) 5 1 v' (xs ++ ys).length ((xs ++ ys).map B))
    (hgrow : w1.grownBy w2 v.ownBlock) (hf : ∀ g, v'.ownBlock = some g → v.ownBlock = some g ∨ w1.heap.size ≤ g) : Wrote p v w (xs ++ ys) (w2.setCell ⟨p, 0, none⟩ v') := by
  have hp1 := hk.at h.1 (by simp)
  have hpv : v.ownBlock ≠ some p := fun e => by have := h.own_ne e; omega
  have hp2 := heap_grown hgrow hp1 hpv
  have hpv' : v'.ownBlock ≠ some p := fun e => by
    have := lt_of_block hp1
    rcases hf p e with h' | h'
    · exact hpv h'
    · omega
  refine ⟨v', ?_, ⟨one_setCell hp2, ownsRow_setCell_other hown (a := ⟨p, 0, none⟩) hpv' v'⟩, fun g hg => ?_⟩
  · exact ((hk.trans' (S := []) (Kept.refl [] _) (by simp)).wider (T := p :: v.ownBlock.toList) (by simp)).trans' (Kept.of_row hgrow) (fun x _ hm => List.mem_cons_of_mem _ hm) |>.setCell (p := ⟨p, 0, none⟩) (fun _ => by simp) _
  · rcases hf g hg with h' | h'
    · exact Or.inl h'
    · exact Or.inr (Nat.le_trans hk.size h')

theorem numsize_any (size : Int) (w : World) : Calls Tryd.prog 47 #[.int .i64 size] w fun e w' => e = .returned (.int .i64 (sz size)) ∧ w = w' := by
  by_cases h1 : size < 1
  · have e : sz size = 1 := by unfold sz; rw [if_pos h1]
    rw [e]
    go_enter Tryd.func47, Tryd.ntmps47
    go_wp2
    go_ret
    exact ⟨by simp, rfl⟩
  · by_cases h2 : 8 < size
    · have e : sz size = 8 := by unfold sz; rw [if_neg h1, if_pos h2]
      rw [e]
      go_enter Tryd.func47, Tryd.ntmps47
      go_wp2
      go_ret
      exact ⟨by simp, rfl⟩
    · have e : (sz size : Int) = size := by unfold sz; rw [if_neg h1, if_neg h2]; omega
      rw [e]
      go_enter Tryd.func47, Tryd.ntmps47
      go_wp2
      go_ret
      exact ⟨by simp, rfl⟩

theorem B_ofNat (M : Nat) : B (UInt8.ofNat M) = .int .u8 ((M : Int) % 256) := by unfold B; simp
theorem strCells_B (s : ByteArray) : strCells s = s.data.toList.map B := rfl
theorem B_oneCell (l : List UInt8) : ∀ u ∈ l.map B, u.oneCell' = true := by
  intro u hu
  simp at hu
  obtain ⟨b, _, rfl⟩ := hu
  simp [B, Value.oneCell']

set_option maxHeartbeats 1000000 in
theorem wnum (p N : Nat) (size : Int) (hN : N < 18446744073709551616) (v : Value) (xs : List UInt8) (w : World) (h : Wr w p v xs) (hlen : xs.length ≤ 1000000000) :
    Calls Tryd.prog 26 #[.pointer (some ⟨p, 0, none⟩), .int .u64 N, .int .i64 size] w fun e w' => e = .returned (.tuple #[]) ∧ Wrote p v w (xs ++ numB N (sz size)) w' := by
  have H := hid h
  clear h
  obtain ⟨i0, hi0, hz0, hz1, hz2⟩ := info_parts info_u8
  have hs := sz_le size
  go_enter Tryd.func26, Tryd.ntmps26
  go_wp2_with (go_at_call 47; refine (numsize_any _ _).mono ?_; rintro e w' ⟨rfl, rfl⟩)
  go_loopw [1, 8] (fun n s wr => ∃ i : Nat, i ≤ sz size ∧ s = .int .i64 i ∧ n = .int .u64 ((N / 256 ^ i : Nat) : Int) ∧ Hid (Wrote p v w (xs ++ numB N i) wr)) (fun _ s _ => sz size - (intOf s).toNat)
  case atStart => exact ⟨0, Nat.zero_le _, rfl, by simp, hid (by simpa [numB] using Wrote.refl H.out)⟩
  case round =>
    obtain ⟨i, hi, rfl, rfl, hw⟩ := hrel
    obtain ⟨v1, hk1, hw1, hf1⟩ := hw.out
    by_cases hlt : i < sz size
    · have gc := cell_of_one hw1.1
      have gf := free_of_one hw1.1
      have hb : N / 256 ^ i < 18446744073709551616 := Nat.lt_of_le_of_lt (Nat.div_le_self _ _) hN
      have Hk1 := hid hk1; have Hw1 := hid hw1; have Hf1 := hid hf1
      obtain ⟨M, hM⟩ : ∃ M, M = N / 256 ^ i := ⟨_, rfl⟩
      have hM2 : Hid (M / 256 = N / 256 ^ (i + 1)) := hid (by rw [hM, Nat.div_div_eq_div_mul, Nat.pow_succ])
      have hnb : Hid (numB N (i + 1) = numB N i ++ [UInt8.ofNat M]) := hid (by rw [numB_succ, hM])
      rw [← hM] at hb ⊢
      have hown := hid (((Kept.refl [] wr).alloc (.cells #[.int .u8 ((M : Int) % 256)] 5)).owns hw1.2 (by simp))
      clear hk1 hw1 hf1 hw hM
      go_wp2_with (at_builtin; refine halt ?_)
      refine Halt.mk ?_
      refine wpList_append_src _ rfl _ _ _ rfl (p + 1) 5 i0 _ 1 Tryd.underlying23 hi0 hz0 hz1 hz2 rfl v1 (xs ++ numB N i).length ((xs ++ numB N i).map B) rfl hown.out _ 1 [B (UInt8.ofNat M)] rfl (Or.inr ⟨_, _, rfl, by rw [B_ofNat]; exact cell_one_new _ _ _⟩) rfl (by simp [B, Value.oneCell']) ?_ ?_ ?_ ?_
      · have := numB_len N i; unfold maxLen; simp; omega
      · have := numB_len N i; simp; omega
      · have := lt_of_block Hw1.out.1; simp; omega
      intro v2 w2 hown2 hgrow2 _ hf2
      obtain ⟨a2, c2, rfl⟩ := owns_slice hown2
      have hw2' := (wrote_of (ys := [UInt8.ofNat M]) Hw1.out ((Kept.refl [] wr).alloc (.cells #[.int .u8 ((M : Int) % 256)] 5)) (by simpa [Nat.add_assoc] using hown2) hgrow2 hf2)
      rw [List.length_append] at hw2'
      have hw2 := hid hw2'
      have hgc := cell_of_one (heap_grown hgrow2 (heap_alloc_old (o := .cells #[.int .u8 ((M : Int) % 256)] 5) Hw1.out.1) (fun e => by have := Hw1.out.own_ne e; omega))
      have hgf := free_of_one (heap_grown hgrow2 (heap_alloc_old (o := .cells #[.int .u8 ((M : Int) % 256)] 5) Hw1.out.1) (fun e => by have := Hw1.out.own_ne e; omega))
      clear hown2 hgrow2 hf2 gc gf hown hw2'
      go_wp2
      go_roundw
      case rel => exact ⟨i + 1, by omega, by go_num, by rw [← hM2.out]; go_num, hid (by rw [hnb.out, ← List.append_assoc]; exact Wrote.trans Hk1.out Hf1.out hw2.out)⟩
      case measure => simp [intOf]; omega
    · have hin : i = sz size := by omega
      subst hin
      clear hk1 hw1 hf1
      go_wp2
      go_end0
      exact ⟨rfl, hw.out⟩

/-- What is appended to a writer's bytes is bytes. -/
def SrcB (w : World) (sv : Value) (ys : List UInt8) : Prop := Src w sv ys.length (ys.map B)
theorem SrcB.kept {S : List Nat} {w w' : World} {sv : Value} {ys : List UInt8} (h : SrcB w sv ys) (hk : Kept S w w') (hS : ∀ x, sv.ownBlock = some x → x ∉ S) : SrcB w' sv ys := by
  rcases h with h | ⟨ad, c, rfl, h⟩
  · exact Or.inl h
  · refine Or.inr ⟨ad, c, rfl, fun j u hj => ?_⟩
    have hc := h j u hj
    have hl := World.block_lt_of_cell? w _ hc
    exact (hk.cell hl (by rw [add_block]; exact hS _ rfl)).trans hc
theorem SrcB.size {w : World} {sv : Value} {ys : List UInt8} (h : SrcB w sv ys) : ∃ a c, sv = .slice a ys.length c := by
  rcases h with ⟨rfl, h, _⟩ | ⟨ad, c, rfl, _⟩
  · exact ⟨none, 0, by rw [h]⟩
  · exact ⟨_, c, rfl⟩

/-- A copy of all: a new row, or none. -/
theorem wdone (p : Nat) (v : Value) (xs : List UInt8) (w : World) (h : Wr w p v xs) (hlen : xs.length ≤ 1000000000) :
    Calls Tryd.prog 29 #[.pointer (some ⟨p, 0, none⟩)] w fun e w' => ∃ a c, e = .returned (.slice a xs.length c) ∧ Kept [] w w' ∧ w'.ownsRow w.heap.size 5 1 (.slice a xs.length c) xs.length (xs.map B) := by
  have gc := cell_of_one h.1
  have H := hid h
  clear h
  obtain ⟨i0, hi0, hz0, hz1, hz2⟩ := info_parts info_u8
  have hsrc : Hid (SrcB w v xs) := hid (by
    rcases H.out.2.2 with ⟨rfl, h0⟩ | ⟨g, cap, cur, rfl, hg, hh, r⟩
    · exact Or.inl ⟨rfl, h0, by rw [List.eq_nil_of_length_eq_zero h0]; rfl⟩
    · exact Or.inr ⟨_, cap, rfl, H.out.2.cells (g := g) rfl⟩)
  go_enter Tryd.func29, Tryd.ntmps29
  go_wp2_with (at_builtin; refine halt ?_)
  refine Halt.mk ?_
  refine wpList_append_src _ rfl _ _ _ rfl w.heap.size 5 i0 _ 1 Tryd.underlying23 hi0 hz0 hz1 hz2 rfl (.slice none 0 0) 0 [] rfl (World.ownsRow_nil w _ _ 1) v xs.length (xs.map B) rfl hsrc.out (by simp) (B_oneCell xs) ?_ ?_ ?_ ?_
  · unfold maxLen; omega
  · omega
  · exact Nat.le_refl _
  intro v2 w2 hown2 hgrow2 _ hf2
  simp only [Nat.zero_add, List.nil_append] at hown2
  obtain ⟨a2, c2, rfl⟩ := owns_slice hown2
  have hk2 := hid (Kept.of_row hgrow2)
  have Ho := hid hown2
  clear hown2 hgrow2 hf2 gc
  go_wp2
  go_ret
  exact ⟨a2, c2, rfl, hk2.out, Ho.out⟩
end Go.Proofs.YtdojpioclojalaaDoor
