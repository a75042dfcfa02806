/- Bytes as they were handed: written, turned into a text, held against others. -/
import Derived.Test.YtijkpnggehnmcabDoorC6
import Derived.OpenShut
namespace Go.Proofs.YtijkpnggehnmcabDoor
open Go.RowKit Go.Lib

theorem wbytes_st (p : Nat) (v sv : Value) (xs ys : List UInt8) (w : World) (h : Wr w p v xs) (hsrc : SrcB w sv ys) (hsv : ∀ w', Kept (p :: v.ownBlock.toList) w w' → SrcB w' sv ys) (hlen : xs.length ≤ 1000000000) (hlen2 : ys.length ≤ 1000000000) :
    Calls Tryd.prog 44 #[.pointer (some ⟨p, 0, none⟩), sv] w fun e w' => e = .returned (.tuple #[]) ∧ Wrote p v w (xs ++ (numB ys.length 4 ++ ys)) w' := by
  have hnum := wnum p ys.length 4 (by omega) v xs w h hlen
  rw [sz4] at hnum
  have hnum := hid hnum
  obtain ⟨a, c, hsl⟩ := hsrc.size
  subst hsl
  have Hs := hid hsrc; have Hsv := hid hsv
  clear h hsrc hsv
  obtain ⟨i0, hi0, hz0, hz1, hz2⟩ := info_parts info_u8
  go_enter Tryd.func44, Tryd.ntmps44
  go_wp2_with fail
  refine hnum.out.mono ?_
  rintro e w1 ⟨rfl, v1, hk1, hw1, hf1⟩
  have gc := cell_of_one hw1.1
  have gf := free_of_one hw1.1
  have Hk1 := hid hk1; have Hw1 := hid hw1; have Hf1 := hid hf1
  have Hs1 := hid (Hsv.out _ hk1)
  clear hk1 hw1 hf1 hnum
  go_wp2_with (at_builtin; refine halt ?_)
  refine Halt.mk ?_
  refine wpList_append_src _ rfl _ _ _ rfl (p + 1) 5 i0 _ 1 Tryd.underlying22 hi0 hz0 hz1 hz2 rfl v1 (xs ++ numB ys.length 4).length ((xs ++ numB ys.length 4).map B) rfl Hw1.out.2 (.slice a ys.length c) ys.length (ys.map B) rfl Hs1.out (by simp) (B_oneCell ys) ?_ ?_ ?_ ?_
  · have := numB_len ys.length 4; unfold maxLen; simp; omega
  · have := numB_len ys.length 4; simp; omega
  · have := lt_of_block Hw1.out.1; omega
  intro v2 w2 hown2 hgrow2 _ hf2
  obtain ⟨a2, c2, rfl⟩ := owns_slice hown2
  have hw2 := hid (wrote_of (ys := ys) Hw1.out (Kept.refl [] w1) (by simpa [Nat.add_assoc] using hown2) hgrow2 hf2)
  have hg2 := heap_grown hgrow2 Hw1.out.1 (fun e => by have := Hw1.out.own_ne e; omega)
  have hgc := cell_of_one hg2
  have hgf := free_of_one hg2
  clear hown2 hgrow2 hf2 gc gf hg2
  go_wp2
  go_end0
  refine ⟨rfl, ?_⟩
  rw [← List.append_assoc]
  exact Wrote.trans Hk1.out Hf1.out (by simpa [List.length_append] using hw2.out)

/-- A slice of bytes at any address, turned into a text. -/
theorem text_any (w : World) (a : Option Addr) (c : Nat) (ys : List UInt8) (h : SrcB w (.slice a ys.length c) ys) :
    (convert 22 9 (.slice a ys.length c)).run Tryd.prog w = .ok (.string ⟨ys.toArray⟩) w := by
  rcases h with ⟨h1, h2, _⟩ | ⟨x, c', h1, hc⟩
  · simp at h1
    obtain ⟨rfl, h1, rfl⟩ := h1
    have hy : ys = [] := List.eq_nil_of_length_eq_zero h2
    subst hy
    exact run_convert_bytes_nil (P := Tryd.prog) w _ _ Tryd.underlying22 Tryd.underlying5 0 0 _ Tryd.underlying9
  · simp at h1
    obtain ⟨rfl, rfl⟩ := h1
    have hl : (loadCells x ys.length).run Tryd.prog w = .ok ((ys.map fun y => (y.toNat : Int)).map (Value.int .u8)).toArray w := by
      have := run_loadCells_list (P := Tryd.prog) w x (ys.map B) hc
      have eB : (ys.map fun y => (y.toNat : Int)).map (Value.int .u8) = ys.map B := by rw [List.map_map]; rfl
      rw [eB]
      simpa using this
    rw [run_convert_bytes_string w _ _ _ _ ys.length c Tryd.underlying22 Tryd.underlying5 Tryd.underlying9, run_bytesToString w _ ys.length c _ hl, foldl_push_bytes]
    have e : (ys.map fun y => (y.toNat : Int)).map (fun n => UInt8.ofNat n.toNat) = ys := by
      rw [List.map_map]
      conv => rhs; rw [← List.map_id ys]
      apply List.map_congr_left
      intro y _
      simp
    rw [e]
    simp [ByteArray.empty, ByteArray.emptyWithCapacity]
    rfl

theorem same_src (a b : Option Addr) (c d : Nat) (xs : List UInt8) (w : World) (ha : SrcB w (.slice a xs.length c) xs) (hb : SrcB w (.slice b xs.length d) xs) :
    Calls Tryd.prog 15 #[.slice a xs.length c, .slice b xs.length d] w fun e w' => e = .returned (.bool true) ∧ w = w' := by
  have h1 := text_any w a c xs ha
  have h2 := text_any w b d xs hb
  clear ha hb
  generalize xs.length = n at *
  go_enter Tryd.func15, Tryd.ntmps15
  go_wp2
  go_ret
  exact ⟨by simp, rfl⟩

/-- A row of bytes that was handed. -/
theorem src_of_row {w : World} {a : Option Addr} {len cap : Nat} {zs : List Int} (h : (a = none ∧ len = 0 ∧ cap = 0 ∧ zs = []) ∨
    ∃ x, a = some x ∧ len ≤ cap ∧ cap ≤ maxLen ∧ zs.length = cap ∧ (∀ i, i < zs.length → w.cell? (x.add i) = some (.int .u8 (zs.getD i 0))) ∧ ∀ n ∈ zs, (Lit.int .u8 n).wf = true) :
    ∃ bs : List UInt8, bs.length = len ∧ SrcB w (.slice a bs.length cap) bs ∧ (a = none → cap = 0) ∧ len ≤ cap ∧ cap ≤ maxLen := by
  rcases h with ⟨rfl, rfl, rfl, rfl⟩ | ⟨x, rfl, h1, h2, h3, h4, h5⟩
  · exact ⟨[], rfl, Or.inl ⟨rfl, rfl, rfl⟩, fun _ => rfl, Nat.le_refl _, by unfold maxLen; omega⟩
  · have hl : ((zs.take len).map fun z => UInt8.ofNat z.toNat).length = len := by simp; omega
    refine ⟨(zs.take len).map fun z => UInt8.ofNat z.toNat, hl, Or.inr ⟨x, cap, rfl, fun j u hj => ?_⟩, fun h => by simp at h, h1, h2⟩
    have hjl : j < len := by
      rcases Nat.lt_or_ge j len with h' | h'
      · exact h'
      · rw [List.getElem?_eq_none (by simp; omega)] at hj; simp at hj
    have hz : j < zs.length := by omega
    simp [List.getElem?_take, hjl, hz] at hj
    subst hj
    rw [h4 j hz]
    have hw := bounds_u8 (h5 zs[j] (List.getElem_mem hz))
    simp [B, List.getD, hz]
    omega

theorem SrcB.take {w : World} {a : Option Addr} {c : Nat} {xs : List UInt8} (h : SrcB w (.slice a xs.length c) xs) {n : Nat} (hn : n ≤ xs.length) (hne : xs ≠ []) : SrcB w (.slice a (xs.take n).length c) (xs.take n) := by
  rcases h with ⟨h1, h2, _⟩ | ⟨x, c', h1, hc⟩
  · exact absurd (List.eq_nil_of_length_eq_zero h2) hne
  · simp at h1
    obtain ⟨rfl, rfl⟩ := h1
    refine Or.inr ⟨x, c, rfl, fun j u hj => ?_⟩
    have hjl : j < n := by
      rcases Nat.lt_or_ge j n with h' | h'
      · exact h'
      · rw [List.getElem?_eq_none (by simp; omega)] at hj; simp at hj
    exact hc j u (by simpa [List.getElem?_take, hjl] using hj)

theorem i64_and255 (n : Int) : bits .and .i64 n 255 = n % 256 := by
  have h7 : (BitVec.ofInt 64 255).toNat = 2 ^ 8 - 1 := by decide
  have key : (BitVec.ofInt 64 n &&& BitVec.ofInt 64 255).toNat = (n % ((2 ^ 64 : Nat) : Int)).toNat % 2 ^ 8 := by
    rw [BitVec.toNat_and, BitVec.toNat_ofInt, h7, Nat.and_two_pow_sub_one_eq_mod]
  show IntKind.i64.wrap ((BitVec.ofInt 64 n &&& BitVec.ofInt 64 255).toNat : Nat) = n % 256
  rw [key, IntKind.wrap_i64]
  omega
end Go.Proofs.YtijkpnggehnmcabDoor
