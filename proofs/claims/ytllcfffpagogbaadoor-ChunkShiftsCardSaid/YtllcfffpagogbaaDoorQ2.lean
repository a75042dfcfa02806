/- A chunker's window; its first chunk. -/
import Derived.Test.YtllcfffpagogbaaDoorQ1
namespace Go.Proofs.YtllcfffpagogbaaDoor
open Go.RowKit

set_option maxRecDepth 100000 in
set_option maxHeartbeats 2000000 in
theorem window_any (c : Nat) (P : Chunk.Par) (seed : Int) (g : Nat) (T : UInt8 → Roll.W) (w : World) (h : Ch w c P seed g T) :
    Calls Tryd.prog 36 #[.pointer (some ⟨c, 0, none⟩)] w fun e w' => e = .returned (.pointer (some ⟨w.heap.size, 0, none⟩)) ∧ Kept [] w w' ∧ Win w' w.heap.size T P.width [] := by
  have c5 : w.cell? ⟨c, 5, none⟩ = some (.pointer (some ⟨g, 0, none⟩)) := h.cell 5
  have c3 : w.cell? ⟨c, 3, none⟩ = some (.int .i64 (P.width : Int)) := h.cell 3
  have c5' : w.drew.cell? ⟨c, 5, none⟩ = some (.pointer (some ⟨g, 0, none⟩)) := c5
  have c3' : w.drew.cell? ⟨c, 3, none⟩ = some (.int .i64 (P.width : Int)) := c3
  have hcl : c < w.drew.heap.size := World.block_lt_of_cell? w.drew _ c5'
  have hw := hid (window_ok g P.width T w.drew h.ok.w1 h.ok.w64 (h.tb.kept (Kept.of_drew [] w) (by simp)))
  clear h
  go_enter Tryd.func36, Tryd.ntmps36
  go_wp2_with fail
  go_region_held3 (fun w' => w'.cell? ⟨c, 5, none⟩ = some (.pointer (some ⟨g, 0, none⟩)) ∧ w'.cell? ⟨c, 3, none⟩ = some (.int .i64 (P.width : Int))) (first | exact ⟨c5', c3'⟩ | exact ⟨d5, d3⟩)
    (first | (go_at_call 32; refine hw.out.mono ?_; rintro e w1 ⟨rfl, k1, hw1⟩; have d5 := (k1.cell (p := ⟨c, 5, none⟩) hcl (by simp)).trans c5'; have d3 := (k1.cell (p := ⟨c, 3, none⟩) hcl (by simp)).trans c3'; have K1 := hid k1; have HW1 := hid hw1; clear k1 hw1))
  go_wp2
  go_ret
  exact ⟨rfl, (Kept.of_drew [] w).trans K1.out, HW1.out⟩

set_option maxRecDepth 100000 in
set_option maxHeartbeats 2000000 in
theorem first_in (c p : Nat) (P : Chunk.Par) (seed : Int) (g : Nat) (T : UInt8 → Roll.W) (a : Option Addr) (cap : Nat) (ys ys0 : List UInt8) (w : World) (h : Ch w c P seed g T) (hr : Reads w a ys) (hw : Win w p T P.width ys0)
    (hp : p ≠ c ∧ p ≠ g ∧ p ≠ 1) (ha : ys ≠ [] → ∀ x, a = some x → x.block ≠ p) (hl : ys.length ≤ 100000000) :
    Calls Tryd.prog 35 #[.pointer (some ⟨c, 0, none⟩), .slice a ys.length cap, .pointer (some ⟨p, 0, none⟩)] w fun e w' =>
      e = .returned (.int .i64 ((Chunk.first (Chunk.ends P) T P.width ys : Nat) : Int)) ∧ Kept [p] w w' ∧ ∃ ys1, Win w' p T P.width ys1 := by
  have hw1 := h.ok.w1
  have hw64 := h.ok.w64
  have H := hid h
  have Hr := hid hr
  have Ha := hid ha
  have hreset := hid (reset_any p P.width T ys0 w hw)
  clear h hr hw ha
  go_enter Tryd.func35, Tryd.ntmps35
  go_wp2_with fail
  refine hreset.out.mono ?_
  rintro e w1 ⟨rfl, k1, hwin⟩
  have K1 := hid k1
  have Hwin := hid hwin
  clear k1 hwin hreset
  go_wp2_with fail
  go_loopw [7, 8, 17] (fun _ _ i wr => ∃ j : Nat, j ≤ ys.length ∧ i = .int .i64 (j : Int) ∧ Hid (Kept [p] w wr) ∧ Hid (Win wr p T P.width (ys.take j)) ∧ Hid (Chunk.first (Chunk.ends P) T P.width ys = Chunk.go (Chunk.ends P) T P.width (ys.take j) (ys.drop j))) (fun _ _ i _ => ys.length - (intOf i).toNat)
  case atStart => exact ⟨0, by omega, rfl, K1, Hwin, hid rfl⟩
  case round =>
    obtain ⟨j, hj, rfl, hk, hwn, hf⟩ := hrel
    by_cases hlt : j < ys.length
    · obtain ⟨ad, hae, gx0⟩ := Hr.out.get j hlt
      have gx : wr.cell? (ad.add j) = some (B ys[j]) := (hk.out.cell (World.block_lt_of_cell? w _ gx0) (by rw [add_block]; simpa using Ha.out (List.ne_nil_of_length_pos (by omega)) ad hae)).trans gx0
      subst hae
      clear gx0
      have htk : ys.take j ++ [ys[j]] = ys.take (j + 1) := (List.take_succ_eq_append_getElem hlt).symm
      have hpush := hid (push_any p P.width T (ys.take j) ys[j] wr hwn.out hw1 hw64)
      have hgo : Chunk.go (Chunk.ends P) T P.width (ys.take j) (ys.drop j) = if Chunk.ends P (j + 1) (Roll.sum T (Roll.last P.width (ys.take (j + 1)))) = true then j + 1 else Chunk.go (Chunk.ends P) T P.width (ys.take (j + 1)) (ys.drop (j + 1)) := by
        rw [List.drop_eq_getElem_cons hlt, Chunk.go_cons, List.length_take, Nat.min_eq_left (by omega), htk]
      rw [htk] at hpush
      obtain ⟨s, hs⟩ : ∃ s, s = Roll.sum T (Roll.last P.width (ys.take (j + 1))) := ⟨_, rfl⟩
      rw [← hs] at hpush hgo
      have hends := hid (fun (W : World) (k : Kept [p] w W) => ends_any c P seed g T (j + 1) s W (H.out.kept k (by simpa using fun e => hp.1 e.symm) (by simpa using fun e => hp.2.1 e.symm) (by simpa using fun e => hp.2.2 e.symm)) (by omega))
      obtain ⟨b, hb⟩ : ∃ b, b = Chunk.ends P (j + 1) s := ⟨_, rfl⟩
      rw [← hb] at hends hgo
      have Hf := hid (hf.out.trans hgo)
      clear hs hb hgo htk hf
      generalize ys[j] = y at *
      cases b with
      | true =>
        go_wp2_with fail
        refine hpush.out.mono ?_
        rintro e w2 ⟨rfl, k2, hwin2⟩
        have K2 := hid (hk.out.trans k2)
        have Hw2 := hid hwin2
        clear k2 hwin2
        go_wp2_with fail
        have he := hends.out w2 K2.out
        rw [show ((j + 1 : Nat) : Int) = (j : Int) + 1 by omega] at he
        refine he.mono ?_
        rintro e w3 ⟨rfl, m, rfl⟩
        go_wp2
        go_ret
        refine ⟨by rw [Hf.out]; simp, K2.out.drewN m, _, Hw2.out.kept ((Kept.refl [] w2).drewN m) (by simp)⟩
      | false =>
        go_wp2_with fail
        refine hpush.out.mono ?_
        rintro e w2 ⟨rfl, k2, hwin2⟩
        have K2 := hid (hk.out.trans k2)
        have Hw2 := hid hwin2
        clear k2 hwin2
        go_wp2_with fail
        have he := hends.out w2 K2.out
        rw [show ((j + 1 : Nat) : Int) = (j : Int) + 1 by omega] at he
        refine he.mono ?_
        rintro e w3 ⟨rfl, m, rfl⟩
        go_wp2_with fail
        exact ⟨⟨j + 1, by omega, by go_num, hid (K2.out.drewN m), hid (Hw2.out.kept ((Kept.refl [] w2).drewN m) (by simp)), hid (by rw [Hf.out]; simp)⟩, by simp [intOf]; omega⟩
    · obtain rfl : j = ys.length := by omega
      have hfin : Chunk.first (Chunk.ends P) T P.width ys = ys.length := by
        rw [hf.out, List.drop_length, List.take_length]; rfl
      have Hfin := hid hfin
      have Hk := hid hk.out
      have Hw := hid hwn.out
      clear hf hfin hlt hk hwn
      go_wp2
      go_ret
      exact ⟨by rw [Hfin.out]; rfl, Hk.out, _, Hw.out⟩
end Go.Proofs.YtllcfffpagogbaaDoor
