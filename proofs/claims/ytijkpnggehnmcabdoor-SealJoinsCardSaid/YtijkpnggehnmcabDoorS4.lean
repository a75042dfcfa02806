/- seal.Unseal: whole. -/
import Derived.Test.YtijkpnggehnmcabDoorS3
namespace Go.Proofs.YtijkpnggehnmcabDoor
open Go.RowKit Go.Lib

/-- What Unseal gives: bytes of its own, and the error's number. -/
def Unsealed (w : World) (kind : UInt8) (xs : List UInt8) (e : Ending) (w' : World) : Prop :=
  ∃ a c, e = .returned (.tuple #[.slice a (unsealed kind xs).length c, .int .i64 (unsealErr kind xs)]) ∧ Kept [] w w' ∧ Bys w' a c (unsealed kind xs) ∧ ∀ x, a = some x → w.heap.size ≤ x.block

theorem enters_unseal1 : Enters 22 := fun args w => by simp [go_sem]

theorem UnQ.err {pd b0 : Nat} {kind : UInt8} {xs : List UInt8} {n : Int} {rest : List UInt8} {W W' : World} {x : Nat} (h : UnQ pd b0 kind xs n rest W) (hx : pd ≠ x) (he : ErrAt W x) (hk : Kept [x] W W') : UnQ pd b0 kind xs n rest W' := by
  obtain ⟨h1, h2, a, c, h3, h4, h5⟩ := h
  exact ⟨h1, h2, a, c, hk.at h3 (by simpa using hx), h4.err he hk, h5⟩

theorem unseal_any (kind : UInt8) (sv : Value) (xs : List UInt8) (w : World) (hsrc : SrcB w sv xs) (ht : Tab w) (hlen : xs.length ≤ 500000000) :
    Calls Tryd.prog 10 #[.int .u8 (kind.toNat : Int), sv] w (Unsealed w kind xs) := by
  have hmf : ∀ (fn : Fn) (first cap : Array Value) (w : World), (Instr.makeFunc fn first cap).run Tryd.prog w = .ok (.func fn first cap) w := fun _ _ _ _ => rfl
  obtain ⟨a, c, rfl⟩ := hsrc.size
  obtain ⟨W0, hW0⟩ : ∃ W, W = ((w.alloc (.cells #[.int .u8 (kind.toNat : Int)] 5)).alloc (.cells #[.slice none 0 0] 22)) := ⟨_, rfl⟩
  have hkW := hid (show Kept [] w W0 from hW0 ▸ ((Kept.refl [] w).alloc _).alloc _)
  have hkb := hid (show W0.heap[w.heap.size]? = some (.cells #[.int .u8 (kind.toNat : Int)] 5 (0, 0)) from hW0 ▸ heap_alloc_old (heap_alloc_at rfl))
  have hpd := hid (show W0.heap[w.heap.size + 1]? = some (.cells #[.slice none 0 0] 22 (0, 0)) from hW0 ▸ heap_alloc_at (by simp))
  have lb := lt_of_block hkb.out
  have lp := lt_of_block hpd.out
  have hpos := ht.pos
  have hT := hid (ht.kept hkW.out (by simp))
  have hd := hid (decode_any' 22 enters_unseal1 #[.pointer (some ⟨w.heap.size, 0, none⟩), .pointer (some ⟨w.heap.size + 1, 0, none⟩)] (.slice a xs.length c) xs W0 (hsrc.kept hkW.out (by simp)) (by omega) [w.heap.size + 1] (fun x hx => by simp at hx; omega)
    (UnQ (w.heap.size + 1) w.heap.size kind xs) (fun n rest W W' x hq hx he hk => hq.err (by omega) he hk)
    (fun rb a' c' W hkW' hrb hab hrd => by
      have h1 := hkW'.at hkb.out (by simp)
      have h2 := hkW'.at hpd.out (by simp)
      rcases Nat.lt_or_ge xs.length 5 with hl | hl
      · exact unseal1_short rb _ _ w.heap.size kind a' c' xs W hrd h2 (by omega) hl
      · exact unseal1_long rb _ _ w.heap.size kind a' c' xs W hrd h1 h2 (hT.out.kept hkW' (by simp)) (by omega) (fun x hx => by have := (hab x hx).1; omega) hl hlen))
  have HW0 := hid hW0
  clear hsrc ht hW0
  go_enter Tryd.func10, Tryd.ntmps10
  go_wp2_with fail
  rw [← HW0.out]
  refine hd.out.mono ?_
  rintro e w4 ⟨n, rest, rfl, hk4, rfl, hrest, a4, c4, h4, hb4, hx4⟩
  have hn : (if unsealErr kind xs = 0 ∧ rest ≠ [] then (22 : Int) else unsealErr kind xs) = unsealErr kind xs := by
    by_cases h0 : unsealErr kind xs = 0
    · rw [if_neg (fun h => h.2 (hrest h0))]
    · rw [if_neg (fun h => h0 h.1)]
  rw [hn]
  have gc := cell_of_one h4
  have hsz := hkW.out.size
  have Hk4 := hid (show Kept [] w w4 from hkW.out.trans' hk4 (fun x hx hm => by simp at hm; omega))
  have Hb4 := hid hb4; have Hx4 := hid hx4
  clear hn hk4 h4 hb4 hx4 hrest hd
  obtain ⟨er, her⟩ : ∃ er, er = unsealErr kind xs := ⟨_, rfl⟩
  rw [← her]
  have Her := hid her
  clear her
  go_wp2
  go_ret2
  exact ⟨a4, c4, by rw [← Her.out]; rfl, Hk4.out, Hb4.out, Hx4.out⟩
end Go.Proofs.YtijkpnggehnmcabDoor
