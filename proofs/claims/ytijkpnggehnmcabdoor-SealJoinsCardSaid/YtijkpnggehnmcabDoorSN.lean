/- coldstoreref04.Seal, Unseal: the document's answers. -/
import Derived.Test.YtijkpnggehnmcabDoorSM
namespace Go.Proofs.YtijkpnggehnmcabDoor
open Go.RowKit Go.Lib

theorem same_dec (a b : Option Addr) (c d : Nat) (xs ys : List UInt8) (w : World) (ha : SrcB w (.slice a xs.length c) xs) (hb : SrcB w (.slice b ys.length d) ys) :
    Calls Tryd.prog 15 #[.slice a xs.length c, .slice b ys.length d] w fun e w' => e = .returned (.bool (decide (xs = ys))) ∧ w = w' := by
  by_cases hxy : xs = ys
  · subst hxy
    exact (same_src a b c d xs w ha hb).mono fun e w' h => ⟨by rw [h.1]; simp, h.2⟩
  · have h1 := text_any w a c xs ha
    have h2 := text_any w b d ys hb
    have Hxy := hid hxy
    have hD := hid (show decide (xs = ys) = false from decide_eq_false hxy)
    clear ha hb hxy
    rw [hD.out]
    clear hD
    generalize xs.length = n at *
    generalize ys.length = m at *
    go_enter Tryd.func15, Tryd.ntmps15
    go_wp2
    go_ret
    exact ⟨by simpa using Hxy.out, rfl⟩

/-- A row of bytes that a call made; nothing that was there has turned. -/
def Made (w : World) (xs : List UInt8) (e : Ending) (w' : World) : Prop := ∃ a c, e = .returned (.slice a xs.length c) ∧ Kept [] w w' ∧ Bys w' a c xs ∧ ∀ x, a = some x → w.heap.size ≤ x.block

theorem RowAt.made {w : World} {base : Nat} {v : Value} {xs : List UInt8} {wr : World} (h : RowAt w base v xs wr) : ∃ a c, v = .slice a xs.length c ∧ Kept [] w wr ∧ Bys wr a c xs ∧ ∀ x, a = some x → w.heap.size ≤ x.block := by
  obtain ⟨h1, h2, h3, h4⟩ := h
  obtain ⟨a, c, rfl⟩ := owns_slice h4
  exact ⟨a, c, rfl, h1, bys_of_row h4, fun x hx => Nat.le_trans h2 (own_block_ge h4 x.block (by simp [Value.ownBlock, hx])).1⟩

set_option maxHeartbeats 1000000 in
theorem refseal_any (kind : UInt8) (a : Option Addr) (c : Nat) (ys : List UInt8) (w : World) (h : SrcB w (.slice a ys.length c) ys) (hlen : ys.length ≤ 400) :
    Calls Tryd.prog 16 #[.int .u8 (kind.toNat : Int), .slice a ys.length c] w (Made w (sealed kind ys)) := by
  obtain ⟨w1, hw1⟩ : ∃ w1, w1 = (w.alloc (.cells #[.int .u8 (kind.toNat : Int)] 5)).alloc (.cells #[.slice (some ⟨w.heap.size, 0, none⟩) 1 1, .slice a ys.length c] 22) := ⟨_, rfl⟩
  have hk1 := hid (show Kept [] w w1 from hw1 ▸ ((Kept.refl [] w).alloc _).alloc _)
  have hp1 := hid (show w1.heap[w.heap.size + 1]? = some (.cells #[.slice (some ⟨w.heap.size, 0, none⟩) 1 1, .slice a ys.length c] 22 (0, 0)) from hw1 ▸ heap_alloc_at (by simp))
  have hs1 : SrcB w1 (.slice (some ⟨w.heap.size, 0, none⟩) 1 1) [kind] := (src_alloc w [kind] 1 (0, 0)).kept (hw1 ▸ (Kept.refl [] _).alloc _) (by simp)
  have hj := hid (join2_any (w.heap.size + 1) _ _ [kind] ys w1 hp1.out hs1 (h.kept hk1.out (by simp)) (by simp) (by omega))
  have HW1 := hid hw1
  clear h hw1 hs1
  go_enter Tryd.func16, Tryd.ntmps16
  go_wp2_with fail
  rw [← HW1.out]
  refine hj.out.mono ?_
  rintro e w2 ⟨v2, rfl, hr2⟩
  obtain ⟨a2, c2, rfl, hk2, hb2, _⟩ := hr2.made
  have Hk2 := hid (hk1.out.trans hk2)
  have Hb2 := hid hb2
  have hs := hid (refsum_any _ ([kind] ++ ys) w2 hb2.1 (by simp; omega))
  have hlt := (Crc.sum ([kind] ++ ys)).isLt
  have hnum0 := fun (w : World) => refnum_any (Crc.sum ([kind] ++ ys)).toNat (by omega) 4 w
  have hws := hid (show ([kind] ++ ys) ++ numB (Crc.sum ([kind] ++ ys)).toNat (sz 4) = sealed kind ys from by rw [sz4]; rfl)
  have hlen2 := hid (show ([kind] ++ ys).length ≤ 1000 by simp; omega)
  clear hr2 hk2 hb2 hj
  have hnum := hid hnum0
  clear hnum0
  generalize hz : (Crc.sum ([kind] ++ ys)).toNat = z at *
  clear hz
  generalize ([kind] ++ ys) = all at *
  go_wp2_with fail
  refine hs.out.mono ?_
  rintro e w3 ⟨rfl, rfl⟩
  go_wp2_with fail
  refine (hnum.out _).mono ?_
  rintro e w4 ⟨v4, rfl, hr4⟩
  obtain ⟨a4, c4, rfl, hk4, hb4, _⟩ := hr4.made
  have Hk4 := hid (Hk2.out.trans hk4)
  have Hb4 := hid hb4
  have Hb24 := hid (Hb2.out.kept hk4 (by simp))
  clear hr4 hk4 hb4 hs hnum
  go_wp2_with fail
  obtain ⟨w5, hw5⟩ : ∃ w5, w5 = w4.alloc (.cells #[.slice a2 all.length c2, .slice a4 (numB z (sz 4)).length c4] 22) := ⟨_, rfl⟩
  rw [← hw5]
  have hk45 := hid (show Kept [] w4 w5 from hw5 ▸ (Kept.refl [] w4).alloc _)
  have hp5 := hid (show w5.heap[w4.heap.size]? = some (.cells #[.slice a2 all.length c2, .slice a4 (numB z (sz 4)).length c4] 22 (0, 0)) from hw5 ▸ heap_alloc_at rfl)
  have hj2 := hid (join2_any w4.heap.size _ _ all (numB z (sz 4)) w5 hp5.out (Hb24.out.1.kept hk45.out (by simp)) (Hb4.out.1.kept hk45.out (by simp)) hlen2.out (by rw [numB_len, sz4]; omega))
  clear hw5
  refine hj2.out.mono ?_
  rintro e w6 ⟨v6, rfl, hr6⟩
  rw [hws.out] at hr6
  obtain ⟨a6, c6, rfl, hk6, hb6, hx6⟩ := hr6.made
  have Hk5 := hid (Hk4.out.trans hk45.out)
  have Hk6 := hid (Hk5.out.trans hk6)
  have Hb6 := hid hb6; have Hx6 := hid hx6
  clear hr6 hk6 hb6 hx6 hj2
  go_wp2
  go_ret
  exact ⟨a6, c6, rfl, Hk6.out, Hb6.out, fun x hx => Nat.le_trans Hk5.out.size (Hx6.out x hx)⟩

theorem sealed_cons (b0 : UInt8) (inner l4 : List UInt8) (h4 : l4.length = 4) : (sealed b0 inner = b0 :: inner ++ l4) ↔ numOf l4 = (Crc.sum (b0 :: inner)).toNat := by
  have hc := (Crc.sum (b0 :: inner)).isLt
  have e : sealed b0 inner = (b0 :: inner) ++ numB (Crc.sum (b0 :: inner)).toNat 4 := rfl
  rw [e]
  constructor
  · intro h
    have h2 : numB (Crc.sum (b0 :: inner)).toNat 4 = l4 := List.append_cancel_left h
    rw [← h2, numOf_numB]
    exact Nat.mod_eq_of_lt hc
  · intro h
    have h2 := le_numOf l4 h4
    rw [← h2, h, numB_le]

/-- What the document's Unseal gives: bytes, and the error's number. -/
def RefUnsealed (w : World) (kind : UInt8) (xs : List UInt8) (e : Ending) (w' : World) : Prop :=
  ∃ a c, e = .returned (.tuple #[.slice a (unsealed kind xs).length c, .int .i64 (unsealErr kind xs)]) ∧ Kept [] w w' ∧ ∀ W, Kept [] w' W → SrcB W (.slice a (unsealed kind xs).length c) (unsealed kind xs)

set_option maxHeartbeats 2000000 in
theorem refunseal_any (kind : UInt8) (a : Option Addr) (c : Nat) (xs : List UInt8) (w : World) (h : BSl w a c xs) (hlen : xs.length ≤ 300) :
    Calls Tryd.prog 11 #[.int .u8 (kind.toNat : Int), .slice a xs.length c] w (RefUnsealed w kind xs) := by
  have hkl := kind.toNat_lt
  rcases Nat.lt_or_ge xs.length 5 with hl | hl
  · obtain ⟨h1, h2⟩ := unseal_short kind xs hl
    have hl' : (xs.length : Int) < 5 := by omega
    have hR := hid (show ∀ w' : World, Kept [] w w' → RefUnsealed w kind xs (.returned (.tuple #[.slice none 0 0, .int .i64 20])) w' from fun w' hk => ⟨none, 0, by rw [h1, h2]; rfl, hk, fun W _ => by rw [h2]; exact Or.inl ⟨rfl, rfl, rfl⟩⟩)
    clear h h1 h2
    go_enter Tryd.func11, Tryd.ntmps11
    go_wp2
    go_ret2
    exact hR.out _ (Kept.refl _ _)
  · obtain ⟨m, hm⟩ : ∃ m, m + 5 = xs.length := ⟨xs.length - 5, by omega⟩
    have hle := h.le
    have hmx := h.max
    unfold maxLen at hmx
    have hsome : ∃ x, a = some x := by
      cases a with
      | none => have := h.nil rfl; omega
      | some x => exact ⟨x, rfl⟩
    obtain ⟨x, rfl⟩ := hsome
    obtain ⟨b0, r0, hx0⟩ : ∃ b r, xs = b :: r := by
      cases xs with
      | nil => simp at hl
      | cons b r => exact ⟨b, r, rfl⟩
    have hg0 : w.cell? x = some (.int .u8 (b0.toNat : Int)) := by
      rcases h.src with ⟨h1, h2, _⟩ | ⟨y, c', h1, hc⟩
      · omega
      · simp at h1
        obtain ⟨rfl, rfl⟩ := h1
        have := hc 0 (B b0) (by rw [hx0]; rfl)
        rwa [add_0] at this
    have hb0l := b0.toNat_lt
    obtain ⟨inner, hin⟩ : ∃ inner, inner = (xs.drop 1).take m := ⟨_, rfl⟩
    have hil : inner.length = m := by rw [hin]; simp; omega
    have hsplit : xs = b0 :: inner ++ xs.drop (m + 1) := by
      rw [hin, hx0]
      simp only [List.drop_one, List.tail_cons, List.cons_append, List.drop_succ_cons, List.drop_zero, List.take_append_drop]
    have hd4 : (xs.drop (m + 1)).length = 4 := by simp; omega
    have hd : BSl w (some (x.add 1)) (c - 1) (xs.drop 1) := by
      have := h.drop (m := 1) (by omega)
      rwa [show behind (some x) c 1 = some (x.add 1) by unfold behind; rw [if_neg (by omega)]; rfl] at this
    have hsi : SrcB w (.slice (some (x.add 1)) m (c - 1)) inner := hin ▸ hd.take (m := m) (by simp; omega)
    have hsi' : SrcB w (.slice (some (x.add 1)) inner.length (c - 1)) inner := by rw [hil]; exact hsi
    have hrs := refseal_any b0 (some (x.add 1)) (c - 1) inner w hsi' (by omega)
    rw [hil] at hrs
    have heq := sealed_cons b0 inner (xs.drop (m + 1)) hd4
    rw [← hsplit] at heq
    have htk : xs.take (xs.length - 4) = b0 :: inner := by
      rw [show xs.length - 4 = (b0 :: inner).length by simp; omega]
      conv => lhs; rw [hsplit]
      exact List.take_left' rfl
    have hdr : xs.drop (xs.length - 4) = xs.drop (m + 1) := by congr 1; omega
    have hE : unsealErr kind xs = if ¬ sealed b0 inner = xs then 36 else if b0 ≠ kind then 21 else 0 := by
      unfold unsealErr
      rw [if_neg (by omega), htk, hdr, show xs.head? = some b0 by rw [hx0]; rfl]
      simp only [ne_eq, Option.some.injEq, heq]
    have hU : unsealErr kind xs = 0 → unsealed kind xs = inner := fun he => by unfold unsealed; rw [if_pos he, htk]; rfl
    have hU' : unsealErr kind xs ≠ 0 → unsealed kind xs = [] := fun he => by unfold unsealed; rw [if_neg he]
    have Hsx := hid h.src
    have hR0 := hid (show ∀ n, n ≠ 0 → unsealErr kind xs = n → ∀ w' : World, Kept [] w w' → RefUnsealed w kind xs (.returned (.tuple #[.slice none 0 0, .int .i64 n])) w' from fun n hn he w' hk =>
      ⟨none, 0, by rw [hU' (by rw [he]; exact hn), he]; rfl, hk, fun W _ => by rw [hU' (by rw [he]; exact hn)]; exact Or.inl ⟨rfl, rfl, rfl⟩⟩)
    have hR1 := hid (show unsealErr kind xs = 0 → ∀ w' : World, Kept [] w w' → RefUnsealed w kind xs (.returned (.tuple #[.slice (some (x.add 1)) m (c - 1), .int .i64 0])) w' from fun he w' hk =>
      ⟨some (x.add 1), c - 1, by rw [hU he, he, hil], hk, fun W hkW => by rw [hU he, hil]; exact hsi.kept (hk.trans hkW) (by simp)⟩)
    have Hrs := hid hrs; have HE := hid hE; have Hm := hid hm; have Hlen := hid hlen
    have hmc : (m : Int) + 1 ≤ (c : Int) := by omega
    have hm300 : m ≤ 300 := by omega
    have hne : ¬ ((m : Int) + 5 < 5) := by omega
    rw [← hm] at hle ⊢
    have hc1 : c ≠ 1 := by omega
    have hsame := hid (fun (a6 : Option Addr) (c6 : Nat) (W : World) (hk : Kept [] w W) (hb : Bys W a6 c6 (sealed b0 inner)) => show Calls Tryd.prog 15 #[.slice a6 (m + 5) c6, .slice (some x) (m + 5) c] W (fun e w' => e = .returned (.bool (decide (sealed b0 inner = xs))) ∧ W = w') from by
      have := same_dec a6 (some x) c6 c (sealed b0 inner) xs W hb.1 (Hsx.out.kept hk (by simp))
      rwa [sealed_len, hil, ← Hm.out] at this)
    have hsl : (sealed b0 inner).length = m + 5 := by rw [sealed_len, hil]
    have Hsl := hid hsl
    have Hneb := hid (show b0 ≠ kind → ((b0.toNat : Int) == (kind.toNat : Int)) = false ∧ ((b0.toNat : Int) != (kind.toNat : Int)) = true from fun h => by
      have : (b0.toNat : Int) ≠ (kind.toNat : Int) := fun h2 => h (UInt8.toNat_inj.1 (by omega))
      exact ⟨by simpa using this, by simpa using this⟩)
    clear h hl hx0 hin hil hsplit hd4 hd hsi hsi' hrs heq htk hdr hE hU hU' hm hlen hsl
    go_enter Tryd.func11, Tryd.ntmps11
    go_wp2_with fail
    refine Hrs.out.mono ?_
    rintro e w1 ⟨a6, c6, rfl, hk1, hb1, _⟩
    rw [Hsl.out]
    have Hk1 := hid hk1
    have hs2 := hid (hsame.out a6 c6 w1 hk1 hb1)
    have hg1 := (hk1.cell (World.block_lt_of_cell? w _ hg0) (by simp)).trans hg0
    clear hk1 hb1 Hrs hsame
    go_wp2_with fail
    refine hs2.out.mono ?_
    rintro e w2 ⟨rfl, rfl⟩
    clear hs2
    by_cases hq : sealed b0 inner = xs
    · have hdq : decide (sealed b0 inner = xs) = true := decide_eq_true hq
      rw [hdq]
      by_cases hbk : b0 = kind
      · have he := hid (show unsealErr kind xs = 0 by rw [HE.out, if_neg (by simpa using hq), if_neg (by simpa using hbk)])
        subst hbk
        clear hq hdq
        go_wp2
        go_ret2
        exact hR1.out he.out _ Hk1.out
      · have he := hid (show unsealErr kind xs = 21 by rw [HE.out, if_neg (by simpa using hq), if_pos hbk])
        obtain ⟨hbf, hbt⟩ := Hneb.out hbk
        clear hq hdq hbk
        go_wp2
        go_ret2
        exact hR0.out 21 (by decide) he.out _ Hk1.out
    · have hdq : decide (sealed b0 inner = xs) = false := decide_eq_false hq
      have he := hid (show unsealErr kind xs = 36 by rw [HE.out, if_pos hq])
      rw [hdq]
      clear hq hdq
      go_wp2
      go_ret2
      exact hR0.out 36 (by decide) he.out _ Hk1.out
end Go.Proofs.YtijkpnggehnmcabDoor
