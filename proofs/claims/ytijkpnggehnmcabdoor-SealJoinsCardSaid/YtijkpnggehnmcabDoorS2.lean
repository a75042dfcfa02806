/- seal.want, seal.summed, seal.Seal. -/
import Derived.Test.YtijkpnggehnmcabDoorS1
namespace Go.Proofs.YtijkpnggehnmcabDoor
open Go.RowKit Go.Lib

theorem want_ok (n : Int) (w : World) : Calls Tryd.prog 25 #[.bool true, .int .i64 n] w fun e w' => e = .returned (.tuple #[]) ∧ w = w' := by
  go_enter Tryd.func25, Tryd.ntmps25
  go_wp2
  go_end0
  exact ⟨rfl, rfl⟩

theorem want_err (n : Int) (hn : (n == 0) = false) (w : World) :
    Calls Tryd.prog 25 #[.bool false, .int .i64 n] w fun e w' => Thrown 24 (.int .i64 n) e ∧ w = w' := by
  have hm := hid (must_err n hn w)
  clear hn
  go_enter Tryd.func25, Tryd.ntmps25
  go_wp2_with fail
  refine hm.out.mono ?_
  rintro e w' ⟨rfl, rfl⟩
  exact ⟨rfl, ⟨_, rfl, Calm.nil⟩, rfl⟩

/-- A call that gives a row of bytes of its own; of what was there only the blocks of S may read otherwise. -/
def Gives (w : World) (S : List Nat) (bs : List UInt8) (e : Ending) (w' : World) : Prop :=
  ∃ a c, e = .returned (.slice a bs.length c) ∧ Kept S w w' ∧ w'.ownsRow w.heap.size 5 1 (.slice a bs.length c) bs.length (bs.map B)

theorem numB_le (v : Nat) : numB v 4 = Crc.le v := by simp [numB, Crc.le, List.range_succ]
theorem numB_byte (b : UInt8) : numB b.toNat 1 = [b] := by simp [numB]

theorem wdone' (p : Nat) (v : Value) (xs : List UInt8) (w : World) (h : Wr w p v xs) (hlen : xs.length ≤ 1000000000) :
    Calls Tryd.prog 33 #[.pointer (some ⟨p, 0, none⟩)] w (Gives w [] xs) := wdone p v xs w h hlen

theorem ownsRow_src {w : World} {base : Nat} {v : Value} {xs : List UInt8} (h : w.ownsRow base 5 1 v xs.length (xs.map B)) : SrcB w v xs := by
  obtain ⟨a, c, rfl⟩ := owns_slice h
  exact (bys_of_row h).1

/-- The bytes and their sum. -/
def withSum (xs : List UInt8) : List UInt8 := xs ++ numB (Crc.sum xs).toNat 4
theorem withSum_len (xs : List UInt8) : (withSum xs).length = xs.length + 4 := by simp [withSum, numB_len]

theorem summed_any (p : Nat) (v : Value) (xs : List UInt8) (w : World) (h : Wr w p v xs) (ht : Tab w) (hp : 0 < p) (hlen : xs.length ≤ 500000000) :
    Calls Tryd.prog 29 #[.pointer (some ⟨p, 0, none⟩)] w (Gives w (p :: v.ownBlock.toList) (withSum xs)) := by
  have hd := hid (wdone' p v xs w h (by omega))
  have H := hid h; have Ht := hid ht
  clear h ht
  go_enter Tryd.func29, Tryd.ntmps29
  go_wp2_with fail
  refine hd.out.mono ?_
  rintro e w1 ⟨a, c, rfl, hk1, hown1⟩
  have hs := hid (sum_any _ xs w1 (ownsRow_src hown1) (Ht.out.kept hk1 (by simp)) (by omega))
  have Hk1 := hid hk1
  clear hk1 hown1 hd
  go_wp2_with fail
  refine hs.out.mono ?_
  rintro e w2 ⟨rfl, rfl⟩
  have hlt := (Crc.sum xs).isLt
  have hn := hid (wnum p (Crc.sum xs).toNat 4 (by omega) v xs w1 (H.out.kept Hk1.out (by simp) (by simp)) (by omega))
  have hws := hid (show xs ++ numB (Crc.sum xs).toNat (sz 4) = withSum xs from by rw [sz4]; rfl)
  clear hs
  generalize (Crc.sum xs).toNat = z at *
  go_wp2_with fail
  refine hn.out.mono ?_
  rintro e w3 ⟨rfl, v3, hk3, hw3, hf3⟩
  rw [hws.out] at hw3
  have hd3 := hid (wdone' p v3 (withSum xs) w3 hw3 (by rw [withSum_len]; omega))
  have Hk3 := hid hk3
  clear hk3 hw3 hf3 hn
  go_wp2_with fail
  refine hd3.out.mono ?_
  rintro e w4 ⟨a4, c4, rfl, hk4, hown4⟩
  have Hk4 := hid hk4; have Ho4 := hid hown4
  clear hk4 hown4 hd3
  go_wp2
  go_ret
  refine ⟨a4, c4, rfl, ((Hk1.out.wider (by simp)).trans Hk3.out).trans' Hk4.out (by simp), ?_⟩
  have hsz : w.heap.size ≤ w3.heap.size := Nat.le_trans Hk1.out.size Hk3.out.size
  exact ⟨Ho4.out.1, Ho4.out.2.imp id fun ⟨g, cap, cur, h1, h2, h3⟩ => ⟨g, cap, cur, h1, Nat.le_trans hsz h2, h3⟩⟩

/-- What is sealed. -/
def sealed (kind : UInt8) (ys : List UInt8) : List UInt8 := withSum (kind :: ys)

theorem seal_any (kind : UInt8) (sv : Value) (ys : List UInt8) (w : World) (hsrc : SrcB w sv ys) (ht : Tab w) (hlen : ys.length ≤ 400000000) :
    Calls Tryd.prog 12 #[.int .u8 (kind.toNat : Int), sv] w (Gives w [] (sealed kind ys)) := by
  have hfr := Wr.fresh w
  have hk0 := hid ((Kept.refl [] w).alloc (.cells #[.slice none 0 0] 53))
  have hpos := ht.pos
  have hkl := kind.toNat_lt
  have hw1 := hid (wnum w.heap.size kind.toNat 1 (by omega) _ [] _ hfr (by simp))
  have hkb := hid (show [] ++ numB kind.toNat (sz 1) = [kind] from numB_byte kind)
  obtain ⟨a, c, rfl⟩ := hsrc.size
  have Hs := hid hsrc; have Ht := hid ht
  clear hsrc ht hfr
  go_enter Tryd.func12, Tryd.ntmps12
  generalize kind.toNat = kn at *
  go_wp2_with fail
  refine hw1.out.mono ?_
  rintro e w1 ⟨rfl, v1, hk1, hwr1, hf1⟩
  rw [hkb.out] at hwr1
  have Hk1 := hid (hk0.out.trans' hk1 (fun x hx hm => by simp [Value.ownBlock] at hm; omega))
  have hf1' := hid (show ∀ g, v1.ownBlock = some g → w.heap.size + 1 ≤ g from fun g hg => by
    rcases hf1 g hg with h | h
    · simp [Value.ownBlock] at h
    · simpa using h)
  have hsrc1 := Hs.out.kept Hk1.out (by simp)
  have hw2 := hid (wraw w.heap.size v1 _ [kind] ys w1 hwr1 hsrc1 (by simp) (by omega))
  have Hwr1 := hid hwr1
  clear hk1 hwr1 hf1 hw1 hsrc1
  go_wp2_with fail
  refine hw2.out.mono ?_
  rintro e w2 ⟨rfl, v2, hk2, hwr2, hf2⟩
  have Hk2 := hid (Hk1.out.trans' hk2 (fun x hx hm => by
    simp at hm
    rcases hm with hm | hm
    · omega
    · have := hf1'.out x hm; omega))
  have hf2' := hid (show ∀ g, v2.ownBlock = some g → w.heap.size + 1 ≤ g from fun g hg => by
    rcases hf2 g hg with h | h
    · exact hf1'.out g h
    · have := lt_of_block Hwr1.out.1; omega)
  have hw3 := hid (summed_any w.heap.size v2 ([kind] ++ ys) w2 hwr2 (Ht.out.kept Hk2.out (by simp)) hpos (by simp; omega))
  clear hk2 hwr2 hf2 hw2
  go_wp2_with fail
  refine hw3.out.mono ?_
  rintro e w3 ⟨a3, c3, rfl, hk3, hown3⟩
  have Hk3 := hid hk3; have Ho3 := hid hown3
  clear hk3 hown3 hw3
  go_wp2
  go_ret
  refine ⟨a3, c3, rfl, Hk2.out.trans' Hk3.out (fun x hx hm => by
    simp at hm
    rcases hm with hm | hm
    · omega
    · have := hf2'.out x hm; omega), ?_⟩
  have hsz : w.heap.size ≤ w2.heap.size := Hk2.out.size
  exact ⟨Ho3.out.1, Ho3.out.2.imp id fun ⟨g, cap, cur, h1, h2, h3⟩ => ⟨g, cap, cur, h1, Nat.le_trans hsz h2, h3⟩⟩
end Go.Proofs.YtijkpnggehnmcabDoor
