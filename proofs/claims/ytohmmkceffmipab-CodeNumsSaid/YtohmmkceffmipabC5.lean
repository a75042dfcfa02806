/- coldstorelaw02.CodeNums. -/
import Derived.Test.YtohmmkceffmipabC4
import Derived.Lib.ConvBytes
import Derived.OpenShut
namespace Go.Proofs.Ytohmmkceffmipab
open Go.RowKit Go.Lib

theorem i64_and7 (n : Int) : bits .and .i64 n 7 = n % 8 := by
  have h7 : (BitVec.ofInt 64 7).toNat = 2 ^ 3 - 1 := by decide
  have key : (BitVec.ofInt 64 n &&& BitVec.ofInt 64 7).toNat = (n % ((2 ^ 64 : Nat) : Int)).toNat % 2 ^ 3 := by
    rw [BitVec.toNat_and, BitVec.toNat_ofInt, h7, Nat.and_two_pow_sub_one_eq_mod]
  show IntKind.i64.wrap ((BitVec.ofInt 64 n &&& BitVec.ofInt 64 7).toNat : Nat) = n % 8
  rw [key, IntKind.wrap_i64]
  omega

theorem kept_bytesWorld (w : World) (e : TypeId) (s : ByteArray) : Kept [] w (bytesWorld w e s) :=
  ⟨rfl, rfl, rfl, by rw [bytesWorld_size]; omega, fun k hk _ => bytesWorld_at_old w e s k hk⟩

theorem src_bytesWorld (w : World) (e : TypeId) (s : ByteArray) (c : Nat) : SrcB (bytesWorld w e s) (.slice (some ⟨w.heap.size, 0, none⟩) s.size c) s.data.toList := by
  have hl : s.data.toList.length = s.size := by simp
  refine Or.inr ⟨⟨w.heap.size, 0, none⟩, c, by rw [hl], fun j u hj => ?_⟩
  have hjl : j < s.size := by
    rcases Nat.lt_or_ge j s.size with h' | h'
    · exact h'
    · rw [List.getElem?_eq_none (by simp; exact h')] at hj; simp at hj
  have ea : (⟨w.heap.size, 0, none⟩ : Addr).add j = ⟨w.heap.size, j, none⟩ := by unfold Addr.add; split <;> simp_all
  rw [ea, bytesWorld_cell w e s j hjl]
  simp at hj
  obtain ⟨b, hb, rfl⟩ := hj
  simp [B, List.getD, hb]

theorem numB_take (N : Nat) {lo hi : Nat} (h : lo ≤ hi) : (numB N hi).take lo = numB N lo := by
  unfold numB
  rw [← List.map_take, List.take_range, Nat.min_eq_left h]

/-- The first of the bytes that a slice reads as. -/
theorem Bys.front {w : World} {a : Option Addr} {c : Nat} {xs : List UInt8} (h : Bys w a c xs) {n : Nat} (hn : n ≤ xs.length) (hne : xs ≠ []) : Bys w a c (xs.take n) := by
  have hl : (xs.take n).length = n := by simp; omega
  rcases h.1 with ⟨h1, h2, _⟩ | ⟨x, c', h1, hc⟩
  · exact absurd (List.eq_nil_of_length_eq_zero h2) hne
  · simp at h1
    obtain ⟨rfl, rfl⟩ := h1
    refine ⟨Or.inr ⟨x, c, rfl, fun j u hj => ?_⟩, h.2⟩
    have hjl : j < n := by
      rcases Nat.lt_or_ge j n with h' | h'
      · exact h'
      · rw [List.getElem?_eq_none (by simp; omega)] at hj; simp at hj
    exact hc j u (by simpa [List.getElem?_take, hjl] using hj)
theorem Bys.some {w : World} {a : Option Addr} {c : Nat} {xs : List UInt8} (h : Bys w a c xs) (hne : xs ≠ []) : ∃ x, a = some x ∧ ∀ (j : Nat) (b : UInt8), xs[j]? = some b → w.cell? (x.add j) = some (B b) := by
  rcases h.1 with ⟨h1, h2, _⟩ | ⟨x, c', h1, hc⟩
  · exact absurd (List.eq_nil_of_length_eq_zero h2) hne
  · simp at h1
    exact ⟨x, h1.1, fun j b hj => hc j (B b) (by simp [hj])⟩

theorem row_cap {W : World} {base : Nat} {e : TypeId} {a : Option Addr} {n c : Nat} {xs : List Value} (ho : W.ownsRow base e 1 (.slice a n c) n xs) : n ≤ c ∧ c ≤ maxLen := by
  rcases ho.2 with ⟨h1, h2⟩ | ⟨g, cap, cur, hv, hg, hh, hc, hm, _⟩
  · simp at h1; unfold maxLen; omega
  · simp at hv; obtain ⟨_, rfl⟩ := hv; exact ⟨hc, hm⟩

/-- A text's field: how long, and its bytes. -/
def tbs (s : ByteArray) : List UInt8 := numB s.size 4 ++ s.data.toList
theorem tbs_len (s : ByteArray) : (tbs s).length = 4 + s.size := by simp [tbs, numB_len]

theorem tbs_first (s : ByteArray) : (tbs s)[0]? = some (UInt8.ofNat s.size) := by simp [tbs, numB, List.range_succ]

theorem tbs_take (s : ByteArray) (l : List UInt8) : (tbs s ++ l).take (4 + s.size) = tbs s := by rw [← tbs_len s]; exact List.take_left

/- WAYS -/
set_option maxHeartbeats 2000000 in
theorem nums_lt (N lo hi : Nat) (hN : N < 18446744073709551616) (hlt : lo < hi) (hlo1 : 1 ≤ lo) (hhi8 : hi ≤ 8) (a b : Int) (hA : 1 + a % 8 = (lo : Int)) (hC : 1 + b % 8 = (hi : Int)) (s : ByteArray) (hl : s.size ≤ 60) (w : World) :
    Calls Try.prog 4 #[.int .u64 N, .int .i64 a, .int .i64 b, .string s] w fun e w' => e = .returned (.bool true) ∧ Kept [] w w' := by
  have hle : lo ≤ hi := Nat.le_of_lt hlt
  have hlt' : (lo : Int) < (hi : Int) := by omega
  have hlt'' : ¬ (hi : Int) < (lo : Int) := by omega
  have hszlo : sz (lo : Int) = lo := by unfold sz; rw [if_neg (by omega), if_neg (by omega)]; omega
  have hszhi := hid (show sz (hi : Int) = hi from by unfold sz; rw [if_neg (by omega), if_neg (by omega)]; omega)
  have hl' : ¬ (60 : Int) < (s.size : Int) := by omega
  have hcv : ∀ W : World, (convert 9 25 (.string s)).run Try.prog W = .ok (.slice (some ⟨W.heap.size, 0, none⟩) s.size (grownCap W s.size 0 5)) (bytesWorld W 5 s) := fun W => Go.Lib.run_convert_string_bytes W _ _ _ s Try.underlying9 Try.underlying25 Try.underlying5
  have hca := i64_and7 a
  have hcb := i64_and7 b
  have ha0 : 0 ≤ a % 8 := by omega
  have ha1 : a % 8 ≤ 7 := by omega
  have hb0 : 0 ≤ b % 8 := by omega
  have hb1 : b % 8 ≤ 7 := by omega
  have HLE := hid hle
  clear hle
  go_enter Try.func4, Try.ntmps4
  go_wp2_with fail
  refine (alive02 _).mono ?_
  rintro e w1 ⟨rfl, hk⟩
  have Hk := hid hk
  clear hk
  obtain ⟨W, hW⟩ : ∃ W, W = ((((w1.alloc (.cells #[.slice none 0 0] 41)).alloc (.cells #[.slice none 0 0] 41)).alloc (.cells #[.slice none 0 0] 41)).alloc (.cells #[.slice none 0 0] 41)) := ⟨_, rfl⟩
  have hkW := hid (show Kept [] w1 W from hW ▸ ((((Kept.refl [] w1).alloc _).alloc _).alloc _).alloc _)
  have h0 := hid (show Wr W w1.heap.size (.slice none 0 0) [] from ⟨hW ▸ heap_alloc_old (heap_alloc_old (heap_alloc_old (heap_alloc_at rfl))), World.ownsRow_nil _ _ _ 1⟩)
  have h1 := hid (show Wr W (w1.heap.size + 1) (.slice none 0 0) [] from ⟨hW ▸ heap_alloc_old (heap_alloc_old (heap_alloc_at (by simp))), World.ownsRow_nil _ _ _ 1⟩)
  have h2 := hid (show Wr W (w1.heap.size + 1 + 1) (.slice none 0 0) [] from ⟨hW ▸ heap_alloc_old (heap_alloc_at (by simp)), World.ownsRow_nil _ _ _ 1⟩)
  have h3 := hid (show Wr W (w1.heap.size + 1 + 1 + 1) (.slice none 0 0) [] from ⟨hW ▸ heap_alloc_at (by simp), World.ownsRow_nil _ _ _ 1⟩)
  have hlw := hid (lt_of_block h3.out.1)
  have hn0 := wnum w1.heap.size N lo hN _ [] W h0.out (by simp)
  rw [hszlo, List.nil_append] at hn0
  have Hn0 := hid hn0
  have HW := hid hW
  clear hszlo hn0 hW
  go_wp2_with fail
  rw [← HW.out]
  refine Hn0.out.mono ?_
  rintro e w2 ⟨rfl, v0, hk2, hr0, hf0⟩
  have hk2' := hid (show Kept [w1.heap.size] W w2 from hk2.wider (by simp [Value.ownBlock]))
  have s12 := hid (hk2.size)
  have hr1 := hid (h1.out.kept hk2 (by simp [Value.ownBlock]) (by simp [Value.ownBlock]))
  have hr2 := hid (h2.out.kept hk2 (by simp [Value.ownBlock]; omega) (by simp [Value.ownBlock]))
  have hr3 := hid (h3.out.kept hk2 (by simp [Value.ownBlock]; omega) (by simp [Value.ownBlock]))
  have hf0' := hid (fun g (hg : v0.ownBlock = some g) => show W.heap.size ≤ g from by
    rcases hf0 g hg with h | h
    · simp [Value.ownBlock] at h
    · exact h)
  have Hr0 := hid hr0
  have hn1 := wnum (w1.heap.size + 1) N hi hN _ [] w2 hr1.out (by simp)
  rw [hszhi.out, List.nil_append] at hn1
  have Hn1 := hid hn1
  clear hk2 hf0 hr0 hn1
  go_wp2_with fail
  refine Hn1.out.mono ?_
  rintro e w3 ⟨rfl, v1, hk3, hrr1, hf1⟩
  have hr0b := hid (Hr0.out.kept hk3 (by simp [Value.ownBlock]) (fun g hg => by have := hf0'.out g hg; have := hlw.out; simp [Value.ownBlock]; omega))
  have hr2b := hid (hr2.out.kept hk3 (by simp [Value.ownBlock]) (by simp [Value.ownBlock]))
  have hr3b := hid (hr3.out.kept hk3 (by simp [Value.ownBlock]; omega) (by simp [Value.ownBlock]))
  have hk3' := hid (show Kept [w1.heap.size, w1.heap.size + 1] W w3 from (hk2'.out.wider (fun x _ hx => by simp at hx; simp [hx])).trans' hk3 (fun x hx hm => by simp [Value.ownBlock] at hm; subst hm; simp))
  have hf1' := hid (fun g (hg : v1.ownBlock = some g) => show w2.heap.size ≤ g from by
    rcases hf1 g hg with h | h
    · simp [Value.ownBlock] at h
    · exact h)
  have Hrr1 := hid hrr1
  have ht := hid (wtext (w1.heap.size + 1 + 1) (.slice none 0 0) s [] w3 hr2b.out (by simp) (by omega))
  clear hk3 hf1 hrr1 hr1 hr2 hr3 Hr0
  go_wp2_with fail
  refine ht.out.mono ?_
  rintro e w4 ⟨rfl, v2, hk4, hrr2, hf2⟩
  have s23 := hid (hk3'.out.size)
  have s34 := hid (hk4.size)
  have q0 := hid (hr0b.out.kept hk4 (by simp [Value.ownBlock]; omega) (fun g hg => by have := hf0'.out g hg; have := hlw.out; simp [Value.ownBlock]; omega))
  have q1 := hid (Hrr1.out.kept hk4 (by simp [Value.ownBlock]) (fun g hg => by have := hf1'.out g hg; have := hlw.out; have := s12.out; simp [Value.ownBlock]; omega))
  have q3 := hid (hr3b.out.kept hk4 (by simp [Value.ownBlock]) (by simp [Value.ownBlock]))
  have q2 := hid hrr2
  have hk4' := hid (show Kept [w1.heap.size, w1.heap.size + 1, w1.heap.size + 1 + 1] W w4 from (hk3'.out.wider (fun x _ hx => by simp at hx; rcases hx with hx | hx <;> simp [hx])).trans' hk4 (fun x hx hm => by simp [Value.ownBlock] at hm; subst hm; simp))
  have hf2' := hid (fun g (hg : v2.ownBlock = some g) => show w3.heap.size ≤ g from by
    rcases hf2 g hg with h | h
    · simp [Value.ownBlock] at h
    · exact h)
  have hkb := hid (kept_bytesWorld w4 5 s)
  have hwb := wbytes (w1.heap.size + 1 + 1 + 1) (.slice none 0 0) (.slice (some ⟨w4.heap.size, 0, none⟩) s.size (grownCap w4 s.size 0 5)) [] s.data.toList (bytesWorld w4 5 s) (q3.out.kept hkb.out (by simp) (by simp)) (src_bytesWorld w4 5 s _)
    (fun x hx => by have := lt_of_block q3.out.1; simp [Value.ownBlock] at hx; simp [Value.ownBlock]; omega) (by simp) (by simp; omega)
  have hsl : s.data.toList.length = s.size := by simp
  rw [hsl] at hwb
  have Hwb := hid hwb
  clear hk4 hrr2 hf2 ht hr0b hr2b hr3b Hrr1 hwb hsl
  go_wp2_with fail
  refine Hwb.out.mono ?_
  rintro e w5 ⟨rfl, v3, hk5, hrr3, hf3⟩
  rw [List.nil_append] at hrr3
  have l4 := hid (lt_of_block q3.out.1)
  have z0 := hid ((q0.out.kept hkb.out (by simp) (by simp)).kept hk5 (by simp [Value.ownBlock]; omega) (fun g hg => by have := hf0'.out g hg; have := hlw.out; simp [Value.ownBlock]; omega))
  have z1 := hid ((q1.out.kept hkb.out (by simp) (by simp)).kept hk5 (by simp [Value.ownBlock]) (fun g hg => by have := hf1'.out g hg; have := hlw.out; have := s12.out; simp [Value.ownBlock]; omega))
  have z2 := hid ((q2.out.kept hkb.out (by simp) (by simp)).kept hk5 (by simp [Value.ownBlock]) (fun g hg => by have := hf2'.out g hg; have := hlw.out; have := s23.out; simp [Value.ownBlock]; omega))
  have z3 := hid hrr3
  rw [List.nil_append] at z2
  have hk5' := hid (show Kept [w1.heap.size, w1.heap.size + 1, w1.heap.size + 1 + 1, w1.heap.size + 1 + 1 + 1] W w5 from ((hk4'.out.trans' hkb.out (by simp)).wider (fun x _ hx => by simp at hx; rcases hx with hx | hx | hx <;> simp [hx])).trans' hk5 (fun x hx hm => by simp [Value.ownBlock] at hm; subst hm; simp))
  have hd0 := wdone w1.heap.size v0 _ w5 z0.out (by rw [numB_len]; omega)
  rw [numB_len] at hd0
  have Hd0 := hid hd0
  clear hk5 hrr3 hf3 q0 q1 q2 q3 hd0 hcv
  go_wp2_with fail
  refine Hd0.out.mono ?_
  rintro e w6 ⟨ax, cx, rfl, hk6, hox⟩
  have Hk6 := hid hk6
  have hd1 := wdone (w1.heap.size + 1) v1 _ w6 (z1.out.kept hk6 (by simp) (by simp)) (by rw [numB_len]; omega)
  rw [numB_len] at hd1
  have Hd1 := hid hd1
  have Hox := hid hox
  clear hk6 hox hd1
  go_wp2_with fail
  refine Hd1.out.mono ?_
  rintro e w7 ⟨ay, cy, rfl, hk7, hoy⟩
  have Hk7 := hid hk7
  have cap := row_cap hoy
  have hm63 := cap.2
  unfold maxLen at hm63
  have bx := (bys_of_row (xs := numB N lo) (c := cx) (a := ax) (by rw [numB_len]; exact Hox.out)).kept hk7 (fun _ _ => by simp)
  have by' := bys_of_row (xs := numB N hi) (c := cy) (a := ay) (by rw [numB_len]; exact hoy)
  have hneh : numB N hi ≠ [] := fun h => by have := congrArg List.length h; rw [numB_len] at this; simp at this; have := HLE.out; omega
  obtain ⟨y, rfl, _⟩ := by'.some hneh
  have by2 := by'.front (n := lo) (by rw [numB_len]; exact HLE.out) hneh
  rw [numB_take N HLE.out] at by2
  have hs1 := same_true (some y) ax cy cx (numB N lo) w7 by2 bx
  rw [numB_len] at hs1
  have Hs1 := hid hs1
  have hd2 := wdone (w1.heap.size + 1 + 1) v2 _ w7 ((z2.out.kept Hk6.out (by simp) (by simp)).kept hk7 (by simp) (by simp)) (by rw [List.length_append, numB_len]; simp; omega)
  have hlen2 : (numB s.size 4 ++ s.data.toList).length = 4 + s.size := tbs_len s
  rw [hlen2] at hd2
  have Hd2 := hid hd2
  have Hhl := hid HLE.out
  have c1 := cap.1
  have hlcy : lo ≤ cy := by have := HLE.out; omega
  clear hk7 hoy cap bx by' by2 hs1 hd2 hneh hlen2 Hd0 Hd1
  go_wp2_with fail
  refine Hs1.out.mono ?_
  rintro e w8 ⟨rfl, rfl⟩
  go_wp2_with fail
  refine Hd2.out.mono ?_
  rintro e w8 ⟨az, cz, rfl, hk8, hoz⟩
  have Hk8 := hid hk8
  have bz := (bys_of_row (xs := tbs s) (c := cz) (a := az) (by rw [tbs_len]; exact hoz))
  have Bz := hid bz
  have hd3 := wdone (w1.heap.size + 1 + 1 + 1) v3 (tbs s) w8 (((z3.out.kept Hk6.out (by simp) (by simp)).kept Hk7.out (by simp) (by simp)).kept hk8 (by simp) (by simp)) (by rw [tbs_len]; omega)
  rw [tbs_len] at hd3
  have Hd3 := hid hd3
  clear hk8 hoz bz hd3 Hs1 Hd2
  go_wp2_with fail
  refine Hd3.out.mono ?_
  rintro e w9 ⟨aw, cw, rfl, hk9, how⟩
  have Hk9 := hid hk9
  have bw := (bys_of_row (xs := tbs s) (c := cw) (a := aw) (by rw [tbs_len]; exact how))
  have hs2 := same_true az aw cz cw (tbs s) w9 (Bz.out.kept hk9 (fun _ _ => by simp)) bw
  rw [tbs_len] at hs2
  have Hs2 := hid hs2
  have hd4 := wdone (w1.heap.size + 1 + 1) v2 (tbs s) w9 ((((z2.out.kept Hk6.out (by simp) (by simp)).kept Hk7.out (by simp) (by simp)).kept Hk8.out (by simp) (by simp)).kept hk9 (by simp) (by simp)) (by rw [tbs_len]; omega)
  rw [tbs_len] at hd4
  have Hd4 := hid hd4
  have hrw9 := hid ((((z2.out.kept Hk6.out (by simp) (by simp)).kept Hk7.out (by simp) (by simp)).kept Hk8.out (by simp) (by simp)).kept hk9 (by simp) (by simp))
  clear hk9 how bw hs2 hd4 Hd3 Bz
  go_wp2_with fail
  refine Hs2.out.mono ?_
  rintro e w10 ⟨rfl, rfl⟩
  go_wp2_with fail
  refine Hd4.out.mono ?_
  rintro e w10 ⟨af, cf, rfl, hk10, hof⟩
  have Hk10 := hid hk10
  have hbf := hid (row_block hof)
  have bf := hid (bys_of_row (xs := tbs s) (c := cf) (a := af) (by rw [tbs_len]; exact hof))
  have hrow := wraw (w1.heap.size + 1 + 1) v2 (.slice (some ⟨w10.heap.size, 0, none⟩) 1 1) (tbs s) [1] (w10.alloc (.cells #[.int .u8 1] 5)) ((hrw9.out.kept hk10 (by simp) (by simp)).kept ((Kept.refl [] w10).alloc _) (by simp) (by simp))
    (Or.inr ⟨_, 1, rfl, cell_one_new _ _ _⟩) (by rw [tbs_len]; omega) (by simp)
  have Hrow := hid hrow
  clear hk10 hof hrow Hs2 Hd4
  go_wp2_with fail
  refine Hrow.out.mono ?_
  rintro e w11 ⟨rfl, v5, hk11, hrr5, hf5⟩
  have Hk11 := hid hk11
  have bf11 := hid ((bf.out.kept ((Kept.refl [] w10).alloc (.cells #[.int .u8 1] 5)) (fun _ _ => by simp)).kept hk11 (fun x hx => by
    have h1 := (hbf.out x hx).1
    have h2 := lt_of_block hrw9.out.1
    simp
    refine ⟨by omega, fun h => ?_⟩
    have := hrw9.out.own_lt h
    omega))
  have hd5 := wdone (w1.heap.size + 1 + 1) v5 (tbs s ++ [1]) w11 hrr5 (by rw [List.length_append, tbs_len]; simp; omega)
  have hl5 : (tbs s ++ [1]).length = 4 + s.size + 1 := by rw [List.length_append, tbs_len]; rfl
  rw [hl5] at hd5
  have Hd5 := hid hd5
  clear hk11 hrr5 hf5 hd5 Hrow
  go_wp2_with fail
  refine Hd5.out.mono ?_
  rintro e w12 ⟨al, cl, rfl, hk12, hol⟩
  have cap5 := row_cap hol
  have hm5 := cap5.2
  unfold maxLen at hm5
  have hne5 : tbs s ++ [1] ≠ [] := by simp
  have bl := bys_of_row (xs := tbs s ++ [1]) (c := cl) (a := al) (by rw [hl5]; exact hol)
  obtain ⟨xl, rfl, _⟩ := bl.some hne5
  have bl2 := bl.front (n := 4 + s.size) (by rw [hl5]; omega) hne5
  rw [tbs_take] at bl2
  have bf12 := bf11.out.kept hk12 (fun _ _ => by simp)
  have hs3 := same_true (some xl) af cl cf (tbs s) w12 bl2 bf12
  rw [tbs_len] at hs3
  have Hs3 := hid hs3
  have hnf : tbs s ≠ [] := fun h => by have := congrArg List.length h; rw [tbs_len] at this; simp at this
  obtain ⟨xf, rfl, hcf⟩ := bf12.some hnf
  have gf0 := hcf 0 _ (tbs_first s)
  rw [B_ofNat, add_0] at gf0
  have c5 := cap5.1
  have hs60 : (s.size : Int) ≤ 60 := by omega
  have hmod : (s.size : Int) % 256 = (s.size : Int) := by omega
  rw [hmod] at gf0
  have hkf := hid (show Kept [] w w12 from by
    have k1 := Hk.out.trans hkW.out
    have k5 := k1.trans' hk5'.out (fun x hx hm => by have := Hk.out.size; simp at hm; omega)
    have k10 := (((((k5.trans Hk6.out).trans Hk7.out).trans Hk8.out).trans Hk9.out).trans Hk10.out).alloc (.cells #[.int .u8 1] 5)
    have k11 := k10.trans' (T := (w1.heap.size + 1 + 1) :: v2.ownBlock.toList) (S := []) Hk11.out (fun x hx hm => by
      simp at hm
      have h1 := Hk.out.size
      rcases hm with hm | hm
      · omega
      · have h2 := hf2'.out x hm
        have h3 := hlw.out
        have h4 := s12.out
        have h5 := s23.out
        omega)
    exact k11.trans hk12)
  clear hk12 hol cap5 bl bl2 bf12 hs3 hcf hnf hne5 Hd5 hmod
  go_wp2_with fail
  refine Hs3.out.mono ?_
  rintro e w13 ⟨rfl, rfl⟩
  go_wp2
  go_ret
  exact ⟨by simp, hkf.out⟩

set_option maxHeartbeats 2000000 in
theorem nums_gt (N lo hi : Nat) (hN : N < 18446744073709551616) (hlt : lo < hi) (hlo1 : 1 ≤ lo) (hhi8 : hi ≤ 8) (a b : Int) (hA : 1 + a % 8 = (hi : Int)) (hC : 1 + b % 8 = (lo : Int)) (s : ByteArray) (hl : s.size ≤ 60) (w : World) :
    Calls Try.prog 4 #[.int .u64 N, .int .i64 a, .int .i64 b, .string s] w fun e w' => e = .returned (.bool true) ∧ Kept [] w w' := by
  have hle : lo ≤ hi := Nat.le_of_lt hlt
  have hlt' : (lo : Int) < (hi : Int) := by omega
  have hlt'' : ¬ (hi : Int) < (lo : Int) := by omega
  have hszlo : sz (lo : Int) = lo := by unfold sz; rw [if_neg (by omega), if_neg (by omega)]; omega
  have hszhi := hid (show sz (hi : Int) = hi from by unfold sz; rw [if_neg (by omega), if_neg (by omega)]; omega)
  have hl' : ¬ (60 : Int) < (s.size : Int) := by omega
  have hcv : ∀ W : World, (convert 9 25 (.string s)).run Try.prog W = .ok (.slice (some ⟨W.heap.size, 0, none⟩) s.size (grownCap W s.size 0 5)) (bytesWorld W 5 s) := fun W => Go.Lib.run_convert_string_bytes W _ _ _ s Try.underlying9 Try.underlying25 Try.underlying5
  have hca := i64_and7 a
  have hcb := i64_and7 b
  have ha0 : 0 ≤ a % 8 := by omega
  have ha1 : a % 8 ≤ 7 := by omega
  have hb0 : 0 ≤ b % 8 := by omega
  have hb1 : b % 8 ≤ 7 := by omega
  have HLE := hid hle
  clear hle
  go_enter Try.func4, Try.ntmps4
  go_wp2_with fail
  refine (alive02 _).mono ?_
  rintro e w1 ⟨rfl, hk⟩
  have Hk := hid hk
  clear hk
  obtain ⟨W, hW⟩ : ∃ W, W = ((((w1.alloc (.cells #[.slice none 0 0] 41)).alloc (.cells #[.slice none 0 0] 41)).alloc (.cells #[.slice none 0 0] 41)).alloc (.cells #[.slice none 0 0] 41)) := ⟨_, rfl⟩
  have hkW := hid (show Kept [] w1 W from hW ▸ ((((Kept.refl [] w1).alloc _).alloc _).alloc _).alloc _)
  have h0 := hid (show Wr W w1.heap.size (.slice none 0 0) [] from ⟨hW ▸ heap_alloc_old (heap_alloc_old (heap_alloc_old (heap_alloc_at rfl))), World.ownsRow_nil _ _ _ 1⟩)
  have h1 := hid (show Wr W (w1.heap.size + 1) (.slice none 0 0) [] from ⟨hW ▸ heap_alloc_old (heap_alloc_old (heap_alloc_at (by simp))), World.ownsRow_nil _ _ _ 1⟩)
  have h2 := hid (show Wr W (w1.heap.size + 1 + 1) (.slice none 0 0) [] from ⟨hW ▸ heap_alloc_old (heap_alloc_at (by simp)), World.ownsRow_nil _ _ _ 1⟩)
  have h3 := hid (show Wr W (w1.heap.size + 1 + 1 + 1) (.slice none 0 0) [] from ⟨hW ▸ heap_alloc_at (by simp), World.ownsRow_nil _ _ _ 1⟩)
  have hlw := hid (lt_of_block h3.out.1)
  have hn0 := wnum w1.heap.size N lo hN _ [] W h0.out (by simp)
  rw [hszlo, List.nil_append] at hn0
  have Hn0 := hid hn0
  have HW := hid hW
  clear hszlo hn0 hW
  go_wp2_with fail
  rw [← HW.out]
  refine Hn0.out.mono ?_
  rintro e w2 ⟨rfl, v0, hk2, hr0, hf0⟩
  have hk2' := hid (show Kept [w1.heap.size] W w2 from hk2.wider (by simp [Value.ownBlock]))
  have s12 := hid (hk2.size)
  have hr1 := hid (h1.out.kept hk2 (by simp [Value.ownBlock]) (by simp [Value.ownBlock]))
  have hr2 := hid (h2.out.kept hk2 (by simp [Value.ownBlock]; omega) (by simp [Value.ownBlock]))
  have hr3 := hid (h3.out.kept hk2 (by simp [Value.ownBlock]; omega) (by simp [Value.ownBlock]))
  have hf0' := hid (fun g (hg : v0.ownBlock = some g) => show W.heap.size ≤ g from by
    rcases hf0 g hg with h | h
    · simp [Value.ownBlock] at h
    · exact h)
  have Hr0 := hid hr0
  have hn1 := wnum (w1.heap.size + 1) N hi hN _ [] w2 hr1.out (by simp)
  rw [hszhi.out, List.nil_append] at hn1
  have Hn1 := hid hn1
  clear hk2 hf0 hr0 hn1
  go_wp2_with fail
  refine Hn1.out.mono ?_
  rintro e w3 ⟨rfl, v1, hk3, hrr1, hf1⟩
  have hr0b := hid (Hr0.out.kept hk3 (by simp [Value.ownBlock]) (fun g hg => by have := hf0'.out g hg; have := hlw.out; simp [Value.ownBlock]; omega))
  have hr2b := hid (hr2.out.kept hk3 (by simp [Value.ownBlock]) (by simp [Value.ownBlock]))
  have hr3b := hid (hr3.out.kept hk3 (by simp [Value.ownBlock]; omega) (by simp [Value.ownBlock]))
  have hk3' := hid (show Kept [w1.heap.size, w1.heap.size + 1] W w3 from (hk2'.out.wider (fun x _ hx => by simp at hx; simp [hx])).trans' hk3 (fun x hx hm => by simp [Value.ownBlock] at hm; subst hm; simp))
  have hf1' := hid (fun g (hg : v1.ownBlock = some g) => show w2.heap.size ≤ g from by
    rcases hf1 g hg with h | h
    · simp [Value.ownBlock] at h
    · exact h)
  have Hrr1 := hid hrr1
  have ht := hid (wtext (w1.heap.size + 1 + 1) (.slice none 0 0) s [] w3 hr2b.out (by simp) (by omega))
  clear hk3 hf1 hrr1 hr1 hr2 hr3 Hr0
  go_wp2_with fail
  refine ht.out.mono ?_
  rintro e w4 ⟨rfl, v2, hk4, hrr2, hf2⟩
  have s23 := hid (hk3'.out.size)
  have s34 := hid (hk4.size)
  have q0 := hid (hr0b.out.kept hk4 (by simp [Value.ownBlock]; omega) (fun g hg => by have := hf0'.out g hg; have := hlw.out; simp [Value.ownBlock]; omega))
  have q1 := hid (Hrr1.out.kept hk4 (by simp [Value.ownBlock]) (fun g hg => by have := hf1'.out g hg; have := hlw.out; have := s12.out; simp [Value.ownBlock]; omega))
  have q3 := hid (hr3b.out.kept hk4 (by simp [Value.ownBlock]) (by simp [Value.ownBlock]))
  have q2 := hid hrr2
  have hk4' := hid (show Kept [w1.heap.size, w1.heap.size + 1, w1.heap.size + 1 + 1] W w4 from (hk3'.out.wider (fun x _ hx => by simp at hx; rcases hx with hx | hx <;> simp [hx])).trans' hk4 (fun x hx hm => by simp [Value.ownBlock] at hm; subst hm; simp))
  have hf2' := hid (fun g (hg : v2.ownBlock = some g) => show w3.heap.size ≤ g from by
    rcases hf2 g hg with h | h
    · simp [Value.ownBlock] at h
    · exact h)
  have hkb := hid (kept_bytesWorld w4 5 s)
  have hwb := wbytes (w1.heap.size + 1 + 1 + 1) (.slice none 0 0) (.slice (some ⟨w4.heap.size, 0, none⟩) s.size (grownCap w4 s.size 0 5)) [] s.data.toList (bytesWorld w4 5 s) (q3.out.kept hkb.out (by simp) (by simp)) (src_bytesWorld w4 5 s _)
    (fun x hx => by have := lt_of_block q3.out.1; simp [Value.ownBlock] at hx; simp [Value.ownBlock]; omega) (by simp) (by simp; omega)
  have hsl : s.data.toList.length = s.size := by simp
  rw [hsl] at hwb
  have Hwb := hid hwb
  clear hk4 hrr2 hf2 ht hr0b hr2b hr3b Hrr1 hwb hsl
  go_wp2_with fail
  refine Hwb.out.mono ?_
  rintro e w5 ⟨rfl, v3, hk5, hrr3, hf3⟩
  rw [List.nil_append] at hrr3
  have l4 := hid (lt_of_block q3.out.1)
  have z0 := hid ((q0.out.kept hkb.out (by simp) (by simp)).kept hk5 (by simp [Value.ownBlock]; omega) (fun g hg => by have := hf0'.out g hg; have := hlw.out; simp [Value.ownBlock]; omega))
  have z1 := hid ((q1.out.kept hkb.out (by simp) (by simp)).kept hk5 (by simp [Value.ownBlock]) (fun g hg => by have := hf1'.out g hg; have := hlw.out; have := s12.out; simp [Value.ownBlock]; omega))
  have z2 := hid ((q2.out.kept hkb.out (by simp) (by simp)).kept hk5 (by simp [Value.ownBlock]) (fun g hg => by have := hf2'.out g hg; have := hlw.out; have := s23.out; simp [Value.ownBlock]; omega))
  have z3 := hid hrr3
  rw [List.nil_append] at z2
  have hk5' := hid (show Kept [w1.heap.size, w1.heap.size + 1, w1.heap.size + 1 + 1, w1.heap.size + 1 + 1 + 1] W w5 from ((hk4'.out.trans' hkb.out (by simp)).wider (fun x _ hx => by simp at hx; rcases hx with hx | hx | hx <;> simp [hx])).trans' hk5 (fun x hx hm => by simp [Value.ownBlock] at hm; subst hm; simp))
  have hd0 := wdone w1.heap.size v0 _ w5 z0.out (by rw [numB_len]; omega)
  rw [numB_len] at hd0
  have Hd0 := hid hd0
  clear hk5 hrr3 hf3 q0 q1 q2 q3 hd0 hcv
  go_wp2_with fail
  refine Hd0.out.mono ?_
  rintro e w6 ⟨ax, cx, rfl, hk6, hox⟩
  have Hk6 := hid hk6
  have hd1 := wdone (w1.heap.size + 1) v1 _ w6 (z1.out.kept hk6 (by simp) (by simp)) (by rw [numB_len]; omega)
  rw [numB_len] at hd1
  have Hd1 := hid hd1
  have Hox := hid hox
  clear hk6 hox hd1
  go_wp2_with fail
  refine Hd1.out.mono ?_
  rintro e w7 ⟨ay, cy, rfl, hk7, hoy⟩
  have Hk7 := hid hk7
  have cap := row_cap hoy
  have hm63 := cap.2
  unfold maxLen at hm63
  have bx := (bys_of_row (xs := numB N lo) (c := cx) (a := ax) (by rw [numB_len]; exact Hox.out)).kept hk7 (fun _ _ => by simp)
  have by' := bys_of_row (xs := numB N hi) (c := cy) (a := ay) (by rw [numB_len]; exact hoy)
  have hneh : numB N hi ≠ [] := fun h => by have := congrArg List.length h; rw [numB_len] at this; simp at this; have := HLE.out; omega
  obtain ⟨y, rfl, _⟩ := by'.some hneh
  have by2 := by'.front (n := lo) (by rw [numB_len]; exact HLE.out) hneh
  rw [numB_take N HLE.out] at by2
  have hs1 := same_true (some y) ax cy cx (numB N lo) w7 by2 bx
  rw [numB_len] at hs1
  have Hs1 := hid hs1
  have hd2 := wdone (w1.heap.size + 1 + 1) v2 _ w7 ((z2.out.kept Hk6.out (by simp) (by simp)).kept hk7 (by simp) (by simp)) (by rw [List.length_append, numB_len]; simp; omega)
  have hlen2 : (numB s.size 4 ++ s.data.toList).length = 4 + s.size := tbs_len s
  rw [hlen2] at hd2
  have Hd2 := hid hd2
  have Hhl := hid HLE.out
  have c1 := cap.1
  have hlcy : lo ≤ cy := by have := HLE.out; omega
  clear hk7 hoy cap bx by' by2 hs1 hd2 hneh hlen2 Hd0 Hd1
  go_wp2_with fail
  refine Hs1.out.mono ?_
  rintro e w8 ⟨rfl, rfl⟩
  go_wp2_with fail
  refine Hd2.out.mono ?_
  rintro e w8 ⟨az, cz, rfl, hk8, hoz⟩
  have Hk8 := hid hk8
  have bz := (bys_of_row (xs := tbs s) (c := cz) (a := az) (by rw [tbs_len]; exact hoz))
  have Bz := hid bz
  have hd3 := wdone (w1.heap.size + 1 + 1 + 1) v3 (tbs s) w8 (((z3.out.kept Hk6.out (by simp) (by simp)).kept Hk7.out (by simp) (by simp)).kept hk8 (by simp) (by simp)) (by rw [tbs_len]; omega)
  rw [tbs_len] at hd3
  have Hd3 := hid hd3
  clear hk8 hoz bz hd3 Hs1 Hd2
  go_wp2_with fail
  refine Hd3.out.mono ?_
  rintro e w9 ⟨aw, cw, rfl, hk9, how⟩
  have Hk9 := hid hk9
  have bw := (bys_of_row (xs := tbs s) (c := cw) (a := aw) (by rw [tbs_len]; exact how))
  have hs2 := same_true az aw cz cw (tbs s) w9 (Bz.out.kept hk9 (fun _ _ => by simp)) bw
  rw [tbs_len] at hs2
  have Hs2 := hid hs2
  have hd4 := wdone (w1.heap.size + 1 + 1) v2 (tbs s) w9 ((((z2.out.kept Hk6.out (by simp) (by simp)).kept Hk7.out (by simp) (by simp)).kept Hk8.out (by simp) (by simp)).kept hk9 (by simp) (by simp)) (by rw [tbs_len]; omega)
  rw [tbs_len] at hd4
  have Hd4 := hid hd4
  have hrw9 := hid ((((z2.out.kept Hk6.out (by simp) (by simp)).kept Hk7.out (by simp) (by simp)).kept Hk8.out (by simp) (by simp)).kept hk9 (by simp) (by simp))
  clear hk9 how bw hs2 hd4 Hd3 Bz
  go_wp2_with fail
  refine Hs2.out.mono ?_
  rintro e w10 ⟨rfl, rfl⟩
  go_wp2_with fail
  refine Hd4.out.mono ?_
  rintro e w10 ⟨af, cf, rfl, hk10, hof⟩
  have Hk10 := hid hk10
  have hbf := hid (row_block hof)
  have bf := hid (bys_of_row (xs := tbs s) (c := cf) (a := af) (by rw [tbs_len]; exact hof))
  have hrow := wraw (w1.heap.size + 1 + 1) v2 (.slice (some ⟨w10.heap.size, 0, none⟩) 1 1) (tbs s) [1] (w10.alloc (.cells #[.int .u8 1] 5)) ((hrw9.out.kept hk10 (by simp) (by simp)).kept ((Kept.refl [] w10).alloc _) (by simp) (by simp))
    (Or.inr ⟨_, 1, rfl, cell_one_new _ _ _⟩) (by rw [tbs_len]; omega) (by simp)
  have Hrow := hid hrow
  clear hk10 hof hrow Hs2 Hd4
  go_wp2_with fail
  refine Hrow.out.mono ?_
  rintro e w11 ⟨rfl, v5, hk11, hrr5, hf5⟩
  have Hk11 := hid hk11
  have bf11 := hid ((bf.out.kept ((Kept.refl [] w10).alloc (.cells #[.int .u8 1] 5)) (fun _ _ => by simp)).kept hk11 (fun x hx => by
    have h1 := (hbf.out x hx).1
    have h2 := lt_of_block hrw9.out.1
    simp
    refine ⟨by omega, fun h => ?_⟩
    have := hrw9.out.own_lt h
    omega))
  have hd5 := wdone (w1.heap.size + 1 + 1) v5 (tbs s ++ [1]) w11 hrr5 (by rw [List.length_append, tbs_len]; simp; omega)
  have hl5 : (tbs s ++ [1]).length = 4 + s.size + 1 := by rw [List.length_append, tbs_len]; rfl
  rw [hl5] at hd5
  have Hd5 := hid hd5
  clear hk11 hrr5 hf5 hd5 Hrow
  go_wp2_with fail
  refine Hd5.out.mono ?_
  rintro e w12 ⟨al, cl, rfl, hk12, hol⟩
  have cap5 := row_cap hol
  have hm5 := cap5.2
  unfold maxLen at hm5
  have hne5 : tbs s ++ [1] ≠ [] := by simp
  have bl := bys_of_row (xs := tbs s ++ [1]) (c := cl) (a := al) (by rw [hl5]; exact hol)
  obtain ⟨xl, rfl, _⟩ := bl.some hne5
  have bl2 := bl.front (n := 4 + s.size) (by rw [hl5]; omega) hne5
  rw [tbs_take] at bl2
  have bf12 := bf11.out.kept hk12 (fun _ _ => by simp)
  have hs3 := same_true (some xl) af cl cf (tbs s) w12 bl2 bf12
  rw [tbs_len] at hs3
  have Hs3 := hid hs3
  have hnf : tbs s ≠ [] := fun h => by have := congrArg List.length h; rw [tbs_len] at this; simp at this
  obtain ⟨xf, rfl, hcf⟩ := bf12.some hnf
  have gf0 := hcf 0 _ (tbs_first s)
  rw [B_ofNat, add_0] at gf0
  have c5 := cap5.1
  have hs60 : (s.size : Int) ≤ 60 := by omega
  have hmod : (s.size : Int) % 256 = (s.size : Int) := by omega
  rw [hmod] at gf0
  have hkf := hid (show Kept [] w w12 from by
    have k1 := Hk.out.trans hkW.out
    have k5 := k1.trans' hk5'.out (fun x hx hm => by have := Hk.out.size; simp at hm; omega)
    have k10 := (((((k5.trans Hk6.out).trans Hk7.out).trans Hk8.out).trans Hk9.out).trans Hk10.out).alloc (.cells #[.int .u8 1] 5)
    have k11 := k10.trans' (T := (w1.heap.size + 1 + 1) :: v2.ownBlock.toList) (S := []) Hk11.out (fun x hx hm => by
      simp at hm
      have h1 := Hk.out.size
      rcases hm with hm | hm
      · omega
      · have h2 := hf2'.out x hm
        have h3 := hlw.out
        have h4 := s12.out
        have h5 := s23.out
        omega)
    exact k11.trans hk12)
  clear hk12 hol cap5 bl bl2 bf12 hs3 hcf hnf hne5 Hd5 hmod
  go_wp2_with fail
  refine Hs3.out.mono ?_
  rintro e w13 ⟨rfl, rfl⟩
  go_wp2
  go_ret
  exact ⟨by simp, hkf.out⟩

set_option maxHeartbeats 2000000 in
theorem nums_eq (N m : Nat) (hN : N < 18446744073709551616)  (hlo1 : 1 ≤ m) (hhi8 : m ≤ 8) (a b : Int) (hA : 1 + a % 8 = (m : Int)) (hC : 1 + b % 8 = (m : Int)) (s : ByteArray) (hl : s.size ≤ 60) (w : World) :
    Calls Try.prog 4 #[.int .u64 N, .int .i64 a, .int .i64 b, .string s] w fun e w' => e = .returned (.bool true) ∧ Kept [] w w' := by
  have hle : m ≤ m := Nat.le_refl _
  have hszlo : sz (m : Int) = m := by unfold sz; rw [if_neg (by omega), if_neg (by omega)]; omega
  have hszhi := hid (show sz (m : Int) = m from by unfold sz; rw [if_neg (by omega), if_neg (by omega)]; omega)
  have hl' : ¬ (60 : Int) < (s.size : Int) := by omega
  have hcv : ∀ W : World, (convert 9 25 (.string s)).run Try.prog W = .ok (.slice (some ⟨W.heap.size, 0, none⟩) s.size (grownCap W s.size 0 5)) (bytesWorld W 5 s) := fun W => Go.Lib.run_convert_string_bytes W _ _ _ s Try.underlying9 Try.underlying25 Try.underlying5
  have hca := i64_and7 a
  have hcb := i64_and7 b
  have ha0 : 0 ≤ a % 8 := by omega
  have ha1 : a % 8 ≤ 7 := by omega
  have hb0 : 0 ≤ b % 8 := by omega
  have hb1 : b % 8 ≤ 7 := by omega
  have HLE := hid hle
  clear hle
  go_enter Try.func4, Try.ntmps4
  go_wp2_with fail
  refine (alive02 _).mono ?_
  rintro e w1 ⟨rfl, hk⟩
  have Hk := hid hk
  clear hk
  obtain ⟨W, hW⟩ : ∃ W, W = ((((w1.alloc (.cells #[.slice none 0 0] 41)).alloc (.cells #[.slice none 0 0] 41)).alloc (.cells #[.slice none 0 0] 41)).alloc (.cells #[.slice none 0 0] 41)) := ⟨_, rfl⟩
  have hkW := hid (show Kept [] w1 W from hW ▸ ((((Kept.refl [] w1).alloc _).alloc _).alloc _).alloc _)
  have h0 := hid (show Wr W w1.heap.size (.slice none 0 0) [] from ⟨hW ▸ heap_alloc_old (heap_alloc_old (heap_alloc_old (heap_alloc_at rfl))), World.ownsRow_nil _ _ _ 1⟩)
  have h1 := hid (show Wr W (w1.heap.size + 1) (.slice none 0 0) [] from ⟨hW ▸ heap_alloc_old (heap_alloc_old (heap_alloc_at (by simp))), World.ownsRow_nil _ _ _ 1⟩)
  have h2 := hid (show Wr W (w1.heap.size + 1 + 1) (.slice none 0 0) [] from ⟨hW ▸ heap_alloc_old (heap_alloc_at (by simp)), World.ownsRow_nil _ _ _ 1⟩)
  have h3 := hid (show Wr W (w1.heap.size + 1 + 1 + 1) (.slice none 0 0) [] from ⟨hW ▸ heap_alloc_at (by simp), World.ownsRow_nil _ _ _ 1⟩)
  have hlw := hid (lt_of_block h3.out.1)
  have hn0 := wnum w1.heap.size N m hN _ [] W h0.out (by simp)
  rw [hszlo, List.nil_append] at hn0
  have Hn0 := hid hn0
  have HW := hid hW
  clear hszlo hn0 hW
  go_wp2_with fail
  rw [← HW.out]
  refine Hn0.out.mono ?_
  rintro e w2 ⟨rfl, v0, hk2, hr0, hf0⟩
  have hk2' := hid (show Kept [w1.heap.size] W w2 from hk2.wider (by simp [Value.ownBlock]))
  have s12 := hid (hk2.size)
  have hr1 := hid (h1.out.kept hk2 (by simp [Value.ownBlock]) (by simp [Value.ownBlock]))
  have hr2 := hid (h2.out.kept hk2 (by simp [Value.ownBlock]; omega) (by simp [Value.ownBlock]))
  have hr3 := hid (h3.out.kept hk2 (by simp [Value.ownBlock]; omega) (by simp [Value.ownBlock]))
  have hf0' := hid (fun g (hg : v0.ownBlock = some g) => show W.heap.size ≤ g from by
    rcases hf0 g hg with h | h
    · simp [Value.ownBlock] at h
    · exact h)
  have Hr0 := hid hr0
  have hn1 := wnum (w1.heap.size + 1) N m hN _ [] w2 hr1.out (by simp)
  rw [hszhi.out, List.nil_append] at hn1
  have Hn1 := hid hn1
  clear hk2 hf0 hr0 hn1
  go_wp2_with fail
  refine Hn1.out.mono ?_
  rintro e w3 ⟨rfl, v1, hk3, hrr1, hf1⟩
  have hr0b := hid (Hr0.out.kept hk3 (by simp [Value.ownBlock]) (fun g hg => by have := hf0'.out g hg; have := hlw.out; simp [Value.ownBlock]; omega))
  have hr2b := hid (hr2.out.kept hk3 (by simp [Value.ownBlock]) (by simp [Value.ownBlock]))
  have hr3b := hid (hr3.out.kept hk3 (by simp [Value.ownBlock]; omega) (by simp [Value.ownBlock]))
  have hk3' := hid (show Kept [w1.heap.size, w1.heap.size + 1] W w3 from (hk2'.out.wider (fun x _ hx => by simp at hx; simp [hx])).trans' hk3 (fun x hx hm => by simp [Value.ownBlock] at hm; subst hm; simp))
  have hf1' := hid (fun g (hg : v1.ownBlock = some g) => show w2.heap.size ≤ g from by
    rcases hf1 g hg with h | h
    · simp [Value.ownBlock] at h
    · exact h)
  have Hrr1 := hid hrr1
  have ht := hid (wtext (w1.heap.size + 1 + 1) (.slice none 0 0) s [] w3 hr2b.out (by simp) (by omega))
  clear hk3 hf1 hrr1 hr1 hr2 hr3 Hr0
  go_wp2_with fail
  refine ht.out.mono ?_
  rintro e w4 ⟨rfl, v2, hk4, hrr2, hf2⟩
  have s23 := hid (hk3'.out.size)
  have s34 := hid (hk4.size)
  have q0 := hid (hr0b.out.kept hk4 (by simp [Value.ownBlock]; omega) (fun g hg => by have := hf0'.out g hg; have := hlw.out; simp [Value.ownBlock]; omega))
  have q1 := hid (Hrr1.out.kept hk4 (by simp [Value.ownBlock]) (fun g hg => by have := hf1'.out g hg; have := hlw.out; have := s12.out; simp [Value.ownBlock]; omega))
  have q3 := hid (hr3b.out.kept hk4 (by simp [Value.ownBlock]) (by simp [Value.ownBlock]))
  have q2 := hid hrr2
  have hk4' := hid (show Kept [w1.heap.size, w1.heap.size + 1, w1.heap.size + 1 + 1] W w4 from (hk3'.out.wider (fun x _ hx => by simp at hx; rcases hx with hx | hx <;> simp [hx])).trans' hk4 (fun x hx hm => by simp [Value.ownBlock] at hm; subst hm; simp))
  have hf2' := hid (fun g (hg : v2.ownBlock = some g) => show w3.heap.size ≤ g from by
    rcases hf2 g hg with h | h
    · simp [Value.ownBlock] at h
    · exact h)
  have hkb := hid (kept_bytesWorld w4 5 s)
  have hwb := wbytes (w1.heap.size + 1 + 1 + 1) (.slice none 0 0) (.slice (some ⟨w4.heap.size, 0, none⟩) s.size (grownCap w4 s.size 0 5)) [] s.data.toList (bytesWorld w4 5 s) (q3.out.kept hkb.out (by simp) (by simp)) (src_bytesWorld w4 5 s _)
    (fun x hx => by have := lt_of_block q3.out.1; simp [Value.ownBlock] at hx; simp [Value.ownBlock]; omega) (by simp) (by simp; omega)
  have hsl : s.data.toList.length = s.size := by simp
  rw [hsl] at hwb
  have Hwb := hid hwb
  clear hk4 hrr2 hf2 ht hr0b hr2b hr3b Hrr1 hwb hsl
  go_wp2_with fail
  refine Hwb.out.mono ?_
  rintro e w5 ⟨rfl, v3, hk5, hrr3, hf3⟩
  rw [List.nil_append] at hrr3
  have l4 := hid (lt_of_block q3.out.1)
  have z0 := hid ((q0.out.kept hkb.out (by simp) (by simp)).kept hk5 (by simp [Value.ownBlock]; omega) (fun g hg => by have := hf0'.out g hg; have := hlw.out; simp [Value.ownBlock]; omega))
  have z1 := hid ((q1.out.kept hkb.out (by simp) (by simp)).kept hk5 (by simp [Value.ownBlock]) (fun g hg => by have := hf1'.out g hg; have := hlw.out; have := s12.out; simp [Value.ownBlock]; omega))
  have z2 := hid ((q2.out.kept hkb.out (by simp) (by simp)).kept hk5 (by simp [Value.ownBlock]) (fun g hg => by have := hf2'.out g hg; have := hlw.out; have := s23.out; simp [Value.ownBlock]; omega))
  have z3 := hid hrr3
  rw [List.nil_append] at z2
  have hk5' := hid (show Kept [w1.heap.size, w1.heap.size + 1, w1.heap.size + 1 + 1, w1.heap.size + 1 + 1 + 1] W w5 from ((hk4'.out.trans' hkb.out (by simp)).wider (fun x _ hx => by simp at hx; rcases hx with hx | hx | hx <;> simp [hx])).trans' hk5 (fun x hx hm => by simp [Value.ownBlock] at hm; subst hm; simp))
  have hd0 := wdone w1.heap.size v0 _ w5 z0.out (by rw [numB_len]; omega)
  rw [numB_len] at hd0
  have Hd0 := hid hd0
  clear hk5 hrr3 hf3 q0 q1 q2 q3 hd0 hcv
  go_wp2_with fail
  refine Hd0.out.mono ?_
  rintro e w6 ⟨ax, cx, rfl, hk6, hox⟩
  have Hk6 := hid hk6
  have hd1 := wdone (w1.heap.size + 1) v1 _ w6 (z1.out.kept hk6 (by simp) (by simp)) (by rw [numB_len]; omega)
  rw [numB_len] at hd1
  have Hd1 := hid hd1
  have Hox := hid hox
  clear hk6 hox hd1
  go_wp2_with fail
  refine Hd1.out.mono ?_
  rintro e w7 ⟨ay, cy, rfl, hk7, hoy⟩
  have Hk7 := hid hk7
  have cap := row_cap hoy
  have hm63 := cap.2
  unfold maxLen at hm63
  have bx := (bys_of_row (xs := numB N m) (c := cx) (a := ax) (by rw [numB_len]; exact Hox.out)).kept hk7 (fun _ _ => by simp)
  have by' := bys_of_row (xs := numB N m) (c := cy) (a := ay) (by rw [numB_len]; exact hoy)
  have hneh : numB N m ≠ [] := fun h => by have := congrArg List.length h; rw [numB_len] at this; simp at this; have := HLE.out; omega
  obtain ⟨y, rfl, _⟩ := by'.some hneh
  have by2 := by'.front (n := m) (by rw [numB_len]; exact HLE.out) hneh
  rw [numB_take N HLE.out] at by2
  have hs1 := same_true (some y) ax cy cx (numB N m) w7 by2 bx
  rw [numB_len] at hs1
  have Hs1 := hid hs1
  have hd2 := wdone (w1.heap.size + 1 + 1) v2 _ w7 ((z2.out.kept Hk6.out (by simp) (by simp)).kept hk7 (by simp) (by simp)) (by rw [List.length_append, numB_len]; simp; omega)
  have hlen2 : (numB s.size 4 ++ s.data.toList).length = 4 + s.size := tbs_len s
  rw [hlen2] at hd2
  have Hd2 := hid hd2
  have Hhl := hid HLE.out
  have c1 := cap.1
  have hlcy : m ≤ cy := by have := HLE.out; omega
  clear hk7 hoy cap bx by' by2 hs1 hd2 hneh hlen2 Hd0 Hd1
  go_wp2_with fail
  refine Hs1.out.mono ?_
  rintro e w8 ⟨rfl, rfl⟩
  go_wp2_with fail
  refine Hd2.out.mono ?_
  rintro e w8 ⟨az, cz, rfl, hk8, hoz⟩
  have Hk8 := hid hk8
  have bz := (bys_of_row (xs := tbs s) (c := cz) (a := az) (by rw [tbs_len]; exact hoz))
  have Bz := hid bz
  have hd3 := wdone (w1.heap.size + 1 + 1 + 1) v3 (tbs s) w8 (((z3.out.kept Hk6.out (by simp) (by simp)).kept Hk7.out (by simp) (by simp)).kept hk8 (by simp) (by simp)) (by rw [tbs_len]; omega)
  rw [tbs_len] at hd3
  have Hd3 := hid hd3
  clear hk8 hoz bz hd3 Hs1 Hd2
  go_wp2_with fail
  refine Hd3.out.mono ?_
  rintro e w9 ⟨aw, cw, rfl, hk9, how⟩
  have Hk9 := hid hk9
  have bw := (bys_of_row (xs := tbs s) (c := cw) (a := aw) (by rw [tbs_len]; exact how))
  have hs2 := same_true az aw cz cw (tbs s) w9 (Bz.out.kept hk9 (fun _ _ => by simp)) bw
  rw [tbs_len] at hs2
  have Hs2 := hid hs2
  have hd4 := wdone (w1.heap.size + 1 + 1) v2 (tbs s) w9 ((((z2.out.kept Hk6.out (by simp) (by simp)).kept Hk7.out (by simp) (by simp)).kept Hk8.out (by simp) (by simp)).kept hk9 (by simp) (by simp)) (by rw [tbs_len]; omega)
  rw [tbs_len] at hd4
  have Hd4 := hid hd4
  have hrw9 := hid ((((z2.out.kept Hk6.out (by simp) (by simp)).kept Hk7.out (by simp) (by simp)).kept Hk8.out (by simp) (by simp)).kept hk9 (by simp) (by simp))
  clear hk9 how bw hs2 hd4 Hd3 Bz
  go_wp2_with fail
  refine Hs2.out.mono ?_
  rintro e w10 ⟨rfl, rfl⟩
  go_wp2_with fail
  refine Hd4.out.mono ?_
  rintro e w10 ⟨af, cf, rfl, hk10, hof⟩
  have Hk10 := hid hk10
  have hbf := hid (row_block hof)
  have bf := hid (bys_of_row (xs := tbs s) (c := cf) (a := af) (by rw [tbs_len]; exact hof))
  have hrow := wraw (w1.heap.size + 1 + 1) v2 (.slice (some ⟨w10.heap.size, 0, none⟩) 1 1) (tbs s) [1] (w10.alloc (.cells #[.int .u8 1] 5)) ((hrw9.out.kept hk10 (by simp) (by simp)).kept ((Kept.refl [] w10).alloc _) (by simp) (by simp))
    (Or.inr ⟨_, 1, rfl, cell_one_new _ _ _⟩) (by rw [tbs_len]; omega) (by simp)
  have Hrow := hid hrow
  clear hk10 hof hrow Hs2 Hd4
  go_wp2_with fail
  refine Hrow.out.mono ?_
  rintro e w11 ⟨rfl, v5, hk11, hrr5, hf5⟩
  have Hk11 := hid hk11
  have bf11 := hid ((bf.out.kept ((Kept.refl [] w10).alloc (.cells #[.int .u8 1] 5)) (fun _ _ => by simp)).kept hk11 (fun x hx => by
    have h1 := (hbf.out x hx).1
    have h2 := lt_of_block hrw9.out.1
    simp
    refine ⟨by omega, fun h => ?_⟩
    have := hrw9.out.own_lt h
    omega))
  have hd5 := wdone (w1.heap.size + 1 + 1) v5 (tbs s ++ [1]) w11 hrr5 (by rw [List.length_append, tbs_len]; simp; omega)
  have hl5 : (tbs s ++ [1]).length = 4 + s.size + 1 := by rw [List.length_append, tbs_len]; rfl
  rw [hl5] at hd5
  have Hd5 := hid hd5
  clear hk11 hrr5 hf5 hd5 Hrow
  go_wp2_with fail
  refine Hd5.out.mono ?_
  rintro e w12 ⟨al, cl, rfl, hk12, hol⟩
  have cap5 := row_cap hol
  have hm5 := cap5.2
  unfold maxLen at hm5
  have hne5 : tbs s ++ [1] ≠ [] := by simp
  have bl := bys_of_row (xs := tbs s ++ [1]) (c := cl) (a := al) (by rw [hl5]; exact hol)
  obtain ⟨xl, rfl, _⟩ := bl.some hne5
  have bl2 := bl.front (n := 4 + s.size) (by rw [hl5]; omega) hne5
  rw [tbs_take] at bl2
  have bf12 := bf11.out.kept hk12 (fun _ _ => by simp)
  have hs3 := same_true (some xl) af cl cf (tbs s) w12 bl2 bf12
  rw [tbs_len] at hs3
  have Hs3 := hid hs3
  have hnf : tbs s ≠ [] := fun h => by have := congrArg List.length h; rw [tbs_len] at this; simp at this
  obtain ⟨xf, rfl, hcf⟩ := bf12.some hnf
  have gf0 := hcf 0 _ (tbs_first s)
  rw [B_ofNat, add_0] at gf0
  have c5 := cap5.1
  have hs60 : (s.size : Int) ≤ 60 := by omega
  have hmod : (s.size : Int) % 256 = (s.size : Int) := by omega
  rw [hmod] at gf0
  have hkf := hid (show Kept [] w w12 from by
    have k1 := Hk.out.trans hkW.out
    have k5 := k1.trans' hk5'.out (fun x hx hm => by have := Hk.out.size; simp at hm; omega)
    have k10 := (((((k5.trans Hk6.out).trans Hk7.out).trans Hk8.out).trans Hk9.out).trans Hk10.out).alloc (.cells #[.int .u8 1] 5)
    have k11 := k10.trans' (T := (w1.heap.size + 1 + 1) :: v2.ownBlock.toList) (S := []) Hk11.out (fun x hx hm => by
      simp at hm
      have h1 := Hk.out.size
      rcases hm with hm | hm
      · omega
      · have h2 := hf2'.out x hm
        have h3 := hlw.out
        have h4 := s12.out
        have h5 := s23.out
        omega)
    exact k11.trans hk12)
  clear hk12 hol cap5 bl bl2 bf12 hs3 hcf hnf hne5 Hd5 hmod
  go_wp2_with fail
  refine Hs3.out.mono ?_
  rintro e w13 ⟨rfl, rfl⟩
  go_wp2
  go_ret
  exact ⟨by simp, hkf.out⟩

theorem codenums (N : Nat) (hN : N < 18446744073709551616) (a b : Int) (s : ByteArray) (w : World) (hs : s.size ≤ 9223372036854775807) :
    Calls Try.prog 4 #[.int .u64 N, .int .i64 a, .int .i64 b, .string s] w fun e w' => e = .returned (.bool true) ∧ Kept [] w w' := by
  by_cases hl : 60 < s.size
  · go_enter Try.func4, Try.ntmps4
    go_wp2_with fail
    refine (alive02 _).mono ?_
    rintro e w1 ⟨rfl, hk⟩
    have Hk := hid hk
    clear hk
    go_wp2
    go_ret
    exact ⟨rfl, Hk.out⟩
  · obtain ⟨A, hA, hA1, hA8⟩ : ∃ A : Nat, (1 + a % 8) = (A : Int) ∧ 1 ≤ A ∧ A ≤ 8 := ⟨(1 + a % 8).toNat, by omega, by omega, by omega⟩
    obtain ⟨C, hC, hC1, hC8⟩ : ∃ C : Nat, (1 + b % 8) = (C : Int) ∧ 1 ≤ C ∧ C ≤ 8 := ⟨(1 + b % 8).toNat, by omega, by omega, by omega⟩
    rcases Nat.lt_trichotomy A C with h | h | h
    · exact nums_lt N A C hN h hA1 hC8 a b hA hC s (by omega) w
    · subst h
      exact nums_eq N A hN hA1 hA8 a b hA hC s (by omega) w
    · exact nums_gt N C A hN h hC1 hA8 a b hA hC s (by omega) w

theorem codenums_int (n : Int) (hn : (Lit.int .u64 n).wf = true) (a b : Int) (s : ByteArray) (w : World) (hs : s.size ≤ maxLen) :
    Calls Try.prog 4 #[.int .u64 n, .int .i64 a, .int .i64 b, .string s] w fun e w' => e = .returned (.bool true) ∧ Kept [] w w' := by
  have hb := bounds_u64 hn
  obtain ⟨N, rfl⟩ : ∃ N : Nat, n = (N : Int) := ⟨n.toNat, by omega⟩
  exact codenums N (by omega) a b s w (by unfold maxLen at hs; omega)

end Go.Proofs.Ytohmmkceffmipab
