import Derived.Test.YtmholofhmpplcaaVF
import Derived.Test.YtmholofhmpplcaaMX

/- step where the fuse blows. -/
namespace Go.Proofs.Ytmholofhmpplcaa
open Go.RowKit Go.Lib Go.Maps

theorem step_blow_get (D : Nat) (w : World) (p : Nat) (q : Int) (f : Nat) (T : List Nat) (es fs : List Ent) (U : List Nat) (fl : List Bool) (k : Nat) (row flv : Value) (h : PS D w p q f T es fs U fl k 0 row flv) (nm : List UInt8) (bv : Value) :
   Calls Try.prog 12 #[.pointer (some ⟨p, 0, none⟩), stR row q k 0 flv, .agg #[.int .i64 2, .string (S nm), bv]] w fun e w' => Thrown 63 (.agg #[.pointer (some ⟨f, 0, none⟩)]) e ∧ Kept [] w w' := by
  have H := hid h
  obtain ⟨W0, hW0⟩ : ∃ W0, W0 = ((w.alloc (.cells #[row, .int .i64 q, .int .i64 k, .int .i64 0, flv] 35)).alloc (.cells #[.int .i64 2, .string (S nm), bv] 38)).alloc (.cells #[.slice none 0 0, .int .i64 0, .int .i64 0, .int .i64 0, .slice none 0 0] 35) := ⟨_, rfl⟩
  have HW0 := hid hW0
  have k0 := hid (show Kept [] w W0 from hW0 ▸ (((Kept.refl [] w).alloc _).alloc _).alloc _)
  have P0 := hid (h.keep k0.out)
  have hd := hid (get_blow W0 U p _ [] q es f fl k nm P0.out.ob P0.out.fu)
  clear h hW0
  unfold stR
  go_enter Try.func12, Try.ntmps12
  go_wp2_with fail
  rw [← HW0.out]
  refine hd.out.mono ?_
  rintro e V ⟨⟨older, rfl, hcalm⟩, rfl⟩
  exact ⟨rfl, ⟨older, rfl, hcalm⟩, k0.out⟩

theorem step_blow_drop (D : Nat) (w : World) (p : Nat) (q : Int) (f : Nat) (T : List Nat) (es fs : List Ent) (U : List Nat) (fl : List Bool) (k : Nat) (row flv : Value) (h : PS D w p q f T es fs U fl k 0 row flv) (nm : List UInt8) (bv : Value) :
   Calls Try.prog 12 #[.pointer (some ⟨p, 0, none⟩), stR row q k 0 flv, .agg #[.int .i64 3, .string (S nm), bv]] w fun e w' => Thrown 63 (.agg #[.pointer (some ⟨f, 0, none⟩)]) e ∧ Kept [] w w' := by
  have H := hid h
  obtain ⟨W0, hW0⟩ : ∃ W0, W0 = ((w.alloc (.cells #[row, .int .i64 q, .int .i64 k, .int .i64 0, flv] 35)).alloc (.cells #[.int .i64 3, .string (S nm), bv] 38)).alloc (.cells #[.slice none 0 0, .int .i64 0, .int .i64 0, .int .i64 0, .slice none 0 0] 35) := ⟨_, rfl⟩
  have HW0 := hid hW0
  have k0 := hid (show Kept [] w W0 from hW0 ▸ (((Kept.refl [] w).alloc _).alloc _).alloc _)
  have P0 := hid (h.keep k0.out)
  have hd := hid (drop_blow W0 U p _ [] q es f fl k nm P0.out.ob P0.out.fu)
  clear h hW0
  unfold stR
  go_enter Try.func12, Try.ntmps12
  go_wp2_with fail
  rw [← HW0.out]
  refine hd.out.mono ?_
  rintro e V ⟨⟨older, rfl, hcalm⟩, rfl⟩
  exact ⟨rfl, ⟨older, rfl, hcalm⟩, k0.out⟩

theorem step_blow_list (D : Nat) (w : World) (p : Nat) (q : Int) (f : Nat) (T : List Nat) (es fs : List Ent) (U : List Nat) (fl : List Bool) (k : Nat) (row flv : Value) (h : PS D w p q f T es fs U fl k 0 row flv) (nm : List UInt8) (bv : Value) :
   Calls Try.prog 12 #[.pointer (some ⟨p, 0, none⟩), stR row q k 0 flv, .agg #[.int .i64 4, .string (S nm), bv]] w fun e w' => Thrown 63 (.agg #[.pointer (some ⟨f, 0, none⟩)]) e ∧ Kept [] w w' := by
  have H := hid h
  obtain ⟨W0, hW0⟩ : ∃ W0, W0 = ((w.alloc (.cells #[row, .int .i64 q, .int .i64 k, .int .i64 0, flv] 35)).alloc (.cells #[.int .i64 4, .string (S nm), bv] 38)).alloc (.cells #[.slice none 0 0, .int .i64 0, .int .i64 0, .int .i64 0, .slice none 0 0] 35) := ⟨_, rfl⟩
  have HW0 := hid hW0
  have k0 := hid (show Kept [] w W0 from hW0 ▸ (((Kept.refl [] w).alloc _).alloc _).alloc _)
  have P0 := hid (h.keep k0.out)
  have hd := hid (list_blow W0 U p _ [] q es f fl k nm P0.out.ob P0.out.fu)
  clear h hW0
  unfold stR
  go_enter Try.func12, Try.ntmps12
  go_wp2_with fail
  rw [← HW0.out]
  refine hd.out.mono ?_
  rintro e V ⟨⟨older, rfl, hcalm⟩, rfl⟩
  exact ⟨rfl, ⟨older, rfl, hcalm⟩, k0.out⟩

set_option maxRecDepth 100000 in
set_option maxHeartbeats 2000000 in
theorem step_blow_p0 (D : Nat) (w : World) (p : Nat) (q : Int) (f : Nat) (T : List Nat) (es fs : List Ent) (U : List Nat) (fl : List Bool) (k : Nat) (row flv : Value) (h : PS D w p q f T es fs U fl k 0 row flv) (hk : k ≤ 60) (nm : List UInt8) (hnm : nm.length ≤ 100) (ba : Option Addr) (bs : List UInt8) (nb bc : Nat) (hnb : nb = bs.length) (hbl : nb ≤ 200) (hbs : ∀ W, Kept [] w W → Src W (.slice ba nb bc) nb (bs.map B)) :
   Calls Try.prog 12 #[.pointer (some ⟨p, 0, none⟩), stR row q k 0 flv, .agg #[.int .i64 0, .string (S nm), .slice ba nb bc]] w fun e w' => Thrown 63 (.agg #[.pointer (some ⟨f, 0, none⟩)]) e ∧ Kept [] w w' := by
  have H := hid h
  obtain ⟨b1, hb1⟩ : ∃ b1, b1 = w.heap.size + 1 := ⟨_, rfl⟩
  obtain ⟨W0, hW0⟩ : ∃ W0, W0 = ((w.alloc (.cells #[row, .int .i64 q, .int .i64 k, .int .i64 0, flv] 35)).alloc (.cells #[.int .i64 0, .string (S nm), .slice ba nb bc] 38)).alloc (.cells #[.slice none 0 0, .int .i64 0, .int .i64 0, .int .i64 0, .slice none 0 0] 35) := ⟨_, rfl⟩
  have HW0 := hid hW0; have HB1 := hid hb1
  have k0 := hid (show Kept [] w W0 from hW0 ▸ (((Kept.refl [] w).alloc _).alloc _).alloc _)
  have hs0 := hid (show W0.heap.size = w.heap.size + 3 from by rw [hW0]; simp)
  have hx1 := hid (show W0.heap[b1]? = some (.cells #[.int .i64 0, .string (S nm), .slice ba nb bc] 38 (0, 0)) from by rw [hW0, hb1]; exact heap_alloc_old (heap_alloc_at (by simp)))
  have P0 := hid (h.keep k0.out)
  have HBS := hid hbs; have HNB := hid hnb; have hbdd := hid h.bd; have HK := hid hk
  obtain ⟨i0, hi0, hz0, hz1, hz2⟩ := info_split info_byte
  have hbu := build_0b
  have hnb2 : nb ≤ 200 := hbl
  clear h hW0 hbs hnb hb1 hk
  unfold stR
  go_enter Try.func12, Try.ntmps12
  go_wp2_with (at_builtin; refine halt ?_)
  refine Halt.mk ?_
  rw [← HW0.out, ← HB1.out, show b1 + 1 + 1 = W0.heap.size from by have := HB1.out; have := hs0.out; omega]
  have hsz := hs0.out
  have hka := hid (show Kept [] W0 (W0.alloc (.cells #[] 5)) from (Kept.refl [] W0).alloc _)
  have hown0 := hid (show (W0.alloc (.cells #[] 5)).ownsRow W0.heap.size 5 1 (.slice (some ⟨W0.heap.size, 0, none⟩) 0 0) 0 [] from ⟨rfl, Or.inr ⟨W0.heap.size, 0, #[], rfl, Nat.le_refl _, heap_alloc_at rfl, by simp, by unfold maxLen; omega, by simp, by simp⟩⟩)
  have hsr0 := hid (HBS.out _ (k0.out.trans hka.out))
  have hln0 := hid (show (bs.map B).length = nb by simp [HNB.out])
  have hone0 := hid (show ∀ u ∈ bs.map B, u.oneCell' = true by intro u hu; simp at hu; obtain ⟨b, _, rfl⟩ := hu; rfl)
  refine wpList_append_src _ rfl _ _ _ rfl W0.heap.size 5 i0 _ 1 Try.underlying36 hi0 hz0 hz1 hz2 rfl (.slice (some ⟨W0.heap.size, 0, none⟩) 0 0) 0 [] rfl hown0.out (.slice ba nb bc) nb (bs.map B) rfl hsr0.out hln0.out hone0.out ?_ ?_ ?_ ?_
  · unfold maxLen; omega
  · omega
  · simp
  intro v4 w4 hown4 hgr4 _ hf4
  simp only [Nat.zero_add, List.nil_append] at hown4
  obtain ⟨la, lc, rfl⟩ := owns_slice hown4
  have k4 := hid (show Kept [] W0 w4 from hka.out.trans' (Kept.of_row hgr4) (fun x hx hm => by simp [Value.ownBlock] at hm; omega))
  have P4 := hid (P0.out.keep k4.out)
  have hx14 := hid (k4.out.at hx1.out (by simp))
  have hput := hid (by
    have h1 := put_blow w4 U p _ [] q es f fl k nm (by omega) P4.out.ob P4.out.fu la lc bs (by have := hbdd.out.1; have := HK.out; have := HNB.out; omega)
    rw [← HNB.out] at h1
    exact h1)
  have cn1 : w4.cell? ⟨b1, 1, none⟩ = some (.string (S nm)) := by rw [cell_of_row _ _ 1 _ _ _ hx14.out]; rfl
  clear hown4 hgr4 hf4 hka hown0 hsr0
  go_wp2_with fail
  refine hput.out.mono ?_
  rintro e V ⟨⟨older, rfl, hcalm⟩, hR⟩
  exact ⟨rfl, ⟨older, rfl, hcalm⟩, (k0.out.trans k4.out).trans hR⟩

set_option maxRecDepth 100000 in
set_option maxHeartbeats 2000000 in
theorem step_blow_p1 (D : Nat) (w : World) (p : Nat) (q : Int) (f : Nat) (T : List Nat) (es fs : List Ent) (U : List Nat) (fl : List Bool) (k : Nat) (row flv : Value) (h : PS D w p q f T es fs U fl k 0 row flv) (hk : k ≤ 60) (nm : List UInt8) (hnm : nm.length ≤ 100) (ba : Option Addr) (bs : List UInt8) (nb bc : Nat) (hnb : nb = bs.length) (hbl : nb ≤ 200) (hbs : ∀ W, Kept [] w W → Src W (.slice ba nb bc) nb (bs.map B)) :
   Calls Try.prog 12 #[.pointer (some ⟨p, 0, none⟩), stR row q k 0 flv, .agg #[.int .i64 1, .string (S nm), .slice ba nb bc]] w fun e w' => Thrown 63 (.agg #[.pointer (some ⟨f, 0, none⟩)]) e ∧ Kept [] w w' := by
  have H := hid h
  obtain ⟨b1, hb1⟩ : ∃ b1, b1 = w.heap.size + 1 := ⟨_, rfl⟩
  obtain ⟨W0, hW0⟩ : ∃ W0, W0 = ((w.alloc (.cells #[row, .int .i64 q, .int .i64 k, .int .i64 0, flv] 35)).alloc (.cells #[.int .i64 1, .string (S nm), .slice ba nb bc] 38)).alloc (.cells #[.slice none 0 0, .int .i64 0, .int .i64 0, .int .i64 0, .slice none 0 0] 35) := ⟨_, rfl⟩
  have HW0 := hid hW0; have HB1 := hid hb1
  have k0 := hid (show Kept [] w W0 from hW0 ▸ (((Kept.refl [] w).alloc _).alloc _).alloc _)
  have hs0 := hid (show W0.heap.size = w.heap.size + 3 from by rw [hW0]; simp)
  have hx1 := hid (show W0.heap[b1]? = some (.cells #[.int .i64 1, .string (S nm), .slice ba nb bc] 38 (0, 0)) from by rw [hW0, hb1]; exact heap_alloc_old (heap_alloc_at (by simp)))
  have P0 := hid (h.keep k0.out)
  have HBS := hid hbs; have HNB := hid hnb; have hbdd := hid h.bd; have HK := hid hk
  obtain ⟨i0, hi0, hz0, hz1, hz2⟩ := info_split info_byte
  have hbu := build_0b
  have hnb2 : nb ≤ 200 := hbl
  clear h hW0 hbs hnb hb1 hk
  unfold stR
  go_enter Try.func12, Try.ntmps12
  go_wp2_with (at_builtin; refine halt ?_)
  refine Halt.mk ?_
  rw [← HW0.out, ← HB1.out, show b1 + 1 + 1 = W0.heap.size from by have := HB1.out; have := hs0.out; omega]
  have hsz := hs0.out
  have hka := hid (show Kept [] W0 (W0.alloc (.cells #[] 5)) from (Kept.refl [] W0).alloc _)
  have hown0 := hid (show (W0.alloc (.cells #[] 5)).ownsRow W0.heap.size 5 1 (.slice (some ⟨W0.heap.size, 0, none⟩) 0 0) 0 [] from ⟨rfl, Or.inr ⟨W0.heap.size, 0, #[], rfl, Nat.le_refl _, heap_alloc_at rfl, by simp, by unfold maxLen; omega, by simp, by simp⟩⟩)
  have hsr0 := hid (HBS.out _ (k0.out.trans hka.out))
  have hln0 := hid (show (bs.map B).length = nb by simp [HNB.out])
  have hone0 := hid (show ∀ u ∈ bs.map B, u.oneCell' = true by intro u hu; simp at hu; obtain ⟨b, _, rfl⟩ := hu; rfl)
  refine wpList_append_src _ rfl _ _ _ rfl W0.heap.size 5 i0 _ 1 Try.underlying36 hi0 hz0 hz1 hz2 rfl (.slice (some ⟨W0.heap.size, 0, none⟩) 0 0) 0 [] rfl hown0.out (.slice ba nb bc) nb (bs.map B) rfl hsr0.out hln0.out hone0.out ?_ ?_ ?_ ?_
  · unfold maxLen; omega
  · omega
  · simp
  intro v4 w4 hown4 hgr4 _ hf4
  simp only [Nat.zero_add, List.nil_append] at hown4
  obtain ⟨la, lc, rfl⟩ := owns_slice hown4
  have k4 := hid (show Kept [] W0 w4 from hka.out.trans' (Kept.of_row hgr4) (fun x hx hm => by simp [Value.ownBlock] at hm; omega))
  have P4 := hid (P0.out.keep k4.out)
  have hx14 := hid (k4.out.at hx1.out (by simp))
  have hput := hid (by
    have h1 := put_blow w4 U p _ [] q es f fl k nm (by omega) P4.out.ob P4.out.fu la lc bs (by have := hbdd.out.1; have := HK.out; have := HNB.out; omega)
    rw [← HNB.out] at h1
    exact h1)
  have cn1 : w4.cell? ⟨b1, 1, none⟩ = some (.string (S nm)) := by rw [cell_of_row _ _ 1 _ _ _ hx14.out]; rfl
  clear hown4 hgr4 hf4 hka hown0 hsr0
  go_wp2_with fail
  refine hput.out.mono ?_
  rintro e V ⟨⟨older, rfl, hcalm⟩, hR⟩
  exact ⟨rfl, ⟨older, rfl, hcalm⟩, (k0.out.trans k4.out).trans hR⟩
end Go.Proofs.Ytmholofhmpplcaa
