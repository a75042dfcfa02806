/- coldstorelaw03.ShaBlocks, walked. -/
import Derived.Test.YtplnfadonbhcoaaDoorHC
namespace Go.Proofs.YtplnfadonbhcoaaDoor
open Go.RowKit

theorem i64_and255 (n : Int) : bits .and .i64 n 255 = n % 256 := by
  have h7 : (BitVec.ofInt 64 255).toNat = 2 ^ 8 - 1 := by decide
  have key : (BitVec.ofInt 64 n &&& BitVec.ofInt 64 255).toNat = (n % ((2 ^ 64 : Nat) : Int)).toNat % 2 ^ 8 := by
    rw [BitVec.toNat_and, BitVec.toNat_ofInt, h7, Nat.and_two_pow_sub_one_eq_mod]
  show IntKind.i64.wrap ((BitVec.ofInt 64 n &&& BitVec.ofInt 64 255).toNat : Nat) = n % 256
  rw [key, IntKind.wrap_i64]
  omega
theorem i64_and7' (n : Int) : bits .and .i64 n 7 = n % 8 := by
  have h7 : (BitVec.ofInt 64 7).toNat = 2 ^ 3 - 1 := by decide
  have key : (BitVec.ofInt 64 n &&& BitVec.ofInt 64 7).toNat = (n % ((2 ^ 64 : Nat) : Int)).toNat % 2 ^ 3 := by
    rw [BitVec.toNat_and, BitVec.toNat_ofInt, h7, Nat.and_two_pow_sub_one_eq_mod]
  show IntKind.i64.wrap ((BitVec.ofInt 64 n &&& BitVec.ofInt 64 7).toNat : Nat) = n % 8
  rw [key, IntKind.wrap_i64]
  omega

theorem elem_u8 : Tryd.prog.elem 22 = 5 := by simp [Program.elem, Tryd.underlying22]
theorem slice_to (ad : Addr) (m c n : Nat) (h : n ≤ m) (hmc : m ≤ c) (W : World) : (Instr.sliceAt 22 (.slice (some ad) m c) none (some (.int .i64 (n : Int))) none).run Tryd.prog W = .ok (.slice (some ad) n c) W := by
  rw [run_sliceAt_slice W 22 _ _ _ _ (by simp [Program.elem, Tryd.underlying22])]
  have hs : (sizeOf 5).run Tryd.prog W = .ok 1 W := by kernel_rfl
  rw [run_slice_h W 22 _ _ _ (by simp [Program.elem, Tryd.underlying22]) .i64 (n : Int) (by omega) (by omega), elem_u8, hs]
  simp [Result.andThen, sliced, Addr.add]
theorem slice_mid (ad : Addr) (m c i j : Nat) (h : i ≤ j) (hj : j ≤ m) (hmc : m ≤ c) (hi : i < c) (W : World) : (Instr.sliceAt 22 (.slice (some ad) m c) (some (.int .i64 (i : Int))) (some (.int .i64 (j : Int))) none).run Tryd.prog W = .ok (.slice (some (ad.add i)) (j - i) (c - i)) W := by
  rw [run_sliceAt_slice W 22 _ _ _ _ (by simp [Program.elem, Tryd.underlying22])]
  have hs : (sizeOf 5).run Tryd.prog W = .ok 1 W := by kernel_rfl
  rw [run_slice_lh W 22 _ _ _ (by simp [Program.elem, Tryd.underlying22]) .i64 .i64 (i : Int) (j : Int) (by omega) (by omega) (by omega), elem_u8, hs]
  simp [Result.andThen, sliced]
  omega

/-- The row at g holds bytes. -/
def Row (W : World) (g : Nat) (bs : List UInt8) : Prop := W.heap[g]? = some (.cells (bs.map B).toArray 5 (0, 0))
theorem Row.kept {S : List Nat} {w w' : World} {g : Nat} {bs : List UInt8} (h : Row w g bs) (hk : Kept S w w') (hS : g ∉ S) : Row w' g bs := hk.at h hS
theorem Row.cell {W : World} {g : Nat} {bs : List UInt8} (h : Row W g bs) (j : Nat) : W.cell? ⟨g, j, none⟩ = (bs.map B)[j]? := by
  rw [cell_of_row W _ _ _ _ _ h]; simp
theorem Row.reads {W : World} {g : Nat} {bs : List UInt8} (h : Row W g bs) (i k : Nat) : Reads W (some (Addr.add ⟨g, 0, none⟩ i)) ((bs.drop i).take k) :=
  ⟨fun h => by simp at h, fun ad had j u hj => by
    simp at had; subst had
    rw [add_add, plain_add, Nat.zero_add, h.cell, List.getElem?_map]
    rw [List.getElem?_map, List.getElem?_take] at hj
    split at hj
    · rw [List.getElem?_drop] at hj; exact hj
    · simp at hj⟩
theorem Row.set {W : World} {g : Nat} {bs : List UInt8} (h : Row W g bs) (j : Nat) (v : UInt8) : Row (W.setCell ⟨g, j, none⟩ (B v)) g (bs.set j v) := by
  unfold Row at h ⊢
  rw [Go.heap_setCell_same W _ _ _ _ _ h]
  simp

def BRel (w : World) (g N : Nat) (wr : World) : Prop := Kept [] w wr ∧ w.heap.size ≤ g ∧ ∃ bs : List UInt8, bs.length = N ∧ Row wr g bs
theorem BRel.step {w wr : World} {g N : Nat} (h : BRel w g N wr) (i : Nat) (v : UInt8) : BRel w g N (wr.setCell ⟨g, i, none⟩ (B v)) := by
  obtain ⟨h1, h2, bs, h3, h4⟩ := h
  exact ⟨h1.setCell (fun e => absurd e (by simp; omega)) _, h2, _, by simpa using h3, h4.set i v⟩


/-- Two hashes at p and q, a row at g: what they were written. -/
def Two (w : World) (g p q : Nat) (bs xs ys : List UInt8) (wr : World) : Prop :=
  Kept [] w wr ∧ Row wr g bs ∧ Hs wr p xs ∧ Hs wr q ys
theorem Two.next {w wr w' : World} {g p q : Nat} {bs xs ys : List UInt8} (h : Two w g p q bs xs ys wr) (hk : Kept [] wr w') : Two w g p q bs xs ys w' :=
  ⟨h.1.trans hk, h.2.1.kept hk (by simp), h.2.2.1.kept hk (by simp), h.2.2.2.kept hk (by simp)⟩
theorem Two.write1 {w wr : World} {g p q : Nat} {bs xs ys : List UInt8} (h : Two w g p q bs xs ys wr) (hw : w.heap.size ≤ p) (hg : g ≠ p) (hq : q ≠ p) (h1 : 1 < p) (ht : Tabs w) (a : Option Addr) (c : Nat) (zs : List UInt8) (hy : Reads wr a zs) (ha : ∀ x, a = some x → x.block ≠ p)
    (hc : zs.length ≤ c) (hc2 : c ≤ 9223372036854775807) (hlen : xs.length + zs.length ≤ 1000000000) :
    Calls Tryd.prog 16 #[.pointer (some ⟨p, 0, none⟩), .slice a zs.length c] wr fun e w' => e = .returned (.tuple #[]) ∧ Two w g p q bs (xs ++ zs) ys w' := by
  obtain ⟨hk, hr, hp, hq'⟩ := h
  refine (write_any p a c xs zs wr hp (ht.kept hk (by simp) (by simp)) h1 hy (fun _ => ha) hc hc2 hlen).mono fun e w' ⟨he, hk', hh⟩ => ⟨he, hk.trans' hk' (fun x hx hm => by simp at hm; omega), hr.kept hk' (by simpa using hg), hh.hs, hq'.kept hk' (by simpa using hq)⟩
theorem Two.write2 {w wr : World} {g p q : Nat} {bs xs ys : List UInt8} (h : Two w g p q bs xs ys wr) (hw : w.heap.size ≤ q) (hg : g ≠ q) (hq : p ≠ q) (h1 : 1 < q) (ht : Tabs w) (a : Option Addr) (c : Nat) (zs : List UInt8) (hy : Reads wr a zs) (ha : ∀ x, a = some x → x.block ≠ q)
    (hc : zs.length ≤ c) (hc2 : c ≤ 9223372036854775807) (hlen : ys.length + zs.length ≤ 1000000000) :
    Calls Tryd.prog 16 #[.pointer (some ⟨q, 0, none⟩), .slice a zs.length c] wr fun e w' => e = .returned (.tuple #[]) ∧ Two w g p q bs xs (ys ++ zs) w' := by
  obtain ⟨hk, hr, hp, hq'⟩ := h
  refine (write_any q a c ys zs wr hq' (ht.kept hk (by simp) (by simp)) h1 hy (fun _ => ha) hc hc2 hlen).mono fun e w' ⟨he, hk', hh⟩ => ⟨he, hk.trans' hk' (fun x hx hm => by simp at hm; omega), hr.kept hk' (by simpa using hg), hp.kept hk' (by simpa using hq), hh.hs⟩
theorem two_call {w v : World} {g p q : Nat} {bs xs ys : List UInt8} {f : FuncId} {args : Array Value} {val : Value} (h : Two w g p q bs xs ys v) (hc : Calls Tryd.prog f args v fun e w' => e = .returned val ∧ Kept [] v w') :
    Calls Tryd.prog f args v fun e w' => e = .returned val ∧ Two w g p q bs xs ys w' :=
  hc.mono fun _ _ h' => ⟨h'.1, h.next h'.2⟩

set_option maxHeartbeats 2000000 in
theorem sha_blocks (cb : UInt8) (n : Int) (w : World) (ht : Tabs w) : Calls Tryd.prog 6 #[B cb, .int .i64 n] w fun e w' => e = .returned (.bool true) ∧ Kept [] w w' := by
  have hal := hid (alive03 w ht)
  obtain ⟨N, hN⟩ : ∃ N : Nat, n % 256 = (N : Int) := ⟨(n % 256).toNat, by omega⟩
  have hN255 : N < 256 := by omega
  have hand : bits .and .i64 n 255 = (N : Int) := (i64_and255 n).trans hN
  have hmk := fun W => make_u8 N W (by omega)
  have Ht := hid ht
  obtain ⟨c, hc⟩ : ∃ c : Nat, c = cb.toNat := ⟨_, rfl⟩
  have hc256 : c < 256 := by have := cb.toNat_lt; omega
  rw [show B cb = .int .u8 (c : Int) by rw [hc]; rfl]
  clear ht hN hc
  go_enter Tryd.func6, Tryd.ntmps6
  go_wp2_with fail
  refine hal.out.mono ?_
  rintro e w1 ⟨rfl, hk1⟩
  have Hk1 := hid hk1
  clear hk1 hal
  go_wp2_with fail
  obtain ⟨g, hg⟩ : ∃ g, g = w1.heap.size := ⟨_, rfl⟩
  have Hg := hid hg
  have h0 : Hid (BRel w g N (w1.alloc (.cells (List.replicate N (B 0)).toArray 5))) := hid ⟨Hk1.out.alloc _, by rw [hg]; exact Hk1.out.size, List.replicate N 0, by simp, by rw [hg]; unfold Row; rw [List.map_replicate]; exact heap_alloc_at rfl⟩
  rw [← hg]
  clear hg hmk hand
  simp only [List.toArray_replicate] at h0
  go_loopw [18] (fun j wr => ∃ i : Nat, i ≤ N ∧ j = .int .i64 i ∧ Hid (BRel w g N wr)) (fun j _ => N - (intOf j).toNat)
  case atStart => exact ⟨0, by omega, rfl, h0⟩
  case round =>
    clear h0
    obtain ⟨i, hi, rfl, hr⟩ := hrel
    by_cases hlt : i < N
    · obtain ⟨_, _, bs, hbl, hrow⟩ := hr.out
      obtain ⟨v, gx⟩ : ∃ v, wr.cell? ⟨g, i, none⟩ = some v := ⟨B (bs[i]'(by omega)), by rw [hrow.cell, List.getElem?_map, List.getElem?_eq_getElem (by omega)]; rfl⟩
      have gf := frozen_of_row wr _ i _ _ hrow
      have hr2 := hid (hr.out.step i (UInt8.ofNat (c + i / 32)))
      rw [B_ofNat] at hr2
      clear hrow hr hbl
      go_wp2_with fail
      have e : ((c + i / 32 : Nat) : Int) = (c : Int) + (i : Int) / 32 := by omega
      rw [e] at hr2
      exact ⟨⟨i + 1, by omega, by go_num, hr2⟩, by simp [intOf]; omega⟩
    · obtain rfl : N = i := by omega
      obtain ⟨cs0, hcs0⟩ : ∃ cs0, cs0 = z0 := ⟨_, rfl⟩
      have hzv : ∀ W, (zeroValue 40).run Tryd.prog W = .ok (.agg cs0.toArray) W := by rw [hcs0]; exact zero_hash
      obtain ⟨hk0, hg0, bs, hbl, hrow⟩ := hr.out
      have Hcs0 := hid hcs0; have Hrow := hid hrow; have Hk0 := hid hk0
      have hgl : g < wr.heap.size := lt_of_block hrow
      clear hcs0 hr hlt hrow hk0
      go_wp2_with fail
      obtain ⟨W, hW⟩ : ∃ W, W = (wr.alloc (.cells cs0.toArray 40)).alloc (.cells cs0.toArray 40) := ⟨_, rfl⟩
      rw [← hW]
      obtain ⟨p, hp⟩ : ∃ p, p = wr.heap.size := ⟨_, rfl⟩
      rw [← hp]
      have H0 : Hid (Two w g p (p + 1) bs (bs.take 0) [] W) := hid (by
        rw [Hcs0.out] at hW
        refine ⟨by rw [hW]; exact (Hk0.out.alloc _).alloc _, by rw [hW]; exact heap_alloc_old (heap_alloc_old Hrow.out), hs_fresh (by rw [hW, hp]; exact heap_alloc_old (heap_alloc_at rfl)), hs_fresh (by rw [hW, hp]; exact heap_alloc_at (by simp))⟩)
      have h1g : 1 < g := by have := Ht.out.pos; omega
      have hb256 : bs.length < 256 := by omega
      have hgp : g < p := by omega
      clear hW hp hgl Hrow Hk0 Hcs0 hzv
      go_loopw [32] (fun j wr => ∃ i : Nat, i ≤ N ∧ j = .int .i64 i ∧ Hid (Two w g p (p + 1) bs (bs.take i) [] wr)) (fun j _ => N - (intOf j).toNat)
      case atStart => exact ⟨0, by omega, rfl, H0⟩
      case round =>
        clear H0
        obtain ⟨i, hi, rfl, hr⟩ := hrel
        by_cases hlt : i < N
        · obtain ⟨y1, hy1⟩ : ∃ y1, y1 = (bs.drop i).take 1 := ⟨_, rfl⟩
          have hyl : y1.length = 1 := by rw [hy1]; simp; omega
          have hwr := hr.out.write1 (by omega) (by omega) (by omega) (by omega) Ht.out (some (Addr.add ⟨g, 0, none⟩ i)) (N - i) y1 (by rw [hy1]; exact hr.out.2.1.reads i 1) (fun x hx => by simp at hx; subst hx; rw [add_block]; show g ≠ p; omega) (by omega) (by omega) (by rw [hyl]; simp; omega)
          rw [hyl, hy1, ← List.take_add, plain_add, Nat.zero_add] at hwr
          have Hwr := hid hwr
          have hsl := fun W => slice_mid ⟨g, 0, none⟩ N N i (i + 1) (by omega) (by omega) (by omega) (by omega) W
          rw [show i + 1 - i = 1 by omega, show ((i + 1 : Nat) : Int) = (i : Int) + 1 by omega, plain_add, Nat.zero_add] at hsl
          clear hyl hy1 hwr hr
          go_wp2_with fail
          refine Hwr.out.mono ?_
          rintro e w2 ⟨rfl, hr2⟩
          have Hr2 := hid hr2
          clear hr2 Hwr hsl
          by_cases h8 : (i : Int) % 8 = 0
          · have hand : bits .and .i64 (i : Int) 7 = 0 := (i64_and7' (i : Int)).trans h8
            go_wp2_with fail
            refine (sum_any p (bs.take (i + 1)) w2 Hr2.out.2.2.1 (Ht.out.kept Hr2.out.1 (by simp) (by simp)) (by omega) (by simp; omega)).mono ?_
            rintro e w3 ⟨rfl, hk3⟩
            have Hr3 := hid (Hr2.out.next hk3)
            clear hk3 Hr2 hand
            go_wp2_with fail
            exact ⟨⟨i + 1, by omega, by go_num, Hr3⟩, by simp [intOf]; omega⟩
          · have hand : (bits .and .i64 (i : Int) 7 == 0) = false := by rw [i64_and7']; simpa using h8
            go_wp2_with fail
            exact ⟨⟨i + 1, by omega, by go_num, Hr2⟩, by simp [intOf]; omega⟩
        · obtain rfl : N = i := by omega
          subst hbl
          have hr0 := hr.out
          rw [List.take_of_length_le (by omega)] at hr0
          have hl1 : (bs.take (bs.length / 2)).length = bs.length / 2 := by simp; omega
          have hwr := hr0.write2 (by omega) (by omega) (by omega) (by omega) Ht.out (some ⟨g, 0, none⟩) bs.length (bs.take (bs.length / 2)) (by simpa [Addr.add] using hr0.2.1.reads 0 (bs.length / 2)) (fun x hx => by simp at hx; subst hx; show g ≠ p + 1; omega) (by omega) (by omega) (by rw [hl1]; simp; omega)
          rw [hl1, List.nil_append] at hwr
          have Hwr := hid hwr
          clear hwr hl1 hr hr0
          go_wp2_with fail
          refine Hwr.out.mono ?_
          rintro e w2 ⟨rfl, hr2⟩
          have Hw2 := hid (hr2.write2 (by omega) (by omega) (by omega) (by omega) Ht.out none 0 [] ⟨fun _ => rfl, fun ad h => by simp at h⟩ (fun x hx => by simp at hx) (by simp) (by omega) (by simp; omega))
          clear hr2 Hwr
          go_wp2_with fail
          refine Hw2.out.mono ?_
          rintro e w3 ⟨rfl, hr3⟩
          rw [List.append_nil] at hr3
          obtain ⟨ad, hs1, hs2, hs3⟩ := slice_rest ⟨g, 0, none⟩ bs.length bs.length (bs.length / 2) (by omega) (by omega)
          have hl2 : (bs.drop (bs.length / 2)).length = bs.length - bs.length / 2 := by simp
          have hRd : Reads w3 (some ad) (bs.drop (bs.length / 2)) := by
            by_cases hz : bs.length = 0
            · rw [List.drop_eq_nil_of_le (by omega)]
              exact ⟨fun h => by simp at h, fun _ _ j u hj => by simp at hj⟩
            · rw [hs2 (by omega)]
              have := hr3.2.1.reads (bs.length / 2) (bs.length - bs.length / 2)
              rwa [List.take_of_length_le (by simp)] at this
          have hwr := hr3.write2 (by omega) (by omega) (by omega) (by omega) Ht.out (some ad) (bs.length - bs.length / 2) (bs.drop (bs.length / 2)) hRd (fun x hx => by simp at hx; subst hx; rw [hs3]; show g ≠ p + 1; omega) (by omega) (by omega) (by rw [hl2]; simp; omega)
          rw [hl2, List.take_append_drop] at hwr
          have Hw3 := hid hwr
          rw [show ((bs.length / 2 : Nat) : Int) = (bs.length : Int) / 2 by omega] at hs1
          clear hwr hl2 hRd hs2 hs3 hr3 Hw2
          go_wp2_with fail
          refine Hw3.out.mono ?_
          rintro e w4 ⟨rfl, hr4⟩
          obtain ⟨x, hx⟩ : ∃ x, x = Sha.sum bs := ⟨_, rfl⟩
          have hxl : x.length = 32 := by rw [hx]; exact Sha.sum_len _
          have Hx := hid hx
          have hS : Hid (Two w g p (p + 1) bs bs bs w4 ∧ True) := hid ⟨hr4, trivial⟩
          have c1 := hid (show ∀ v, (Two w g p (p + 1) bs bs bs v ∧ True) → Calls Tryd.prog 17 #[.pointer (some ⟨p, 0, none⟩)] v fun e w' => e = .returned (.agg (x.map B).toArray) ∧ (Two w g p (p + 1) bs bs bs w' ∧ True) from fun v h => (two_call h.1 (by rw [Hx.out]; exact sum_any p bs v h.1.2.2.1 (Ht.out.kept h.1.1 (by simp) (by simp)) (by omega) (by omega))).mono fun e w' h => ⟨h.1, h.2, trivial⟩)
          have c2 := hid (show ∀ v, (Two w g p (p + 1) bs bs bs v ∧ True) → Calls Tryd.prog 17 #[.pointer (some ⟨p + 1, 0, none⟩)] v fun e w' => e = .returned (.agg (x.map B).toArray) ∧ (Two w g p (p + 1) bs bs bs w' ∧ True) from fun v h => (two_call h.1 (by rw [Hx.out]; exact sum_any (p + 1) bs v h.1.2.2.2 (Ht.out.kept h.1.1 (by simp) (by simp)) (by omega) (by omega))).mono fun e w' h => ⟨h.1, h.2, trivial⟩)
          have cOf := hid (show ∀ v, (Two w g p (p + 1) bs bs bs v ∧ True) → Calls Tryd.prog 10 #[.slice (some ⟨g, 0, none⟩) bs.length bs.length] v fun e w' => e = .returned (.agg (x.map B).toArray) ∧ (Two w g p (p + 1) bs bs bs w' ∧ True) from fun v h => (two_call h.1 (by rw [Hx.out]; exact of_any (some ⟨g, 0, none⟩) bs.length bs v (Ht.out.kept h.1.1 (by simp) (by simp)) (by simpa [Addr.add] using h.1.2.1.reads 0 bs.length) (by omega) (by omega) (by omega))).mono fun e w' h => ⟨h.1, h.2, trivial⟩)
          have l1 := hid (show ∀ v, (Two w g p (p + 1) bs bs bs v ∧ True) → Calls Tryd.prog 18 #[.pointer (some ⟨p, 0, none⟩)] v fun e w' => e = .returned (.int .i64 (bs.length : Int)) ∧ (Two w g p (p + 1) bs bs bs w' ∧ True) from fun v h => (len_any p bs v h.1.2.2.1).mono fun e w' h' => ⟨h'.1, h'.2 ▸ h⟩)
          have l2 := hid (show ∀ v, (Two w g p (p + 1) bs bs bs v ∧ True) → Calls Tryd.prog 18 #[.pointer (some ⟨p + 1, 0, none⟩)] v fun e w' => e = .returned (.int .i64 (bs.length : Int)) ∧ (Two w g p (p + 1) bs bs bs w' ∧ True) from fun v h => (len_any (p + 1) bs v h.1.2.2.2).mono fun e w' h' => ⟨h'.1, h'.2 ▸ h⟩)
          have heq := fun W => id_equal x x hxl hxl W
          simp only [decide_true] at heq
          clear hr4 Hw3 hs1 hx
          go_wp2_with fail
          refine (c1.out _ hS.out).mono ?_
          clear hS
          rintro e w5 ⟨rfl, hS⟩
          have hS := hid hS
          go_wp2_with fail
          refine (cOf.out _ hS.out).mono ?_
          clear hS
          rintro e w6 ⟨rfl, hS⟩
          have hS := hid hS
          go_wp2_with fail
          refine (c2.out _ hS.out).mono ?_
          clear hS
          rintro e w7 ⟨rfl, hS⟩
          have hS := hid hS
          go_wp2_with fail
          refine (cOf.out _ hS.out).mono ?_
          clear hS
          rintro e w8 ⟨rfl, hS⟩
          have hS := hid hS
          go_wp2_with fail
          refine (c1.out _ hS.out).mono ?_
          clear hS
          rintro e w9 ⟨rfl, hS⟩
          have hS := hid hS
          go_wp2_with fail
          refine (c1.out _ hS.out).mono ?_
          clear hS
          rintro e w10 ⟨rfl, hS⟩
          have hS := hid hS
          go_wp2_with fail
          refine (l1.out _ hS.out).mono ?_
          clear hS
          rintro e w11 ⟨rfl, hS⟩
          have hS := hid hS
          go_wp2_with fail
          refine (l2.out _ hS.out).mono ?_
          clear hS
          rintro e w12 ⟨rfl, hS⟩
          have hS := hid hS
          go_wp2_with fail
          go_ret
          exact ⟨rfl, hS.out.1.1⟩
end Go.Proofs.YtplnfadonbhcoaaDoor
