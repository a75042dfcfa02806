import Derived.Test.YtdojpioclojalaaDoorH6
import Derived.Laws.MakeOwn

/- sha.end, sha.Hash.Sum, Len, sha.Of. -/
namespace Go.Proofs.YtdojpioclojalaaDoor
open Go.RowKit

theorem sha_info_u8 : (Tryd.prog.info? 5).map (fun i => (i.zero, i.size, i.bytes)) = some (some (.int .u8 0), 1, 1) := by kernel_rfl
theorem make_u8 (n : Nat) (W : World) (hn : n ≤ 1000000) : (Instr.makeSlice 23 (.int .i64 (n : Int)) (.int .i64 (n : Int))).run Tryd.prog W = .ok (.slice (some ⟨W.heap.size, 0, none⟩) n n) (W.alloc (.cells (List.replicate n (B 0)).toArray 5)) := by
  obtain ⟨i0, hi0, hz0, hz1, hz2⟩ := info_parts sha_info_u8
  have := run_makeSlice (P := Tryd.prog) W 23 5 i0 (.int .u8 0) Tryd.underlying23 hi0 hz0 .i64 .i64 (n : Int) (n : Int) (by omega) (by omega) (by rw [hz1]; omega) (by rw [hz2]; omega) (by omega)
  rw [this]
  have e : madeCells (Value.int .u8 0).cells ((n : Int).toNat * i0.size) = (List.replicate n (B 0)).toArray := by
    rw [hz1]
    apply Array.ext
    · simp [madeCells, Value.cells]
    · intro j h1 h2
      simp [madeCells, Value.cells, B, Nat.mod_one]
  rw [e]
  simp
theorem sha_B_ofNat (M : Nat) : B (UInt8.ofNat M) = .int .u8 ((M : Int) % 256) := by unfold B; simp

/-- The end's bytes, the last i of them written. -/
def pL (n i : Nat) : List UInt8 := 128 :: (List.replicate ((119 - n % 64) % 64) 0 ++ (List.range 8).map fun j => if 7 - j < i then UInt8.ofNat (8 * n / 256 ^ (7 - j)) else 0)
theorem pL_len (n i : Nat) : (pL n i).length = 9 + (119 - n % 64) % 64 := by simp [pL]; omega
theorem pL_end (n : Nat) : pL n 8 = Sha.pad n := by
  unfold pL Sha.pad
  congr 2
theorem pL_start (n : Nat) : pL n 0 = 128 :: List.replicate ((119 - n % 64) % 64 + 8) 0 := by
  unfold pL
  rw [← List.replicate_append_replicate]
  simp [List.range_succ]
theorem pL_set (n i : Nat) (hi : i < 8) : (pL n i).set (9 + (119 - n % 64) % 64 - 1 - i) (UInt8.ofNat (8 * n / 256 ^ i)) = pL n (i + 1) := by
  unfold pL
  generalize (119 - n % 64) % 64 = z
  rw [show 9 + z - 1 - i = (z + (7 - i)) + 1 by omega, List.set_cons_succ, List.set_append_right _ _ (by simp)]
  congr 2
  simp only [List.length_replicate, show z + (7 - i) - z = 7 - i by omega]
  apply List.ext_getElem?
  intro j
  rw [List.getElem?_set]
  by_cases hj : 7 - i = j
  · subst hj
    simp [show 7 - i < 8 by omega, show 7 - (7 - i) = i by omega]
  · by_cases h8 : j < 8
    · have e : (7 - j < i + 1) = (7 - j < i) := by simp; omega
      simp [hj, h8, e]
    · simp [hj, h8]

def EndRel (w : World) (n i : Nat) (wr : World) : Prop := Kept [] w wr ∧ wr.heap[w.heap.size]? = some (.cells ((pL n i).map B).toArray 5 (0, 0))
theorem EndRel.step {w wr : World} {n i : Nat} (h : EndRel w n i wr) (hi : i < 8) : EndRel w n (i + 1) (wr.setCell ⟨w.heap.size, 9 + (119 - n % 64) % 64 - 1 - i, none⟩ (B (UInt8.ofNat (8 * n / 256 ^ i)))) := by
  obtain ⟨h1, h2⟩ := h
  refine ⟨h1.setCell (fun e => absurd e (by simp)) _, ?_⟩
  rw [Go.heap_setCell_same wr _ _ _ _ _ h2, ← pL_set n i hi]
  simp

set_option maxHeartbeats 1000000 in
theorem end_any (n : Nat) (hn : n ≤ 1000000000) (w : World) :
    Calls Tryd.prog 99 #[.int .i64 (n : Int)] w fun e w' => e = .returned (.slice (some ⟨w.heap.size, 0, none⟩) (Sha.pad n).length (Sha.pad n).length) ∧ Kept [] w w' ∧ w'.heap[w.heap.size]? = some (.cells ((Sha.pad n).map B).toArray 5 (0, 0)) := by
  obtain ⟨z, hz⟩ : ∃ z, z = (119 - n % 64) % 64 := ⟨_, rfl⟩
  have hz63 : z < 64 := by omega
  have hmk := fun W => make_u8 (1 + z + 8) W (by omega)
  have e1 : (119 - (n : Int) % 64) % 64 = (z : Int) := by omega
  have hpl : (Sha.pad n).length = 1 + z + 8 := by rw [Sha.pad_len]; omega
  have Hz := hid hz; have Hpl := hid hpl
  have hcast : (1 : Int) + (z : Int) + 8 = ((1 + z + 8 : Nat) : Int) := by omega
  rw [← hcast] at hmk
  clear hz hpl hcast
  go_enter Tryd.func99, Tryd.ntmps99
  go_wp2_with fail
  have h0 : Hid (EndRel w n 0 (w.alloc (.cells ((Array.replicate (1 + z + 8) (B 0)).setIfInBounds 0 (.int .u8 128)) 5))) := hid (by
    refine ⟨(Kept.refl _ _).alloc _, ?_⟩
    have e : ((Array.replicate (1 + z + 8) (B 0)).setIfInBounds 0 (.int .u8 128)) = ((pL n 0).map B).toArray := by
      rw [pL_start, ← Hz.out, show 1 + z + 8 = (z + 8) + 1 by omega]
      apply Array.ext'
      simp [List.replicate_succ, B]
    rw [e]
    exact heap_alloc_at rfl)
  clear hmk e1
  go_loopw [20] (fun j wr => ∃ i : Nat, i ≤ 8 ∧ j = .int .i64 i ∧ Hid (EndRel w n i wr)) (fun j _ => 8 - (intOf j).toNat)
  case atStart => exact ⟨0, by omega, rfl, h0⟩
  case round =>
    clear h0
    obtain ⟨i, hi, rfl, hr⟩ := hrel
    by_cases hlt : i < 8
    · have hc := hr.out.2
      obtain ⟨m, hm⟩ : ∃ m, m = 9 + (119 - n % 64) % 64 - 1 - i := ⟨_, rfl⟩
      have hm2 : m = z + 8 - i := by rw [hm, ← Hz.out]; omega
      obtain ⟨v, gx⟩ : ∃ v, wr.cell? ⟨w.heap.size, m, none⟩ = some v := ⟨((pL n i).map B).toArray[m]'(by simp [pL_len]; omega), (cell_of_row wr _ _ _ _ _ hc).trans (Array.getElem?_eq_getElem _)⟩
      have gf := frozen_of_row wr _ m _ _ hc
      have hr2 := hid (hr.out.step hlt)
      rw [sha_B_ofNat, ← hm] at hr2
      have hdiv := hid (show (n : Int) * 8 / 2 ^ (8 * i) = ((8 * n / 256 ^ i : Nat) : Int) by
        rw [show (2 : Int) ^ (8 * i) = ((256 ^ i : Nat) : Int) by rw [show (256 : Nat) = 2 ^ 8 from rfl, ← Nat.pow_mul]; simp, show (n : Int) * 8 = ((8 * n : Nat) : Int) by omega]
        exact (Int.natCast_ediv _ _).symm)
      have Hm2 := hid hm2
      have k0 : (0 : Int) ≤ 1 + (z : Int) + 8 - 1 - (i : Int) := by omega
      have k1 : 1 + (z : Int) + 8 - 1 - (i : Int) < 1 + (z : Int) + 8 := by omega
      have k2 : (1 + (z : Int) + 8 - 1 - (i : Int)).toNat = m := by omega
      clear hm hm2 hc hr
      go_wp2_with fail
      rw [hdiv.out]
      go_roundw
      case rel => exact ⟨i + 1, by omega, by go_num, hr2⟩
      case measure => simp [intOf]; omega
    · obtain rfl : i = 8 := by omega
      go_wp2_with fail
      go_ret
      obtain ⟨h1, h2⟩ := hr.out
      rw [pL_end] at h2
      exact ⟨by rw [Hpl.out]; rfl, h1, h2⟩

/-- The sum's cells, the first i of them written. -/
def iL (l : List UInt8) (i : Nat) : List UInt8 := l.take i ++ List.replicate (32 - i) 0
theorem iL_len (l : List UInt8) (i : Nat) (hl : l.length = 32) (hi : i ≤ 32) : (iL l i).length = 32 := by simp [iL, hl]; omega
theorem iL_set (l : List UInt8) (i : Nat) (hl : l.length = 32) (hi : i < 32) (v : UInt8) (hv : l[i]? = some v) : (iL l i).set i v = iL l (i + 1) := by
  unfold iL
  have hi2 : i < l.length := by omega
  have hv2 : l[i] = v := by simpa [hi2] using hv
  obtain ⟨m, hm⟩ : ∃ m, 32 - i = m + 1 := ⟨32 - i - 1, by omega⟩
  rw [hm, show 32 - (i + 1) = m by omega, List.set_append_right _ _ (by simp; omega), List.take_succ_eq_append_getElem hi2, List.replicate_succ, hv2]
  have e : i - (List.take i l).length = 0 := by simp; omega
  rw [e, List.set_cons_zero, List.append_assoc]
  rfl
theorem iL_all (l : List UInt8) (hl : l.length = 32) : iL l 32 = l := by simp [iL]; exact List.take_of_length_le (by omega)

/-- A hash that was written nothing. -/
def z0 : List Value := hL ⟨0, 0, 0, 0, 0, 0, 0, 0⟩ (List.replicate 64 0) 0
theorem zero_hash (W : World) : (zeroValue 128).run Tryd.prog W = .ok (.agg z0.toArray) W := by kernel_rfl
theorem z0_len : z0.length = 73 := hL_len _ _ _ (by simp)
theorem splice_all {α : Type} (L cs : List α) (h : L.length = cs.length) : splice L 0 cs = cs := by
  unfold splice
  rw [List.take_zero, List.nil_append, List.drop_eq_nil_of_le (by omega), List.append_nil]
theorem hs_fresh {W : World} {p : Nat} (h : W.heap[p]? = some (.cells z0.toArray 128 (0, 0))) : Hs W p [] :=
  ⟨_, _, h, by simp, fun h => absurd rfl h, by simp⟩

def IdRel (w : World) (q r : Nat) (s : Sha.St) (l : List UInt8) (i : Nat) (wr : World) : Prop :=
  w.heap.size < q ∧ q < r ∧ Kept [] w wr ∧ wr.heap[w.heap.size]? = some (.cells ((List.replicate 32 (0 : UInt8)).map B).toArray 40 (0, 0)) ∧ (∀ j, j < 8 → wr.cell? ⟨q, j, none⟩ = some (U (s.list.getD j 0))) ∧ wr.heap[r]? = some (.cells ((iL l i).map B).toArray 40 (0, 0))
theorem IdRel.step {w wr : World} {q r : Nat} {s : Sha.St} {l : List UInt8} {i : Nat} (h : IdRel w q r s l i wr) (hl : l.length = 32) (hi : i < 32) (v : UInt8) (hv : l[i]? = some v) : IdRel w q r s l (i + 1) (wr.setCell ⟨r, i, none⟩ (B v)) := by
  obtain ⟨h0, h1, h2, h3, h4, h5⟩ := h
  refine ⟨h0, h1, h2.setCell (fun e => absurd e (by simp; omega)) _, heap_setCell_other h3 (by simp; omega), fun j hj => ?_, ?_⟩
  · have hc := h4 j hj
    unfold World.cell? at hc ⊢
    rw [Below.heap_setCell _ _ _ _ (by simp; omega)]
    exact hc
  · rw [Go.heap_setCell_same wr _ _ _ _ _ h5, ← iL_set l i hl hi v hv]
    simp

set_option maxRecDepth 100000 in
set_option maxHeartbeats 1000000 in
theorem sha_sum_any (p : Nat) (xs : List UInt8) (w : World) (h : Hs w p xs) (ht : Tabs w) (_ : 3 < p) (hlen : xs.length ≤ 500000000) :
    Calls Tryd.prog 86 #[.pointer (some ⟨p, 0, none⟩)] w fun e w' => e = .returned (.agg ((Sha.sum xs).map B).toArray) ∧ Kept [] w w' := by
  have hh := hid h
  obtain ⟨s, bl, hb, hbl, hst, htk⟩ := h
  have Hb := hid hb
  have hpl := lt_of_block hb
  have hsz73 : (Tryd.prog.info? 128).map (·.size) = some (hL s bl xs.length).length := by rw [hL_len _ _ _ hbl]; kernel_rfl
  have Hsz := hid hsz73
  have hone : ∀ v ∈ hL s bl xs.length, v.oneCell' = true := by
    intro v hv
    simp only [hL, List.mem_append] at hv
    rcases hv with hv | hv | hv
    · exact stL_one s v hv
    · exact B_one bl v hv
    · simp at hv; subst hv; rfl
  have Hone := hid hone
  have Ht := hid ht
  have Hst := hid hst
  have Htk := hid htk
  clear hb hsz73 hone ht hst htk
  have hcells : ∀ (j : Nat) v, (hL s bl xs.length)[j]? = some v → (w.alloc (.cells ((List.replicate 32 (0 : UInt8)).map B).toArray 40)).cell? ((⟨p, 0, none⟩ : Addr).add j) = some v := by
    intro j v hj
    rw [plain_add, Nat.zero_add, cell_of_row _ _ _ _ _ _ (heap_alloc_old Hb.out)]
    simpa using hj
  have Hcells := hid hcells
  clear hcells
  obtain ⟨cs0, hcs0⟩ : ∃ cs0, cs0 = z0 := ⟨_, rfl⟩
  have hcl : cs0.length = 73 := by rw [hcs0]; exact z0_len
  have hzv : ∀ W, (zeroValue 128).run Tryd.prog W = .ok (.agg cs0.toArray) W := by rw [hcs0]; exact zero_hash
  have hfit := hid (show 0 + (hL s bl xs.length).length ≤ cs0.length by rw [hL_len _ _ _ hbl, hcl]; decide)
  have hspl := hid (splice_all cs0 (hL s bl xs.length) (by rw [hL_len _ _ _ hbl, hcl]))
  clear hcs0 hcl
  obtain ⟨wa, hwa⟩ : ∃ wa, wa = w.alloc (.cells ((List.replicate 32 (0 : UInt8)).map B).toArray 40) := ⟨_, rfl⟩
  have Hwa := hid hwa
  have hsa := hid (show wa.heap.size = w.heap.size + 1 by rw [hwa]; simp)
  clear hwa
  go_enter Tryd.func86, Tryd.ntmps86
  go_wp2_with (refine wpList_load_cells rfl 128 (.tmp 7) rfl ⟨p, 0, none⟩ rfl (hL s bl xs.length) _ Tryd.underlying128 rfl Hsz.out Hcells.out ?_; refine halt ?_)
  change Halt (wpList _ _ _ _ _ (w.alloc (.cells ((List.replicate 32 (0 : UInt8)).map B).toArray 40)))
  rw [← Hwa.out]
  refine Halt.mk ?_
  go_wp2_with (refine wpList_store_at rfl 128 (.tmp 3) (.tmp 8) rfl wa.heap.size 0 (hL s bl xs.length) rfl rfl 128 cs0 (heap_alloc_at rfl) Hsz.out hfit.out Hone.out ?_; refine halt ?_)
  rw [hspl.out]
  obtain ⟨wb, hwb⟩ : ∃ wb : World, wb = (wa.alloc (.cells cs0.toArray 128)).setRow wa.heap.size (hL s bl xs.length).toArray := ⟨_, rfl⟩
  rw [← hwb]
  refine Halt.mk ?_
  have hka : Kept [] w wa := by rw [Hwa.out]; exact (Kept.refl _ _).alloc _
  have hkb : Kept [] w wb := by rw [hwb]; exact (hka.alloc _).setRow (fun h => absurd h (by have := hsa.out; omega)) _
  have hra : wa.heap[w.heap.size]? = some (.cells ((List.replicate 32 (0 : UInt8)).map B).toArray 40 (0, 0)) := by rw [Hwa.out]; exact heap_alloc_at rfl
  have hrb := hid (show wb.heap[w.heap.size]? = some (.cells ((List.replicate 32 (0 : UInt8)).map B).toArray 40 (0, 0)) by
    rw [hwb, setRow_other _ _ _ _ (by have := hsa.out; omega)]; exact heap_alloc_old hra)
  have hqb : wb.heap[wa.heap.size]? = some (.cells (hL s bl xs.length).toArray 128 (0, 0)) := by
    rw [hwb]; exact setRow_heap _ _ _ _ _ _ (heap_alloc_at rfl)
  have hHb := hid (show Hs wb wa.heap.size xs from ⟨s, bl, hqb, hbl, Hst.out, Htk.out⟩)
  have gn : wb.cell? ⟨p, 72, none⟩ = some (.int .i64 (xs.length : Int)) := (hkb.cell (p := ⟨p, 72, none⟩) hpl (by simp)).trans ((cell_of_row w _ _ _ _ _ Hb.out).trans (by simpa using hL_n s bl xs.length hbl))
  have hlb : wa.heap.size < wb.heap.size := lt_of_block hqb
  have Hkb := hid hkb
  obtain ⟨q, hq⟩ : ∃ q, q = wa.heap.size := ⟨_, rfl⟩
  rw [← hq] at hHb hlb hsa ⊢
  clear hwb hka hkb hra hqb hq Hwa Hcells Hsz Hone hfit hspl Hst Htk Hb hh
  have hend := hid (end_any xs.length (by omega) wb)
  go_wp2_with fail
  refine hend.out.mono ?_
  rintro e w1 ⟨rfl, hk1, hp1⟩
  have hlen2 : (Sha.pad xs.length).length ≤ 73 := by rw [Sha.pad_len]; omega
  have hq1 : 3 < q := by have := Ht.out.pos; have := hsa.out; omega
  have hwr := hid (write_any q (some ⟨wb.heap.size, 0, none⟩) (Sha.pad xs.length).length xs (Sha.pad xs.length) w1 (hHb.out.kept hk1 (by simp)) (Ht.out.kept (Hkb.out.trans hk1) (by simp) (by simp)) hq1
    ⟨fun h => by simp at h, fun ad had j u hj => by
      simp at had; subst had
      rw [plain_add, Nat.zero_add, cell_of_row w1 _ _ _ _ _ hp1]
      simpa using hj⟩ (fun _ x hx => by simp at hx; subst hx; show wb.heap.size ≠ q; omega) (Nat.le_refl _) (by omega) (by omega))
  have hr1 := hid (hk1.at hrb.out (by simp))
  have Hk1 := hid (Hkb.out.trans hk1)
  have hl1 : wb.heap.size ≤ w1.heap.size := hk1.size
  clear hk1 hp1 hend gn hrb Hkb hHb
  go_wp2_with fail
  refine hwr.out.mono ?_
  rintro e w2 ⟨rfl, hk2, hs2⟩
  obtain ⟨bl2, hb2, hbl2, -⟩ := hs2
  obtain ⟨S, hS⟩ : ∃ S, S = Sha.stOf (xs ++ Sha.pad xs.length) := ⟨_, rfl⟩
  rw [← hS] at hb2
  have hsum := hid (show Sha.sum xs = Sha.bytesOf S by rw [hS]; rfl)
  obtain ⟨l, hl⟩ : ∃ l, l = Sha.bytesOf S := ⟨_, rfl⟩
  have hll : l.length = 32 := by rw [hl]; simp [Sha.bytesOf]
  have hlget : ∀ i, i < 32 → l[i]? = some (UInt8.ofNat ((S.list.getD (i / 4) 0).toNat >>> (24 - i % 4 * 8))) := fun i hi => by rw [hl]; simp [Sha.bytesOf, hi]
  have Hl := hid hl
  have Hlget := hid hlget
  have hlt2 : q < w2.heap.size := lt_of_block hb2
  have hnew : w.heap.size + 1 ≤ w1.heap.size := by have := hsa.out; omega
  have H0 : Hid (IdRel w q w2.heap.size S l 0 (w2.alloc (.cells ((List.replicate 32 (0 : UInt8)).map B).toArray 40))) := hid (by
    have hkk : Kept [] w w2 := Hk1.out.trans' hk2 (fun x hx hm => by simp at hm; have := hsa.out; omega)
    have h3 := hk2.at hr1.out (by simp; have := hsa.out; omega)
    refine ⟨by have := hsa.out; omega, hlt2, hkk.alloc _, heap_alloc_old h3, fun j hj => ?_, by simpa [iL] using heap_alloc_at rfl⟩
    rw [cell_of_row _ _ _ _ _ _ (heap_alloc_old hb2)]
    have := hL_st S bl2 (xs ++ Sha.pad xs.length).length j (U (S.list.getD j 0)) (by
      rcases j with _ | _ | _ | _ | _ | _ | _ | _ | j <;> first | rfl | omega)
    simpa using this)
  clear hwr hk2 hb2 hS hl hlget hr1 Hk1 hl1 hnew hlen2 hzv
  go_wp2_with fail
  obtain ⟨r, hr⟩ : ∃ r, r = w2.heap.size := ⟨_, rfl⟩
  rw [← hr] at H0 ⊢
  clear hr hlt2
  go_loopw [15] (fun j wr => ∃ i : Nat, i ≤ 32 ∧ j = .int .i64 i ∧ Hid (IdRel w q r S l i wr)) (fun j _ => 32 - (intOf j).toNat)
  case atStart => exact ⟨0, by omega, rfl, H0⟩
  case round =>
    clear H0
    obtain ⟨i, hi, rfl, hr⟩ := hrel
    by_cases hlt : i < 32
    · obtain ⟨_, _, _, _, hst, hid5⟩ := hr.out
      have gs := hst (i / 4) (by omega)
      obtain ⟨x, hx⟩ : ∃ x, x = S.list.getD (i / 4) 0 := ⟨_, rfl⟩
      rw [← hx] at gs
      have hget := hid (show l[i]? = some (UInt8.ofNat (x.toNat >>> (24 - i % 4 * 8))) by rw [hx]; exact Hlget.out i hlt)
      have hr2 := hid (hr.out.step hll hlt _ hget.out)
      rw [sha_B_ofNat] at hr2
      obtain ⟨v, gx⟩ : ∃ v, wr.cell? ⟨r, i, none⟩ = some v := ⟨((iL l i).map B).toArray[i]'(by simp [iL_len l i hll hi]; omega), (cell_of_row wr _ _ _ _ _ hid5).trans (Array.getElem?_eq_getElem _)⟩
      have gf := frozen_of_row wr _ i _ _ hid5
      obtain ⟨sh, hsh⟩ : ∃ sh, sh = 24 - i % 4 * 8 := ⟨_, rfl⟩
      have hdiv := hid (show (x.toNat : Int) / 2 ^ sh = ((x.toNat >>> sh : Nat) : Int) by
        rw [Nat.shiftRight_eq_div_pow, show (2 : Int) ^ sh = ((2 ^ sh : Nat) : Int) by simp]
        exact (Int.natCast_ediv _ _).symm)
      have k0 : (0 : Int) ≤ (i : Int) / 4 := by omega
      have k1 : (i : Int) / 4 < 8 := by omega
      have k2 : ((i : Int) / 4).toNat = i / 4 := by omega
      have k3 : (0 : Int) ≤ 24 - (i : Int) % 4 * 8 := by omega
      have k4 : 24 - (i : Int) % 4 * 8 ≤ 32 := by omega
      have k5 : (24 - (i : Int) % 4 * 8).toNat = sh := by omega
      have hr3 := hr2.out
      rw [← hsh] at hr3
      have Hr3 := hid hr3
      clear hst hid5 hx hsh hr hr2 hr3 hget
      go_wp2_with fail
      rw [hdiv.out]
      go_roundw
      case rel => exact ⟨i + 1, by omega, by go_num, Hr3⟩
      case measure => simp [intOf]; omega
    · obtain rfl : i = 32 := by omega
      obtain ⟨hq3, hr3, hk, hres, -, hids⟩ := hr.out
      rw [iL_all l hll] at hids
      obtain ⟨cs, hcs⟩ : ∃ cs, cs = (l.map B).toArray := ⟨_, rfl⟩
      rw [← hcs] at hids
      have hsz : cs.size = 32 := by rw [hcs]; simp [hll]
      have Hsz := hid (show (Tryd.prog.info? 40).map (·.size) = some cs.size by rw [hsz]; kernel_rfl)
      have Hold := hid (show ((List.replicate 32 (0 : UInt8)).map B).toArray.size = cs.size by rw [hsz]; simp)
      have Hone := hid (show cs.all (·.oneCell') = true by
        rw [hcs, Array.all_eq_true_iff_forall_mem]
        intro u hu
        exact B_one l u (by simpa using hu))
      have Hcs := hid (show cs = ((Sha.sum xs).map B).toArray by rw [hcs, Hl.out, hsum.out])
      have Hids := hid hids; have Hres := hid hres; have Hk := hid hk
      clear hids hres hk hcs hsz hr
      go_wp2_with (first
        | (refine wpList_load_row rfl 40 (.tmp 4) rfl r rfl _ _ _ _ Hids.out Tryd.underlying40 rfl Hsz.out ?_)
        | (refine wpList_store_row rfl 40 (.tmp 2) (.tmp 32) rfl w.heap.size cs rfl rfl _ _ Hres.out Hsz.out Hold.out Hone.out ?_))
      refine bodyPost_ret (v := .agg cs) (results_cell_row Tryd.results86 _ _ w.heap.size _ _ _ _ rfl (setRow_heap _ _ _ _ _ _ Hres.out) Tryd.underlying40 rfl Hsz.out) rfl ⟨by rw [Hcs.out], Hk.out.setRow (fun h => absurd h (by omega)) _⟩

/-- sha.Of. -/
theorem of_any (a : Option Addr) (c : Nat) (ys : List UInt8) (w : World) (ht : Tabs w) (hy : Reads w a ys) (hc : ys.length ≤ c) (hc2 : c ≤ 9223372036854775807) (hlen : ys.length ≤ 500000000) :
    Calls Tryd.prog 68 #[.slice a ys.length c] w fun e w' => e = .returned (.agg ((Sha.sum ys).map B).toArray) ∧ Kept [] w w' := by
  have hpos := ht.pos
  have Ht := hid ht; have Hy := hid hy
  clear ht hy
  obtain ⟨cs0, hcs0⟩ : ∃ cs0, cs0 = z0 := ⟨_, rfl⟩
  have hzv : ∀ W, (zeroValue 128).run Tryd.prog W = .ok (.agg cs0.toArray) W := by rw [hcs0]; exact zero_hash
  obtain ⟨wb, hwb⟩ : ∃ wb, wb = (w.alloc (.cells ((List.replicate 32 (0 : UInt8)).map B).toArray 40)).alloc (.cells cs0.toArray 128) := ⟨_, rfl⟩
  have hkb := hid (show Kept [] w wb by rw [hwb]; exact ((Kept.refl _ _).alloc _).alloc _)
  have hHb := hid (show Hs wb (w.heap.size + 1) [] from hs_fresh (by rw [hwb, hcs0]; exact heap_alloc_at (by simp)))
  have hrb := hid (show wb.heap[w.heap.size]? = some (.cells ((List.replicate 32 (0 : UInt8)).map B).toArray 40 (0, 0)) by rw [hwb]; exact heap_alloc_old (heap_alloc_at rfl))
  have Hwb := hid hwb
  clear hwb hcs0
  go_enter Tryd.func68, Tryd.ntmps68
  go_wp2_with fail
  change Calls _ _ _ ((w.alloc (.cells ((List.replicate 32 (0 : UInt8)).map B).toArray 40)).alloc (.cells cs0.toArray 128)) _
  rw [← Hwb.out]
  have hny : ys ≠ [] → ∀ x, a = some x → x.block ≠ w.heap.size + 1 := fun hne x hx => by
    have := Hy.out.lt hne x hx; omega
  refine (write_any (w.heap.size + 1) a c [] ys wb hHb.out (Ht.out.kept hkb.out (by simp) (by simp)) (by omega) (Hy.out.kept hkb.out (fun _ _ _ => by simp)) hny hc hc2 (by simpa using (by omega : ys.length ≤ 1000000000))).mono ?_
  rintro e w2 ⟨rfl, hk2, hs2⟩
  rw [List.nil_append] at hs2
  have Hs2 := hid hs2.hs
  have hr2 := hid (hk2.at hrb.out (by simp))
  have Hk2 := hid (hkb.out.trans' hk2 (fun x hx hm => by simp at hm; omega))
  clear hk2 hs2 hzv hHb hrb hkb Hwb hny
  have hsum := hid (sha_sum_any (w.heap.size + 1) ys w2 Hs2.out (Ht.out.kept Hk2.out (by simp) (by simp)) (by omega) hlen)
  go_wp2_with fail
  refine hsum.out.mono ?_
  rintro e w3 ⟨rfl, hk3⟩
  obtain ⟨cs, hcs⟩ : ∃ cs, cs = ((Sha.sum ys).map B).toArray := ⟨_, rfl⟩
  rw [← hcs]
  have hsz : cs.size = 32 := by rw [hcs]; simp [Sha.sum_len]
  have Hsz := hid (show (Tryd.prog.info? 40).map (·.size) = some cs.size by rw [hsz]; kernel_rfl)
  have Hold := hid (show ((List.replicate 32 (0 : UInt8)).map B).toArray.size = cs.size by rw [hsz]; simp)
  have Hone := hid (show cs.all (·.oneCell') = true by
    rw [hcs, Array.all_eq_true_iff_forall_mem]
    intro u hu
    exact B_one _ u (by simpa using hu))
  have hr3 := hid (hk3.at hr2.out (by simp))
  have Hk3 := hid (Hk2.out.trans hk3)
  have Hcs := hid hcs
  clear hcs hsz hk3 hsum hr2 Hs2 Hk2
  go_wp2_with (refine wpList_store_row rfl 40 (.tmp 2) (.tmp 6) rfl w.heap.size cs rfl rfl _ _ hr3.out Hsz.out Hold.out Hone.out ?_)
  refine bodyPost_ret (v := .agg cs) (results_cell_row Tryd.results68 _ _ w.heap.size _ _ _ _ rfl (setRow_heap _ _ _ _ _ _ hr3.out) Tryd.underlying40 rfl Hsz.out) rfl ⟨by rw [Hcs.out], Hk3.out.setRow (fun h => absurd h (by omega)) _⟩
end Go.Proofs.YtdojpioclojalaaDoor
