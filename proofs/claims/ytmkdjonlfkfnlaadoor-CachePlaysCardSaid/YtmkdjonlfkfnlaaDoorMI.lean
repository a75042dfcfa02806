import Derived.Test.YtmkdjonlfkfnlaaDoorH3
import Derived.Test.YtmkdjonlfkfnlaaDoorH4
import Derived.Laws.MakeOwn
import Derived.Laws.Externs
import Derived.Lib.Bytealg
import Derived.Deep.RegionLaw
import Derived.WalkLawsBesides
import Derived.OpenShut

/- A hash in memory: its cells, what it holds; lists of bytes in parts. -/
namespace Go.Proofs.YtmkdjonlfkfnlaaDoor
open Go.RowKit

theorem sha_add_add (x : Addr) (i j : Nat) : (x.add i).add j = x.add (i + j) := by
  unfold Addr.add
  by_cases hi : i = 0
  · subst hi; simp
  · by_cases hj : j = 0
    · subst hj; simp [hi]
    · simp [hi, hj, Nat.add_assoc]

/-- A slice of bytes reads as a list. -/
def Reads (w : World) (a : Option Addr) (ys : List UInt8) : Prop :=
  (a = none → ys = []) ∧ ∀ ad, a = some ad → ∀ (j : Nat) (u : Value), (ys.map B)[j]? = some u → w.cell? (ad.add j) = some u
theorem Reads.kept {S : List Nat} {w w' : World} {a : Option Addr} {ys : List UInt8} (h : Reads w a ys) (hk : Kept S w w') (hS : ys ≠ [] → ∀ x, a = some x → x.block ∉ S) : Reads w' a ys :=
  ⟨h.1, fun ad ha j u hu => by
    have hc := h.2 ad ha j u hu
    have hl := World.block_lt_of_cell? w _ hc
    have hne : ys ≠ [] := fun e => by rw [e] at hu; simp at hu
    exact (hk.cell hl (by rw [add_block]; exact hS hne ad ha)).trans hc⟩
theorem Reads.lt {w : World} {a : Option Addr} {ys : List UInt8} (h : Reads w a ys) (hne : ys ≠ []) : ∀ x, a = some x → x.block < w.heap.size := by
  intro x hx
  cases ys with
  | nil => exact absurd rfl hne
  | cons y ys =>
    have hc := h.2 x hx 0 (B y) rfl
    have := World.block_lt_of_cell? w _ hc
    rwa [add_block] at this
theorem B_one (l : List UInt8) : ∀ u ∈ l.map B, u.oneCell' = true := by
  intro u hu
  simp at hu
  obtain ⟨b, _, rfl⟩ := hu
  simp [B, Value.oneCell']

def stL (s : Sha.St) : List Value := [U s.a, U s.b, U s.c, U s.d, U s.e, U s.f, U s.g, U s.h]
theorem stL_one (s : Sha.St) : ∀ u ∈ stL s, u.oneCell' = true := by
  intro u hu
  simp [stL] at hu
  rcases hu with rfl | rfl | rfl | rfl | rfl | rfl | rfl | rfl <;> rfl
/-- A hash's cells. -/
def hL (s : Sha.St) (bl : List UInt8) (n : Nat) : List Value := stL s ++ (bl.map B ++ [.int .i64 (n : Int)])
theorem hL_len (s : Sha.St) (bl : List UInt8) (n : Nat) (h : bl.length = 64) : (hL s bl n).length = 73 := by simp [hL, stL, h]
theorem hL_st (s : Sha.St) (bl : List UInt8) (n j : Nat) (v : Value) (h : (stL s)[j]? = some v) : (hL s bl n)[j]? = some v := by
  have hj := (List.getElem?_eq_some_iff.1 h).1
  unfold hL
  rw [List.getElem?_append_left hj]; exact h
theorem hL_bl (s : Sha.St) (bl : List UInt8) (n j : Nat) (v : Value) (h : (bl.map B)[j]? = some v) : (hL s bl n)[8 + j]? = some v := by
  have hj := (List.getElem?_eq_some_iff.1 h).1
  unfold hL
  rw [List.getElem?_append_right (by simp [stL]), show 8 + j - (stL s).length = j by simp [stL], List.getElem?_append_left hj]; exact h
theorem hL_n (s : Sha.St) (bl : List UInt8) (n : Nat) (h : bl.length = 64) : (hL s bl n)[72]? = some (.int .i64 (n : Int)) := by
  unfold hL
  rw [List.getElem?_append_right (by simp [stL]), List.getElem?_append_right (by simp [stL, h])]
  simp [stL, h]

theorem splice_map {α β : Type} (f : α → β) (L : List α) (k : Nat) (cs : List α) : splice (L.map f) k (cs.map f) = (splice L k cs).map f := by simp [splice]
theorem hL_copy (s : Sha.St) (bl cs : List UInt8) (n r : Nat) (h : r + cs.length ≤ bl.length) : splice (hL s bl n) (8 + r) (cs.map B) = hL s (splice bl r cs) n := by
  unfold hL
  rw [← splice_map]
  unfold splice
  have h8 : (stL s).length = 8 := rfl
  rw [List.take_append, h8, List.drop_append, h8, List.take_append, List.drop_append]
  simp [List.length_map]
  have e1 : 8 + r + cs.length - 8 = r + cs.length := by omega
  have e2 : r + cs.length - bl.length = 0 := by omega
  have e3 : r - bl.length = 0 := by omega
  have e4 : List.drop (8 + r + cs.length) (stL s) = [] := List.drop_eq_nil_of_le (by rw [h8]; omega)
  have e5 : List.take (8 + r) (stL s) = stL s := List.take_of_length_le (by rw [h8]; omega)
  simp [e1, e2, e3, e4, e5]
theorem hL_set (s : Sha.St) (bl : List UInt8) (n m : Nat) (h : bl.length = 64) : (hL s bl n).set 72 (.int .i64 (m : Int)) = hL s bl m := by
  unfold hL
  rw [List.set_append_right _ _ (by simp [stL]), List.set_append_right _ _ (by simp [stL, h])]
  simp [stL, h]
theorem hL_state (s t : Sha.St) (bl : List UInt8) (n : Nat) : splice (hL s bl n) 0 (stL t) = hL t bl n := by
  unfold splice hL
  have h8 : (stL t).length = 8 := rfl
  have e4 : List.drop 8 (stL s) = [] := rfl
  rw [h8, Nat.zero_add, List.drop_append, e4]
  simp [stL]

/-- The hash at p has been written xs. -/
def Hs (w : World) (p : Nat) (xs : List UInt8) : Prop :=
  ∃ s bl, w.heap[p]? = some (.cells (hL s bl xs.length).toArray 84 (0, 0)) ∧ bl.length = 64 ∧ (xs ≠ [] → s = Sha.stOf xs) ∧ bl.take (xs.length % 64) = xs.drop (64 * (xs.length / 64))
/-- The same, its state that of what it was written, of nothing too. -/
def Hs1 (w : World) (p : Nat) (xs : List UInt8) : Prop :=
  ∃ bl, w.heap[p]? = some (.cells (hL (Sha.stOf xs) bl xs.length).toArray 84 (0, 0)) ∧ bl.length = 64 ∧ bl.take (xs.length % 64) = xs.drop (64 * (xs.length / 64))
theorem Hs1.hs {w : World} {p : Nat} {xs : List UInt8} (h : Hs1 w p xs) : Hs w p xs := by
  obtain ⟨bl, h1, h2, h3⟩ := h
  exact ⟨_, bl, h1, h2, fun _ => rfl, h3⟩
theorem Hs.kept {S : List Nat} {w w' : World} {p : Nat} {xs : List UInt8} (h : Hs w p xs) (hk : Kept S w w') (hS : p ∉ S) : Hs w' p xs := by
  obtain ⟨s, bl, h1, h2⟩ := h
  exact ⟨s, bl, hk.at h1 hS, h2⟩
theorem Hs.lt {w : World} {p : Nat} {xs : List UInt8} (h : Hs w p xs) : p < w.heap.size := by
  obtain ⟨s, bl, h1, h2⟩ := h
  exact lt_of_block h1

theorem splice_take {α : Type} (bl c : List α) (r : Nat) (h : r ≤ bl.length) : (splice bl r c).take (r + c.length) = bl.take r ++ c := by
  unfold splice
  rw [← List.append_assoc, List.take_append_of_le_length (by simp; omega), List.take_of_length_le (by simp; omega)]

/-- Some bytes more, and the block isn't whole. -/
theorem more_part (X c bl : List UInt8) (hb : bl.length = 64) (hbl : bl.take (X.length % 64) = X.drop (64 * (X.length / 64))) (hr : X.length % 64 + c.length < 64) :
    Sha.stOf (X ++ c) = Sha.stOf X ∧ (splice bl (X.length % 64) c).take ((X ++ c).length % 64) = (X ++ c).drop (64 * ((X ++ c).length / 64)) := by
  have e1 : (X ++ c).length / 64 = X.length / 64 := by simp; omega
  have e2 : (X ++ c).length % 64 = X.length % 64 + c.length := by simp; omega
  refine ⟨?_, ?_⟩
  · unfold Sha.stOf
    rw [e1, Sha.stN_append _ _ _ (by omega)]
  · rw [e1, e2, splice_take _ _ _ (by omega), List.drop_append_of_le_length (by omega), hbl]
/-- Some bytes more, and the block is whole. -/
theorem more_whole (X c bl : List UInt8) (hb : bl.length = 64) (hbl : bl.take (X.length % 64) = X.drop (64 * (X.length / 64))) (hr : X.length % 64 + c.length = 64) :
    Sha.mix (Sha.stOf X) (splice bl (X.length % 64) c) = Sha.stOf (X ++ c) ∧ (splice bl (X.length % 64) c).length = 64 ∧ (splice bl (X.length % 64) c).take ((X ++ c).length % 64) = (X ++ c).drop (64 * ((X ++ c).length / 64)) := by
  have e1 : (X ++ c).length / 64 = X.length / 64 + 1 := by simp; omega
  have e2 : (X ++ c).length % 64 = 0 := by simp; omega
  have hl : (splice bl (X.length % 64) c).length = 64 := by rw [length_splice _ _ _ (by omega)]; exact hb
  have hs : splice bl (X.length % 64) c = (X ++ c).drop (64 * (X.length / 64)) := by
    have := splice_take bl c (X.length % 64) (by omega)
    rw [hr, List.take_of_length_le (by omega)] at this
    rw [this, hbl, List.drop_append_of_le_length (by omega)]
  refine ⟨?_, hl, ?_⟩
  · unfold Sha.stOf
    rw [e1, Sha.stN, Sha.stN_append _ _ _ (by omega), hs, List.take_of_length_le]
    simp; omega
  · rw [e1, e2, List.take_zero, List.drop_eq_nil_of_le]
    simp; omega

theorem slice_rest (ad : Addr) (m c n : Nat) (h : n ≤ m) (hmc : m ≤ c) : ∃ ad' : Addr, (∀ W, (Instr.sliceAt 30 (.slice (some ad) m c) (some (.int .i64 (n : Int))) none none).run Tryd.prog W = .ok (.slice (some ad') (m - n) (c - n)) W) ∧ (n < m → ad' = ad.add n) ∧ ad'.block = ad.block := by
  refine ⟨if c = n then ad else ad.add n, fun W => ?_, fun h => by rw [if_neg (by omega)], ?_⟩
  · rw [run_sliceAt_slice W 30 _ _ _ _ (by simp [Program.elem, Tryd.underlying30])]
    have hs : (sizeOf 5).run Tryd.prog W = .ok 1 W := by kernel_rfl
    rw [run_slice_l W 30 _ _ _ (by simp [Program.elem, Tryd.underlying30]) .i64 (n : Int) (by omega) (by omega)]
    have he : Tryd.prog.elem 30 = 5 := by simp [Program.elem, Tryd.underlying30]
    rw [he, hs]
    simp [Result.andThen, sliced]
    split <;> rfl
  · split
    · rfl
    · exact add_block _ _
end Go.Proofs.YtmkdjonlfkfnlaaDoor


/- sha.Hash.Write: in whichever parts bytes come. -/
namespace Go.Proofs.YtmkdjonlfkfnlaaDoor
open Go.RowKit

/-- Where the writing stands: i of ys are written; the rest lies at a. -/
def WrAt (p : Nat) (w : World) (xs ys : List UInt8) (i : Nat) (a : Option Addr) (wr : World) : Prop :=
  Kept [p] w wr ∧ Hs1 wr p (xs ++ ys.take i) ∧ Reads wr a (ys.drop i) ∧ (ys.drop i ≠ [] → ∀ x, a = some x → x.block ≠ p)

theorem hash_slice (p r : Nat) (hr : r < 64) (W : World) : (Instr.sliceAt 82 (.pointer (some ⟨p, 8, none⟩)) (some (.int .i64 (r : Int))) none none).run Tryd.prog W = .ok (.slice (some ⟨p, 8 + r, none⟩) (64 - r) (64 - r)) W := by
  have hal : Tryd.prog.arrayLen 82 = 64 := by simp [Program.arrayLen, Tryd.underlying82]
  rw [run_sliceAt_array_l W 82 ⟨p, 8, none⟩ (by simp [Program.arrayLen, Program.elem, Tryd.underlying82]) .i64 (r : Int) (by omega) (by rw [hal]; omega)]
  rw [hal]
  have e4 : ¬ 64 = r := by omega
  go_simp

theorem plain_add (g o j : Nat) : (⟨g, o, none⟩ : Addr).add j = ⟨g, o + j, none⟩ := by unfold Addr.add; split <;> simp_all
theorem start_cells {w : World} (ht : Tabs w) : ∀ (j : Nat) v, (stL Sha.first)[j]? = some v → w.cell? ((⟨0, 0, none⟩ : Addr).add j) = some v := by
  intro j v hj
  have h8 : j < 8 := (List.getElem?_eq_some_iff.1 hj).1
  rw [plain_add, Nat.zero_add, ht.1 j h8]
  rw [← hj]
  rcases j with _ | _ | _ | _ | _ | _ | _ | _ | j <;> first | rfl | omega
theorem stOf_nil : Sha.stOf [] = Sha.first := rfl
theorem state_cells {w : World} {p : Nat} {s : Sha.St} {bl : List UInt8} {n : Nat} (h : w.heap[p]? = some (.cells (hL s bl n).toArray 84 (0, 0))) : ∀ (j : Nat) v, (stL s)[j]? = some v → w.cell? ((⟨p, 0, none⟩ : Addr).add j) = some v := by
  intro j v hj
  rw [plain_add, Nat.zero_add, cell_of_row w _ _ _ _ _ h]
  simpa using hL_st s bl n j v hj
theorem block_cells {w : World} {p : Nat} {s : Sha.St} {bl : List UInt8} {n : Nat} (h : w.heap[p]? = some (.cells (hL s bl n).toArray 84 (0, 0))) : ∀ (j : Nat) v, (bl.map B)[j]? = some v → w.cell? ((⟨p, 8, none⟩ : Addr).add j) = some v := by
  intro j v hj
  rw [plain_add, cell_of_row w _ _ _ _ _ h]
  simpa using hL_bl s bl n j v hj
theorem info8 : (Tryd.prog.info? 81).map (·.size) = some 8 := by kernel_rfl
theorem info64 : (Tryd.prog.info? 82).map (·.size) = some 64 := by kernel_rfl

def sliceLen : Value → Nat
  | .slice _ n _ => n
  | _ => 0

theorem WrAt.next {p : Nat} {w wr wf : World} {xs ys : List UInt8} {i k : Nat} {ad ad' : Addr} (h : WrAt p w xs ys i (some ad) wr) (hk : Kept [p] wr wf) (hle : i + k ≤ ys.length)
    (h1 : Hs1 wf p (xs ++ ys.take i ++ (ys.drop i).take k)) (had : k < ys.length - i → ad' = ad.add k) (hbk : ad'.block = ad.block) : WrAt p w xs ys (i + k) (some ad') wf := by
  obtain ⟨h2, _, h4, h5⟩ := h
  have hdd : ∀ {j}, j < (ys.drop (i + k)).length → ys.drop i ≠ [] := fun hj e => by have := congrArg List.length e; simp at this hj; omega
  refine ⟨h2.trans hk, ?_, ⟨fun h => by simp at h, fun x hx j u hj => ?_⟩, fun hnn x hx => by
    simp at hx; subst hx; rw [hbk]
    exact h5 (hdd (j := 0) (List.length_pos_iff.2 hnn)) ad rfl⟩
  · rw [List.take_add, ← List.append_assoc]; exact h1
  · simp at hx
    subst hx
    have hjl := (List.getElem?_eq_some_iff.1 hj).1
    have hne := h5 (hdd (by simpa using hjl)) ad rfl
    simp at hjl
    rw [had (by omega), sha_add_add]
    have hj2 : ((ys.drop i).map B)[k + j]? = some u := by
      rw [List.getElem?_map, List.getElem?_drop] at hj ⊢
      rw [← hj, Nat.add_assoc]
    have hc := h4.2 ad rfl (k + j) u hj2
    have hl := World.block_lt_of_cell? wr _ hc
    exact (hk.cell hl (by rw [add_block]; simpa using hne)).trans hc

theorem hs1_part {W : World} {p : Nat} {X cy bl : List UInt8} {L r k : Nat} (heL : L = X.length) (her : r = L % 64) (hcy : cy.length = k) (hrk : r + k < 64) (hbl : bl.length = 64) (htk : bl.take r = X.drop (64 * (L / 64)))
    (hB : W.heap[p]? = some (.cells (hL (Sha.stOf X) (splice bl r cy) (L + k)).toArray 84 (0, 0))) : Hs1 W p (X ++ cy) := by
  subst heL her hcy
  obtain ⟨h1, h2⟩ := more_part X cy bl hbl htk hrk
  exact ⟨_, by rw [h1, List.length_append]; exact hB, by rw [length_splice _ _ _ (by omega)]; exact hbl, h2⟩
theorem hs1_whole {W : World} {p : Nat} {X cy bl : List UInt8} {L r k : Nat} (heL : L = X.length) (her : r = L % 64) (hcy : cy.length = k) (hrk : r + k = 64) (hbl : bl.length = 64) (htk : bl.take r = X.drop (64 * (L / 64)))
    (hB : W.heap[p]? = some (.cells (hL (Sha.mix (Sha.stOf X) (splice bl r cy)) (splice bl r cy) (L + k)).toArray 84 (0, 0))) : Hs1 W p (X ++ cy) := by
  subst heL her hcy
  obtain ⟨h1, h2, h3⟩ := more_whole X cy bl hbl htk hrk
  exact ⟨_, by rw [← h1, List.length_append]; exact hB, h2, h3⟩

theorem mix_st (s : Sha.St) (b : List UInt8) (hb : b.length = 64) (w : World) (ht : Tabs w) :
    Calls Tryd.prog 37 #[.agg (stL s).toArray, .agg (b.map B).toArray] w fun e w' => e = .returned (.agg (stL (Sha.mix s b)).toArray) ∧ Kept [] w w' := mix_any s b hb w ht

set_option maxRecDepth 100000 in
set_option maxHeartbeats 4000000 in
theorem write_any (p : Nat) (a : Option Addr) (c : Nat) (xs ys : List UInt8) (w : World) (h : Hs w p xs) (ht : Tabs w) (hp : 1 < p) (hy : Reads w a ys) (ha : ys ≠ [] → ∀ x, a = some x → x.block ≠ p) (hc : ys.length ≤ c) (hc2 : c ≤ 9223372036854775807) (hlen : xs.length + ys.length ≤ 1000000000) :
    Calls Tryd.prog 32 #[.pointer (some ⟨p, 0, none⟩), .slice a ys.length c] w fun e w' => e = .returned (.tuple #[]) ∧ Kept [p] w w' ∧ Hs1 w' p (xs ++ ys) := by
  obtain ⟨s, bl, hb, hbl, hst, htk⟩ := h
  have gn : w.cell? ⟨p, 72, none⟩ = some (.int .i64 (xs.length : Int)) := (cell_of_row w _ _ _ _ _ hb).trans (by simpa using hL_n s bl xs.length hbl)
  have Hb := hid hb
  have Ht := hid ht; have Hy := hid hy; have Ha := hid ha; have Hst := hid hst; have Htk := hid htk
  clear hb ht hy ha hst htk
  go_enter Tryd.func32, Tryd.ntmps32
  by_cases hx : xs = []
  case' pos =>
    have hsc := hid (start_cells Ht.out)
    have hx0 : (xs.length : Int) = 0 := by rw [hx]; rfl
    have hx2 := hid hx
    clear hx
    go_wp2_with (first
      | (refine wpList_load_cells rfl 81 (.global 0) rfl ⟨0, 0, none⟩ rfl (stL Sha.first) _ Tryd.underlying81 rfl info8 hsc.out ?_)
      | (refine wpList_store_at rfl 81 (.tmp 13) (.tmp 11) rfl p 0 (stL Sha.first) rfl rfl 84 (hL s bl xs.length) Hb.out info8 ?c1 (stL_one _) ?_))
    case c1 => rw [hL_len _ _ _ hbl]; decide
    rw [hL_state]
    obtain ⟨W0, hW0⟩ : ∃ W0 : World, W0 = w.setRow p (hL Sha.first bl xs.length).toArray := ⟨_, rfl⟩
    have H0 : Hid (WrAt p w xs ys 0 a W0) := hid (by
      have hk : Kept [p] w W0 := by rw [hW0]; exact (Kept.refl _ _).setRow (fun _ => by simp) _
      refine ⟨hk, ⟨bl, ?_, hbl, by simpa using Htk.out⟩, Hy.out.kept hk (by simpa using Ha.out), Ha.out⟩
      rw [hW0, List.take_zero, List.append_nil, hx2.out, stOf_nil]
      have := setRow_heap w p _ (hL Sha.first bl xs.length).toArray _ _ Hb.out
      rw [hx2.out] at this
      exact this)
    rw [← hW0]
    simp only [Act.put]
    clear hW0 hsc gn hx0
  case' neg =>
    have hx0 : (xs.length : Int) ≠ 0 := by simpa using hx
    have H0 : Hid (WrAt p w xs ys 0 a w) := hid (by
      exact ⟨Kept.refl _ _, ⟨bl, by rw [List.take_zero, List.append_nil, ← Hst.out hx]; exact Hb.out, hbl, by simpa using Htk.out⟩, Hy.out, Ha.out⟩)
    have hx1 : ((xs.length : Int) == 0) = false := by simpa using hx
    go_wp2_with fail
    clear gn hx1 hx0 hx
  all_goals
    go_loopw [1] (fun sl wr => ∃ (i : Nat) (a' : Option Addr) (c' : Nat), i ≤ ys.length ∧ sl = .slice a' (ys.length - i) c' ∧ ys.length - i ≤ c' ∧ c' ≤ 9223372036854775807 ∧ Hid (WrAt p w xs ys i a' wr)) (fun sl _ => sliceLen sl)
    case atStart => exact ⟨0, a, c, by omega, rfl, hc, hc2, H0⟩
    case round =>
      obtain ⟨i, a', c', hi, rfl, hc', hcm, hw⟩ := hrel
      by_cases hlt : i < ys.length
      · obtain ⟨hk0, ⟨bl1, hb1, hbl1, htk1⟩, hr1, hne1⟩ := hw.out
        obtain ⟨ad, rfl⟩ : ∃ ad, a' = some ad := by
          cases a' with
          | none => have := congrArg List.length (hr1.1 rfl); simp at this; omega
          | some ad => exact ⟨ad, rfl⟩
        obtain ⟨X, hX⟩ : ∃ X, X = xs ++ ys.take i := ⟨_, rfl⟩
        have hXl : X.length = xs.length + i := by rw [hX]; simp; omega
        rw [← hX] at hb1 htk1
        obtain ⟨L, heL⟩ : ∃ L, L = X.length := ⟨_, rfl⟩
        obtain ⟨r, hr⟩ : ∃ r, r = L % 64 := ⟨_, rfl⟩
        obtain ⟨m, hm⟩ : ∃ m, m = ys.length - i := ⟨_, rfl⟩
        obtain ⟨k, hkk⟩ : ∃ k, k = min (64 - r) m := ⟨_, rfl⟩
        have hrl : r < 64 := by omega
        have hkm : k ≤ m := by omega
        have hk1 : 1 ≤ k := by omega
        have hrk : r + k ≤ 64 := by omega
        obtain ⟨cy, hcy⟩ : ∃ cy, cy = (ys.drop i).take k := ⟨_, rfl⟩
        have hcyl : cy.length = k := by rw [hcy]; simp; omega
        obtain ⟨cv, hcv⟩ : ∃ cv, cv = cy.map B := ⟨_, rfl⟩
        have hcvl : cv.length = k := by rw [hcv]; simpa using hcyl
        have hsrc : ∀ (j : Nat) v, cv[j]? = some v → wr.drew.cell? (ad.add j) = some v := fun j v hj => hr1.2 ad rfl j v (by
          rw [hcv, hcy, List.getElem?_map, List.getElem?_take] at hj
          split at hj
          · rw [List.getElem?_map]; exact hj
          · simp at hj)
        have hcone : ∀ v ∈ cv, v.oneCell' = true := by rw [hcv]; exact B_one cy
        rw [← heL] at hb1 htk1
        rw [← hr] at htk1
        have gn : wr.cell? ⟨p, 72, none⟩ = some (.int .i64 (L : Int)) := (cell_of_row wr _ _ _ _ _ hb1).trans (by simpa using hL_n (Sha.stOf X) bl1 L hbl1)
        have hmod : (L : Int).tmod 64 = (r : Int) := by rw [hr, Int.tmod_eq_emod_of_nonneg (by omega)]; omega
        have hsl := fun W => hash_slice p r hrl W
        have hn : cv.length = Nat.min m (64 - r) := by rw [hcvl, hkk]; exact Nat.min_comm _ _
        have hfit : 8 + r + cv.length ≤ (hL (Sha.stOf X) bl1 L).toArray.size := by rw [hcvl]; simp [hL_len _ _ _ hbl1]; omega
        have i0 : (0 : Int) ≤ (r : Int) := by omega
        have i1 : (r : Int) ≤ 64 := by omega
        rw [← hm] at hc' ⊢
        have Hsrc := hid hsrc; have Hone := hid hcone; have Hn := hid hn; have Hfit := hid hfit; have Hb1 := hid hb1; have Htk1 := hid htk1
        have Hcvl := hid hcvl; have Hcyl := hid hcyl; have Hcy := hid hcy; have Hcv := hid hcv; have HX := hid hX; have HXl := hid hXl; have HL := hid heL; have Hr := hid hr; have Hm := hid hm; have Hkk := hid hkk; have Hk0 := hid hk0
        have hml : 0 < m := by omega
        have hLb : L + k ≤ 1000000000 := by omega
        clear hsrc hcone hn hfit hb1 htk1 hcvl hcyl hcy hcv hX hXl heL hr hm hkk hk0 hr1 hne1
        go_wp2_with fail
        refine wp_region_still_tail 10 (by kernel_rfl) (by kernel_rfl) ?_
        simp only [List.take_succ_cons, List.take_zero, List.drop_succ_cons, List.drop_zero]
        change wpStill _ _ wr.drew _ _ _
        repeat still_step
        refine wpStill_nil ?_
        change wpList _ _ _ _ _ wr.drew
        clear hmod hsl
        refine wpList_copy_own rfl (.tmp 25) (.tmp 26) 30 30 rfl 5 Tryd.underlying30 (by kernel_rfl) p (8 + r) (64 - r) (64 - r) ad m c' rfl rfl (hL (Sha.stOf X) bl1 L).toArray 84 Hb1.out cv Hn.out Hsrc.out Hfit.out Hone.out ?_
        obtain ⟨bl2, hbl2⟩ : ∃ bl2, bl2 = splice bl1 r cy := ⟨_, rfl⟩
        have hl2 : bl2.length = 64 := by rw [hbl2, length_splice _ _ _ (by rw [Hcyl.out]; omega)]; exact hbl1
        obtain ⟨W1, hW1⟩ : ∃ W1 : World, W1 = wr.drew.setRow p ((hL (Sha.stOf X) bl1 L).toArray.toList.take (8 + r) ++ (cv ++ (hL (Sha.stOf X) bl1 L).toArray.toList.drop (8 + r + cv.length))).toArray := ⟨_, rfl⟩
        have hB1 : W1.heap[p]? = some (.cells (hL (Sha.stOf X) bl2 L).toArray 84 (0, 0)) := by
          rw [hW1, setRow_heap wr.drew p _ _ _ _ Hb1.out, hbl2, ← hL_copy _ _ _ _ _ (by rw [Hcyl.out]; omega), ← Hcv.out]
          rfl
        have hK1 : Kept [p] wr W1 := by rw [hW1]; exact (Kept.refl _ _).drew.setRow (fun _ => by simp) _
        rw [← hW1]
        rw [Hcvl.out]
        have gn1 : W1.cell? ⟨p, 72, none⟩ = some (.int .i64 (L : Int)) := (cell_of_row W1 _ _ _ _ _ hB1).trans (by simpa using hL_n (Sha.stOf X) bl2 L hl2)
        have gf1 : W1.frozen? ⟨p, 72, none⟩ = false := frozen_of_row W1 p 72 _ _ hB1
        obtain ⟨ad', hs1, hs2, hs3⟩ := slice_rest ad m c' k hkm hc'
        have hB2 : (W1.setCell ⟨p, 72, none⟩ (.int .i64 ((L + k : Nat) : Int))).heap[p]? = some (.cells (hL (Sha.stOf X) bl2 (L + k)).toArray 84 (0, 0)) := by
          rw [Go.heap_setCell_same W1 p 72 _ _ _ hB1]
          congr 2
          simp [← hL_set _ _ L (L + k) hl2]
        have hK2 : Kept [p] wr (W1.setCell ⟨p, 72, none⟩ (.int .i64 ((L + k : Nat) : Int))) := hK1.setCell (fun _ => by simp) _
        have g2 : (W1.setCell ⟨p, 72, none⟩ (.int .i64 ((L + k : Nat) : Int))).cell? ⟨p, 72, none⟩ = some (.int .i64 ((L + k : Nat) : Int)) := (cell_of_row _ _ _ _ _ _ hB2).trans (by simpa using hL_n (Sha.stOf X) bl2 (L + k) hl2)
        have HB2 := hid hB2; have HK2 := hid hK2; have Hs2 := hid hs2; have Hs3 := hid hs3; have Hbl2 := hid hbl2; have G2 := hid g2
        have ecast : ((L + k : Nat) : Int) = (L : Int) + (k : Int) := by omega
        clear hB1 hK1 hW1 hB2 hK2 hs2 hs3 hbl2 g2 gn Hsrc Hone Hn Hfit Hb1
        rw [ecast] at HB2 HK2 G2
        have hres : m - k = ys.length - (i + k) := by have := Hm.out; omega
        have Hres := hid hres
        clear hres ecast
        by_cases hwh : r + k = 64
        · have e64 : ((L : Int) + (k : Int)) % 64 = 0 := by have := Hr.out; omega
          go_wp2_with fail
          obtain ⟨W2, hW2⟩ : ∃ W2 : World, W2 = W1.setCell ⟨p, 72, none⟩ (.int .i64 ((L : Int) + (k : Int))) := ⟨_, rfl⟩
          have hB2 := HB2.out
          have hK2 := HK2.out
          rw [← hW2] at hB2 hK2 ⊢
          clear hW2 HB2 HK2 G2 gn1 gf1 hs1
          have Hsc := hid (state_cells (w := W2.drew) hB2)
          have Hbc := hid (block_cells (w := W2.drew) hB2)
          have hi64 : (Tryd.prog.info? 82).map (·.size) = some (bl2.map B).length := by rw [List.length_map, hl2]; exact info64
          have Hi64 := hid hi64
          have HB3 := hid hB2
          have HK3 := hid hK2
          clear hB2 hK2 hi64
          have Hmx := hid (fun w ht => mix_st (Sha.stOf X) bl2 hl2 w ht)
          refine wp_region_any (by kernel_rfl) ?_
          change wpAny _ _ _ _ _ _ _ (World.drew _)
          refine wpAny_take_l 0 (.pointer (some ⟨p, 0, none⟩)) rfl (by kernel_rfl) (by kernel_rfl) (by kernel_rfl) (fun _ _ _ h => h) (Or.inl ⟨by rfl, fun w => by go_simp⟩) ?_
          refine wpAny_take_l 1 (.pointer (some ⟨p, 0, none⟩)) rfl (by kernel_rfl) (by kernel_rfl) (by kernel_rfl) (fun _ _ _ h => h) (Or.inl ⟨by rfl, fun w => by go_simp⟩) ?_
          refine wpAny_take_l 2 (.pointer (some ⟨p, 0, none⟩)) rfl (by kernel_rfl) (by kernel_rfl) (by kernel_rfl) (fun _ _ _ h => h) (Or.inl ⟨by rfl, fun w => by go_simp⟩) ?_
          refine wpAny_take_l 3 (.pointer (some ⟨p, 0, none⟩)) rfl (by kernel_rfl) (by kernel_rfl) (by kernel_rfl) (fun _ _ _ h => h) (Or.inl ⟨by rfl, fun w => by go_simp⟩) ?_
          refine wpAny_take_l 5 (.pointer (some ⟨p, 0, none⟩)) rfl (by kernel_rfl) (by kernel_rfl) (by kernel_rfl) (fun _ _ _ h => h) (Or.inl ⟨by rfl, fun w => by go_simp⟩) ?_
          refine wpAny_take_l 6 (.pointer (some ⟨p, 0, none⟩)) rfl (by kernel_rfl) (by kernel_rfl) (by kernel_rfl) (fun _ _ _ h => h) (Or.inl ⟨by rfl, fun w => by go_simp⟩) ?_
          refine wpAny_take_l 7 (.pointer (some ⟨p, 8, none⟩)) rfl (by kernel_rfl) (by kernel_rfl) (by kernel_rfl) (fun _ _ _ h => h) (Or.inl ⟨by rfl, fun w => by go_simp⟩) ?_
          simp only [Act.put, List.setIfInBounds_toArray, List.set_cons_succ, List.set_cons_zero]
          refine wpAny_ready (rs := [4, 8]) (by kernel_rfl) (by simp) ?_
          refine ready_cons_l rfl (fun K hK => ?_) (ready_cons_l rfl (fun K hK => ?_) AllReady.nil)
          · refine step_load_cells rfl 81 (.tmp 48) rfl ⟨p, 0, none⟩ rfl (stL (Sha.stOf X)) _ Tryd.underlying81 rfl info8 Hsc.out ?_
            refine hK _ _ ?_
            clear hK K
            simp only [Act.put, List.setIfInBounds_toArray, List.set_cons_succ, List.set_cons_zero]
            refine wpAny_ready (rs := [8]) (by kernel_rfl) (by simp) ?_
            refine ready_cons_l rfl (fun K hK => ?_) AllReady.nil
            refine step_load_cells rfl 82 (.tmp 52) rfl ⟨p, 8, none⟩ rfl (bl2.map B) _ Tryd.underlying82 rfl Hi64.out Hbc.out ?_
            refine hK _ _ ?_
            clear hK K
            simp only [Act.put, List.setIfInBounds_toArray, List.set_cons_succ, List.set_cons_zero]
            refine wpAny_ready (rs := [9]) (by kernel_rfl) (by simp) ?_
            refine ready_cons_l rfl (fun K hK => ?_) AllReady.nil
            refine step_call rfl 37 #[.agg (stL (Sha.stOf X)).toArray, .agg (bl2.map B).toArray] (by go_simp) (fun v w' => v = .agg (stL (Sha.mix (Sha.stOf X) bl2)).toArray ∧ Kept [] W2.drew w') ((Hmx.out _ (Ht.out.kept (Hk0.out.trans HK3.out).drew (by simp; omega) (by simp; omega))).mono fun e w' h => ⟨_, h.1, rfl, h.2⟩) ?_
            rintro _ w3 ⟨rfl, hk3⟩
            have HB4 := hid (hk3.at (k := p) (o := .cells (hL (Sha.stOf X) bl2 (L + k)).toArray 84 (0, 0)) HB3.out (by simp))
            have HK4 := hid (HK3.out.drew.trans' hk3 (by simp))
            clear hk3
            refine hK _ _ ?_
            clear hK K
            simp only [Act.put, List.setIfInBounds_toArray, List.set_cons_succ, List.set_cons_zero]
            refine wpAny_take_l 10 (.pointer (some ⟨p, 0, none⟩)) rfl (by kernel_rfl) (by kernel_rfl) (by kernel_rfl) (fun _ _ _ h => h) (Or.inl ⟨by rfl, fun w => by go_simp⟩) ?_
            refine wpAny_take_l 11 (.pointer (some ⟨p, 0, none⟩)) rfl (by kernel_rfl) (by kernel_rfl) (by kernel_rfl) (fun _ _ _ h => h) (Or.inl ⟨by rfl, fun w => by go_simp⟩) ?_
            refine wpAny_ready (rs := [12]) (by kernel_rfl) (by simp) ?_
            refine ready_cons_l rfl (fun K hK => ?_) AllReady.nil
            refine step_store_at rfl 81 (.tmp 56) (.tmp 54) rfl p 0 (stL (Sha.mix (Sha.stOf X) bl2)) rfl rfl 84 (hL (Sha.stOf X) bl2 (L + k)) HB4.out info8 (by rw [hL_len _ _ _ hl2]; show 0 + 8 ≤ 73; omega) (stL_one _) ?_
            rw [hL_state]
            refine hK _ _ ?_
            clear hK K
            simp only [Act.put, List.setIfInBounds_toArray, List.set_cons_succ, List.set_cons_zero]
            refine wpAny_done (by kernel_rfl) ?_ _
            have HB5 := hid (setRow_heap w3 p _ (hL (Sha.mix (Sha.stOf X) bl2) bl2 (L + k)).toArray _ _ HB4.out)
            have HK5 := hid (HK4.out.setRow (g := p) (fun _ => by simp) (hL (Sha.mix (Sha.stOf X) bl2) bl2 (L + k)).toArray)
            clear HB4 HK4 HB3 HK3 Hsc Hbc
            go_wp2_with fail
            go_roundw
            case rel => exact ⟨i + k, some ad', c' - k, by have := Hm.out; omega, by rw [Hres.out], by rw [← Hres.out]; omega, by omega, hid (hw.out.next HK5.out (by have := Hm.out; omega) (by rw [← HX.out, ← Hcy.out]; exact hs1_whole HL.out Hr.out Hcyl.out (by omega) hbl1 Htk1.out (by rw [← Hbl2.out]; exact HB5.out)) (by rw [← Hm.out]; exact Hs2.out) Hs3.out)⟩
            case measure => simp [sliceLen]; omega
          · refine step_load_cells rfl 82 (.tmp 52) rfl ⟨p, 8, none⟩ rfl (bl2.map B) _ Tryd.underlying82 rfl Hi64.out Hbc.out ?_
            refine hK _ _ ?_
            clear hK K
            simp only [Act.put, List.setIfInBounds_toArray, List.set_cons_succ, List.set_cons_zero]
            refine wpAny_ready (rs := [4]) (by kernel_rfl) (by simp) ?_
            refine ready_cons_l rfl (fun K hK => ?_) AllReady.nil
            refine step_load_cells rfl 81 (.tmp 48) rfl ⟨p, 0, none⟩ rfl (stL (Sha.stOf X)) _ Tryd.underlying81 rfl info8 Hsc.out ?_
            refine hK _ _ ?_
            clear hK K
            simp only [Act.put, List.setIfInBounds_toArray, List.set_cons_succ, List.set_cons_zero]
            refine wpAny_ready (rs := [9]) (by kernel_rfl) (by simp) ?_
            refine ready_cons_l rfl (fun K hK => ?_) AllReady.nil
            refine step_call rfl 37 #[.agg (stL (Sha.stOf X)).toArray, .agg (bl2.map B).toArray] (by go_simp) (fun v w' => v = .agg (stL (Sha.mix (Sha.stOf X) bl2)).toArray ∧ Kept [] W2.drew w') ((Hmx.out _ (Ht.out.kept (Hk0.out.trans HK3.out).drew (by simp; omega) (by simp; omega))).mono fun e w' h => ⟨_, h.1, rfl, h.2⟩) ?_
            rintro _ w3 ⟨rfl, hk3⟩
            have HB4 := hid (hk3.at (k := p) (o := .cells (hL (Sha.stOf X) bl2 (L + k)).toArray 84 (0, 0)) HB3.out (by simp))
            have HK4 := hid (HK3.out.drew.trans' hk3 (by simp))
            clear hk3
            refine hK _ _ ?_
            clear hK K
            simp only [Act.put, List.setIfInBounds_toArray, List.set_cons_succ, List.set_cons_zero]
            refine wpAny_take_l 10 (.pointer (some ⟨p, 0, none⟩)) rfl (by kernel_rfl) (by kernel_rfl) (by kernel_rfl) (fun _ _ _ h => h) (Or.inl ⟨by rfl, fun w => by go_simp⟩) ?_
            refine wpAny_take_l 11 (.pointer (some ⟨p, 0, none⟩)) rfl (by kernel_rfl) (by kernel_rfl) (by kernel_rfl) (fun _ _ _ h => h) (Or.inl ⟨by rfl, fun w => by go_simp⟩) ?_
            refine wpAny_ready (rs := [12]) (by kernel_rfl) (by simp) ?_
            refine ready_cons_l rfl (fun K hK => ?_) AllReady.nil
            refine step_store_at rfl 81 (.tmp 56) (.tmp 54) rfl p 0 (stL (Sha.mix (Sha.stOf X) bl2)) rfl rfl 84 (hL (Sha.stOf X) bl2 (L + k)) HB4.out info8 (by rw [hL_len _ _ _ hl2]; show 0 + 8 ≤ 73; omega) (stL_one _) ?_
            rw [hL_state]
            refine hK _ _ ?_
            clear hK K
            simp only [Act.put, List.setIfInBounds_toArray, List.set_cons_succ, List.set_cons_zero]
            refine wpAny_done (by kernel_rfl) ?_ _
            have HB5 := hid (setRow_heap w3 p _ (hL (Sha.mix (Sha.stOf X) bl2) bl2 (L + k)).toArray _ _ HB4.out)
            have HK5 := hid (HK4.out.setRow (g := p) (fun _ => by simp) (hL (Sha.mix (Sha.stOf X) bl2) bl2 (L + k)).toArray)
            clear HB4 HK4 HB3 HK3 Hsc Hbc
            go_wp2_with fail
            go_roundw
            case rel => exact ⟨i + k, some ad', c' - k, by have := Hm.out; omega, by rw [Hres.out], by rw [← Hres.out]; omega, by omega, hid (hw.out.next HK5.out (by have := Hm.out; omega) (by rw [← HX.out, ← Hcy.out]; exact hs1_whole HL.out Hr.out Hcyl.out (by omega) hbl1 Htk1.out (by rw [← Hbl2.out]; exact HB5.out)) (by rw [← Hm.out]; exact Hs2.out) Hs3.out)⟩
            case measure => simp [sliceLen]; omega
        · have e64 : ¬ ((L : Int) + (k : Int)) % 64 = 0 := by have := Hr.out; omega
          go_wp2_with fail
          go_roundw
          case rel => exact ⟨i + k, some ad', c' - k, by have := Hm.out; omega, by rw [Hres.out], by rw [← Hres.out]; omega, by omega, hid (hw.out.next HK2.out (by have := Hm.out; omega) (by rw [← HX.out, ← Hcy.out]; exact hs1_part HL.out Hr.out Hcyl.out (by omega) hbl1 Htk1.out (by rw [← Hbl2.out]; exact HB2.out)) (by rw [← Hm.out]; exact Hs2.out) Hs3.out)⟩
          case measure => simp [sliceLen]; omega
      · obtain rfl : i = ys.length := by omega
        go_wp2_with fail
        go_end0
        obtain ⟨h1, h2, -⟩ := hw.out
        rw [List.take_length] at h2
        exact ⟨rfl, h1, h2⟩
end Go.Proofs.YtmkdjonlfkfnlaaDoor


/- sha.end, sha.Hash.Sum, Len, sha.Of. -/
namespace Go.Proofs.YtmkdjonlfkfnlaaDoor
open Go.RowKit

theorem sha_info_u8 : (Tryd.prog.info? 5).map (fun i => (i.zero, i.size, i.bytes)) = some (some (.int .u8 0), 1, 1) := by kernel_rfl
theorem make_u8 (n : Nat) (W : World) (hn : n ≤ 1000000) : (Instr.makeSlice 30 (.int .i64 (n : Int)) (.int .i64 (n : Int))).run Tryd.prog W = .ok (.slice (some ⟨W.heap.size, 0, none⟩) n n) (W.alloc (.cells (List.replicate n (B 0)).toArray 5)) := by
  obtain ⟨i0, hi0, hz0, hz1, hz2⟩ := info_parts sha_info_u8
  have := run_makeSlice (P := Tryd.prog) W 30 5 i0 (.int .u8 0) Tryd.underlying30 hi0 hz0 .i64 .i64 (n : Int) (n : Int) (by omega) (by omega) (by rw [hz1]; omega) (by rw [hz2]; omega) (by omega)
  rw [this]
  have e : madeCells (Value.int .u8 0).cells ((n : Int).toNat * i0.size) = (List.replicate n (B 0)).toArray := by
    rw [hz1]
    apply Array.ext
    · simp [madeCells, Value.cells]
    · intro j h1 h2
      simp [madeCells, Value.cells, B, Nat.mod_one]
  rw [e]
  simp
theorem sha_B_ofNat (M : Nat) : B (UInt8.ofNat M) = .int .u8 ((M : Int) % 256) := by unfold B; simp

/-- The end's bytes, the last i of them written. -/
def pL (n i : Nat) : List UInt8 := 128 :: (List.replicate ((119 - n % 64) % 64) 0 ++ (List.range 8).map fun j => if 7 - j < i then UInt8.ofNat (8 * n / 256 ^ (7 - j)) else 0)
theorem pL_len (n i : Nat) : (pL n i).length = 9 + (119 - n % 64) % 64 := by simp [pL]; omega
theorem pL_end (n : Nat) : pL n 8 = Sha.pad n := by
  unfold pL Sha.pad
  congr 2
theorem pL_start (n : Nat) : pL n 0 = 128 :: List.replicate ((119 - n % 64) % 64 + 8) 0 := by
  unfold pL
  rw [← List.replicate_append_replicate]
  simp [List.range_succ]
theorem pL_set (n i : Nat) (hi : i < 8) : (pL n i).set (9 + (119 - n % 64) % 64 - 1 - i) (UInt8.ofNat (8 * n / 256 ^ i)) = pL n (i + 1) := by
  unfold pL
  generalize (119 - n % 64) % 64 = z
  rw [show 9 + z - 1 - i = (z + (7 - i)) + 1 by omega, List.set_cons_succ, List.set_append_right _ _ (by simp)]
  congr 2
  simp only [List.length_replicate, show z + (7 - i) - z = 7 - i by omega]
  apply List.ext_getElem?
  intro j
  rw [List.getElem?_set]
  by_cases hj : 7 - i = j
  · subst hj
    simp [show 7 - i < 8 by omega, show 7 - (7 - i) = i by omega]
  · by_cases h8 : j < 8
    · have e : (7 - j < i + 1) = (7 - j < i) := by simp; omega
      simp [hj, h8, e]
    · simp [hj, h8]

def EndRel (w : World) (n i : Nat) (wr : World) : Prop := Kept [] w wr ∧ wr.heap[w.heap.size]? = some (.cells ((pL n i).map B).toArray 5 (0, 0))
theorem EndRel.step {w wr : World} {n i : Nat} (h : EndRel w n i wr) (hi : i < 8) : EndRel w n (i + 1) (wr.setCell ⟨w.heap.size, 9 + (119 - n % 64) % 64 - 1 - i, none⟩ (B (UInt8.ofNat (8 * n / 256 ^ i)))) := by
  obtain ⟨h1, h2⟩ := h
  refine ⟨h1.setCell (fun e => absurd e (by simp)) _, ?_⟩
  rw [Go.heap_setCell_same wr _ _ _ _ _ h2, ← pL_set n i hi]
  simp

set_option maxHeartbeats 1000000 in
theorem end_any (n : Nat) (hn : n ≤ 1000000000) (w : World) :
    Calls Tryd.prog 38 #[.int .i64 (n : Int)] w fun e w' => e = .returned (.slice (some ⟨w.heap.size, 0, none⟩) (Sha.pad n).length (Sha.pad n).length) ∧ Kept [] w w' ∧ w'.heap[w.heap.size]? = some (.cells ((Sha.pad n).map B).toArray 5 (0, 0)) := by
  obtain ⟨z, hz⟩ : ∃ z, z = (119 - n % 64) % 64 := ⟨_, rfl⟩
  have hz63 : z < 64 := by omega
  have hmk := fun W => make_u8 (1 + z + 8) W (by omega)
  have e1 : (119 - (n : Int) % 64) % 64 = (z : Int) := by omega
  have hpl : (Sha.pad n).length = 1 + z + 8 := by rw [Sha.pad_len]; omega
  have Hz := hid hz; have Hpl := hid hpl
  have hcast : (1 : Int) + (z : Int) + 8 = ((1 + z + 8 : Nat) : Int) := by omega
  rw [← hcast] at hmk
  clear hz hpl hcast
  go_enter Tryd.func38, Tryd.ntmps38
  go_wp2_with fail
  have h0 : Hid (EndRel w n 0 (w.alloc (.cells ((Array.replicate (1 + z + 8) (B 0)).setIfInBounds 0 (.int .u8 128)) 5))) := hid (by
    refine ⟨(Kept.refl _ _).alloc _, ?_⟩
    have e : ((Array.replicate (1 + z + 8) (B 0)).setIfInBounds 0 (.int .u8 128)) = ((pL n 0).map B).toArray := by
      rw [pL_start, ← Hz.out, show 1 + z + 8 = (z + 8) + 1 by omega]
      apply Array.ext'
      simp [List.replicate_succ, B]
    rw [e]
    exact heap_alloc_at rfl)
  clear hmk e1
  go_loopw [20] (fun j wr => ∃ i : Nat, i ≤ 8 ∧ j = .int .i64 i ∧ Hid (EndRel w n i wr)) (fun j _ => 8 - (intOf j).toNat)
  case atStart => exact ⟨0, by omega, rfl, h0⟩
  case round =>
    clear h0
    obtain ⟨i, hi, rfl, hr⟩ := hrel
    by_cases hlt : i < 8
    · have hc := hr.out.2
      obtain ⟨m, hm⟩ : ∃ m, m = 9 + (119 - n % 64) % 64 - 1 - i := ⟨_, rfl⟩
      have hm2 : m = z + 8 - i := by rw [hm, ← Hz.out]; omega
      obtain ⟨v, gx⟩ : ∃ v, wr.cell? ⟨w.heap.size, m, none⟩ = some v := ⟨((pL n i).map B).toArray[m]'(by simp [pL_len]; omega), (cell_of_row wr _ _ _ _ _ hc).trans (Array.getElem?_eq_getElem _)⟩
      have gf := frozen_of_row wr _ m _ _ hc
      have hr2 := hid (hr.out.step hlt)
      rw [sha_B_ofNat, ← hm] at hr2
      have hdiv := hid (show (n : Int) * 8 / 2 ^ (8 * i) = ((8 * n / 256 ^ i : Nat) : Int) by
        rw [show (2 : Int) ^ (8 * i) = ((256 ^ i : Nat) : Int) by rw [show (256 : Nat) = 2 ^ 8 from rfl, ← Nat.pow_mul]; simp, show (n : Int) * 8 = ((8 * n : Nat) : Int) by omega]
        exact (Int.natCast_ediv _ _).symm)
      have Hm2 := hid hm2
      have k0 : (0 : Int) ≤ 1 + (z : Int) + 8 - 1 - (i : Int) := by omega
      have k1 : 1 + (z : Int) + 8 - 1 - (i : Int) < 1 + (z : Int) + 8 := by omega
      have k2 : (1 + (z : Int) + 8 - 1 - (i : Int)).toNat = m := by omega
      clear hm hm2 hc hr
      go_wp2_with fail
      rw [hdiv.out]
      go_roundw
      case rel => exact ⟨i + 1, by omega, by go_num, hr2⟩
      case measure => simp [intOf]; omega
    · obtain rfl : i = 8 := by omega
      go_wp2_with fail
      go_ret
      obtain ⟨h1, h2⟩ := hr.out
      rw [pL_end] at h2
      exact ⟨by rw [Hpl.out]; rfl, h1, h2⟩

/-- The sum's cells, the first i of them written. -/
def iL (l : List UInt8) (i : Nat) : List UInt8 := l.take i ++ List.replicate (32 - i) 0
theorem iL_len (l : List UInt8) (i : Nat) (hl : l.length = 32) (hi : i ≤ 32) : (iL l i).length = 32 := by simp [iL, hl]; omega
theorem iL_set (l : List UInt8) (i : Nat) (hl : l.length = 32) (hi : i < 32) (v : UInt8) (hv : l[i]? = some v) : (iL l i).set i v = iL l (i + 1) := by
  unfold iL
  have hi2 : i < l.length := by omega
  have hv2 : l[i] = v := by simpa [hi2] using hv
  obtain ⟨m, hm⟩ : ∃ m, 32 - i = m + 1 := ⟨32 - i - 1, by omega⟩
  rw [hm, show 32 - (i + 1) = m by omega, List.set_append_right _ _ (by simp; omega), List.take_succ_eq_append_getElem hi2, List.replicate_succ, hv2]
  have e : i - (List.take i l).length = 0 := by simp; omega
  rw [e, List.set_cons_zero, List.append_assoc]
  rfl
theorem iL_all (l : List UInt8) (hl : l.length = 32) : iL l 32 = l := by simp [iL]; exact List.take_of_length_le (by omega)

/-- A hash that was written nothing. -/
def z0 : List Value := hL ⟨0, 0, 0, 0, 0, 0, 0, 0⟩ (List.replicate 64 0) 0
theorem zero_hash (W : World) : (zeroValue 84).run Tryd.prog W = .ok (.agg z0.toArray) W := by kernel_rfl
theorem z0_len : z0.length = 73 := hL_len _ _ _ (by simp)
theorem splice_all {α : Type} (L cs : List α) (h : L.length = cs.length) : splice L 0 cs = cs := by
  unfold splice
  rw [List.take_zero, List.nil_append, List.drop_eq_nil_of_le (by omega), List.append_nil]
theorem hs_fresh {W : World} {p : Nat} (h : W.heap[p]? = some (.cells z0.toArray 84 (0, 0))) : Hs W p [] :=
  ⟨_, _, h, by simp, fun h => absurd rfl h, by simp⟩

def IdRel (w : World) (q r : Nat) (s : Sha.St) (l : List UInt8) (i : Nat) (wr : World) : Prop :=
  w.heap.size < q ∧ q < r ∧ Kept [] w wr ∧ wr.heap[w.heap.size]? = some (.cells ((List.replicate 32 (0 : UInt8)).map B).toArray 34 (0, 0)) ∧ (∀ j, j < 8 → wr.cell? ⟨q, j, none⟩ = some (U (s.list.getD j 0))) ∧ wr.heap[r]? = some (.cells ((iL l i).map B).toArray 34 (0, 0))
theorem IdRel.step {w wr : World} {q r : Nat} {s : Sha.St} {l : List UInt8} {i : Nat} (h : IdRel w q r s l i wr) (hl : l.length = 32) (hi : i < 32) (v : UInt8) (hv : l[i]? = some v) : IdRel w q r s l (i + 1) (wr.setCell ⟨r, i, none⟩ (B v)) := by
  obtain ⟨h0, h1, h2, h3, h4, h5⟩ := h
  refine ⟨h0, h1, h2.setCell (fun e => absurd e (by simp; omega)) _, heap_setCell_other h3 (by simp; omega), fun j hj => ?_, ?_⟩
  · have hc := h4 j hj
    unfold World.cell? at hc ⊢
    rw [Below.heap_setCell _ _ _ _ (by simp; omega)]
    exact hc
  · rw [Go.heap_setCell_same wr _ _ _ _ _ h5, ← iL_set l i hl hi v hv]
    simp

set_option maxRecDepth 100000 in
set_option maxHeartbeats 1000000 in
theorem sha_sum_any (p : Nat) (xs : List UInt8) (w : World) (h : Hs w p xs) (ht : Tabs w) (_ : 1 < p) (hlen : xs.length ≤ 500000000) :
    Calls Tryd.prog 33 #[.pointer (some ⟨p, 0, none⟩)] w fun e w' => e = .returned (.agg ((Sha.sum xs).map B).toArray) ∧ Kept [] w w' := by
  have hh := hid h
  obtain ⟨s, bl, hb, hbl, hst, htk⟩ := h
  have Hb := hid hb
  have hpl := lt_of_block hb
  have hsz73 : (Tryd.prog.info? 84).map (·.size) = some (hL s bl xs.length).length := by rw [hL_len _ _ _ hbl]; kernel_rfl
  have Hsz := hid hsz73
  have hone : ∀ v ∈ hL s bl xs.length, v.oneCell' = true := by
    intro v hv
    simp only [hL, List.mem_append] at hv
    rcases hv with hv | hv | hv
    · exact stL_one s v hv
    · exact B_one bl v hv
    · simp at hv; subst hv; rfl
  have Hone := hid hone
  have Ht := hid ht
  have Hst := hid hst
  have Htk := hid htk
  clear hb hsz73 hone ht hst htk
  have hcells : ∀ (j : Nat) v, (hL s bl xs.length)[j]? = some v → (w.alloc (.cells ((List.replicate 32 (0 : UInt8)).map B).toArray 34)).cell? ((⟨p, 0, none⟩ : Addr).add j) = some v := by
    intro j v hj
    rw [plain_add, Nat.zero_add, cell_of_row _ _ _ _ _ _ (heap_alloc_old Hb.out)]
    simpa using hj
  have Hcells := hid hcells
  clear hcells
  obtain ⟨cs0, hcs0⟩ : ∃ cs0, cs0 = z0 := ⟨_, rfl⟩
  have hcl : cs0.length = 73 := by rw [hcs0]; exact z0_len
  have hzv : ∀ W, (zeroValue 84).run Tryd.prog W = .ok (.agg cs0.toArray) W := by rw [hcs0]; exact zero_hash
  have hfit := hid (show 0 + (hL s bl xs.length).length ≤ cs0.length by rw [hL_len _ _ _ hbl, hcl]; decide)
  have hspl := hid (splice_all cs0 (hL s bl xs.length) (by rw [hL_len _ _ _ hbl, hcl]))
  clear hcs0 hcl
  obtain ⟨wa, hwa⟩ : ∃ wa, wa = w.alloc (.cells ((List.replicate 32 (0 : UInt8)).map B).toArray 34) := ⟨_, rfl⟩
  have Hwa := hid hwa
  have hsa := hid (show wa.heap.size = w.heap.size + 1 by rw [hwa]; simp)
  clear hwa
  go_enter Tryd.func33, Tryd.ntmps33
  go_wp2_with (refine wpList_load_cells rfl 84 (.tmp 7) rfl ⟨p, 0, none⟩ rfl (hL s bl xs.length) _ Tryd.underlying84 rfl Hsz.out Hcells.out ?_; refine halt ?_)
  change Halt (wpList _ _ _ _ _ (w.alloc (.cells ((List.replicate 32 (0 : UInt8)).map B).toArray 34)))
  rw [← Hwa.out]
  refine Halt.mk ?_
  go_wp2_with (refine wpList_store_at rfl 84 (.tmp 3) (.tmp 8) rfl wa.heap.size 0 (hL s bl xs.length) rfl rfl 84 cs0 (heap_alloc_at rfl) Hsz.out hfit.out Hone.out ?_; refine halt ?_)
  rw [hspl.out]
  obtain ⟨wb, hwb⟩ : ∃ wb : World, wb = (wa.alloc (.cells cs0.toArray 84)).setRow wa.heap.size (hL s bl xs.length).toArray := ⟨_, rfl⟩
  rw [← hwb]
  refine Halt.mk ?_
  have hka : Kept [] w wa := by rw [Hwa.out]; exact (Kept.refl _ _).alloc _
  have hkb : Kept [] w wb := by rw [hwb]; exact (hka.alloc _).setRow (fun h => absurd h (by have := hsa.out; omega)) _
  have hra : wa.heap[w.heap.size]? = some (.cells ((List.replicate 32 (0 : UInt8)).map B).toArray 34 (0, 0)) := by rw [Hwa.out]; exact heap_alloc_at rfl
  have hrb := hid (show wb.heap[w.heap.size]? = some (.cells ((List.replicate 32 (0 : UInt8)).map B).toArray 34 (0, 0)) by
    rw [hwb, setRow_other _ _ _ _ (by have := hsa.out; omega)]; exact heap_alloc_old hra)
  have hqb : wb.heap[wa.heap.size]? = some (.cells (hL s bl xs.length).toArray 84 (0, 0)) := by
    rw [hwb]; exact setRow_heap _ _ _ _ _ _ (heap_alloc_at rfl)
  have hHb := hid (show Hs wb wa.heap.size xs from ⟨s, bl, hqb, hbl, Hst.out, Htk.out⟩)
  have gn : wb.cell? ⟨p, 72, none⟩ = some (.int .i64 (xs.length : Int)) := (hkb.cell (p := ⟨p, 72, none⟩) hpl (by simp)).trans ((cell_of_row w _ _ _ _ _ Hb.out).trans (by simpa using hL_n s bl xs.length hbl))
  have hlb : wa.heap.size < wb.heap.size := lt_of_block hqb
  have Hkb := hid hkb
  obtain ⟨q, hq⟩ : ∃ q, q = wa.heap.size := ⟨_, rfl⟩
  rw [← hq] at hHb hlb hsa ⊢
  clear hwb hka hkb hra hqb hq Hwa Hcells Hsz Hone hfit hspl Hst Htk Hb hh
  have hend := hid (end_any xs.length (by omega) wb)
  go_wp2_with fail
  refine hend.out.mono ?_
  rintro e w1 ⟨rfl, hk1, hp1⟩
  have hlen2 : (Sha.pad xs.length).length ≤ 73 := by rw [Sha.pad_len]; omega
  have hq1 : 1 < q := by have := Ht.out.pos; have := hsa.out; omega
  have hwr := hid (write_any q (some ⟨wb.heap.size, 0, none⟩) (Sha.pad xs.length).length xs (Sha.pad xs.length) w1 (hHb.out.kept hk1 (by simp)) (Ht.out.kept (Hkb.out.trans hk1) (by simp) (by simp)) hq1
    ⟨fun h => by simp at h, fun ad had j u hj => by
      simp at had; subst had
      rw [plain_add, Nat.zero_add, cell_of_row w1 _ _ _ _ _ hp1]
      simpa using hj⟩ (fun _ x hx => by simp at hx; subst hx; show wb.heap.size ≠ q; omega) (Nat.le_refl _) (by omega) (by omega))
  have hr1 := hid (hk1.at hrb.out (by simp))
  have Hk1 := hid (Hkb.out.trans hk1)
  have hl1 : wb.heap.size ≤ w1.heap.size := hk1.size
  clear hk1 hp1 hend gn hrb Hkb hHb
  go_wp2_with fail
  refine hwr.out.mono ?_
  rintro e w2 ⟨rfl, hk2, hs2⟩
  obtain ⟨bl2, hb2, hbl2, -⟩ := hs2
  obtain ⟨S, hS⟩ : ∃ S, S = Sha.stOf (xs ++ Sha.pad xs.length) := ⟨_, rfl⟩
  rw [← hS] at hb2
  have hsum := hid (show Sha.sum xs = Sha.bytesOf S by rw [hS]; rfl)
  obtain ⟨l, hl⟩ : ∃ l, l = Sha.bytesOf S := ⟨_, rfl⟩
  have hll : l.length = 32 := by rw [hl]; simp [Sha.bytesOf]
  have hlget : ∀ i, i < 32 → l[i]? = some (UInt8.ofNat ((S.list.getD (i / 4) 0).toNat >>> (24 - i % 4 * 8))) := fun i hi => by rw [hl]; simp [Sha.bytesOf, hi]
  have Hl := hid hl
  have Hlget := hid hlget
  have hlt2 : q < w2.heap.size := lt_of_block hb2
  have hnew : w.heap.size + 1 ≤ w1.heap.size := by have := hsa.out; omega
  have H0 : Hid (IdRel w q w2.heap.size S l 0 (w2.alloc (.cells ((List.replicate 32 (0 : UInt8)).map B).toArray 34))) := hid (by
    have hkk : Kept [] w w2 := Hk1.out.trans' hk2 (fun x hx hm => by simp at hm; have := hsa.out; omega)
    have h3 := hk2.at hr1.out (by simp; have := hsa.out; omega)
    refine ⟨by have := hsa.out; omega, hlt2, hkk.alloc _, heap_alloc_old h3, fun j hj => ?_, by simpa [iL] using heap_alloc_at rfl⟩
    rw [cell_of_row _ _ _ _ _ _ (heap_alloc_old hb2)]
    have := hL_st S bl2 (xs ++ Sha.pad xs.length).length j (U (S.list.getD j 0)) (by
      rcases j with _ | _ | _ | _ | _ | _ | _ | _ | j <;> first | rfl | omega)
    simpa using this)
  clear hwr hk2 hb2 hS hl hlget hr1 Hk1 hl1 hnew hlen2 hzv
  go_wp2_with fail
  obtain ⟨r, hr⟩ : ∃ r, r = w2.heap.size := ⟨_, rfl⟩
  rw [← hr] at H0 ⊢
  clear hr hlt2
  go_loopw [15] (fun j wr => ∃ i : Nat, i ≤ 32 ∧ j = .int .i64 i ∧ Hid (IdRel w q r S l i wr)) (fun j _ => 32 - (intOf j).toNat)
  case atStart => exact ⟨0, by omega, rfl, H0⟩
  case round =>
    clear H0
    obtain ⟨i, hi, rfl, hr⟩ := hrel
    by_cases hlt : i < 32
    · obtain ⟨_, _, _, _, hst, hid5⟩ := hr.out
      have gs := hst (i / 4) (by omega)
      obtain ⟨x, hx⟩ : ∃ x, x = S.list.getD (i / 4) 0 := ⟨_, rfl⟩
      rw [← hx] at gs
      have hget := hid (show l[i]? = some (UInt8.ofNat (x.toNat >>> (24 - i % 4 * 8))) by rw [hx]; exact Hlget.out i hlt)
      have hr2 := hid (hr.out.step hll hlt _ hget.out)
      rw [sha_B_ofNat] at hr2
      obtain ⟨v, gx⟩ : ∃ v, wr.cell? ⟨r, i, none⟩ = some v := ⟨((iL l i).map B).toArray[i]'(by simp [iL_len l i hll hi]; omega), (cell_of_row wr _ _ _ _ _ hid5).trans (Array.getElem?_eq_getElem _)⟩
      have gf := frozen_of_row wr _ i _ _ hid5
      obtain ⟨sh, hsh⟩ : ∃ sh, sh = 24 - i % 4 * 8 := ⟨_, rfl⟩
      have hdiv := hid (show (x.toNat : Int) / 2 ^ sh = ((x.toNat >>> sh : Nat) : Int) by
        rw [Nat.shiftRight_eq_div_pow, show (2 : Int) ^ sh = ((2 ^ sh : Nat) : Int) by simp]
        exact (Int.natCast_ediv _ _).symm)
      have k0 : (0 : Int) ≤ (i : Int) / 4 := by omega
      have k1 : (i : Int) / 4 < 8 := by omega
      have k2 : ((i : Int) / 4).toNat = i / 4 := by omega
      have k3 : (0 : Int) ≤ 24 - (i : Int) % 4 * 8 := by omega
      have k4 : 24 - (i : Int) % 4 * 8 ≤ 32 := by omega
      have k5 : (24 - (i : Int) % 4 * 8).toNat = sh := by omega
      have hr3 := hr2.out
      rw [← hsh] at hr3
      have Hr3 := hid hr3
      clear hst hid5 hx hsh hr hr2 hr3 hget
      go_wp2_with fail
      rw [hdiv.out]
      go_roundw
      case rel => exact ⟨i + 1, by omega, by go_num, Hr3⟩
      case measure => simp [intOf]; omega
    · obtain rfl : i = 32 := by omega
      obtain ⟨hq3, hr3, hk, hres, -, hids⟩ := hr.out
      rw [iL_all l hll] at hids
      obtain ⟨cs, hcs⟩ : ∃ cs, cs = (l.map B).toArray := ⟨_, rfl⟩
      rw [← hcs] at hids
      have hsz : cs.size = 32 := by rw [hcs]; simp [hll]
      have Hsz := hid (show (Tryd.prog.info? 34).map (·.size) = some cs.size by rw [hsz]; kernel_rfl)
      have Hold := hid (show ((List.replicate 32 (0 : UInt8)).map B).toArray.size = cs.size by rw [hsz]; simp)
      have Hone := hid (show cs.all (·.oneCell') = true by
        rw [hcs, Array.all_eq_true_iff_forall_mem]
        intro u hu
        exact B_one l u (by simpa using hu))
      have Hcs := hid (show cs = ((Sha.sum xs).map B).toArray by rw [hcs, Hl.out, hsum.out])
      have Hids := hid hids; have Hres := hid hres; have Hk := hid hk
      clear hids hres hk hcs hsz hr
      go_wp2_with (first
        | (refine wpList_load_row rfl 34 (.tmp 4) rfl r rfl _ _ _ _ Hids.out Tryd.underlying34 rfl Hsz.out ?_)
        | (refine wpList_store_row rfl 34 (.tmp 2) (.tmp 32) rfl w.heap.size cs rfl rfl _ _ Hres.out Hsz.out Hold.out Hone.out ?_))
      refine bodyPost_ret (v := .agg cs) (results_cell_row Tryd.results33 _ _ w.heap.size _ _ _ _ rfl (setRow_heap _ _ _ _ _ _ Hres.out) Tryd.underlying34 rfl Hsz.out) rfl ⟨by rw [Hcs.out], Hk.out.setRow (fun h => absurd h (by omega)) _⟩

/-- sha.Of. -/
theorem of_any (a : Option Addr) (c : Nat) (ys : List UInt8) (w : World) (ht : Tabs w) (hy : Reads w a ys) (hc : ys.length ≤ c) (hc2 : c ≤ 9223372036854775807) (hlen : ys.length ≤ 500000000) :
    Calls Tryd.prog 26 #[.slice a ys.length c] w fun e w' => e = .returned (.agg ((Sha.sum ys).map B).toArray) ∧ Kept [] w w' := by
  have hpos := ht.pos
  have Ht := hid ht; have Hy := hid hy
  clear ht hy
  obtain ⟨cs0, hcs0⟩ : ∃ cs0, cs0 = z0 := ⟨_, rfl⟩
  have hzv : ∀ W, (zeroValue 84).run Tryd.prog W = .ok (.agg cs0.toArray) W := by rw [hcs0]; exact zero_hash
  obtain ⟨wb, hwb⟩ : ∃ wb, wb = (w.alloc (.cells ((List.replicate 32 (0 : UInt8)).map B).toArray 34)).alloc (.cells cs0.toArray 84) := ⟨_, rfl⟩
  have hkb := hid (show Kept [] w wb by rw [hwb]; exact ((Kept.refl _ _).alloc _).alloc _)
  have hHb := hid (show Hs wb (w.heap.size + 1) [] from hs_fresh (by rw [hwb, hcs0]; exact heap_alloc_at (by simp)))
  have hrb := hid (show wb.heap[w.heap.size]? = some (.cells ((List.replicate 32 (0 : UInt8)).map B).toArray 34 (0, 0)) by rw [hwb]; exact heap_alloc_old (heap_alloc_at rfl))
  have Hwb := hid hwb
  clear hwb hcs0
  go_enter Tryd.func26, Tryd.ntmps26
  go_wp2_with fail
  change Calls _ _ _ ((w.alloc (.cells ((List.replicate 32 (0 : UInt8)).map B).toArray 34)).alloc (.cells cs0.toArray 84)) _
  rw [← Hwb.out]
  have hny : ys ≠ [] → ∀ x, a = some x → x.block ≠ w.heap.size + 1 := fun hne x hx => by
    have := Hy.out.lt hne x hx; omega
  refine (write_any (w.heap.size + 1) a c [] ys wb hHb.out (Ht.out.kept hkb.out (by simp) (by simp)) (by omega) (Hy.out.kept hkb.out (fun _ _ _ => by simp)) hny hc hc2 (by simpa using (by omega : ys.length ≤ 1000000000))).mono ?_
  rintro e w2 ⟨rfl, hk2, hs2⟩
  rw [List.nil_append] at hs2
  have Hs2 := hid hs2.hs
  have hr2 := hid (hk2.at hrb.out (by simp))
  have Hk2 := hid (hkb.out.trans' hk2 (fun x hx hm => by simp at hm; omega))
  clear hk2 hs2 hzv hHb hrb hkb Hwb hny
  have hsum := hid (sha_sum_any (w.heap.size + 1) ys w2 Hs2.out (Ht.out.kept Hk2.out (by simp) (by simp)) (by omega) hlen)
  go_wp2_with fail
  refine hsum.out.mono ?_
  rintro e w3 ⟨rfl, hk3⟩
  obtain ⟨cs, hcs⟩ : ∃ cs, cs = ((Sha.sum ys).map B).toArray := ⟨_, rfl⟩
  rw [← hcs]
  have hsz : cs.size = 32 := by rw [hcs]; simp [Sha.sum_len]
  have Hsz := hid (show (Tryd.prog.info? 34).map (·.size) = some cs.size by rw [hsz]; kernel_rfl)
  have Hold := hid (show ((List.replicate 32 (0 : UInt8)).map B).toArray.size = cs.size by rw [hsz]; simp)
  have Hone := hid (show cs.all (·.oneCell') = true by
    rw [hcs, Array.all_eq_true_iff_forall_mem]
    intro u hu
    exact B_one _ u (by simpa using hu))
  have hr3 := hid (hk3.at hr2.out (by simp))
  have Hk3 := hid (Hk2.out.trans hk3)
  have Hcs := hid hcs
  clear hcs hsz hk3 hsum hr2 Hs2 Hk2
  go_wp2_with (refine wpList_store_row rfl 34 (.tmp 2) (.tmp 6) rfl w.heap.size cs rfl rfl _ _ hr3.out Hsz.out Hold.out Hone.out ?_)
  refine bodyPost_ret (v := .agg cs) (results_cell_row Tryd.results26 _ _ w.heap.size _ _ _ _ rfl (setRow_heap _ _ _ _ _ _ hr3.out) Tryd.underlying34 rfl Hsz.out) rfl ⟨by rw [Hcs.out], Hk3.out.setRow (fun h => absurd h (by omega)) _⟩
end Go.Proofs.YtmkdjonlfkfnlaaDoor


/- sha.digit, sha.Text. -/
namespace Go.Proofs.YtmkdjonlfkfnlaaDoor
open Go.RowKit

/-- A number's digit; a digit's number. -/
def hexd (k : Nat) : UInt8 := if k < 10 then UInt8.ofNat (48 + k) else UInt8.ofNat (87 + k)
def dig (c : UInt8) : Int := if 48 ≤ c.toNat ∧ c.toNat ≤ 57 then (c.toNat : Int) - 48 else if 97 ≤ c.toNat ∧ c.toNat ≤ 102 then (c.toNat : Int) - 87 else -1
theorem dig_hexd (k : Nat) (h : k < 16) : dig (hexd k) = (k : Int) := by
  have : ∀ k : Fin 16, dig (hexd k.val) = (k.val : Int) := by decide
  exact this ⟨k, h⟩
theorem hexd_dig (c : UInt8) (h : 0 ≤ dig c) : hexd (dig c).toNat = c := by
  have : ∀ c : Fin 256, 0 ≤ dig (UInt8.ofNat c.val) → hexd (dig (UInt8.ofNat c.val)).toNat = UInt8.ofNat c.val := by decide +kernel
  have h2 := this ⟨c.toNat, c.toNat_lt⟩
  simp only [UInt8.ofNat_toNat] at h2
  exact h2 h
theorem dig_lt (c : UInt8) : dig c < 16 := by unfold dig; split <;> (try split) <;> omega

theorem run_loadBytes {P : Program} (w : World) : ∀ (ys : List UInt8) (ad : Addr) (acc : ByteArray), (∀ (j : Nat) u, (ys.map B)[j]? = some u → w.cell? (ad.add j) = some u) →
    (Extern.Bytes.loadBytes ad ys.length acc).run P w = .ok ⟨(acc.data.toList ++ ys).toArray⟩ w
  | [], ad, acc, _ => by
    show Result.ok acc w = _
    simp
  | y :: ys, ad, acc, h => by
    have h0 : w.cell? ad = some (.int .u8 (y.toNat : Int)) := by
      have := h 0 (B y) rfl
      rwa [show ad.add 0 = ad by unfold Addr.add; simp] at this
    have hl : (load ad).run P w = .ok (.int .u8 (y.toNat : Int)) w := by rw [run_load, h0]
    have ih := run_loadBytes (P := P) w ys (ad.add 1) (acc.push y) (fun j u hj => by rw [sha_add_add, Nat.add_comm]; exact h (j + 1) u hj)
    show (Extern.Bytes.loadBytes ad (ys.length + 1) acc).run P w = _
    unfold Extern.Bytes.loadBytes
    rw [Sem.run_bind, hl]
    simp only [Result.andThen_ok]
    have e : ((y.toNat : Int).toNat).toUInt8 = y := by simp
    rw [e, ih]
    congr 2
    simp

def lessL : List UInt8 → List UInt8 → Bool
  | [], [] => false
  | [], _ :: _ => true
  | _ :: _, [] => false
  | a :: x, b :: y => if a < b then true else if b < a then false else lessL x y
theorem lessL_cmp : ∀ (a b : List UInt8), (Lib.compareBytes a b < 0) = (lessL a b = true)
  | [], [] => by simp [Lib.compareBytes, lessL]
  | [], _ :: _ => by simp [Lib.compareBytes, lessL]
  | _ :: _, [] => by simp [Lib.compareBytes, lessL]
  | a :: x, b :: y => by
    unfold Lib.compareBytes lessL
    by_cases h1 : a < b
    · simp [h1]
    · by_cases h2 : b < a
      · simp [h1, h2]
      · simp only [h1, h2, if_false]
        exact lessL_cmp x y

theorem run_compare_slices {P : Program} (w : World) (ad bd : Addr) (c d : Nat) (xs ys : List UInt8) (hx : ∀ (j : Nat) u, (xs.map B)[j]? = some u → w.cell? (ad.add j) = some u) (hy : ∀ (j : Nat) u, (ys.map B)[j]? = some u → w.cell? (bd.add j) = some u) :
    (Extern.BytealgCompare.compare #[.slice (some ad) xs.length c, .slice (some bd) ys.length d]).run P w = .ok (.int .i64 (Lib.compareBytes xs ys)) w := by
  change Sem.run P (do pure (goInt (Extern.BytealgCompare.cmp (← Extern.Bytes.loadBytes ad xs.length .empty) (← Extern.Bytes.loadBytes bd ys.length .empty)))) w = _
  rw [Sem.run_bind, run_loadBytes w xs ad _ hx]
  simp only [Result.andThen_ok]
  rw [Sem.run_bind, run_loadBytes w ys bd _ hy]
  simp only [Result.andThen_ok]
  rw [Lib.cmp_eq]
  rfl

theorem slice_id (g : Nat) (W : World) : (Instr.sliceAt 34 (.pointer (some ⟨g, 0, none⟩)) none none none).run Tryd.prog W = .ok (.slice (some ⟨g, 0, none⟩) 32 32) W := by
  have hal : Tryd.prog.arrayLen 34 = 32 := by simp [Program.arrayLen, Tryd.underlying34]
  rw [run_sliceAt_array_all W 34 ⟨g, 0, none⟩ (by simp [Program.arrayLen, Program.elem, Tryd.underlying34])]
  rw [hal]
  go_simp

/-- A sum's digits. -/
def hexOf (l : List UInt8) : List UInt8 := l.flatMap fun b => [hexd (b.toNat / 16), hexd (b.toNat % 16)]
theorem hexOf_len (l : List UInt8) : (hexOf l).length = 2 * l.length := by
  induction l with
  | nil => rfl
  | cons b l ih => simp [hexOf] at ih ⊢; omega
/-- An append of whatever slice, as one step of a region that draws its order. -/
theorem step_append_src {P : Program} {w : World} {ops : Array Oper} {o : Oper} {a : Act} {K : Act → World → Prop} {Q : Exit → Act → World → Prop} {E : Prop} (hgd : o.guard = none) (s x : Operand) (t : TypeId)
    (ho : o.op = .call { callee := .builtin .append, args := #[s, x], argTypes := #[t, t] }) (base : Nat) (e : TypeId) (i : TypeInfo) (z : Value) (bytes : Nat) (ht : P.underlying t = some (.slice e)) (hi : P.info? e = some i) (hz : i.zero = some z)
    (hsize : i.size = 1) (hby : i.bytes = bytes) (hzs : z.cells.size = 1) (v : Value) (n : Nat) (xs : List Value) (hs : a.eval s = v) (hown : w.ownsRow base e 1 v n xs)
    (sv : Value) (m : Nat) (news : List Value) (hx : a.eval x = sv) (hsrc : Src w sv m news) (hl : news.length = m) (h1 : ∀ u ∈ news, u.oneCell' = true)
    (h63 : n + m ≤ maxLen) (hbytes : (n + m) * bytes ≤ 140737488355328) (hbase : base ≤ w.heap.size)
    (h : ∀ b c w', w'.ownsRow base e 1 (.slice b (n + m) c) (n + m) (xs ++ news) → w.grownBy w' v.ownBlock → (∀ g, (Value.slice b (n + m) c).ownBlock = some g → v.ownBlock = some g ∨ w.heap.size ≤ g) → K (a.put o.dst (.slice b (n + m) c)) w') :
    if Region.wanted o (yielded ops a.tmps) = true then Oper.wp P o a w K Q else E := by
  have hw : Region.wanted o (yielded ops a.tmps) = true := by simp [Region.wanted, hgd]
  rw [if_pos hw]
  obtain ⟨v', w', hr, h2, h3, h4, h5⟩ := run_append_src (P := P) w t o.type base e i z bytes ht hi hz hsize hby hzs v n xs hown sv m news hsrc hl h1 h63 hbytes hbase
  obtain ⟨b, c, rfl⟩ : ∃ b c, v' = .slice b (n + m) c := by
    rcases h2.2 with ⟨rfl, h0⟩ | ⟨g, cap, _, rfl, _⟩
    · exact ⟨none, 0, by rw [h0]⟩
    · exact ⟨_, cap, rfl⟩
  unfold Oper.wp execOp
  simp only [ho, resolve, invoke, builtin, Sem.run_bind, Sem.run_pure, Result.andThen_ok, List.map_toArray, List.map_cons, List.map_nil, hs, hx, hr]
  exact h b c w' h2 h3 h5

theorem hexOf_snoc (l : List UInt8) (b : UInt8) : hexOf (l ++ [b]) = hexOf l ++ [hexd (b.toNat / 16), hexd (b.toNat % 16)] := by simp [hexOf]

theorem hex_index (k : Nat) (hk : k < 16) (W : World) : (Instr.index 9 (.string ⟨#[48, 49, 50, 51, 52, 53, 54, 55, 56, 57, 97, 98, 99, 100, 101, 102]⟩) (.int .u8 (k : Int))).run Tryd.prog W = .ok (.int .u8 ((hexd k).toNat : Int)) W := by
  have : ∀ k : Fin 16, (⟨#[48, 49, 50, 51, 52, 53, 54, 55, 56, 57, 97, 98, 99, 100, 101, 102]⟩ : ByteArray)[k.val]? = some (hexd k.val) := by decide
  have h := this ⟨k, hk⟩
  simp only at h
  have h0 : (0 : Int) ≤ (k : Int) := by omega
  simp [Instr.index, asIntOf, run_underlying Tryd.underlying9, Sem.run_bind, h]

theorem id_index (l : List UInt8) (_ : l.length = 32) (i : Nat) (hi : i < 32) (b : UInt8) (hb : l[i]? = some b) (W : World) : (Instr.index 34 (.agg (l.map B).toArray) (.int .i64 (i : Int))).run Tryd.prog W = .ok (.int .u8 (b.toNat : Int)) W := by
  have h : (l.map B).toArray[i]? = some (.int .u8 (b.toNat : Int)) := by simp [hb, B]
  have hs : (sizeOf 5).run Tryd.prog W = .ok 1 W := by kernel_rfl
  have hp : (part 5 (l.map B).toArray i).run Tryd.prog W = .ok (.int .u8 (b.toNat : Int)) W := by
    simp only [part, isAgg, Sem.run_bind, run_underlying Tryd.underlying5, Result.andThen_ok, Sem.run_pure, h]
    rfl
  simp only [Instr.index, asIntOf, run_underlying Tryd.underlying34, Sem.run_bind, Sem.run_pure, Result.andThen_ok]
  simp [hs, hp, Sem.run_bind]
  intro h8
  omega

end Go.Proofs.YtmkdjonlfkfnlaaDoor


/- sha.Text. -/
namespace Go.Proofs.YtmkdjonlfkfnlaaDoor
open Go.RowKit Go.Lib

/-- What has been written of a sum's digits. -/
def TxRel (w : World) (l : List UInt8) (i : Nat) (v : Value) (wr : World) : Prop :=
  Kept [] w wr ∧ wr.ownsRow w.heap.size 5 1 v (hexOf (l.take i)).length ((hexOf (l.take i)).map B)

theorem text_bytes (w : World) (x : Addr) (c : Nat) (ys : List UInt8) (hc : ∀ (j : Nat) u, (ys.map B)[j]? = some u → w.cell? (x.add j) = some u) :
    (convert 30 9 (.slice (some x) ys.length c)).run Tryd.prog w = .ok (.string ⟨ys.toArray⟩) w := by
  have hl : (loadCells x ys.length).run Tryd.prog w = .ok ((ys.map fun y => (y.toNat : Int)).map (Value.int .u8)).toArray w := by
    have := run_loadCells_list (P := Tryd.prog) w x (ys.map B) hc
    have eB : (ys.map fun y => (y.toNat : Int)).map (Value.int .u8) = ys.map B := by rw [List.map_map]; rfl
    rw [eB]
    simpa using this
  rw [run_convert_bytes_string w _ _ _ _ ys.length c Tryd.underlying30 Tryd.underlying5 Tryd.underlying9, run_bytesToString w _ ys.length c _ hl, foldl_push_bytes]
  have e : (ys.map fun y => (y.toNat : Int)).map (fun n => UInt8.ofNat n.toNat) = ys := by
    rw [List.map_map]
    conv => rhs; rw [← List.map_id ys]
    apply List.map_congr_left
    intro y _
    simp
  rw [e]
  simp [ByteArray.empty, ByteArray.emptyWithCapacity]
  rfl

theorem make_64 (W : World) : (Instr.makeSlice 30 (.int .i64 0) (.int .i64 64)).run Tryd.prog W = .ok (.slice (some ⟨W.heap.size, 0, none⟩) 0 64) (W.alloc (.cells (List.replicate 64 (B 0)).toArray 5)) := by
  obtain ⟨i0, hi0, hz0, hz1, hz2⟩ := info_parts sha_info_u8
  have := run_makeSlice (P := Tryd.prog) W 30 5 i0 (.int .u8 0) Tryd.underlying30 hi0 hz0 .i64 .i64 0 64 (by omega) (by omega) (by rw [hz1]; decide) (by rw [hz2]; omega) (by omega)
  rw [this]
  have e : ∀ n, madeCells (Value.int .u8 0).cells n = (List.replicate n (B 0)).toArray := fun n => by
    apply Array.ext
    · simp [madeCells, Value.cells]
    · intro j h1 h2
      simp [madeCells, Value.cells, B, Nat.mod_one]
  rw [e, hz1]
  rfl

theorem tx_next {w wr w2 : World} {l : List UInt8} {i g c c2 : Nat} {b2 : Option Addr} {x y : UInt8} {o : Obj} (hk0 : Kept [] w wr) (ho0 : wr.ownsRow w.heap.size 5 1 (.slice (some ⟨g, 0, none⟩) (2 * i) c) (2 * i) ((hexOf (l.take i)).map B))
    (hown2 : w2.ownsRow w.heap.size 5 1 (.slice b2 (2 * i + 2) c2) (2 * i + 2) ((hexOf (l.take i)).map B ++ [B x, B y])) (hgrow : (wr.alloc o).drew.grownBy w2 (Value.slice (some ⟨g, 0, none⟩) (2 * i) c).ownBlock)
    (hsn : hexOf (l.take (i + 1)) = hexOf (l.take i) ++ [x, y]) (hlen : (hexOf (l.take (i + 1))).length = 2 * i + 2) : ∃ g2, b2 = some ⟨g2, 0, none⟩ ∧ TxRel w l (i + 1) (.slice (some ⟨g2, 0, none⟩) (hexOf (l.take (i + 1))).length c2) w2 := by
  have hg : w.heap.size ≤ g := by
    rcases ho0.2 with ⟨h1, _⟩ | ⟨g', _, _, h1, h2, _⟩
    · simp at h1
    · simp at h1; omega
  obtain ⟨g2, hb2⟩ : ∃ g2, b2 = some ⟨g2, 0, none⟩ := by
    rcases hown2.2 with ⟨h1, h2⟩ | ⟨g', _, _, h1, h2, _⟩
    · omega
    · simp at h1; exact ⟨g', h1.1⟩
  subst hb2
  refine ⟨g2, rfl, ((hk0.alloc o).drew.trans' (Kept.of_row hgrow) (fun x hx hm => by simp [Value.ownBlock] at hm; omega)), ?_⟩
  rw [hlen, hsn, List.map_append]
  exact hown2

theorem two_cells (w : World) (u v : Value) : ∀ (j : Nat) (x : Value), [u, v][j]? = some x → (w.drew.alloc (.cells #[u, v] 5)).cell? ((⟨w.heap.size, 0, none⟩ : Addr).add j) = some x := by
  intro j x hj
  rw [plain_add, Nat.zero_add, cell_of_row _ _ _ _ _ _ (heap_alloc_at (by rfl))]
  rcases j with _ | _ | j
  · simpa using hj
  · simpa using hj
  · simp at hj

end Go.Proofs.YtmkdjonlfkfnlaaDoor
