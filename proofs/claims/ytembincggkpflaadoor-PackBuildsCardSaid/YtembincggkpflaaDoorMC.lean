import Derived.Test.YtembincggkpflaaDoorC0
import Derived.Test.YtembincggkpflaaDoorG1
import Derived.OpenShut

/- code.Writer: what each call writes. -/
namespace Go.Proofs.YtembincggkpflaaDoor
open Go.RowKit Go.Lib

theorem info_u8 : (Tryd.prog.info? 5).map (fun i => (i.zero, i.size, i.bytes)) = some (some (.int .u8 0), 1, 1) := by kernel_rfl

/-- The lowest k bytes of a number, the lowest first. -/
def numB (N k : Nat) : List UInt8 := (List.range k).map fun j => UInt8.ofNat (N / 256 ^ j)
theorem numB_len (N k : Nat) : (numB N k).length = k := by simp [numB]
theorem numB_succ (N k : Nat) : numB N (k + 1) = numB N k ++ [UInt8.ofNat (N / 256 ^ k)] := by simp [numB, List.range_succ]

/-- How many bytes a number has that is asked to have so many. -/
def sz (size : Int) : Nat := if size < 1 then 1 else if 8 < size then 8 else size.toNat
theorem sz4 : sz 4 = 4 := by decide
theorem sz_le (size : Int) : 1 ≤ sz size ∧ sz size ≤ 8 := by unfold sz; split <;> (try split) <;> omega

/-- A writer in block p holds the value v, which owns the bytes xs. -/
def Wr (w : World) (p : Nat) (v : Value) (xs : List UInt8) : Prop :=
  w.heap[p]? = some (.cells #[v] 64 (0, 0)) ∧ w.ownsRow (p + 1) 5 1 v xs.length (xs.map B)

/-- Behind a call the writer holds xs; nothing else of what was there has turned. -/
def Wrote (p : Nat) (v : Value) (w : World) (xs : List UInt8) (w' : World) : Prop :=
  ∃ v', Kept (p :: v.ownBlock.toList) w w' ∧ Wr w' p v' xs ∧ ∀ g, v'.ownBlock = some g → v.ownBlock = some g ∨ w.heap.size ≤ g

theorem Wr.own_ne {w : World} {p : Nat} {v : Value} {xs : List UInt8} (h : Wr w p v xs) {g : Nat} (hg : v.ownBlock = some g) : p < g := by
  rcases h.2.2 with ⟨rfl, _⟩ | ⟨g', _, _, rfl, hb, _⟩
  · simp [Value.ownBlock] at hg
  · simp [Value.ownBlock] at hg; omega
theorem Wr.own_lt {w : World} {p : Nat} {v : Value} {xs : List UInt8} (h : Wr w p v xs) {g : Nat} (hg : v.ownBlock = some g) : g < w.heap.size := by
  rcases h.2.2 with ⟨rfl, _⟩ | ⟨g', _, _, rfl, hb, hh, _⟩
  · simp [Value.ownBlock] at hg
  · simp [Value.ownBlock] at hg; exact hg ▸ lt_of_block hh
theorem Wr.kept {S : List Nat} {w w' : World} {p : Nat} {v : Value} {xs : List UInt8} (h : Wr w p v xs) (hk : Kept S w w') (hp : p ∉ S) (hv : ∀ g, v.ownBlock = some g → g ∉ S) : Wr w' p v xs :=
  ⟨hk.at h.1 hp, hk.owns h.2 hv⟩
theorem Wrote.refl {w : World} {p : Nat} {v : Value} {xs : List UInt8} (h : Wr w p v xs) : Wrote p v w xs w := ⟨v, Kept.refl _ _, h, fun _ h => Or.inl h⟩
theorem Wrote.trans {p : Nat} {v v1 : Value} {w w1 w2 : World} {ys : List UInt8} (hk : Kept (p :: v.ownBlock.toList) w w1) (hf : ∀ g, v1.ownBlock = some g → v.ownBlock = some g ∨ w.heap.size ≤ g)
    (h : Wrote p v1 w1 ys w2) : Wrote p v w ys w2 := by
  obtain ⟨v2, k2, h2, f2⟩ := h
  refine ⟨v2, hk.trans' k2 (fun x hx hm => ?_), h2, fun g hg => ?_⟩
  · simp at hm ⊢
    rcases hm with rfl | hm
    · exact Or.inl rfl
    · rcases hf x hm with h | h
      · exact Or.inr h
      · omega
  · rcases f2 g hg with h | h
    · exact hf g h
    · exact Or.inr (Nat.le_trans hk.size h)

theorem owns_slice {w : World} {base : Nat} {e : TypeId} {size : Nat} {v : Value} {n : Nat} {xs : List Value} (h : w.ownsRow base e size v n xs) : ∃ a c, v = .slice a n c := by
  rcases h.2 with ⟨rfl, rfl⟩ | ⟨g, cap, _, rfl, _⟩
  · exact ⟨none, 0, rfl⟩
  · exact ⟨_, cap, rfl⟩

/-- An append to the writer's field, and its store. -/
theorem wrote_of {p : Nat} {v v' : Value} {w w1 w2 : World} {xs ys : List UInt8} (h : Wr w p v xs) (hk : Kept [] w w1) (hown : w2.ownsRow (p + 1) 5 1 v' (xs ++ ys).length ((xs ++ ys).map B))
    (hgrow : w1.grownBy w2 v.ownBlock) (hf : ∀ g, v'.ownBlock = some g → v.ownBlock = some g ∨ w1.heap.size ≤ g) : Wrote p v w (xs ++ ys) (w2.setCell ⟨p, 0, none⟩ v') := by
  have hp1 := hk.at h.1 (by simp)
  have hpv : v.ownBlock ≠ some p := fun e => by have := h.own_ne e; omega
  have hp2 := heap_grown hgrow hp1 hpv
  have hpv' : v'.ownBlock ≠ some p := fun e => by
    have := lt_of_block hp1
    rcases hf p e with h' | h'
    · exact hpv h'
    · omega
  refine ⟨v', ?_, ⟨one_setCell hp2, ownsRow_setCell_other hown (a := ⟨p, 0, none⟩) hpv' v'⟩, fun g hg => ?_⟩
  · exact ((hk.trans' (S := []) (Kept.refl [] _) (by simp)).wider (T := p :: v.ownBlock.toList) (by simp)).trans' (Kept.of_row hgrow) (fun x _ hm => List.mem_cons_of_mem _ hm) |>.setCell (p := ⟨p, 0, none⟩) (fun _ => by simp) _
  · rcases hf g hg with h' | h'
    · exact Or.inl h'
    · exact Or.inr (Nat.le_trans hk.size h')

theorem numsize_any (size : Int) (w : World) : Calls Tryd.prog 44 #[.int .i64 size] w fun e w' => e = .returned (.int .i64 (sz size)) ∧ w = w' := by
  by_cases h1 : size < 1
  · have e : sz size = 1 := by unfold sz; rw [if_pos h1]
    rw [e]
    go_enter Tryd.func44, Tryd.ntmps44
    go_wp2
    go_ret
    exact ⟨by simp, rfl⟩
  · by_cases h2 : 8 < size
    · have e : sz size = 8 := by unfold sz; rw [if_neg h1, if_pos h2]
      rw [e]
      go_enter Tryd.func44, Tryd.ntmps44
      go_wp2
      go_ret
      exact ⟨by simp, rfl⟩
    · have e : (sz size : Int) = size := by unfold sz; rw [if_neg h1, if_neg h2]; omega
      rw [e]
      go_enter Tryd.func44, Tryd.ntmps44
      go_wp2
      go_ret
      exact ⟨by simp, rfl⟩

theorem B_ofNat (M : Nat) : B (UInt8.ofNat M) = .int .u8 ((M : Int) % 256) := by unfold B; simp
theorem strCells_B (s : ByteArray) : strCells s = s.data.toList.map B := rfl
theorem B_oneCell (l : List UInt8) : ∀ u ∈ l.map B, u.oneCell' = true := by
  intro u hu
  simp at hu
  obtain ⟨b, _, rfl⟩ := hu
  simp [B, Value.oneCell']

set_option maxHeartbeats 1000000 in
theorem wnum (p N : Nat) (size : Int) (hN : N < 18446744073709551616) (v : Value) (xs : List UInt8) (w : World) (h : Wr w p v xs) (hlen : xs.length ≤ 1000000000) :
    Calls Tryd.prog 28 #[.pointer (some ⟨p, 0, none⟩), .int .u64 N, .int .i64 size] w fun e w' => e = .returned (.tuple #[]) ∧ Wrote p v w (xs ++ numB N (sz size)) w' := by
  have H := hid h
  clear h
  obtain ⟨i0, hi0, hz0, hz1, hz2⟩ := info_parts info_u8
  have hs := sz_le size
  go_enter Tryd.func28, Tryd.ntmps28
  go_wp2_with (go_at_call 44; refine (numsize_any _ _).mono ?_; rintro e w' ⟨rfl, rfl⟩)
  go_loopw [1, 8] (fun n s wr => ∃ i : Nat, i ≤ sz size ∧ s = .int .i64 i ∧ n = .int .u64 ((N / 256 ^ i : Nat) : Int) ∧ Hid (Wrote p v w (xs ++ numB N i) wr)) (fun _ s _ => sz size - (intOf s).toNat)
  case atStart => exact ⟨0, Nat.zero_le _, rfl, by simp, hid (by simpa [numB] using Wrote.refl H.out)⟩
  case round =>
    obtain ⟨i, hi, rfl, rfl, hw⟩ := hrel
    obtain ⟨v1, hk1, hw1, hf1⟩ := hw.out
    by_cases hlt : i < sz size
    · have gc := cell_of_one hw1.1
      have gf := free_of_one hw1.1
      have hb : N / 256 ^ i < 18446744073709551616 := Nat.lt_of_le_of_lt (Nat.div_le_self _ _) hN
      have Hk1 := hid hk1; have Hw1 := hid hw1; have Hf1 := hid hf1
      obtain ⟨M, hM⟩ : ∃ M, M = N / 256 ^ i := ⟨_, rfl⟩
      have hM2 : Hid (M / 256 = N / 256 ^ (i + 1)) := hid (by rw [hM, Nat.div_div_eq_div_mul, Nat.pow_succ])
      have hnb : Hid (numB N (i + 1) = numB N i ++ [UInt8.ofNat M]) := hid (by rw [numB_succ, hM])
      rw [← hM] at hb ⊢
      have hown := hid (((Kept.refl [] wr).alloc (.cells #[.int .u8 ((M : Int) % 256)] 5)).owns hw1.2 (by simp))
      clear hk1 hw1 hf1 hw hM
      go_wp2_with (at_builtin; refine halt ?_)
      refine Halt.mk ?_
      refine wpList_append_src _ rfl _ _ _ rfl (p + 1) 5 i0 _ 1 Tryd.underlying29 hi0 hz0 hz1 hz2 rfl v1 (xs ++ numB N i).length ((xs ++ numB N i).map B) rfl hown.out _ 1 [B (UInt8.ofNat M)] rfl (Or.inr ⟨_, _, rfl, by rw [B_ofNat]; exact cell_one_new _ _ _⟩) rfl (by simp [B, Value.oneCell']) ?_ ?_ ?_ ?_
      · have := numB_len N i; unfold maxLen; simp; omega
      · have := numB_len N i; simp; omega
      · have := lt_of_block Hw1.out.1; simp; omega
      intro v2 w2 hown2 hgrow2 _ hf2
      obtain ⟨a2, c2, rfl⟩ := owns_slice hown2
      have hw2' := (wrote_of (ys := [UInt8.ofNat M]) Hw1.out ((Kept.refl [] wr).alloc (.cells #[.int .u8 ((M : Int) % 256)] 5)) (by simpa [Nat.add_assoc] using hown2) hgrow2 hf2)
      rw [List.length_append] at hw2'
      have hw2 := hid hw2'
      have hgc := cell_of_one (heap_grown hgrow2 (heap_alloc_old (o := .cells #[.int .u8 ((M : Int) % 256)] 5) Hw1.out.1) (fun e => by have := Hw1.out.own_ne e; omega))
      have hgf := free_of_one (heap_grown hgrow2 (heap_alloc_old (o := .cells #[.int .u8 ((M : Int) % 256)] 5) Hw1.out.1) (fun e => by have := Hw1.out.own_ne e; omega))
      clear hown2 hgrow2 hf2 gc gf hown hw2'
      go_wp2
      go_roundw
      case rel => exact ⟨i + 1, by omega, by go_num, by rw [← hM2.out]; go_num, hid (by rw [hnb.out, ← List.append_assoc]; exact Wrote.trans Hk1.out Hf1.out hw2.out)⟩
      case measure => simp [intOf]; omega
    · have hin : i = sz size := by omega
      subst hin
      clear hk1 hw1 hf1
      go_wp2
      go_end0
      exact ⟨rfl, hw.out⟩

/-- What is appended to a writer's bytes is bytes. -/
def SrcB (w : World) (sv : Value) (ys : List UInt8) : Prop := Src w sv ys.length (ys.map B)
theorem SrcB.kept {S : List Nat} {w w' : World} {sv : Value} {ys : List UInt8} (h : SrcB w sv ys) (hk : Kept S w w') (hS : ∀ x, sv.ownBlock = some x → x ∉ S) : SrcB w' sv ys := by
  rcases h with h | ⟨ad, c, rfl, h⟩
  · exact Or.inl h
  · refine Or.inr ⟨ad, c, rfl, fun j u hj => ?_⟩
    have hc := h j u hj
    have hl := World.block_lt_of_cell? w _ hc
    exact (hk.cell hl (by rw [add_block]; exact hS _ rfl)).trans hc
theorem SrcB.size {w : World} {sv : Value} {ys : List UInt8} (h : SrcB w sv ys) : ∃ a c, sv = .slice a ys.length c := by
  rcases h with ⟨rfl, h, _⟩ | ⟨ad, c, rfl, _⟩
  · exact ⟨none, 0, by rw [h]⟩
  · exact ⟨_, c, rfl⟩

/-- A copy of all: a new row, or none. -/
theorem wdone (p : Nat) (v : Value) (xs : List UInt8) (w : World) (h : Wr w p v xs) (hlen : xs.length ≤ 1000000000) :
    Calls Tryd.prog 29 #[.pointer (some ⟨p, 0, none⟩)] w fun e w' => ∃ a c, e = .returned (.slice a xs.length c) ∧ Kept [] w w' ∧ w'.ownsRow w.heap.size 5 1 (.slice a xs.length c) xs.length (xs.map B) := by
  have gc := cell_of_one h.1
  have H := hid h
  clear h
  obtain ⟨i0, hi0, hz0, hz1, hz2⟩ := info_parts info_u8
  have hsrc : Hid (SrcB w v xs) := hid (by
    rcases H.out.2.2 with ⟨rfl, h0⟩ | ⟨g, cap, cur, rfl, hg, hh, r⟩
    · exact Or.inl ⟨rfl, h0, by rw [List.eq_nil_of_length_eq_zero h0]; rfl⟩
    · exact Or.inr ⟨_, cap, rfl, H.out.2.cells (g := g) rfl⟩)
  go_enter Tryd.func29, Tryd.ntmps29
  go_wp2_with (at_builtin; refine halt ?_)
  refine Halt.mk ?_
  refine wpList_append_src _ rfl _ _ _ rfl w.heap.size 5 i0 _ 1 Tryd.underlying29 hi0 hz0 hz1 hz2 rfl (.slice none 0 0) 0 [] rfl (World.ownsRow_nil w _ _ 1) v xs.length (xs.map B) rfl hsrc.out (by simp) (B_oneCell xs) ?_ ?_ ?_ ?_
  · unfold maxLen; omega
  · omega
  · exact Nat.le_refl _
  intro v2 w2 hown2 hgrow2 _ hf2
  simp only [Nat.zero_add, List.nil_append] at hown2
  obtain ⟨a2, c2, rfl⟩ := owns_slice hown2
  have hk2 := hid (Kept.of_row hgrow2)
  have Ho := hid hown2
  clear hown2 hgrow2 hf2 gc
  go_wp2
  go_ret
  exact ⟨a2, c2, rfl, hk2.out, Ho.out⟩
end Go.Proofs.YtembincggkpflaaDoor


/- code.Reader: what each call reads. -/
namespace Go.Proofs.YtembincggkpflaaDoor
open Go.RowKit Go.Lib

/-- The number of bytes, the lowest first. -/
def numOf : List UInt8 → Nat
  | [] => 0
  | b :: r => b.toNat + 256 * numOf r

theorem numOf_lt : ∀ l : List UInt8, numOf l < 256 ^ l.length
  | [] => by simp [numOf]
  | b :: r => by
    have h := numOf_lt r
    have hb := b.toNat_lt
    simp only [numOf, List.length_cons, Nat.pow_succ]
    omega
theorem numOf_snoc (l : List UInt8) (b : UInt8) : numOf (l ++ [b]) = numOf l + 256 ^ l.length * b.toNat := by
  induction l with
  | nil => simp [numOf]
  | cons a r ih =>
    simp only [List.cons_append, numOf, ih, List.length_cons, Nat.pow_succ]
    rw [Nat.mul_add, ← Nat.mul_assoc, Nat.mul_comm 256 (256 ^ r.length)]
    omega

theorem or_step (m b i : Nat) (hi : i < 8) (hm : m < 256 ^ i) (hb : b < 256) :
    bits .or .u64 (m : Int) (IntKind.u64.wrap (IntKind.u64.wrap (b : Int) * 2 ^ (8 * i))) = ((m + 256 ^ i * b : Nat) : Int) := by
  have e0 : (256 : Nat) ^ i = 2 ^ (8 * i) := by rw [show (256 : Nat) = 2 ^ 8 from rfl, ← Nat.pow_mul]
  have hle : 256 ^ i * b < 256 ^ 8 := by
    have h1 : 256 ^ i * b < 256 ^ i * 256 := Nat.mul_lt_mul_of_pos_left hb (Nat.pow_pos (by omega))
    have h2 : 256 ^ (i + 1) ≤ 256 ^ 8 := Nat.pow_le_pow_right (by omega) (by omega)
    rw [Nat.pow_succ] at h2
    omega
  have e1 : IntKind.u64.wrap (b : Int) = (b : Int) := by rw [IntKind.wrap_u64]; omega
  have e2 : ((b : Int) * 2 ^ (8 * i)) = ((256 ^ i * b : Nat) : Int) := by rw [e0]; push_cast; rw [Int.mul_comm]
  have e3 : IntKind.u64.wrap ((256 ^ i * b : Nat) : Int) = ((256 ^ i * b : Nat) : Int) := by
    rw [IntKind.wrap_u64]
    have : (256 : Nat) ^ 8 = 18446744073709551616 := by decide
    omega
  have hm64 : m < 18446744073709551616 := by
    have h2 : 256 ^ i ≤ 256 ^ 8 := Nat.pow_le_pow_right (by omega) (by omega)
    have : (256 : Nat) ^ 8 = 18446744073709551616 := by decide
    omega
  have hle' : 256 ^ i * b < 18446744073709551616 := by
    have : (256 : Nat) ^ 8 = 18446744073709551616 := by decide
    omega
  rw [e1, e2, e3, bits_or_u64_nat m (256 ^ i * b) hm64 hle', Nat.or_comm]
  rw [e0] at hm ⊢
  rw [← Nat.two_pow_add_eq_or_of_lt hm, Nat.add_comm]

set_option maxHeartbeats 1000000 in
theorem number_any (sv : Value) (ys : List UInt8) (w : World) (h : SrcB w sv ys) (hlen : ys.length ≤ 8) :
    Calls Tryd.prog 66 #[sv] w fun e w' => e = .returned (.int .u64 ((numOf ys : Nat) : Int)) ∧ w = w' := by
  obtain ⟨a, c, rfl⟩ := h.size
  have Hs := hid h
  clear h
  go_enter Tryd.func66, Tryd.ntmps66
  go_wp2_with fail
  go_loop [3, 8] (fun n s => ∃ i : Nat, i ≤ ys.length ∧ s = .int .i64 i ∧ n = .int .u64 ((numOf (ys.take i) : Nat) : Int)) (fun _ s => ys.length - (intOf s).toNat)
  case atStart => exact ⟨0, Nat.zero_le _, rfl, by simp [numOf]⟩
  case round =>
    obtain ⟨i, hi, rfl, rfl⟩ := hrel
    by_cases hlt : i < ys.length
    · rcases Hs.out with ⟨h1, _⟩ | ⟨ad, c', h1, hc⟩
      · simp at h1; omega
      · simp at h1
        obtain ⟨rfl, rfl⟩ := h1
        have gx : w.cell? (ad.add i) = some (.int .u8 (ys[i].toNat : Int)) := hc i (B ys[i]) (by simp [hlt])
        have hn := numOf_lt (ys.take i)
        rw [List.length_take, Nat.min_eq_left hi] at hn
        have hstep := hid (or_step (numOf (ys.take i)) ys[i].toNat i (by omega) hn ys[i].toNat_lt)
        have hsnoc := hid (show numOf (ys.take (i + 1)) = numOf (ys.take i) + 256 ^ i * ys[i].toNat from by
          rw [List.take_succ_eq_append_getElem hlt, numOf_snoc, List.length_take, Nat.min_eq_left hi])
        clear hc hn
        go_wp2
        go_round
        case rel => exact ⟨i + 1, by omega, by go_num, by rw [hstep.out, hsnoc.out]⟩
        case measure => simp [intOf]; omega
    · have hin : i = ys.length := by omega
      subst hin
      go_wp2
      go_ret
      exact ⟨by simp, rfl⟩

/-- A reader in block r has the bytes xs left: they stand in another block. -/
structure Rd (w : World) (r : Nat) (a : Option Addr) (c : Nat) (xs : List UInt8) : Prop where
  here : w.heap[r]? = some (.cells #[.slice a xs.length c] 114 (0, 0))
  le : xs.length ≤ c
  max : c ≤ maxLen
  nil : a = none → c = 0
  src : ∀ x, a = some x → x.block ≠ r ∧ ∀ (j : Nat) (b : UInt8), xs[j]? = some b → w.cell? (x.add j) = some (B b)
  plain : ∀ x, a = some x → x.spot = none

theorem Rd.kept {S : List Nat} {w w' : World} {r : Nat} {a : Option Addr} {c : Nat} {xs : List UInt8} (h : Rd w r a c xs) (hk : Kept S w w') (hr : r ∉ S) (ha : ∀ x, a = some x → x.block ∉ S) : Rd w' r a c xs :=
  ⟨hk.at h.here hr, h.le, h.max, h.nil, fun x hx => ⟨(h.src x hx).1, fun j b hj => by
    have hc := (h.src x hx).2 j b hj
    exact (hk.cell (World.block_lt_of_cell? w _ hc) (by rw [add_block]; exact ha x hx)).trans hc⟩, h.plain⟩

theorem peek_ok (r : Nat) (a : Option Addr) (c : Nat) (xs : List UInt8) (n : Nat) (hn : n ≤ xs.length) (w : World) (h : Rd w r a c xs) :
    Calls Tryd.prog 67 #[.pointer (some ⟨r, 0, none⟩), .int .i64 n] w fun e w' => e = .returned (.slice a n n) ∧ w = w' := by
  have gc := cell_of_one h.here
  have h1 := h.le
  have h2 := h.max
  unfold maxLen at h2
  have hnil := hid h.nil
  clear h
  cases a with
  | none =>
    have hc0 := hnil.out rfl
    have hx0 : xs.length = 0 := by omega
    have hn0 : n = 0 := by omega
    subst hc0 hn0
    rw [hx0] at gc
    clear hx0 h1 h2 hn
    go_enter Tryd.func67, Tryd.ntmps67
    go_wp2
    go_ret
    exact ⟨by simp, rfl⟩
  | some x =>
    have h3 : ¬ (xs.length : Int) < (n : Int) := by omega
    go_enter Tryd.func67, Tryd.ntmps67
    go_wp2
    go_ret
    exact ⟨rfl, rfl⟩

theorem peek_short (r : Nat) (a : Option Addr) (c : Nat) (xs : List UInt8) (n : Int) (hn : (xs.length : Int) < n) (w : World) (h : Rd w r a c xs) :
    Calls Tryd.prog 67 #[.pointer (some ⟨r, 0, none⟩), .int .i64 n] w fun e w' => Thrown 39 (.int .i64 20) e ∧ w = w' := by
  have gc := cell_of_one h.here
  clear h
  go_enter Tryd.func67, Tryd.ntmps67
  go_wp2_with (go_at_call 68; refine (must_err 20 (by decide) _).mono ?_; rintro e w' ⟨rfl, rfl⟩)
  exact ⟨rfl, ⟨_, rfl, Calm.nil⟩, rfl⟩

/-- Where the rest of a row of c cells begins, behind m of them. -/
def behind (a : Option Addr) (c m : Nat) : Option Addr := if c = m then a else a.map (·.add m)

theorem add_0 (x : Addr) : x.add 0 = x := by unfold Addr.add; simp
theorem add_add (x : Addr) (i j : Nat) : (x.add i).add j = x.add (i + j) := by
  unfold Addr.add
  by_cases hi : i = 0
  · subst hi; simp
  · by_cases hj : j = 0
    · subst hj; simp [hi]
    · simp [hi, hj, Nat.add_assoc]

theorem add_spot (x : Addr) (i : Nat) (h : x.spot = none) : (x.add i).spot = none := by unfold Addr.add; split <;> simp_all

/-- The world behind reading m bytes. -/
def nextW (w : World) (r : Nat) (a : Option Addr) (c : Nat) (xs : List UInt8) (m : Nat) : World := w.setCell ⟨r, 0, none⟩ (.slice (behind a c m) (xs.length - m) (c - m))

theorem next_kept (w : World) (r : Nat) (a : Option Addr) (c : Nat) (xs : List UInt8) (m : Nat) : Kept [r] w (nextW w r a c xs m) := (Kept.refl _ _).setCell (p := ⟨r, 0, none⟩) (fun _ => by simp) _

theorem Rd.next {w : World} {r : Nat} {a : Option Addr} {c : Nat} {xs : List UInt8} (h : Rd w r a c xs) {m : Nat} (hm : m ≤ xs.length) : Rd (nextW w r a c xs m) r (behind a c m) (c - m) (xs.drop m) := by
  have hle := h.le
  have hk := next_kept w r a c xs m
  refine ⟨by simpa [nextW] using one_setCell (u := .slice (behind a c m) (xs.length - m) (c - m)) h.here, by simp; omega, by have := h.max; omega, fun hb => ?_, fun x hx => ?_, fun x hx => ?_⟩
  · unfold behind at hb
    split at hb
    · omega
    · simp at hb; have := h.nil hb; omega
  · unfold behind at hx
    split at hx
    · rename_i hcm
      have hx0 : xs.drop m = [] := by simp; omega
      exact ⟨(h.src x hx).1, fun j b hj => by rw [hx0] at hj; simp at hj⟩
    · cases a with
      | none => simp at hx
      | some y =>
        simp at hx
        subst hx
        obtain ⟨hy1, hy2⟩ := h.src y rfl
        refine ⟨by rw [add_block]; exact hy1, fun j b hj => ?_⟩
        rw [add_add]
        rw [List.getElem?_drop] at hj
        have hc := hy2 (m + j) b hj
        exact (hk.cell (World.block_lt_of_cell? w _ hc) (by rw [add_block]; simpa using hy1)).trans hc
  · unfold behind at hx
    split at hx
    · exact h.plain x hx
    · cases a with
      | none => simp at hx
      | some y => simp at hx; subst hx; exact add_spot y m (h.plain y rfl)

/-- The bytes that were read, in the world behind. -/
theorem Rd.read {w : World} {r : Nat} {a : Option Addr} {c : Nat} {xs : List UInt8} (h : Rd w r a c xs) {m : Nat} (hm : m ≤ xs.length) {S : List Nat} {w' : World} (hk : Kept S w w') (hS : ∀ x, a = some x → x.block ∉ S) : SrcB w' (.slice a m m) (xs.take m) := by
  have hl : (xs.take m).length = m := by simp; omega
  cases a with
  | none =>
    have := h.nil rfl
    have := h.le
    have hm0 : m = 0 := by omega
    subst hm0
    exact Or.inl ⟨rfl, by simp, by simp⟩
  | some x =>
    refine Or.inr ⟨x, m, by rw [hl], fun j u hj => ?_⟩
    have hjl : j < m := by
      rcases Nat.lt_or_ge j m with h' | h'
      · exact h'
      · rw [List.getElem?_eq_none (by simp; omega)] at hj; simp at hj
    simp [List.getElem?_take, hjl] at hj
    obtain ⟨b, hb, rfl⟩ := hj
    have hc := (h.src x rfl).2 j b hb
    exact (hk.cell (World.block_lt_of_cell? w _ hc) (by rw [add_block]; exact hS x rfl)).trans hc

theorem raw_ok (r : Nat) (a : Option Addr) (c : Nat) (xs : List UInt8) (n : Int) (m : Nat) (hm : max n 0 = (m : Int)) (hle : m ≤ xs.length) (w : World) (h : Rd w r a c xs) :
    Calls Tryd.prog 53 #[.pointer (some ⟨r, 0, none⟩), .int .i64 n] w fun e w' => e = .returned (.slice a m m) ∧ nextW w r a c xs m = w' := by
  unfold nextW
  have hp := peek_ok r a c xs m hle w h
  have gc := cell_of_one h.here
  have gf := free_of_one h.here
  have h1 := h.le
  have h2 := h.max
  unfold maxLen at h2
  have hnil := hid h.nil
  clear h
  by_cases hn : n < 0
  · have hm0 : m = 0 := by omega
    subst hm0
    have hp := hid (show Calls _ _ #[_, .int .i64 0] _ _ from hp)
    clear hm
    cases a with
    | none =>
      have hc0 := hnil.out rfl
      have hx0 : xs.length = 0 := by omega
      subst hc0
      rw [hx0] at gc ⊢
      clear hx0 h1 hle
      go_enter Tryd.func53, Tryd.ntmps53
      go_wp2_with fail
      refine hp.out.mono ?_
      rintro e w' ⟨rfl, rfl⟩
      go_wp2
      go_ret
      exact ⟨rfl, by simp [behind]⟩
    | some x =>
      go_enter Tryd.func53, Tryd.ntmps53
      go_wp2_with fail
      refine hp.out.mono ?_
      rintro e w' ⟨rfl, rfl⟩
      by_cases hcm : c = 0
      · subst hcm
        go_wp2
        go_ret
        exact ⟨rfl, by have hx0 : xs.length = 0 := by omega
                       simp [behind, hx0]⟩
      · go_wp2
        go_ret
        exact ⟨rfl, by simp [behind, hcm, add_0]⟩
  · have hnm : n = (m : Int) := by omega
    subst hnm
    have hp := hid hp
    clear hm
    cases a with
    | none =>
      have hc0 := hnil.out rfl
      have hx0 : xs.length = 0 := by omega
      have hm0 : m = 0 := by omega
      subst hc0 hm0
      rw [hx0] at gc ⊢
      clear hx0 h1 hle
      go_enter Tryd.func53, Tryd.ntmps53
      go_wp2_with fail
      refine hp.out.mono ?_
      rintro e w' ⟨rfl, rfl⟩
      go_wp2
      go_ret
      exact ⟨by simp, by simp [behind]⟩
    | some x =>
      go_enter Tryd.func53, Tryd.ntmps53
      go_wp2_with fail
      refine hp.out.mono ?_
      rintro e w' ⟨rfl, rfl⟩
      by_cases hcm : c = m
      · subst hcm
        go_wp2
        go_ret
        exact ⟨by simp, by have hx0 : xs.length - c = 0 := by omega
                           simp [behind, hx0]⟩
      · go_wp2
        go_ret
        exact ⟨by simp, by simp [behind, hcm]⟩

theorem raw_short (r : Nat) (a : Option Addr) (c : Nat) (xs : List UInt8) (n : Int) (hn : (xs.length : Int) < n) (w : World) (h : Rd w r a c xs) :
    Calls Tryd.prog 53 #[.pointer (some ⟨r, 0, none⟩), .int .i64 n] w fun e w' => Thrown 39 (.int .i64 20) e ∧ w = w' := by
  have hp := hid (peek_short r a c xs n hn w h)
  have hn0 : ¬ n < 0 := by omega
  clear h
  go_enter Tryd.func53, Tryd.ntmps53
  go_wp2_with fail
  refine hp.out.mono ?_
  rintro e w' ⟨⟨older, rfl, hcalm⟩, rfl⟩
  exact ⟨rfl, ⟨older, rfl, hcalm⟩, rfl⟩

theorem left_any' (r : Nat) (a : Option Addr) (c : Nat) (xs : List UInt8) (w : World) (h : Rd w r a c xs) :
    Calls Tryd.prog 54 #[.pointer (some ⟨r, 0, none⟩)] w fun e w' => e = .returned (.int .i64 (xs.length : Nat)) ∧ w = w' := by
  have gc := cell_of_one h.here
  clear h
  go_enter Tryd.func54, Tryd.ntmps54
  go_wp2
  go_ret
  exact ⟨rfl, rfl⟩

theorem rnum_ok (r : Nat) (a : Option Addr) (c : Nat) (xs : List UInt8) (size : Int) (hle : sz size ≤ xs.length) (w : World) (h : Rd w r a c xs) :
    Calls Tryd.prog 51 #[.pointer (some ⟨r, 0, none⟩), .int .i64 size] w fun e w' => e = .returned (.int .u64 ((numOf (xs.take (sz size)) : Nat) : Int)) ∧ nextW w r a c xs (sz size) = w' := by
  have hr := hid (raw_ok r a c xs (sz size) (sz size) (by omega) hle w h)
  have hn := hid (number_any (.slice a (sz size) (sz size)) (xs.take (sz size)) (nextW w r a c xs (sz size)) (h.read hle (next_kept w r a c xs _) (fun x hx => by simpa using (h.src x hx).1)) (by have := sz_le size; simp; omega))
  clear h
  go_enter Tryd.func51, Tryd.ntmps51
  go_wp2_with fail
  refine (numsize_any size w).mono ?_
  rintro e w1 ⟨rfl, rfl⟩
  go_wp2_with fail
  refine hr.out.mono ?_
  rintro e w1 ⟨rfl, rfl⟩
  go_wp2_with fail
  refine hn.out.mono ?_
  rintro e w1 ⟨rfl, rfl⟩
  go_wp2
  go_ret
  exact ⟨rfl, rfl⟩

theorem rnum_short (r : Nat) (a : Option Addr) (c : Nat) (xs : List UInt8) (size : Int) (hlt : xs.length < sz size) (w : World) (h : Rd w r a c xs) :
    Calls Tryd.prog 51 #[.pointer (some ⟨r, 0, none⟩), .int .i64 size] w fun e w' => Thrown 39 (.int .i64 20) e ∧ w = w' := by
  have hr := hid (raw_short r a c xs (sz size) (by omega) w h)
  clear h
  go_enter Tryd.func51, Tryd.ntmps51
  go_wp2_with fail
  refine (numsize_any size w).mono ?_
  rintro e w1 ⟨rfl, rfl⟩
  go_wp2_with fail
  refine hr.out.mono ?_
  rintro e w1 ⟨⟨older, rfl, hcalm⟩, rfl⟩
  exact ⟨rfl, ⟨older, rfl, hcalm⟩, rfl⟩

/-- How long the next field is said to be. -/
def said (xs : List UInt8) : Nat := numOf (xs.take 4)
theorem said_lt (xs : List UInt8) : said xs < 4294967296 := by
  have h := numOf_lt (xs.take 4)
  have h2 : (xs.take 4).length ≤ 4 := by simp; omega
  have h3 : 256 ^ (xs.take 4).length ≤ 256 ^ 4 := Nat.pow_le_pow_right (by omega) h2
  unfold said
  omega

/-- The bytes of a field that was read: they stand behind its length. -/
theorem Rd.readField {w : World} {r : Nat} {a : Option Addr} {c : Nat} {xs : List UInt8} (h : Rd w r a c xs) {n : Nat} (hn : 4 + n ≤ xs.length) {S : List Nat} {w' : World} (hk : Kept S w w') (hS : ∀ x, a = some x → x.block ∉ S) :
    SrcB w' (.slice (behind a (4 + n) 4) n n) ((xs.drop 4).take n) := by
  have hl : ((xs.drop 4).take n).length = n := by simp; omega
  cases a with
  | none => have := h.nil rfl; have := h.le; omega
  | some x =>
    by_cases hn0 : n = 0
    · subst hn0
      exact Or.inr ⟨x, 0, by simp [behind], fun j u hj => by simp at hj⟩
    · have hb : behind (some x) (4 + n) 4 = some (x.add 4) := by unfold behind; rw [if_neg (by omega)]; rfl
      rw [hb]
      refine Or.inr ⟨x.add 4, n, by rw [hl], fun j u hj => ?_⟩
      have hjl : j < n := by
        rcases Nat.lt_or_ge j n with h' | h'
        · exact h'
        · rw [List.getElem?_eq_none (by simp; omega)] at hj; simp at hj
      simp [List.getElem?_take, hjl] at hj
      obtain ⟨b, hb, rfl⟩ := hj
      have hc := (h.src x rfl).2 (4 + j) b hb
      rw [add_add]
      exact (hk.cell (World.block_lt_of_cell? w _ hc) (by rw [add_block]; exact hS x rfl)).trans hc

theorem behind_plain {a : Option Addr} {c m : Nat} (h : ∀ x, a = some x → x.spot = none) : ∀ x, behind a c m = some x → x.spot = none := by
  intro x hx
  unfold behind at hx
  split at hx
  · exact h x hx
  · cases a with
    | none => simp at hx
    | some y => simp at hx; subst hx; exact add_spot y m (h y rfl)

/-- A slice of bytes, turned into a text. -/
theorem text_of (w : World) (a : Option Addr) (c : Nat) (ys : List UInt8) (hp : ∀ x, a = some x → x.spot = none) (h : SrcB w (.slice a ys.length c) ys) :
    (convert 29 9 (.slice a ys.length c)).run Tryd.prog w = .ok (.string ⟨ys.toArray⟩) w := by
  rcases h with ⟨h1, h2, _⟩ | ⟨x, c', h1, hc⟩
  · simp at h1
    obtain ⟨rfl, h1, rfl⟩ := h1
    have hy : ys = [] := List.eq_nil_of_length_eq_zero h2
    subst hy
    exact run_convert_bytes_nil (P := Tryd.prog) w _ _ Tryd.underlying29 Tryd.underlying5 0 0 _ Tryd.underlying9
  · simp at h1
    obtain ⟨rfl, rfl⟩ := h1
    have hx := hp x rfl
    obtain ⟨b, off, sp⟩ := x
    simp at hx
    subst hx
    have e : strOfNums (ys.map fun y => (y.toNat : Int)) = ⟨ys.toArray⟩ := by
      unfold strOfNums
      congr 1
      rw [List.map_map]
      congr 1
      conv => rhs; rw [← List.map_id ys]
      apply List.map_congr_left
      intro y _
      simp
    have := run_convert_bytes_arg (P := Tryd.prog) w _ _ Tryd.underlying29 Tryd.underlying5 b off ys.length c (ys.map fun y => (y.toNat : Int)) (by simp) (fun i hi => by
      have h2 := hc i (B ys[i]) (by simp [hi])
      have ea : (⟨b, off, none⟩ : Addr).add i = ⟨b, off + i, none⟩ := by unfold Addr.add; split <;> simp_all
      rw [ea] at h2
      simpa [B, hi] using h2) _ Tryd.underlying9
    rw [e] at this
    exact this
end Go.Proofs.YtembincggkpflaaDoor


/- code.Writer.Text: what it writes. -/
namespace Go.Proofs.YtembincggkpflaaDoor
open Go.RowKit Go.Lib

end Go.Proofs.YtembincggkpflaaDoor


/- code.Reader.Text: what it reads. -/
namespace Go.Proofs.YtembincggkpflaaDoor
open Go.RowKit Go.Lib

end Go.Proofs.YtembincggkpflaaDoor


/- code.Decode. -/
namespace Go.Proofs.YtembincggkpflaaDoor
open Go.RowKit Go.Lib

theorem enters_decode1 : Enters 65 := fun args w => by simp [go_sem]
theorem func3_neq_nil (fn : Fn) (a b : Array Value) (w : World) : (binOp .neq 102 (.func fn a b) .nilFunc).run Tryd.prog w = .ok (.bool true) w := by kernel_rfl

theorem decode1_any (k : Nat) (hk : Enters k) (caps : Array Value) (b rv rb : Nat) (w : World) (hb : w.heap[b]? = some (.cells #[.func (.func k) #[] caps] 102 (0, 0))) (hr : w.heap[rv]? = some (.cells #[.pointer (some ⟨rb, 0, none⟩)] 100 (0, 0)))
    (R : Int → World → Prop) (h : Calls Tryd.prog k (#[.pointer (some ⟨rb, 0, none⟩)] ++ caps) w (Threw R)) :
    Calls Tryd.prog 65 #[.pointer (some ⟨b, 0, none⟩), .pointer (some ⟨rv, 0, none⟩)] w (Threw R) := by
  have gb := cell_of_one hb
  have gr := cell_of_one hr
  have H := hid h
  have hne := func3_neq_nil
  clear h hb hr
  unfold Enters at hk
  go_enter Tryd.func65, Tryd.ntmps65
  go_wp2_with fail
  refine H.out.mono ?_
  rintro e w1 (⟨rfl, hR⟩ | ⟨n, ⟨older, rfl, hcalm⟩, hR⟩)
  · go_wp2
    go_end0
    exact Or.inl ⟨rfl, hR⟩
  · exact ⟨rfl, Or.inr ⟨n, ⟨older, rfl, hcalm⟩, hR⟩⟩

/-- Bytes of which a reading is made: its error, or else ErrMore, where bytes are left. -/
def Decoded (w : World) (S : List Nat) (Q : Int → List UInt8 → World → Prop) (e : Ending) (w' : World) : Prop :=
  ∃ n rest, e = .returned (.int .i64 (if n = 0 ∧ rest ≠ [] then 22 else n)) ∧ Kept S w w' ∧ Q n rest w'

/-- What a reading does to its reader, in block rb: it has rest left. -/
def ReadOn (rb : Nat) (a : Option Addr) (S : List Nat) (W : World) (Q : Int → List UInt8 → World → Prop) (n : Int) (W' : World) : Prop :=
  ∃ a' c' rest, Rd W' rb a' c' rest ∧ Kept (rb :: S) W W' ∧ (∀ x, a' = some x → ∃ y, a = some y ∧ x.block = y.block) ∧ Q n rest W'

theorem Rd.of_row {W : World} {rb base : Nat} {a : Option Addr} {c : Nat} {bs : List UInt8} (hr : W.heap[rb]? = some (.cells #[.slice a bs.length c] 114 (0, 0)))
    (ho : W.ownsRow base 5 1 (.slice a bs.length c) bs.length (bs.map B)) (hne : ∀ x, a = some x → x.block ≠ rb) : Rd W rb a c bs := by
  rcases ho.2 with ⟨h1, h2⟩ | ⟨g, cap, cur, hv, hg, hh, hc, hm, hs, ht⟩
  · simp at h1
    obtain ⟨rfl, h1, rfl⟩ := h1
    exact ⟨hr, by omega, by unfold maxLen; omega, fun _ => rfl, fun x hx => by simp at hx, fun x hx => by simp at hx⟩
  · simp at hv
    obtain ⟨rfl, rfl⟩ := hv
    refine ⟨hr, hc, hm, fun h => by simp at h, fun x hx => ⟨hne x hx, fun j b hj => ?_⟩, fun x hx => by simp at hx; subst hx; rfl⟩
    simp at hx
    subst hx
    exact ho.cells (g := g) rfl j (B b) (by simp [hj])

theorem row_block {W : World} {base : Nat} {a : Option Addr} {c n : Nat} {xs : List Value} (ho : W.ownsRow base 5 1 (.slice a n c) n xs) : ∀ x, a = some x → base ≤ x.block ∧ x.block < W.heap.size := by
  intro x hx
  rcases ho.2 with ⟨h1, h2⟩ | ⟨g, cap, cur, hv, hg, hh, _⟩
  · simp at h1; obtain ⟨rfl, _⟩ := h1; simp at hx
  · simp at hv; obtain ⟨rfl, rfl⟩ := hv; simp at hx; subst hx; exact ⟨hg, lt_of_block hh⟩

/-- Block x is a cell of an error. -/
def ErrAt (W : World) (x : Nat) : Prop := ∃ n : Int, W.heap[x]? = some (.cells #[.int .i64 n] 39 (0, 0))

set_option maxRecDepth 100000 in
set_option maxHeartbeats 1000000 in
theorem decode_any' (k : Nat) (hk : Enters k) (caps : Array Value) (sv : Value) (bs : List UInt8) (w : World) (hsrc : SrcB w sv bs) (hlen : bs.length ≤ 1000000000) (S : List Nat) (hS : ∀ x ∈ S, x < w.heap.size)
    (Q : Int → List UInt8 → World → Prop) (hQ : ∀ n rest W W' x, Q n rest W → w.heap.size ≤ x → ErrAt W x → Kept [x] W W' → Q n rest W')
    (h : ∀ rb a c W, Kept [] w W → w.heap.size ≤ rb → (∀ x, a = some x → w.heap.size ≤ x.block ∧ x.block < W.heap.size) → Rd W rb a c bs → Calls Tryd.prog k (#[.pointer (some ⟨rb, 0, none⟩)] ++ caps) W (Threw (ReadOn rb a S W Q))) :
    Calls Tryd.prog 49 #[sv, .func (.func k) #[] caps] w (Decoded w S Q) := by
  have hmf : ∀ (fn : Fn) (first cap : Array Value) (w : World), (Instr.makeFunc fn first cap).run Tryd.prog w = .ok (.func fn first cap) w := fun _ _ _ _ => rfl
  obtain ⟨i0, hi0, hz0, hz1, hz2⟩ := info_parts info_u8
  have Hs := hid hsrc; have HS := hid hS; have HQ := hid hQ; have H := hid h
  have hsrc1 := hid (hsrc.kept ((Kept.refl [] w).alloc (.cells #[.func (.func k) #[] caps] 102)) (by simp))
  clear hsrc hS hQ h
  go_enter Tryd.func49, Tryd.ntmps49
  go_wp2_with (at_builtin; refine halt ?_)
  refine Halt.mk ?_
  refine wpList_append_src _ rfl _ _ _ rfl (w.heap.size + 1) 5 i0 _ 1 Tryd.underlying29 hi0 hz0 hz1 hz2 rfl (.slice none 0 0) 0 [] rfl (World.ownsRow_nil _ _ _ 1) sv bs.length (bs.map B) rfl hsrc1.out (by simp) (B_oneCell bs) ?_ ?_ ?_ ?_
  · unfold maxLen; omega
  · omega
  · simp
  intro v2 w2 hown2 hgrow2 _ hf2
  simp only [Nat.zero_add, List.nil_append] at hown2
  obtain ⟨a2, c2, rfl⟩ := owns_slice hown2
  have hk2 := hid (show Kept [] w w2 from ((Kept.refl [] w).alloc _).trans (Kept.of_row hgrow2))
  have hb2 := hid (show w2.heap[w.heap.size]? = _ from (Kept.of_row hgrow2).at (heap_alloc_new' w (.cells #[.func (.func k) #[] caps] 102)) (by simp [Value.ownBlock]))
  have hrow := hid hown2
  clear hown2 hgrow2 hf2
  go_wp2_with fail
  obtain ⟨W0, hW0⟩ : ∃ W, W = ((w2.alloc (.cells #[.slice a2 bs.length c2] 114)).alloc (.cells #[.pointer (some ⟨w2.heap.size, 0, none⟩)] 100)) := ⟨_, rfl⟩
  have hkW := hid (show Kept [] w2 W0 from hW0 ▸ ((Kept.refl [] w2).alloc _).alloc _)
  have hrb := hid (show W0.heap[w2.heap.size]? = some (.cells #[.slice a2 bs.length c2] 114 (0, 0)) from hW0 ▸ heap_alloc_old (heap_alloc_at rfl))
  have hrv := hid (show W0.heap[w2.heap.size + 1]? = some (.cells #[.pointer (some ⟨w2.heap.size, 0, none⟩)] 100 (0, 0)) from hW0 ▸ heap_alloc_at (by simp))
  rw [← hW0]
  clear hW0
  have hblk := hid (row_block hrow.out)
  have hs2 := hk2.out.size
  have hsW := hkW.out.size
  have lrb := lt_of_block hrb.out
  have lrv := lt_of_block hrv.out
  have hnotin := hid (show W0.heap.size ∉ w2.heap.size :: S from fun hm => by
    rcases List.mem_cons.1 hm with hm | hm
    · omega
    · have := HS.out _ hm; omega)
  have hkE := hid ((Kept.refl [] W0).alloc (.cells #[.int .i64 0] 39))
  have hrun := hid (run_err 65 enters_decode1 #[.pointer (some ⟨w.heap.size, 0, none⟩), .pointer (some ⟨w2.heap.size + 1, 0, none⟩)] W0
    (ReadOn w2.heap.size a2 S (W0.alloc (.cells #[.int .i64 0] 39)) Q)
    ((decode1_any k hk caps w.heap.size (w2.heap.size + 1) w2.heap.size _ (hkE.out.at (hkW.out.at hb2.out (by simp)) (by simp)) (hkE.out.at hrv.out (by simp)) _
      (H.out w2.heap.size a2 c2 _ (hk2.out.trans (hkW.out.trans hkE.out)) (by omega) (fun x hx => by have := hblk.out x hx; have := hkE.out.size; omega)
        (Rd.of_row (hkE.out.at hrb.out (by simp)) (hkE.out.owns (hkW.out.owns hrow.out (by simp)) (by simp)) (fun x hx => by have := (hblk.out x hx).2; omega)))).mono fun e w' hx => by
      rcases hx with ⟨he, hR⟩ | ⟨n, he, hR⟩
      · refine Or.inl ⟨he, ?_, hR⟩
        obtain ⟨a', c', rest, _, hk, _⟩ := hR
        exact hk.at (heap_alloc_new' _ _) hnotin.out
      · refine Or.inr ⟨n, he, ?_, hR⟩
        obtain ⟨a', c', rest, _, hk, _⟩ := hR
        exact hk.at (heap_alloc_new' _ _) hnotin.out))
  refine hrun.out.mono ?_
  rintro e w4 ⟨n, w3, rfl, ⟨a', c', rest, hrd, hk3, hab, hq⟩, rfl⟩
  have hkE2 : Kept [W0.heap.size] w3 (w3.setCell ⟨W0.heap.size, 0, none⟩ (.int .i64 n)) := (Kept.refl _ _).setCell (p := ⟨W0.heap.size, 0, none⟩) (fun _ => by simp) _
  have hrd4 := hid (hrd.kept hkE2 (by simp; omega) (fun x hx => by
    obtain ⟨y, hy, hxy⟩ := hab x hx
    have := (hblk.out y hy).2
    simp; omega))
  have hrv4 := hkE2.at (hk3.at (hkE.out.at hrv.out (by simp)) (by simp; intro hm; have := HS.out _ hm; omega)) (by simp; omega)
  have grv := cell_of_one hrv4
  have hsz3 := hk3.size
  have hq4 := hid (HQ.out n rest _ _ W0.heap.size hq (by omega) ⟨0, (hk3.at (heap_alloc_new' _ _) hnotin.out)⟩ hkE2)
  have hk4 := hid (show Kept S w (w3.setCell ⟨W0.heap.size, 0, none⟩ (.int .i64 n)) from
    (((hk2.out.trans (hkW.out.trans hkE.out)).wider (T := S) (by simp)).trans' hk3 (fun x hx hm => by
      simp at hm
      rcases hm with hm | hm
      · omega
      · exact hm)).setCell (p := ⟨W0.heap.size, 0, none⟩) (fun h => absurd h (by simp; omega)) _)
  generalize w3.setCell ⟨W0.heap.size, 0, none⟩ (.int .i64 n) = w5 at *
  clear hrd hk3 hab hq hkE2 hrv4 hrun hsz3
  have hleft := hid (left_any' w2.heap.size a' c' rest w5 hrd4.out)
  by_cases hn : n = 0
  · subst hn
    go_wp2_with fail
    refine hleft.out.mono ?_
    rintro e w6 ⟨rfl, rfl⟩
    by_cases hr0 : rest.length = 0
    · have hre : rest = [] := List.eq_nil_of_length_eq_zero hr0
      subst hre
      clear hr0
      go_wp2
      go_ret
      exact ⟨0, [], by simp, hk4.out, hq4.out⟩
    · have hrp : 0 < (rest.length : Int) := by omega
      have hrne : rest ≠ [] := fun h => hr0 (by rw [h]; rfl)
      have Hrne := hid hrne
      clear hr0 hrne
      go_wp2
      go_ret
      exact ⟨0, rest, by simp [Hrne.out], hk4.out, hq4.out⟩
  · have hne : (n == 0) = false := by simpa using hn
    have Hn := hid hn
    clear hn
    go_wp2
    go_ret
    exact ⟨n, rest, by simp [Hn.out], hk4.out, hq4.out⟩

theorem decode_any (k : Nat) (hk : Enters k) (caps : Array Value) (sv : Value) (bs : List UInt8) (w : World) (hsrc : SrcB w sv bs) (hlen : bs.length ≤ 1000000000) (S : List Nat) (hS : ∀ x ∈ S, x < w.heap.size)
    (Q : Int → List UInt8 → World → Prop) (hQ : ∀ n rest W W', Q n rest W → Below w.heap.size W W' → Q n rest W')
    (h : ∀ rb a c W, Kept [] w W → w.heap.size ≤ rb → (∀ x, a = some x → w.heap.size ≤ x.block) → Rd W rb a c bs → Calls Tryd.prog k (#[.pointer (some ⟨rb, 0, none⟩)] ++ caps) W (Threw (ReadOn rb a S W Q))) :
    Calls Tryd.prog 49 #[sv, .func (.func k) #[] caps] w (Decoded w S Q) :=
  decode_any' k hk caps sv bs w hsrc hlen S hS Q (fun n rest W W' x hq hx ⟨_, he⟩ hk => hQ n rest W W' hq ⟨hk.os, hk.tape, hk.output, hk.size, fun j hj => hk.block j (by have := lt_of_block he; omega) (by simp; omega)⟩)
    (fun rb a c W hk hrb hab hrd => h rb a c W hk hrb (fun x hx => (hab x hx).1) hrd)
end Go.Proofs.YtembincggkpflaaDoor


/- coldstoreref01.Same; bytes that lie plain; where a reader's rest begins. -/
namespace Go.Proofs.YtembincggkpflaaDoor
open Go.RowKit Go.Lib

/-- A slice value that reads as bytes: nil or a row of plain cells. -/
def Bys (w : World) (a : Option Addr) (c : Nat) (xs : List UInt8) : Prop := SrcB w (.slice a xs.length c) xs ∧ (∀ x, a = some x → x.spot = none)
theorem Bys.kept {S : List Nat} {w w' : World} {a : Option Addr} {c : Nat} {xs : List UInt8} (h : Bys w a c xs) (hk : Kept S w w') (hS : ∀ x, a = some x → x.block ∉ S) : Bys w' a c xs :=
  ⟨h.1.kept hk (fun y hy => by
    cases a with
    | none => simp [Value.ownBlock] at hy
    | some x => simp [Value.ownBlock] at hy; exact hy ▸ hS x rfl), h.2⟩
theorem bys_of_row {W : World} {base : Nat} {a : Option Addr} {c : Nat} {xs : List UInt8} (ho : W.ownsRow base 5 1 (.slice a xs.length c) xs.length (xs.map B)) : Bys W a c xs := by
  rcases ho.2 with ⟨h1, h2⟩ | ⟨g, cap, cur, hv, hg, hh, hc, hm, hs, ht⟩
  · simp at h1
    obtain ⟨rfl, h1, rfl⟩ := h1
    exact ⟨Or.inl ⟨by simp [h2], h2, by rw [List.eq_nil_of_length_eq_zero h2]; rfl⟩, fun x hx => by simp at hx⟩
  · simp at hv
    obtain ⟨rfl, rfl⟩ := hv
    exact ⟨Or.inr ⟨_, c, rfl, ho.cells (g := g) rfl⟩, fun x hx => by simp at hx; subst hx; rfl⟩
theorem Bys.text {w : World} {a : Option Addr} {c : Nat} {xs : List UInt8} (h : Bys w a c xs) : (convert 29 9 (.slice a xs.length c)).run Tryd.prog w = .ok (.string ⟨xs.toArray⟩) w := text_of w a c xs h.2 h.1

theorem same_true (a b : Option Addr) (c d : Nat) (xs : List UInt8) (w : World) (ha : Bys w a c xs) (hb : Bys w b d xs) :
    Calls Tryd.prog 12 #[.slice a xs.length c, .slice b xs.length d] w fun e w' => e = .returned (.bool true) ∧ w = w' := by
  have h1 := ha.text
  have h2 := hb.text
  clear ha hb
  generalize xs.length = n at *
  go_enter Tryd.func12, Tryd.ntmps12
  go_wp2
  go_ret
  exact ⟨by simp, rfl⟩

theorem Wr.fresh (w : World) : Wr (w.alloc (.cells #[.slice none 0 0] 64)) w.heap.size (.slice none 0 0) [] := ⟨heap_alloc_new' _ _, World.ownsRow_nil _ _ _ 1⟩

theorem behind_block {a : Option Addr} {c m : Nat} : ∀ x, behind a c m = some x → ∃ y, a = some y ∧ x.block = y.block := by
  intro x hx
  unfold behind at hx
  split at hx
  · exact ⟨x, hx, rfl⟩
  · cases a with
    | none => simp at hx
    | some y => simp at hx; subst hx; exact ⟨y, rfl, add_block y m⟩
end Go.Proofs.YtembincggkpflaaDoor


/- code.Writer: Raw, Bytes. -/
namespace Go.Proofs.YtembincggkpflaaDoor
open Go.RowKit Go.Lib

theorem wraw (p : Nat) (v sv : Value) (xs ys : List UInt8) (w : World) (h : Wr w p v xs) (hsrc : SrcB w sv ys) (hlen : xs.length ≤ 1000000000) (hlen2 : ys.length ≤ 1000000000) :
    Calls Tryd.prog 27 #[.pointer (some ⟨p, 0, none⟩), sv] w fun e w' => e = .returned (.tuple #[]) ∧ Wrote p v w (xs ++ ys) w' := by
  have gc := cell_of_one h.1
  have gf := free_of_one h.1
  have H := hid h; have Hs := hid hsrc
  clear h hsrc
  obtain ⟨i0, hi0, hz0, hz1, hz2⟩ := info_parts info_u8
  go_enter Tryd.func27, Tryd.ntmps27
  go_wp2_with (at_builtin; refine halt ?_)
  refine Halt.mk ?_
  refine wpList_append_src _ rfl _ _ _ rfl (p + 1) 5 i0 _ 1 Tryd.underlying29 hi0 hz0 hz1 hz2 rfl v xs.length (xs.map B) rfl H.out.2 sv ys.length (ys.map B) rfl Hs.out (by simp) (B_oneCell ys) ?_ ?_ ?_ ?_
  · unfold maxLen; omega
  · omega
  · have := lt_of_block H.out.1; omega
  intro v2 w2 hown2 hgrow2 _ hf2
  obtain ⟨a2, c2, rfl⟩ := owns_slice hown2
  have hw2 := hid (wrote_of (ys := ys) H.out (Kept.refl [] w) (by simpa using hown2) hgrow2 hf2)
  have hg2 := heap_grown hgrow2 H.out.1 (fun e => by have := H.out.own_ne e; omega)
  have hgc := cell_of_one hg2
  have hgf := free_of_one hg2
  clear hown2 hgrow2 hf2 gc gf hg2
  go_wp2
  go_end0
  exact ⟨rfl, hw2.out⟩

end Go.Proofs.YtembincggkpflaaDoor


/- code.Reader.Bytes, at any bytes; guard.Run of a reading. -/
namespace Go.Proofs.YtembincggkpflaaDoor
open Go.RowKit Go.Lib

theorem numOf_numB (N k : Nat) : numOf (numB N k) = N % 256 ^ k := by
  induction k with
  | zero => simp [numB, numOf, Nat.mod_one]
  | succ k ih =>
    rw [numB_succ, numOf_snoc, ih, numB_len, Nat.pow_succ, Nat.mod_mul]
    simp

/-- What a field that is asked for is told as. -/
def fieldErr (xs : List UInt8) (most : Int) : Int := if xs.length < 4 then 20 else if max most 0 < (said xs : Int) then 2 else if xs.length < 4 + said xs then 20 else 0

theorem Bys.take {w : World} {a : Option Addr} {c : Nat} {xs : List UInt8} (h : Bys w a c xs) {n : Nat} (hn : n ≤ xs.length) (hne : xs ≠ []) : Bys w a c (xs.take n) := by
  have hl : (xs.take n).length = n := by simp; omega
  rcases h.1 with ⟨h1, h2, _⟩ | ⟨x, c', h1, hc⟩
  · exact absurd (List.eq_nil_of_length_eq_zero h2) hne
  · simp at h1
    obtain ⟨rfl, rfl⟩ := h1
    refine ⟨Or.inr ⟨x, c, rfl, fun j u hj => ?_⟩, h.2⟩
    have hjl : j < n := by
      rcases Nat.lt_or_ge j n with h' | h'
      · exact h'
      · rw [List.getElem?_eq_none (by simp; omega)] at hj; simp at hj
    exact hc j u (by simpa [List.getElem?_take, hjl] using hj)

/-- Bytes don't lie in an error's cell: they read as they did when it is set. -/
theorem Bys.err {w w' : World} {a : Option Addr} {c : Nat} {xs : List UInt8} (h : Bys w a c xs) {x : Nat} (hx : ErrAt w x) (hk : Kept [x] w w') : Bys w' a c xs := by
  cases xs with
  | nil =>
    refine ⟨?_, h.2⟩
    rcases h.1 with h1 | ⟨y, c', h1, _⟩
    · exact Or.inl h1
    · exact Or.inr ⟨y, c', h1, fun j u hj => by simp at hj⟩
  | cons b r =>
    refine h.kept hk (fun y hy hm => ?_)
    simp at hm
    obtain ⟨n, hn⟩ := hx
    rcases h.1 with ⟨_, h2, _⟩ | ⟨z, c', h1, hc⟩
    · simp at h2
    · simp at h1
      obtain ⟨h1, _⟩ := h1
      rw [hy] at h1
      simp at h1
      subst h1
      have h0 := hc 0 (B b) (by simp)
      rw [add_0] at h0
      have hp := h.2 y hy
      obtain ⟨bl, off, sp⟩ := y
      simp at hp hm
      subst hp hm
      unfold World.cell? at h0
      simp [hn] at h0
      rcases off with _ | off
      · simp [B] at h0
      · simp at h0

/-- A reading in an inner run: its error; what it did to the reader. -/
theorem run_read (k : Nat) (hk : Enters k) (caps : Array Value) (w : World) (rb : Nat) (a : Option Addr) (S : List Nat) (Q : Int → List UInt8 → World → Prop) (hrb : rb < w.heap.size) (hS : ∀ x ∈ S, x < w.heap.size) (ha : ∀ x, a = some x → x.block < w.heap.size)
    (hQ : ∀ n rest W W', Q n rest W → ErrAt W w.heap.size → Kept [w.heap.size] W W' → Q n rest W')
    (h : Calls Tryd.prog k caps (w.alloc (.cells #[.int .i64 0] 39)) (Threw (ReadOn rb a S (w.alloc (.cells #[.int .i64 0] 39)) Q))) :
    Calls Tryd.prog 64 #[.func (.func k) #[] caps] w fun e w' => ∃ n, e = .returned (.int .i64 n) ∧ ReadOn rb a S w Q n w' := by
  have hnew : ∀ {n W'}, ReadOn rb a S (w.alloc (.cells #[.int .i64 0] 39)) Q n W' → W'.heap[w.heap.size]? = some (.cells #[.int .i64 0] 39 (0, 0)) := fun ⟨_, _, _, _, hk, _⟩ =>
    hk.at (heap_alloc_new' _ _) (fun hm => by
      rcases List.mem_cons.1 hm with hm | hm
      · omega
      · have := hS _ hm; omega)
  refine (run_err k hk caps w (ReadOn rb a S (w.alloc (.cells #[.int .i64 0] 39)) Q) (h.mono ?_)).mono ?_
  · rintro e w' (⟨he, hq⟩ | ⟨n, he, hq⟩)
    · exact Or.inl ⟨he, hnew hq, hq⟩
    · exact Or.inr ⟨n, he, hnew hq, hq⟩
  · rintro e w' ⟨n, w1, rfl, hq, rfl⟩
    have he := hnew hq
    obtain ⟨a', c', rest, hrd, hk1, hab, hq⟩ := hq
    have hks : Kept [w.heap.size] w1 (w1.setCell ⟨w.heap.size, 0, none⟩ (.int .i64 n)) := (Kept.refl _ _).setCell (p := ⟨w.heap.size, 0, none⟩) (fun _ => by simp) _
    exact ⟨n, rfl, a', c', rest, hrd.kept hks (by simp; omega) (fun x hx => by
      obtain ⟨y, hy, hxy⟩ := hab x hx
      have := ha y hy
      simp; omega), (((Kept.refl (rb :: S) w).alloc _).trans hk1).trans' hks (fun x hx hm => by simp at hm; omega), hab, hQ _ _ _ _ hq ⟨0, he⟩ hks⟩
end Go.Proofs.YtembincggkpflaaDoor


/- Bytes as they were handed: written, turned into a text, held against others. -/
namespace Go.Proofs.YtembincggkpflaaDoor
open Go.RowKit Go.Lib

/-- A slice of bytes at any address, turned into a text. -/
theorem text_any (w : World) (a : Option Addr) (c : Nat) (ys : List UInt8) (h : SrcB w (.slice a ys.length c) ys) :
    (convert 29 9 (.slice a ys.length c)).run Tryd.prog w = .ok (.string ⟨ys.toArray⟩) w := by
  rcases h with ⟨h1, h2, _⟩ | ⟨x, c', h1, hc⟩
  · simp at h1
    obtain ⟨rfl, h1, rfl⟩ := h1
    have hy : ys = [] := List.eq_nil_of_length_eq_zero h2
    subst hy
    exact run_convert_bytes_nil (P := Tryd.prog) w _ _ Tryd.underlying29 Tryd.underlying5 0 0 _ Tryd.underlying9
  · simp at h1
    obtain ⟨rfl, rfl⟩ := h1
    have hl : (loadCells x ys.length).run Tryd.prog w = .ok ((ys.map fun y => (y.toNat : Int)).map (Value.int .u8)).toArray w := by
      have := run_loadCells_list (P := Tryd.prog) w x (ys.map B) hc
      have eB : (ys.map fun y => (y.toNat : Int)).map (Value.int .u8) = ys.map B := by rw [List.map_map]; rfl
      rw [eB]
      simpa using this
    rw [run_convert_bytes_string w _ _ _ _ ys.length c Tryd.underlying29 Tryd.underlying5 Tryd.underlying9, run_bytesToString w _ ys.length c _ hl, foldl_push_bytes]
    have e : (ys.map fun y => (y.toNat : Int)).map (fun n => UInt8.ofNat n.toNat) = ys := by
      rw [List.map_map]
      conv => rhs; rw [← List.map_id ys]
      apply List.map_congr_left
      intro y _
      simp
    rw [e]
    simp [ByteArray.empty, ByteArray.emptyWithCapacity]
    rfl

theorem same_src (a b : Option Addr) (c d : Nat) (xs : List UInt8) (w : World) (ha : SrcB w (.slice a xs.length c) xs) (hb : SrcB w (.slice b xs.length d) xs) :
    Calls Tryd.prog 12 #[.slice a xs.length c, .slice b xs.length d] w fun e w' => e = .returned (.bool true) ∧ w = w' := by
  have h1 := text_any w a c xs ha
  have h2 := text_any w b d xs hb
  clear ha hb
  generalize xs.length = n at *
  go_enter Tryd.func12, Tryd.ntmps12
  go_wp2
  go_ret
  exact ⟨by simp, rfl⟩

/-- A row of bytes that was handed. -/
theorem src_of_row {w : World} {a : Option Addr} {len cap : Nat} {zs : List Int} (h : (a = none ∧ len = 0 ∧ cap = 0 ∧ zs = []) ∨
    ∃ x, a = some x ∧ len ≤ cap ∧ cap ≤ maxLen ∧ zs.length = cap ∧ (∀ i, i < zs.length → w.cell? (x.add i) = some (.int .u8 (zs.getD i 0))) ∧ ∀ n ∈ zs, (Lit.int .u8 n).wf = true) :
    ∃ bs : List UInt8, bs.length = len ∧ SrcB w (.slice a bs.length cap) bs ∧ (a = none → cap = 0) ∧ len ≤ cap ∧ cap ≤ maxLen := by
  rcases h with ⟨rfl, rfl, rfl, rfl⟩ | ⟨x, rfl, h1, h2, h3, h4, h5⟩
  · exact ⟨[], rfl, Or.inl ⟨rfl, rfl, rfl⟩, fun _ => rfl, Nat.le_refl _, by unfold maxLen; omega⟩
  · have hl : ((zs.take len).map fun z => UInt8.ofNat z.toNat).length = len := by simp; omega
    refine ⟨(zs.take len).map fun z => UInt8.ofNat z.toNat, hl, Or.inr ⟨x, cap, rfl, fun j u hj => ?_⟩, fun h => by simp at h, h1, h2⟩
    have hjl : j < len := by
      rcases Nat.lt_or_ge j len with h' | h'
      · exact h'
      · rw [List.getElem?_eq_none (by simp; omega)] at hj; simp at hj
    have hz : j < zs.length := by omega
    simp [List.getElem?_take, hjl, hz] at hj
    subst hj
    rw [h4 j hz]
    have hw := bounds_u8 (h5 zs[j] (List.getElem_mem hz))
    simp [B, List.getD, hz]
    omega

theorem SrcB.take {w : World} {a : Option Addr} {c : Nat} {xs : List UInt8} (h : SrcB w (.slice a xs.length c) xs) {n : Nat} (hn : n ≤ xs.length) (hne : xs ≠ []) : SrcB w (.slice a (xs.take n).length c) (xs.take n) := by
  rcases h with ⟨h1, h2, _⟩ | ⟨x, c', h1, hc⟩
  · exact absurd (List.eq_nil_of_length_eq_zero h2) hne
  · simp at h1
    obtain ⟨rfl, rfl⟩ := h1
    refine Or.inr ⟨x, c, rfl, fun j u hj => ?_⟩
    have hjl : j < n := by
      rcases Nat.lt_or_ge j n with h' | h'
      · exact h'
      · rw [List.getElem?_eq_none (by simp; omega)] at hj; simp at hj
    exact hc j u (by simpa [List.getElem?_take, hjl] using hj)

theorem i64_and255 (n : Int) : bits .and .i64 n 255 = n % 256 := by
  have h7 : (BitVec.ofInt 64 255).toNat = 2 ^ 8 - 1 := by decide
  have key : (BitVec.ofInt 64 n &&& BitVec.ofInt 64 255).toNat = (n % ((2 ^ 64 : Nat) : Int)).toNat % 2 ^ 8 := by
    rw [BitVec.toNat_and, BitVec.toNat_ofInt, h7, Nat.and_two_pow_sub_one_eq_mod]
  show IntKind.i64.wrap ((BitVec.ofInt 64 n &&& BitVec.ofInt 64 255).toNat : Nat) = n % 256
  rw [key, IntKind.wrap_i64]
  omega
end Go.Proofs.YtembincggkpflaaDoor
