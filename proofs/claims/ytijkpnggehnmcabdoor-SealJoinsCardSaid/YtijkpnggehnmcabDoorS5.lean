/- seal.link, seal.Chain. -/
import Derived.Test.YtijkpnggehnmcabDoorS4
namespace Go.Proofs.YtijkpnggehnmcabDoor
open Go.RowKit Go.Lib

/-- A row of rows of bytes, wherever it lies. -/
def IsRows (w : World) (a : Option Addr) (rows : List (List UInt8)) : Prop :=
  (a = none → rows = []) ∧ ∀ x, a = some x → ∀ i r, rows[i]? = some r → ∃ ar cr, w.cell? (x.add i) = some (.slice ar r.length cr) ∧ SrcB w (.slice ar r.length cr) r

theorem IsRows.kept {w w' : World} {a : Option Addr} {rows : List (List UInt8)} (h : IsRows w a rows) (hk : Kept [] w w') : IsRows w' a rows :=
  ⟨h.1, fun x hx i r hi => by
    obtain ⟨ar, cr, h1, h2⟩ := h.2 x hx i r hi
    exact ⟨ar, cr, (hk.cell (World.block_lt_of_cell? w _ h1) (by simp)).trans h1, h2.kept hk (by simp)⟩⟩

/-- A row as it stands in a chain; a chain. -/
def linkB (r : List UInt8) : List UInt8 := withSum (numB r.length 4 ++ r)
theorem linkB_len (r : List UInt8) : (linkB r).length = r.length + 8 := by simp [linkB, withSum_len, numB_len]; omega
def chainB (rows : List (List UInt8)) : List UInt8 := rows.flatMap linkB
theorem chainB_snoc (rows : List (List UInt8)) (i : Nat) (h : i < rows.length) : chainB (rows.take (i + 1)) = chainB (rows.take i) ++ linkB rows[i] := by
  unfold chainB
  rw [List.take_succ_eq_append_getElem h, List.flatMap_append, List.flatMap_cons, List.flatMap_nil, List.append_nil]
theorem chainB_len {rows : List (List UInt8)} {M : Nat} (h : ∀ r ∈ rows, r.length ≤ M) (i : Nat) : (chainB (rows.take i)).length ≤ (M + 8) * i := by
  induction i with
  | zero => simp [chainB]
  | succ i ih =>
    by_cases hi : i < rows.length
    · rw [chainB_snoc rows i hi, List.length_append, linkB_len, Nat.mul_succ]
      have := h _ (List.getElem_mem hi)
      omega
    · rw [List.take_of_length_le (by omega)] at ih ⊢
      rw [Nat.mul_succ]
      omega

/-- A writer of the call's own, in block p; nothing that was there has turned. -/
def WAt (p : Nat) (w : World) (xs : List UInt8) (wr : World) : Prop := Kept [] w wr ∧ ∃ v, Wr wr p v xs ∧ ∀ g, v.ownBlock = some g → w.heap.size ≤ g
theorem WAt.step {p : Nat} {w wr w1 w2 : World} {ys : List UInt8} {v : Value} (hp : w.heap.size ≤ p) (hk : Kept [] w wr) (hv : ∀ g, v.ownBlock = some g → w.heap.size ≤ g) (hk1 : Kept [] wr w1) (h : Wrote p v w1 ys w2) : WAt p w ys w2 := by
  obtain ⟨v', hk2, hw, hf⟩ := h
  refine ⟨(hk.trans hk1).trans' hk2 (fun x hx hm => ?_), v', hw, fun g hg => ?_⟩
  · simp at hm
    rcases hm with hm | hm
    · omega
    · have := hv x hm; omega
  · rcases hf g hg with h | h
    · exact hv g h
    · exact Nat.le_trans (hk.trans hk1).size h

theorem own_later {w' : World} {base b : Nat} {v : Value} {n : Nat} {xs : List Value} (hb : b ≤ base) (h : w'.ownsRow base 5 1 v n xs) : w'.ownsRow b 5 1 v n xs :=
  ⟨h.1, h.2.imp id fun ⟨g, cap, cur, h1, h2, h3⟩ => ⟨g, cap, cur, h1, Nat.le_trans hb h2, h3⟩⟩

theorem link_any (sv : Value) (r : List UInt8) (w : World) (hsrc : SrcB w sv r) (ht : Tab w) (hlen : r.length ≤ 400000000) :
    Calls Tryd.prog 32 #[sv] w (Gives w [] (linkB r)) := by
  have hfr := Wr.fresh w
  have hk0 := hid ((Kept.refl [] w).alloc (.cells #[.slice none 0 0] 53))
  have hpos := ht.pos
  have hw1 := hid (wbytes_st w.heap.size _ sv [] r _ hfr (hsrc.kept hk0.out (by simp)) (fun w' hk => hsrc.kept (hk0.out.trans' hk (fun x hx hm => by simp [Value.ownBlock] at hm; omega)) (by simp)) (by simp) (by omega))
  obtain ⟨a, c, rfl⟩ := hsrc.size
  have Ht := hid ht
  clear hsrc ht hfr
  go_enter Tryd.func32, Tryd.ntmps32
  go_wp2_with fail
  refine hw1.out.mono ?_
  rintro e w1 ⟨rfl, v1, hk1, hwr1, hf1⟩
  have Hk1 := hid (hk0.out.trans' hk1 (fun x hx hm => by simp [Value.ownBlock] at hm; omega))
  have hf1' := hid (show ∀ g, v1.ownBlock = some g → w.heap.size + 1 ≤ g from fun g hg => by
    rcases hf1 g hg with h | h
    · simp [Value.ownBlock] at h
    · simpa using h)
  rw [List.nil_append] at hwr1
  have hw3 := hid (show Calls _ _ _ _ (Gives w1 (w.heap.size :: v1.ownBlock.toList) (linkB r)) from summed_any w.heap.size v1 (numB r.length 4 ++ r) w1 hwr1 (Ht.out.kept Hk1.out (by simp)) hpos (by simp [numB_len]; omega))
  clear hk1 hwr1 hf1 hw1
  go_wp2_with fail
  refine hw3.out.mono ?_
  rintro e w3 ⟨a3, c3, rfl, hk3, hown3⟩
  have Hk3 := hid hk3; have Ho3 := hid hown3
  clear hk3 hown3 hw3
  go_wp2
  go_ret
  exact ⟨a3, c3, rfl, Hk1.out.trans' Hk3.out (fun x hx hm => by
    simp at hm
    rcases hm with hm | hm
    · omega
    · have := hf1'.out x hm; omega), own_later Hk1.out.size Ho3.out⟩

set_option maxHeartbeats 1000000 in
theorem chain_any (a : Option Addr) (c : Nat) (rows : List (List UInt8)) (w : World) (h : IsRows w a rows) (ht : Tab w) (hn : rows.length ≤ 1000) (hlen : ∀ r ∈ rows, r.length ≤ 100000) :
    Calls Tryd.prog 18 #[.slice a rows.length c] w (Gives w [] (chainB rows)) := by
  have hfr := Wr.fresh w
  have hat0 := hid (show WAt w.heap.size w (chainB (rows.take 0)) (w.alloc (.cells #[.slice none 0 0] 53)) from ⟨(Kept.refl [] w).alloc _, _, by simpa [chainB] using hfr, fun g hg => by simp [Value.ownBlock] at hg⟩)
  have hpos := ht.pos
  have H := hid h; have Ht := hid ht; have Hlen := hid hlen
  clear h ht hfr hlen
  go_enter Tryd.func18, Tryd.ntmps18
  go_wp2_with fail
  go_loopw [8] (fun s wr => ∃ i : Nat, i ≤ rows.length ∧ s = .int .i64 i ∧ WAt w.heap.size w (chainB (rows.take i)) wr) (fun s _ => rows.length - (intOf s).toNat)
  case atStart => exact ⟨0, Nat.zero_le _, rfl, hat0.out⟩
  case round =>
    obtain ⟨i, hi, rfl, hat⟩ := hrel
    have HAt := hid hat
    clear hat
    by_cases hlt : i < rows.length
    · cases a with
      | none => exact absurd (H.out.1 rfl) (fun e => by rw [e] at hlt; simp at hlt)
      | some x =>
        obtain ⟨hkw, v, hwr, hv⟩ := HAt.out
        obtain ⟨ar, cr, g0, hsrc⟩ := (H.out.kept hkw).2 x rfl i rows[i] (by simp [hlt])
        have hsn := hid (chainB_snoc rows i hlt)
        have hl := hid (Hlen.out _ (List.getElem_mem hlt))
        have hcl := hid (chainB_len Hlen.out i)
        have hlk := hid (link_any _ rows[i] wr hsrc (Ht.out.kept hkw (by simp)) (by have := hl.out; omega))
        have Hkw := hid hkw; have Hwr := hid hwr; have Hv := hid hv
        clear hkw hwr hv hsrc HAt
        generalize rows[i] = r at *
        go_wp2_with fail
        refine hlk.out.mono ?_
        rintro e w1 ⟨a1, c1, rfl, hk1, ho1⟩
        have hcm := Nat.mul_le_mul_left 100008 (show i ≤ 1000 by omega)
        have hw2 := hid (wraw w.heap.size v _ (chainB (rows.take i)) (linkB r) w1 (Hwr.out.kept hk1 (by simp) (by simp)) (ownsRow_src ho1) (by have := hcl.out; omega) (by rw [linkB_len]; have := hl.out; omega))
        have Hk1 := hid hk1
        clear hk1 ho1 hlk hcm
        go_wp2_with fail
        refine hw2.out.mono ?_
        rintro e w2 ⟨rfl, hwrote⟩
        have hat2 := hid (WAt.step (Nat.le_refl _) Hkw.out Hv.out Hk1.out hwrote)
        clear hwrote hw2
        go_wp2
        go_roundw
        case rel => exact ⟨i + 1, by omega, by go_num, by rw [hsn.out]; exact hat2.out⟩
        case measure => simp [intOf]; omega
    · have hin : i = rows.length := by omega
      subst hin
      obtain ⟨hkw, v, hwr, hv⟩ := HAt.out
      rw [List.take_length] at hwr
      have hcl := hid (chainB_len Hlen.out rows.length)
      have hcm := Nat.mul_le_mul_left 100008 hn
      have hd := hid (wdone' w.heap.size v (chainB rows) wr hwr (by have := hcl.out; rw [List.take_length] at this; omega))
      have Hkw := hid hkw
      clear hkw hwr hv HAt hcm
      go_wp2_with fail
      refine hd.out.mono ?_
      rintro e w1 ⟨a1, c1, rfl, hk1, ho1⟩
      have Hk1 := hid hk1; have Ho1 := hid ho1
      clear hk1 ho1 hd
      go_wp2
      go_ret
      exact ⟨a1, c1, rfl, Hkw.out.trans Hk1.out, own_later Hkw.out.size Ho1.out⟩
end Go.Proofs.YtijkpnggehnmcabDoor
