/- Rows of bytes: coldstoreref01.Join, Same; coldstoreref04.Same. -/
import Derived.Test.YtllcfffpagogbaaDoorQN
namespace Go.Proofs.YtllcfffpagogbaaDoor
open Go.RowKit Go.Lib

/-- A slice of slices of bytes, as rows. -/
def RV (W : World) (av : Option Addr) (rows : List (List UInt8)) : Prop := ∀ i r, rows[i]? = some r → ∃ ad a c, av = some ad ∧ W.cell? (ad.add i) = some (.slice a r.length c) ∧ Sl W a c r
theorem RV.kept {w w' : World} {av : Option Addr} {rows : List (List UInt8)} (h : RV w av rows) (hk : Kept [] w w') : RV w' av rows := fun i r hr => by
  obtain ⟨ad, a, c, h1, h2, h3⟩ := h i r hr
  exact ⟨ad, a, c, h1, (hk.cell (World.block_lt_of_cell? w _ h2) (by simp)).trans h2, h3.kept hk (by simp)⟩
theorem RV.take {w : World} {av : Option Addr} {rows : List (List UInt8)} (h : RV w av rows) (n : Nat) : RV w av (rows.take n) := fun i r hr => by
  rw [List.getElem?_take] at hr
  split at hr
  · exact h i r hr
  · cases hr
theorem RV.drop {w : World} {ad : Addr} {rows : List (List UInt8)} (h : RV w (some ad) rows) (n : Nat) : RV w (some (ad.add n)) (rows.drop n) := fun i r hr => by
  rw [List.getElem?_drop] at hr
  obtain ⟨ad', a, c, h1, h2, h3⟩ := h (n + i) r hr
  cases h1
  exact ⟨_, a, c, rfl, by rw [add_add]; exact h2, h3⟩
/-- The row that Split hands back. -/
theorem rv_of {w : World} {base : Nat} {v : Value} {xs : List Piece} (h : w.ownsRow base 25 1 v xs.length (xs.map pval)) (hp : PiecesAt w base xs) : ∃ av cv, v = .slice av xs.length cv ∧ xs.length ≤ cv ∧ cv ≤ 9223372036854775807 ∧ RV w av (xs.map (·.ys)) ∧ ∀ y, av = some y → y.off = 0 ∧ y.spot = none := by
  rcases h.2 with ⟨h1, h2⟩ | ⟨gv, cap, cur, h1, hb, hh, h3, h4, _⟩
  · have : xs = [] := List.eq_nil_of_length_eq_zero h2
    subst this
    exact ⟨none, 0, h1, by simp, by omega, fun i r hr => by simp at hr, fun y hy => by cases hy⟩
  · refine ⟨_, cap, h1, h3, by unfold maxLen at h4; omega, fun i r hr => ?_, fun y hy => by cases hy; exact ⟨rfl, rfl⟩⟩
    rw [List.getElem?_map] at hr
    obtain ⟨x, hx, rfl⟩ := Option.map_eq_some_iff.1 hr
    exact ⟨_, x.a, x.c, rfl, h.cells (g := gv) (by rw [h1]; rfl) i (pval x) (by rw [List.getElem?_map, hx]; rfl), (hp x (List.mem_of_getElem? hx)).1⟩

theorem same19 (a b : Option Addr) (c d : Nat) (ys : List UInt8) (w : World) (ha : Sl w a c ys) (hb : Sl w b d ys) :
    Calls Tryd.prog 17 #[.slice a ys.length c, .slice b ys.length d] w fun e w' => e = .returned (.bool true) ∧ w = w' := by
  have h1 := qtext w a c ys ha
  have h2 := qtext w b d ys hb
  clear ha hb
  generalize ys.length = n at *
  go_enter Tryd.func17, Tryd.ntmps17
  go_wp2
  go_ret
  exact ⟨by simp, rfl⟩

set_option maxHeartbeats 1000000 in
theorem same16 (a b : Option Addr) (c d : Nat) (rows : List (List UInt8)) (w : World) (ha : RV w a rows) (hb : RV w b rows) (hm : rows.length ≤ 1000000000) (hc : rows.length ≤ c ∧ c ≤ 9223372036854775807) (hd : rows.length ≤ d ∧ d ≤ 9223372036854775807) :
    Calls Tryd.prog 14 #[.slice a rows.length c, .slice b rows.length d] w fun e w' => e = .returned (.bool true) ∧ Kept [] w w' := by
  have HA := hid ha; have HB := hid hb
  clear ha hb
  go_enter Tryd.func14, Tryd.ntmps14
  go_wp2_with fail
  go_loopw [5] (fun s wr => ∃ i : Nat, i ≤ rows.length ∧ s = .int .i64 i ∧ Hid (Kept [] w wr)) (fun s _ => rows.length - (intOf s).toNat)
  case atStart => exact ⟨0, Nat.zero_le _, rfl, hid (Kept.refl _ _)⟩
  case round =>
    obtain ⟨i, hi, rfl, hk⟩ := hrel
    by_cases hlt : i < rows.length
    · obtain ⟨x, ar, cr, rfl, g0, s0⟩ := HA.out.kept hk.out i rows[i] (by simp [hlt])
      obtain ⟨y, br, dr, rfl, g1, s1⟩ := HB.out.kept hk.out i rows[i] (by simp [hlt])
      have hsame := hid (fun n => (show Calls Tryd.prog 17 #[.slice ar rows[i].length cr, .slice br rows[i].length dr] (wr.drewN n) (fun e w' => e = .returned (.bool true) ∧ w' = wr.drewN n) from
        (same19 ar br cr dr rows[i] (wr.drewN n) (s0.kept ((Kept.refl [] wr).drewN n) (by simp)) (s1.kept ((Kept.refl [] wr).drewN n) (by simp))).mono fun e w' h => ⟨h.1, h.2.symm⟩))
      have hlt' : (i : Int) < (rows.length : Int) := by omega
      clear s0 s1
      generalize rows[i].length = rl at *
      go_wp2_with fail
      go_quiet ((go_at_call 17; exact Calls.quiet_of_same (hsame.out _)))
      have hk2 := hid (hk.out.drewN nq)
      generalize wr.drewN nq = W3 at *
      go_wp2
      go_roundw
      case rel => exact ⟨i + 1, by omega, by go_num, hk2⟩
      case measure => simp [intOf]; omega
    · have hin : i = rows.length := by omega
      subst hin
      go_wp2
      go_ret
      exact ⟨rfl, hk.out⟩

set_option maxHeartbeats 1000000 in
theorem join20 (a : Option Addr) (c : Nat) (rows : List (List UInt8)) (w : World) (ha : RV w a rows) (hm : rows.length ≤ 1000000 ∧ rows.flatten.length ≤ 100000000) (hc : rows.length ≤ c ∧ c ≤ 9223372036854775807) :
    Calls Tryd.prog 18 #[.slice a rows.length c] w fun e w' => ∃ a' c', e = .returned (.slice a' rows.flatten.length c') ∧ Kept [] w w' ∧ Sl w' a' c' rows.flatten := by
  obtain ⟨i0, hi0, hz0, hz1, hz2⟩ := info_parts qinfo8
  have HA := hid ha
  clear ha
  go_enter Tryd.func18, Tryd.ntmps18
  go_wp2_with fail
  have hst0 := hid (show Kept [] w (w.alloc (.cells #[] 5)) ∧ (w.alloc (.cells #[] 5)).ownsRow w.heap.size 5 1 (.slice (some ⟨w.heap.size, 0, none⟩) 0 0) ((rows.take 0).flatten).length (((rows.take 0).flatten).map B) from
    ⟨(Kept.refl _ _).alloc _, by simpa using World.ownsRow_made w (base := w.heap.size) (e := 5) (size := 1) #[] 0 (Nat.le_refl _) (by decide) (by simp)⟩)
  go_loopw [3, 4] (fun v s wr => ∃ i : Nat, i ≤ rows.length ∧ s = .int .i64 i ∧ Hid (Kept [] w wr ∧ wr.ownsRow w.heap.size 5 1 v ((rows.take i).flatten).length (((rows.take i).flatten).map B))) (fun _ s _ => rows.length - (intOf s).toNat)
  case atStart => exact ⟨0, Nat.zero_le _, rfl, hst0⟩
  case round =>
    clear hst0
    obtain ⟨i, hi, rfl, hs⟩ := hrel
    obtain ⟨hk, hown⟩ := hs.out
    obtain ⟨av, cv, rfl⟩ := qslice hown
    by_cases hlt : i < rows.length
    · obtain ⟨x, ar, cr, rfl, g0, s0⟩ := HA.out.kept hk i rows[i] (by simp [hlt])
      have hfl : (rows.take (i + 1)).flatten = (rows.take i).flatten ++ rows[i] := by rw [List.take_succ_eq_append_getElem hlt, List.flatten_append, List.flatten_cons, List.flatten_nil, List.append_nil]
      have hle : (rows.take (i + 1)).flatten.length ≤ rows.flatten.length := by
        conv => rhs; rw [← List.take_append_drop (i + 1) rows, List.flatten_append, List.length_append]
        omega
      rw [hfl, List.length_append] at hle
      obtain ⟨acc, hacc⟩ : ∃ x, x = (rows.take i).flatten := ⟨_, rfl⟩
      obtain ⟨r, hr⟩ : ∃ x, x = rows[i] := ⟨_, rfl⟩
      rw [← hacc, ← hr] at hfl hle
      rw [← hacc] at hown ⊢
      rw [← hr] at g0 s0
      have Hfl := hid hfl
      have hlt' : (i : Int) < (rows.length : Int) := by omega
      have hsz := hk.size
      have hsrc : Src wr (.slice ar r.length cr) r.length (r.map B) := by
        cases ar with
        | none => have h1 := s0.nil rfl; have h2 := s0.reads.1 rfl; subst h2; subst h1; exact .inl ⟨rfl, rfl, rfl⟩
        | some z => exact .inr ⟨z, cr, rfl, fun j u hj => s0.reads.2 z rfl j u hj⟩
      clear hfl hacc hr s0 hs
      go_wp2_with (at_builtin; refine halt ?_)
      refine Halt.mk ?_
      refine wpList_append_src _ rfl _ _ _ rfl w.heap.size 5 i0 _ 1 Tryd.underlying25 hi0 hz0 hz1 hz2 rfl (.slice av acc.length cv) acc.length (acc.map B) rfl hown (.slice ar r.length cr) r.length (r.map B) rfl hsrc (by simp) (qone r) ?_ ?_ ?_ ?_
      · unfold maxLen; omega
      · omega
      · omega
      intro v2 w2 hown2 hgrow2 _ hf2
      obtain ⟨a2, c2, rfl⟩ := qslice hown2
      have hk2 := hid (show Kept [] w w2 from hk.trans' (Kept.of_row hgrow2) (fun y hy hm => by simp at hm; have := (qown_ge hown y hm).1; omega))
      have Hown2 := hid hown2
      clear hown2 hgrow2 hf2
      go_wp2_with fail
      exact ⟨⟨i + 1, by omega, by go_num, hid ⟨hk2.out, by rw [Hfl.out]; simpa using Hown2.out⟩⟩, by simp [intOf]; omega⟩
    · have hin : i = rows.length := by omega
      subst hin
      rw [List.take_length] at hown ⊢
      have Hk := hid hk
      have Hs := hid (sl_of_own hown).1
      clear hown hk hs
      go_wp2
      go_ret
      exact ⟨_, _, rfl, Hk.out, Hs.out⟩
end Go.Proofs.YtllcfffpagogbaaDoor
