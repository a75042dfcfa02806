/- coldstorelaw04.few, coldstoreref04.Same; a cut chain, as lists; rows of bytes as an argument. -/
import Derived.Test.YtijkpnggehnmcabDoorSO
import Derived.Deep.Slices
namespace Go.Proofs.YtijkpnggehnmcabDoor
open Go.RowKit Go.Lib

/-- Are rows few, and short? -/
def fewB (rows : List (List UInt8)) : Bool := decide ((∀ r ∈ rows, r.length ≤ 100) ∧ rows.length ≤ 30)
theorem few04 (a : Option Addr) (c : Nat) (rows : List (List UInt8)) (w : World) (h : IsRows w a rows) (hm : rows.length ≤ 9223372036854775807) (hl : ∀ r ∈ rows, r.length ≤ 9223372036854775807) :
    Calls Tryd.prog 17 #[.slice a rows.length c] w fun e w' => e = .returned (.bool (fewB rows)) ∧ w = w' := by
  have H := hid h; have HL := hid hl
  clear h hl
  go_enter Tryd.func17, Tryd.ntmps17
  go_wp2_with fail
  go_loop [7] (fun s => ∃ i : Nat, i ≤ rows.length ∧ s = .int .i64 i ∧ Hid (∀ (j : Nat) (r : List UInt8), j < i → rows[j]? = some r → r.length ≤ 100)) (fun s => rows.length - (intOf s).toNat)
  case atStart => exact ⟨0, Nat.zero_le _, rfl, hid (fun j r hj => absurd hj (by omega))⟩
  case round =>
    obtain ⟨i, hi, rfl, hall⟩ := hrel
    by_cases hlt : i < rows.length
    · cases a with
      | none => exact absurd (H.out.1 rfl) (fun e => by rw [e] at hlt; simp at hlt)
      | some x =>
        obtain ⟨ar, cr, g0, _⟩ := H.out.2 x rfl i rows[i] (by simp [hlt])
        have hrl := HL.out _ (List.getElem_mem hlt)
        have hget := hid (show rows[i]? = some rows[i] by simp [hlt])
        have hmem := hid (List.getElem_mem hlt)
        generalize rows[i] = r at *
        by_cases h100 : 100 < r.length
        · have h100' : (100 : Int) < (r.length : Int) := by omega
          have HB := hid (show fewB rows = false from by
            unfold fewB
            simp only [decide_eq_false_iff_not]
            exact fun h => by have := h.1 _ hmem.out; omega)
          clear h100
          go_wp2
          go_ret
          exact ⟨by rw [HB.out]; rfl, rfl⟩
        · have h100' : ¬ (100 : Int) < (r.length : Int) := by omega
          go_wp2
          go_round
          case rel => exact ⟨i + 1, by omega, by go_num, hid (fun j r' hj ho => by
            rcases Nat.lt_or_ge j i with h | h
            · exact hall.out j r' h ho
            · have : j = i := by omega
              subst this
              rw [hget.out] at ho
              simp at ho
              subst ho
              omega)⟩
          case measure => simp [intOf]; omega
    · have hin : i = rows.length := by omega
      subst hin
      have HB := hid (show fewB rows = decide (rows.length ≤ 30) from by
        unfold fewB
        congr 1
        simp only [eq_iff_iff, and_iff_right_iff_imp]
        intro _ r hr
        obtain ⟨j, hj, rfl⟩ := List.getElem_of_mem hr
        exact hall.out j _ hj (by simp [hj]))
      go_wp2
      go_ret
      exact ⟨by rw [HB.out]; simp; omega, rfl⟩

set_option maxHeartbeats 1000000 in
theorem refsame_rows (a b : Option Addr) (c d : Nat) (rows : List (List UInt8)) (w : World) (ha : IsRows w a rows) (hb : IsRows w b rows) (hm : rows.length ≤ 9223372036854775807) :
    Calls Tryd.prog 20 #[.slice a rows.length c, .slice b rows.length d] w fun e w' => e = .returned (.bool true) ∧ Kept [] w w' := by
  have HA := hid ha; have HB := hid hb
  clear ha hb
  go_enter Tryd.func20, Tryd.ntmps20
  go_wp2_with fail
  go_loopw [5] (fun s wr => ∃ i : Nat, i ≤ rows.length ∧ s = .int .i64 i ∧ Hid (Kept [] w wr)) (fun s _ => rows.length - (intOf s).toNat)
  case atStart => exact ⟨0, Nat.zero_le _, rfl, hid (Kept.refl _ _)⟩
  case round =>
    obtain ⟨i, hi, rfl, hk⟩ := hrel
    by_cases hlt : i < rows.length
    · cases a with
      | none => exact absurd (HA.out.1 rfl) (fun e => by rw [e] at hlt; simp at hlt)
      | some x =>
        cases b with
        | none => exact absurd (HB.out.1 rfl) (fun e => by rw [e] at hlt; simp at hlt)
        | some y =>
          obtain ⟨ar, cr, g0, s0⟩ := (HA.out.kept hk.out).2 x rfl i rows[i] (by simp [hlt])
          obtain ⟨br, dr, g1, s1⟩ := (HB.out.kept hk.out).2 y rfl i rows[i] (by simp [hlt])
          have hsame := hid (fun n => (show Calls Tryd.prog 15 #[.slice ar rows[i].length cr, .slice br rows[i].length dr] (wr.drewN n) (fun e w' => e = .returned (.bool true) ∧ w' = wr.drewN n) from
            (same_src ar br cr dr rows[i] (wr.drewN n) (s0.kept ((Kept.refl [] wr).drewN n) (by simp)) (s1.kept ((Kept.refl [] wr).drewN n) (by simp))).mono fun e w' h => ⟨h.1, h.2.symm⟩))
          have hlt' : (i : Int) < (rows.length : Int) := by omega
          clear s0 s1
          generalize rows[i].length = rl at *
          go_wp2_with fail
          go_quiet ((go_at_call 15; exact Calls.quiet_of_same (hsame.out _)))
          have hk2 := hid (hk.out.drewN nq)
          generalize wr.drewN nq = W3 at *
          go_wp2
          go_roundw
          case rel => exact ⟨i + 1, by omega, by go_num, hk2⟩
          case measure => simp [intOf]; omega
    · have hin : i = rows.length := by omega
      subst hin
      go_wp2
      go_ret
      exact ⟨rfl, hk.out⟩

theorem chainB_append (xs ys : List (List UInt8)) : chainB (xs ++ ys) = chainB xs ++ chainB ys := by simp [chainB]

/-- A chain that is cut: its first rows, and what is left. -/
theorem unch_cut (rows : List (List UInt8)) (cut n : Nat) (hl : ∀ r ∈ rows, r.length < 4294967296) (hn : n ≤ rows.length) (hcut : cut ≤ (chainB rows).length) (hle : (chainB (rows.take n)).length ≤ cut)
    (hmore : ∀ r, rows[n]? = some r → cut < (chainB (rows.take n)).length + 8 + r.length) :
    Unch ((chainB rows).take cut) (rows.take n) (((chainB rows).take cut).drop (chainB (rows.take n)).length) := by
  have e0 : chainB rows = chainB (rows.take n) ++ chainB (rows.drop n) := by rw [← chainB_append, List.take_append_drop]
  have e1 : (chainB rows).take cut = chainB (rows.take n) ++ (chainB (rows.drop n)).take (cut - (chainB (rows.take n)).length) := by
    rw [e0, List.take_append, List.take_of_length_le hle]
  have e2 : ((chainB rows).take cut).drop (chainB (rows.take n)).length = (chainB (rows.drop n)).take (cut - (chainB (rows.take n)).length) := by
    rw [e1]; exact List.drop_left' rfl
  rw [e2, e1]
  have hstop : row1 ((chainB (rows.drop n)).take (cut - (chainB (rows.take n)).length)) = none := by
    rcases Nat.lt_or_ge n rows.length with hlt | hge
    · have hm := hmore rows[n] (by simp [hlt])
      have hr := hl rows[n] (List.getElem_mem hlt)
      have ed : chainB (rows.drop n) = linkB rows[n] ++ chainB (rows.drop (n + 1)) := by
        unfold chainB; rw [List.drop_eq_getElem_cons hlt, List.flatMap_cons]
      rw [ed]
      generalize hk : cut - (chainB (rows.take n)).length = k
      have hk8 : k < 8 + rows[n].length := by omega
      have hlen : ((linkB rows[n] ++ chainB (rows.drop (n + 1))).take k).length ≤ k := by simp; omega
      rcases Nat.lt_or_ge k 8 with h8 | h8
      · exact row1_short _ (by omega)
      · refine row1_err _ ?_
        have hs : said ((linkB rows[n] ++ chainB (rows.drop (n + 1))).take k) = rows[n].length := by
          have h3 := (row1_link rows[n] (chainB (rows.drop (n + 1))) hr).2.2
          unfold said at h3 ⊢
          rw [List.take_take, Nat.min_eq_left (by omega)]
          exact h3
        rw [hs]
        omega
    · have ed : chainB (rows.drop n) = [] := by rw [List.drop_eq_nil_of_le hge]; rfl
      rw [ed]
      exact row1_short _ (by simp)
  have := unch_chain (rows.take n) _ [] _ (fun r hr => hl r (List.mem_of_mem_take hr)) (Unch.stop _ hstop)
  rwa [List.append_nil] at this
end Go.Proofs.YtijkpnggehnmcabDoor
