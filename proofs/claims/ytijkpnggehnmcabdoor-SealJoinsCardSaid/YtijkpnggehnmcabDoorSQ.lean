/- coldstorelaw04.SealCuts: the walk. -/
import Derived.Test.YtijkpnggehnmcabDoorSP
namespace Go.Proofs.YtijkpnggehnmcabDoor
open Go.RowKit Go.Lib

theorem i64_and16 (n : Int) : bits .and .i64 n 65535 = n % 65536 := by
  have h7 : (BitVec.ofInt 64 65535).toNat = 2 ^ 16 - 1 := by decide
  have key : (BitVec.ofInt 64 n &&& BitVec.ofInt 64 65535).toNat = (n % ((2 ^ 64 : Nat) : Int)).toNat % 2 ^ 16 := by
    rw [BitVec.toNat_and, BitVec.toNat_ofInt, h7, Nat.and_two_pow_sub_one_eq_mod]
  show IntKind.i64.wrap ((BitVec.ofInt 64 n &&& BitVec.ofInt 64 65535).toNat : Nat) = n % 65536
  rw [key, IntKind.wrap_i64]
  omega
theorem cut_at (cut0 : Int) (n : Nat) : ∃ p : Nat, (bits .and .i64 cut0 65535).tmod ((n : Int) + 1) = (p : Int) ∧ p ≤ n := by
  rw [i64_and16]
  have h0 : 0 ≤ cut0 % 65536 := by omega
  have e : (cut0 % 65536).tmod ((n : Int) + 1) = (cut0 % 65536) % ((n : Int) + 1) := Int.tmod_eq_emod_of_nonneg h0
  have h1 := Int.emod_nonneg (cut0 % 65536) (show (n : Int) + 1 ≠ 0 by omega)
  have h2 := Int.emod_lt_of_pos (cut0 % 65536) (show 0 < (n : Int) + 1 by omega)
  exact ⟨((cut0 % 65536) % ((n : Int) + 1)).toNat, by omega, by omega⟩

theorem IsRows.take {w : World} {a : Option Addr} {rows : List (List UInt8)} (h : IsRows w a rows) (n : Nat) : IsRows w a (rows.take n) :=
  ⟨fun ha => by rw [h.1 ha]; simp, fun x hx i r hi => h.2 x hx i r (by
    rw [List.getElem?_take] at hi
    split at hi
    · exact hi
    · simp at hi)⟩
theorem rows_is {P : Nat → Prop} {W : World} {base : Nat} {a : Option Addr} {c : Nat} {vals : List Value} {rows : List (List UInt8)} (ho : W.ownsRow base 22 1 (.slice a rows.length c) rows.length vals) (hr : RowsAt P W vals rows) : IsRows W a rows := by
  rcases ho.2 with ⟨hv, h0⟩ | ⟨g, cap, cur, hv, _⟩
  · simp at hv
    have hx : rows = [] := List.eq_nil_of_length_eq_zero h0
    exact ⟨fun _ => hx, fun x h => by rw [hv.1] at h; simp at h⟩
  · simp at hv
    obtain ⟨rfl, rfl⟩ := hv
    refine ⟨fun h => by simp at h, fun x hx i r hi => ?_⟩
    simp at hx
    subst hx
    obtain ⟨a', c', h1, h2, _⟩ := hr.2 i r hi
    exact ⟨a', c', ho.cells (g := g) rfl i _ h1, h2.1⟩

set_option maxRecDepth 100000 in
set_option maxHeartbeats 1500000 in
theorem sealcuts (a : Option Addr) (c : Nat) (rows : List (List UInt8)) (cut0 : Int) (w : World) (h : IsRows w a rows) (ht : Tab w) (hm : rows.length ≤ 9223372036854775807) (hrl : ∀ r ∈ rows, r.length ≤ 9223372036854775807) (hcap : rows.length ≤ c ∧ c ≤ 9223372036854775807 ∧ (a = none → c = 0)) :
    Calls Tryd.prog 5 #[.slice a rows.length c, .int .i64 cut0] w fun e w' => e = .returned (.bool true) ∧ Kept [] w w' := by
  have ha := hid (alive04 w ht)
  have H := hid h; have Ht := hid ht; have Hcap := hid hcap
  have hfew := hid (fun (W : World) (hk : Kept [] w W) => few04 a c rows W (h.kept hk) hm hrl)
  clear h ht hrl hcap
  go_enter Tryd.func5, Tryd.ntmps5
  go_wp2_with fail
  refine ha.out.mono ?_
  rintro e w1 ⟨rfl, hk1⟩
  have Hk1 := hid hk1
  clear hk1 ha
  go_wp2_with fail
  refine (hfew.out w1 Hk1.out).mono ?_
  rintro e w2 ⟨rfl, rfl⟩
  clear hfew
  by_cases hgood : (∀ r ∈ rows, r.length ≤ 100) ∧ rows.length ≤ 30
  · have hdec : fewB rows = true := decide_eq_true hgood
    rw [hdec]
    obtain ⟨hs, h30⟩ := hgood
    have HS := hid hs
    have hch := hid (chain_any a c rows w1 (H.out.kept Hk1.out) (Ht.out.kept Hk1.out (by simp)) (by omega) (fun r hr => by have := hs r hr; omega))
    have hcl := hid (show (chainB rows).length ≤ 3240 from by have := chainB_len hs rows.length; rw [List.take_length] at this; omega)
    clear hdec hs
    go_wp2_with fail
    refine hch.out.mono ?_
    rintro e w3 ⟨b, d, rfl, hk3, ho3⟩
    have Hk3 := hid (Hk1.out.trans hk3)
    have Ho3 := hid ho3
    clear hk3 ho3 hch
    obtain ⟨L, hL⟩ : ∃ L, L = (chainB rows).length := ⟨_, rfl⟩
    obtain ⟨p, hp, hpl⟩ := cut_at cut0 L
    have hb3 := bsl_of_row Ho3.out
    have hLd := hb3.le
    have hdm := hb3.max
    unfold maxLen at hdm
    rw [← hL] at hLd
    have hL4 : L ≤ 3240 := by have := hcl.out; omega
    have hpd : (p : Int) ≤ (d : Int) := by omega
    have htake := hid (show ∀ W, Kept [] w3 W → BSl W b d ((chainB rows).take p) from fun W hk => by
      have hb := bsl_of_row (Ho3.out) |>.take (m := p) (by omega)
      have hl : ((chainB rows).take p).length = p := by simp; omega
      exact ⟨by rw [hl]; exact hb.kept hk (by simp), by omega, hb3.max, hb3.nil⟩)
    have hlp := hid (show ((chainB rows).take p).length = p by simp; omega)
    have hun := unchain_any b d ((chainB rows).take p) w3 htake.out (Ht.out.kept Hk3.out (by simp)) (by rw [hlp.out]; omega)
    rw [hlp.out] at hun
    have hun := hid hun
    have Hb3 := hid hb3
    have HL := hid hL
    rw [← hL]
    clear hL hb3
    go_wp2_with fail
    refine hun.out.mono ?_
    rintro e w4 ⟨rows', rest, av, cv, vals, a4, c4, hu, rfl, hk4, ho4, hr4, hb4, _⟩
    have Hk4 := hid (Hk3.out.trans hk4)
    have Hk34 := hid hk4
    have Hu := hid hu
    have Hrows := hid (rows_is ho4 hr4)
    have Hb4 := hid hb4
    clear hk4 hu ho4 hr4 hb4 hun hp hm
    have hat0 := hid (show (chainB (rows.take 0)).length ≤ p by simp [chainB])
    go_wp2_with fail
    go_loop [8, 9] (fun s8 s9 => ∃ i : Nat, i ≤ rows.length ∧ s8 = .int .i64 i ∧ s9 = .int .i64 (((chainB (rows.take i)).length : Nat) : Int) ∧ Hid ((chainB (rows.take i)).length ≤ p)) (fun s8 _ => rows.length - (intOf s8).toNat)
    case atStart => exact ⟨0, Nat.zero_le _, rfl, by simp [chainB], hat0⟩
    case round =>
      obtain ⟨i, hi, rfl, rfl, hen⟩ := hrel
      by_cases hgo : ∃ r, rows[i]? = some r ∧ (chainB (rows.take i)).length + 8 + r.length ≤ p
      · obtain ⟨r, hr, hle⟩ := hgo
        have hlt : i < rows.length := by
          rcases Nat.lt_or_ge i rows.length with h' | h'
          · exact h'
          · rw [List.getElem?_eq_none h'] at hr; simp at hr
        cases a with
        | none => exact absurd (H.out.1 rfl) (fun e => by rw [e] at hlt; simp at hlt)
        | some x =>
          obtain ⟨ar, cr, g0, _⟩ := (H.out.kept Hk4.out).2 x rfl i r hr
          have hsn := hid (show (chainB (rows.take (i + 1))).length = (chainB (rows.take i)).length + 8 + r.length from by
            rw [chainB_snoc rows i hlt, List.length_append, linkB_len]
            have : rows[i] = r := by rw [List.getElem?_eq_getElem hlt] at hr; simpa using hr
            rw [this]; omega)
          have hle2 := hid hle
          have hb3 : (chainB (rows.take i)).length ≤ 3240 := by omega
          clear hr hen
          generalize (chainB (rows.take i)).length = en at *
          have hle' : (en : Int) + 8 + (r.length : Int) ≤ (p : Int) := by omega
          clear hle
          go_wp2
          go_round
          case rel => exact ⟨i + 1, by omega, by go_num, by rw [hsn.out]; go_num, hid (by rw [hsn.out]; exact hle2.out)⟩
          case measure => simp [intOf]; omega
      · have hmore : ∀ r, rows[i]? = some r → p < (chainB (rows.take i)).length + 8 + r.length := fun r hr => by
          rcases Nat.lt_or_ge p ((chainB (rows.take i)).length + 8 + r.length) with h' | h'
          · exact h'
          · exact absurd ⟨r, hr, h'⟩ hgo
        have hd := Hu.out.det (unch_cut rows p i (fun r hr => by have := HS.out r hr; omega) hi (by have := HL.out; omega) hen.out hmore)
        obtain ⟨hd1, hd2⟩ := hd
        have hti : (rows.take i).length = i := by simp; omega
        have hsr := refsame_rows av a cv c (rows.take i) w4 (hd1 ▸ Hrows.out) ((H.out.kept Hk4.out).take i) (by omega)
        rw [hti] at hsr
        have hsr := hid hsr
        have hrl' : rows'.length = i := by rw [hd1, hti]
        obtain ⟨en, hEn⟩ : ∃ en, en = (chainB (rows.take i)).length := ⟨_, rfl⟩
        rw [← hEn] at hd2 hmore hen
        have henp := hen.out
        have hrest : rest.length = p - en := by rw [hd2, List.length_drop, hlp.out]
        have hdrop := hid (fun (W : World) (hk : Kept [] w3 W) => (htake.out W hk).drop (m := en) (by rw [hlp.out]; exact henp))
        have Hd2 := hid hd2; have Hrest := hid hrest
        have hnone := hid Hb3.out.nil
        rw [hrl', hrest, ← hEn]
        have hic : i ≤ c := by have := Hcap.out.1; omega
        have hcn := hid Hcap.out.2.2
        have hcm := Hcap.out.2.1
        have hic' : (i : Int) ≤ (c : Int) := by omega
        have hep : (en : Int) ≤ (p : Int) := by omega
        -- whether the loop ended at the rows' end, or ahead of it
        have hex : (∃ r x ar cr, a = some x ∧ i < rows.length ∧ w4.cell? (x.add i) = some (.slice ar r cr) ∧ r ≤ 1000 ∧ p < en + 8 + r) ∨ i = rows.length := by
          rcases Nat.lt_or_ge i rows.length with hlt | hge
          · left
            cases a with
            | none => exact absurd (H.out.1 rfl) (fun e => by rw [e] at hlt; simp at hlt)
            | some x =>
              obtain ⟨ar, cr, g0, _⟩ := (H.out.kept Hk4.out).2 x rfl i rows[i] (by simp [hlt])
              exact ⟨rows[i].length, x, ar, cr, rfl, hlt, g0, by have := HS.out _ (List.getElem_mem hlt); omega, hmore _ (by simp [hlt])⟩
          · right; omega
        have hfin := hid (fun (W : World) (ad : Option Addr) (cd : Nat) (hk : Kept [] w4 W) (hv : ad = behind b d en ∧ cd = d - en) => show Calls Tryd.prog 15 #[.slice a4 (p - en) c4, .slice ad (p - en) cd] W (fun e w' => e = .returned (.bool true) ∧ W = w') from by
          obtain ⟨rfl, rfl⟩ := hv
          have h1 := (hdrop.out W (Hk34.out.trans hk)).src
          rw [← Hd2.out] at h1
          have := same_src a4 (behind b d en) c4 (d - en) rest W (Hb4.out.1.kept hk (by simp)) h1
          rwa [Hrest.out] at this)
        clear hgo hmore hd1 hd2 hti hrl' hrest hEn hen henp
        have hen3 : en ≤ 3240 := by omega
        have hbc : (b = none ∧ d = 0 ∧ p = 0 ∧ en = 0) ∨ (∃ y, b = some y ∧ d = en) ∨ (∃ y, b = some y ∧ d ≠ en) := by
          cases b with
          | none =>
            have h0 := hnone.out rfl
            exact Or.inl ⟨rfl, h0, by omega, by omega⟩
          | some y =>
            by_cases h : d = en
            · exact Or.inr (Or.inl ⟨y, rfl, h⟩)
            · exact Or.inr (Or.inr ⟨y, rfl, h⟩)
        have hend : (en : Int) ≤ (d : Int) := by omega
        have hex2 : (∃ r x ar cr, a = some x ∧ i < rows.length ∧ w4.cell? (x.add i) = some (.slice ar r cr) ∧ r ≤ 1000 ∧ p < en + 8 + r) ∨ (∃ x, a = some x ∧ i = rows.length) ∨ (a = none ∧ c = 0 ∧ i = 0 ∧ rows.length = 0) := by
          rcases hex with h | h
          · exact Or.inl h
          · cases a with
            | some x => exact Or.inr (Or.inl ⟨x, rfl, h⟩)
            | none =>
              have h0 := hcn.out rfl
              have h1 := H.out.1 rfl
              have h2 : rows.length = 0 := by rw [h1]; rfl
              exact Or.inr (Or.inr ⟨rfl, h0, by omega, h2⟩)
        clear hex hcn hnone
        rcases hex2 with ⟨r, x, ar, cr, rfl, hlt, g0, hr1000, hpr⟩ | ⟨x, rfl, hir⟩ | ⟨rfl, rfl, rfl, hr0⟩
        · have hpr' : ¬ ((en : Int) + 8 + (r : Int) ≤ (p : Int)) := by omega
          rcases hbc with ⟨rfl, rfl, rfl, rfl⟩ | ⟨y, rfl, rfl⟩ | ⟨y, rfl, hde⟩
          all_goals
            go_wp2_with fail
            refine hsr.out.mono ?_
            rintro e w5 ⟨rfl, hk5⟩
            have Hk5 := hid hk5
            have hk05 := hid (Hk4.out.trans hk5)
            clear hk5 hsr
            go_wp2_with fail
            refine (hfin.out _ _ _ Hk5.out ⟨by simp [behind, *], by simp⟩).mono ?_
            rintro e w6 ⟨rfl, rfl⟩
            go_wp2
            go_ret
            exact ⟨rfl, hk05.out⟩
        · rcases hbc with ⟨rfl, rfl, rfl, rfl⟩ | ⟨y, rfl, rfl⟩ | ⟨y, rfl, hde⟩
          all_goals
            have hir' : ¬ ((i : Int) < (rows.length : Int)) := by omega
            clear hir
            go_wp2_with fail
            refine hsr.out.mono ?_
            rintro e w5 ⟨rfl, hk5⟩
            have Hk5 := hid hk5
            have hk05 := hid (Hk4.out.trans hk5)
            clear hk5 hsr
            go_wp2_with fail
            refine (hfin.out _ _ _ Hk5.out ⟨by simp [behind, *], by simp⟩).mono ?_
            rintro e w6 ⟨rfl, rfl⟩
            go_wp2
            go_ret
            exact ⟨rfl, hk05.out⟩
        · rcases hbc with ⟨rfl, rfl, rfl, rfl⟩ | ⟨y, rfl, rfl⟩ | ⟨y, rfl, hde⟩
          all_goals
            rw [hr0]
            clear hr0
            go_wp2_with fail
            refine hsr.out.mono ?_
            rintro e w5 ⟨rfl, hk5⟩
            have Hk5 := hid hk5
            have hk05 := hid (Hk4.out.trans hk5)
            clear hk5 hsr
            go_wp2_with fail
            refine (hfin.out _ _ _ Hk5.out ⟨by simp [behind, *], by simp⟩).mono ?_
            rintro e w6 ⟨rfl, rfl⟩
            go_wp2
            go_ret
            exact ⟨rfl, hk05.out⟩
  · have hdec : fewB rows = false := decide_eq_false hgood
    rw [hdec]
    clear hgood hdec
    go_wp2
    go_ret
    exact ⟨rfl, Hk1.out⟩
end Go.Proofs.YtijkpnggehnmcabDoor
