/- coldstorelaw04.SealJoins: the walk. -/
import Derived.Test.YtijkpnggehnmcabDoorSV
import Derived.Test.YtijkpnggehnmcabDoorSU
import Derived.Test.YtijkpnggehnmcabDoorSL
namespace Go.Proofs.YtijkpnggehnmcabDoor
open Go.RowKit Go.Lib

theorem bit_in (at0 : Int) (n : Nat) (hn : 0 < n) : ∃ p : Nat, (bits .and .i64 at0 16777215).tmod (8 * (n : Int)) = (p : Int) ∧ p < 8 * n := by
  rw [i64_and24]
  have h0 : 0 ≤ at0 % 16777216 := by omega
  have e : (at0 % 16777216).tmod (8 * (n : Int)) = (at0 % 16777216) % (8 * (n : Int)) := Int.tmod_eq_emod_of_nonneg h0
  have h1 := Int.emod_nonneg (at0 % 16777216) (show 8 * (n : Int) ≠ 0 by omega)
  have h2 := Int.emod_lt_of_pos (at0 % 16777216) (show 0 < 8 * (n : Int) by omega)
  exact ⟨((at0 % 16777216) % (8 * (n : Int))).toNat, by omega, by omega⟩

theorem row_cap {w : World} {base t : Nat} {a : Option Addr} {n c : Nat} {vals : List Value} (ho : w.ownsRow base t 1 (.slice a n c) n vals) : n ≤ c ∧ c ≤ maxLen ∧ (a = none → c = 0) := by
  rcases ho.2 with ⟨h1, h2⟩ | ⟨g, cap, cur, hv, hg, hh, hc, hm, hcs, ht⟩
  · simp at h1
    obtain ⟨rfl, _, rfl⟩ := h1
    exact ⟨by omega, by unfold maxLen; omega, fun _ => rfl⟩
  · simp at hv
    obtain ⟨rfl, rfl⟩ := hv
    exact ⟨by omega, by omega, fun h => by simp at h⟩

theorem src_kept {w w' : World} {sv : Value} {m : Nat} {news : List Value} (h : Src w sv m news) (hk : Kept [] w w') : Src w' sv m news := by
  rcases h with h | ⟨ad, c, rfl, h⟩
  · exact Or.inl h
  · exact Or.inr ⟨ad, c, rfl, fun j u hj => (hk.cell (World.block_lt_of_cell? w _ (h j u hj)) (by simp)).trans (h j u hj)⟩

set_option maxRecDepth 100000 in
set_option maxHeartbeats 2000000 in
theorem sealjoins (a b : Option Addr) (c d : Nat) (ra rb : List (List UInt8)) (at0 : Int) (w : World) (ha : IsRows w a ra) (hb : IsRows w b rb) (ht : Tab w) (hma : ra.length ≤ 9223372036854775807) (hmb : rb.length ≤ 9223372036854775807)
    (hla : ∀ r ∈ ra, r.length ≤ 9223372036854775807) (hlb : ∀ r ∈ rb, r.length ≤ 9223372036854775807) (hca : a = none → c = 0) (hcb : b = none → d = 0) :
    Calls Tryd.prog 7 #[.slice a ra.length c, .slice b rb.length d, .int .i64 at0] w fun e w' => e = .returned (.bool true) ∧ Kept [] w w' := by
  have hal := hid (alive04 w ht)
  obtain ⟨i0, hi0, hz0, hz1, hz2⟩ := info_parts info_u8
  obtain ⟨i1, hi1, hy0, hy1, hy2⟩ := info_parts info_sl
  have Ht := hid ht
  have HA := hid ha; have HB := hid hb
  have hfa := hid (fun (W : World) (hk : Kept [] w W) => few04 a c ra W (ha.kept hk) hma hla)
  have hfb := hid (fun (W : World) (hk : Kept [] w W) => few04 b d rb W (hb.kept hk) hmb hlb)
  have hcn := hid (And.intro hca hcb)
  clear ht ha hb hma hmb hla hlb hca hcb
  by_cases hga : fewB ra = true
  case neg =>
    have hga : fewB ra = false := by simpa using hga
    go_enter Tryd.func7, Tryd.ntmps7
    go_wp2_with fail
    refine hal.out.mono ?_
    rintro e w1 ⟨rfl, hk1⟩
    have Hk1 := hid hk1
    clear hk1
    go_wp2_with fail
    refine (hfa.out w1 Hk1.out).mono ?_
    rintro e w2 ⟨rfl, rfl⟩
    rw [hga]
    go_wp2
    go_ret
    exact ⟨rfl, Hk1.out⟩
  by_cases hgb : fewB rb = true
  case neg =>
    have hgb : fewB rb = false := by simpa using hgb
    go_enter Tryd.func7, Tryd.ntmps7
    go_wp2_with fail
    refine hal.out.mono ?_
    rintro e w1 ⟨rfl, hk1⟩
    have Hk1 := hid hk1
    clear hk1
    go_wp2_with fail
    refine (hfa.out w1 Hk1.out).mono ?_
    rintro e w2 ⟨rfl, rfl⟩
    rw [hga]
    go_wp2_with fail
    refine (hfb.out w1 Hk1.out).mono ?_
    rintro e w2 ⟨rfl, rfl⟩
    rw [hgb]
    go_wp2
    go_ret
    exact ⟨rfl, Hk1.out⟩
  obtain ⟨hsa, h30a⟩ := of_decide_eq_true (show decide ((∀ r ∈ ra, r.length ≤ 100) ∧ ra.length ≤ 30) = true from hga)
  obtain ⟨hsb, h30b⟩ := of_decide_eq_true (show decide ((∀ r ∈ rb, r.length ≤ 100) ∧ rb.length ≤ 30) = true from hgb)
  have hca := hid (fun (W : World) (hk : Kept [] w W) => chain_any a c ra W (HA.out.kept hk) (Ht.out.kept hk (by simp)) (by omega) (fun r hr => by have := hsa r hr; omega))
  have hcb := hid (fun (W : World) (hk : Kept [] w W) => chain_any b d rb W (HB.out.kept hk) (Ht.out.kept hk (by simp)) (by omega) (fun r hr => by have := hsb r hr; omega))
  have hal3 := hid (show (chainB ra).length ≤ 3240 from by have := chainB_len hsa ra.length; rw [List.take_length] at this; omega)
  have hbl3 := hid (show (chainB rb).length ≤ 3240 from by have := chainB_len hsb rb.length; rw [List.take_length] at this; omega)
  have HSA := hid hsa; have HSB := hid hsb
  clear hsa hsb
  go_enter Tryd.func7, Tryd.ntmps7
  go_wp2_with fail
  refine hal.out.mono ?_
  rintro e w1 ⟨rfl, hk1⟩
  have Hk1 := hid hk1
  clear hk1
  go_wp2_with fail
  refine (hfa.out w1 Hk1.out).mono ?_
  rintro e w2 ⟨rfl, rfl⟩
  rw [hga]
  go_wp2_with fail
  refine (hfb.out w1 Hk1.out).mono ?_
  rintro e w2 ⟨rfl, rfl⟩
  rw [hgb]
  clear hga hgb hfa hfb hal
  go_wp2_with fail
  refine (hca.out w1 Hk1.out).mono ?_
  rintro e w2 ⟨x, cx, rfl, hk2, hox⟩
  have Hk2 := hid (Hk1.out.trans hk2)
  have Hox := hid hox
  clear hk2 hox
  go_wp2_with fail
  refine (hcb.out w2 Hk2.out).mono ?_
  rintro e w3 ⟨y, cy, rfl, hk3, hoy⟩
  have Hk23 := hid hk3
  have Hk3 := hid (Hk2.out.trans hk3)
  have Hoy := hid hoy
  clear hk3 hoy hca hcb
  have hbx := hid (fun (W : World) (hk : Kept [] w3 W) => (bsl_of_row Hox.out).src.kept (Hk23.out.trans hk) (by simp))
  have hby := hid (fun (W : World) (hk : Kept [] w3 W) => (bsl_of_row Hoy.out).src.kept hk (by simp))
  obtain ⟨lx, hlx⟩ : ∃ lx, lx = (chainB ra).length := ⟨_, rfl⟩
  obtain ⟨ly, hly⟩ : ∃ ly, ly = (chainB rb).length := ⟨_, rfl⟩
  have hlx3 : lx ≤ 3240 := by have := hal3.out; omega
  have hly3 : ly ≤ 3240 := by have := hbl3.out; omega
  have Hlx := hid hlx; have Hly := hid hly
  rw [← hlx, ← hly]
  clear hlx hly
  go_wp2_with (at_builtin; refine halt ?_)
  refine Halt.mk ?_
  refine wpList_append_src _ rfl _ _ _ rfl w3.heap.size 5 i0 _ 1 Tryd.underlying22 hi0 hz0 hz1 hz2 rfl (.slice (some ⟨w3.heap.size, 0, none⟩) 0 0) ([] : List UInt8).length (([] : List UInt8).map B) rfl (RowAt.fresh w3).2.2.2 (.slice x lx cx) lx ((chainB ra).map B) rfl (by have := hbx.out _ ((Kept.refl [] w3).alloc (.cells #[] 5)); unfold SrcB at this; rwa [← Hlx.out] at this) (by simp [Hlx.out]) (B_oneCell _) ?_ ?_ ?_ ?_
  · unfold maxLen; simp; omega
  · simp; omega
  · simp
  intro v4 w4 hown4 hgrow4 _ hf4
  obtain ⟨a4, c4, rfl⟩ := owns_slice hown4
  have hr4 := hid (show RowAt w3 w3.heap.size (.slice a4 lx c4) ([] ++ chainB ra) w4 from by
    have := RowAt.step (ys := chainB ra) (RowAt.fresh w3) (Kept.refl [] _) (by rw [show ([] ++ chainB ra : List UInt8).length = lx by simpa using Hlx.out.symm]; simpa using hown4) hgrow4
    simpa using this)
  clear hown4 hgrow4 hf4
  simp only [List.length_nil, Nat.zero_add, List.nil_append] at hr4 ⊢
  go_wp2_with (at_builtin; refine halt ?_)
  refine Halt.mk ?_
  refine wpList_append_src _ rfl _ _ _ rfl w3.heap.size 5 i0 _ 1 Tryd.underlying22 hi0 hz0 hz1 hz2 rfl (.slice a4 lx c4) lx ((chainB ra).map B) rfl (by have := hr4.out.2.2.2; rwa [← Hlx.out] at this) (.slice y ly cy) ly ((chainB rb).map B) rfl (by have := hby.out _ hr4.out.1; unfold SrcB at this; rwa [← Hly.out] at this) (by simp [Hly.out]) (B_oneCell _) ?_ ?_ hr4.out.1.size ?_
  · unfold maxLen; omega
  · omega
  intro v5 w5 hown5 hgrow5 _ hf5
  obtain ⟨a5, c5, rfl⟩ := owns_slice hown5
  have hL := hid (show (chainB ra ++ chainB rb).length = lx + ly by rw [List.length_append, ← Hlx.out, ← Hly.out])
  have hr5 := hid (RowAt.step (ys := chainB rb) hr4.out (Kept.refl [] _) (by rw [hL.out, List.map_append]; exact hown5) hgrow5)
  have Hk5 := hid (Hk3.out.trans hr5.out.1)
  clear hown5 hgrow5 hf5
  -- both lists of rows, one behind the other
  obtain ⟨va, hsa, hva⟩ := rows_vals HA.out hcn.out.1
  have Hva := hid hva; have Hsa := hid hsa
  clear hva hsa
  go_wp2_with (at_builtin; refine halt ?_)
  refine Halt.mk ?_
  refine wpList_append_src _ rfl _ _ _ rfl w5.heap.size 22 i1 _ 24 (by kernel_rfl) hi1 hy0 hy1 hy2 rfl (.slice (some ⟨w5.heap.size, 0, none⟩) 0 0) 0 [] rfl (rows_fresh w5) (.slice a ra.length c) ra.length va rfl (src_kept Hsa.out (Hk5.out.alloc _)) Hva.out.1 Hva.out.oneCell ?_ ?_ (by simp) ?_
  · unfold maxLen; omega
  · omega
  intro v6 w6 hown6 hgrow6 _ hf6
  obtain ⟨a6, c6, rfl⟩ := owns_slice hown6
  simp only [List.nil_append, Nat.zero_add] at hown6 ⊢
  have hk56 := hid (show Kept [] w5 w6 from ((Kept.refl [] w5).alloc _).trans' (Kept.of_row hgrow6) (fun x hx hm => by simp [Value.ownBlock] at hm; omega))
  clear hgrow6 hf6
  obtain ⟨vb, hsb, hvb⟩ := rows_vals HB.out hcn.out.2
  have Hvb := hid hvb; have Hsb := hid hsb
  have Hown6 := hid hown6
  clear hvb hsb hown6
  go_wp2_with (at_builtin; refine halt ?_)
  refine Halt.mk ?_
  refine wpList_append_src _ rfl _ _ _ rfl w5.heap.size 22 i1 _ 24 (by kernel_rfl) hi1 hy0 hy1 hy2 rfl (.slice a6 ra.length c6) ra.length va rfl Hown6.out (.slice b rb.length d) rb.length vb rfl (src_kept Hsb.out (Hk5.out.trans hk56.out)) Hvb.out.1 Hvb.out.oneCell ?_ ?_ hk56.out.size ?_
  · unfold maxLen; omega
  · omega
  intro v7 w7 hown7 hgrow7 _ hf7
  obtain ⟨a7, c7, rfl⟩ := owns_slice hown7
  have hk57 := hid (show Kept [] w5 w7 from hk56.out.trans' (Kept.of_row hgrow7) (fun x hx hm => by
    exfalso
    have := (own_block_ge Hown6.out x (by simpa using hm)).1
    omega))
  have Hk7 := hid (Hk5.out.trans hk57.out)
  obtain ⟨rows, hrows⟩ : ∃ rows, rows = ra ++ rb := ⟨_, rfl⟩
  have hrn : rows.length = ra.length + rb.length := by rw [hrows, List.length_append]
  have hvals := hid (show RowVals w (va ++ vb) rows from by rw [hrows]; exact RowVals.append Hva.out Hvb.out)
  have Hown7 := hid (show w7.ownsRow w5.heap.size 22 1 (.slice a7 rows.length c7) rows.length (va ++ vb) from by rw [hrn]; exact hown7)
  have hboth := hid (show IsRows w7 a7 rows from vals_is Hown7.out (hvals.out.kept Hk7.out))
  have hcB := hid (show chainB rows = chainB ra ++ chainB rb by rw [hrows, chainB_append])
  have hs100 := hid (show ∀ r ∈ rows, r.length ≤ 100 from fun r hr => by
    rw [hrows, List.mem_append] at hr
    rcases hr with h | h
    · exact HSA.out r h
    · exact HSB.out r h)
  have hLr := hid (show (chainB rows).length = lx + ly by rw [hcB.out]; exact hL.out)
  rw [← hrn]
  clear hrows hown7 hgrow7 hf7
  obtain ⟨L, hLL⟩ : ∃ L, L = lx + ly := ⟨_, rfl⟩
  have hL6 : L ≤ 6480 := by omega
  have hn60 : rows.length ≤ 60 := by omega
  have HL := hid (show (chainB rows).length = L by rw [hLL]; exact hLr.out)
  have hr5' := hid (show RowAt w3 w3.heap.size (.slice a5 L c5) (chainB rows) w5 from by rw [hcB.out, hLL]; exact hr5.out)
  have hall := hid (show BSl w5 a5 c5 (chainB rows) from bsl_of_row (base := w3.heap.size) (by rw [HL.out]; have := hr5'.out.2.2.2; rwa [HL.out] at this))
  rw [← hLL]
  clear hrn hLL hlx3 hly3 h30a h30b
  go_wp2_with fail
  refine (chain_any a7 c7 rows w7 hboth.out (Ht.out.kept Hk7.out (by simp)) (by omega) (fun r hr => by have := hs100.out r hr; omega)).mono ?_
  rintro e w8 ⟨z, cz, rfl, hk8, hoz⟩
  have Hk78 := hid hk8
  have Hk8 := hid (Hk7.out.trans hk8)
  have hz8 := hid (bsl_of_row hoz).src
  rw [HL.out]
  clear hk8 hoz
  have hsame := hid (fun (W : World) (hk : Kept [] w8 W) => show Calls Tryd.prog 15 #[.slice z L cz, .slice a5 L c5] W (fun e w' => e = .returned (.bool true) ∧ W = w') from by
    have := same_src z a5 cz c5 (chainB rows) W (hz8.out.kept hk (by simp)) (hall.out.src.kept (hk57.out.trans (Hk78.out.trans hk)) (by simp))
    rwa [HL.out] at this)
  go_wp2_with fail
  refine (hsame.out w8 (Kept.refl [] _)).mono ?_
  rintro e w9 ⟨rfl, rfl⟩
  have hrows8 := hid (hboth.out.kept Hk78.out)
  clear hbx hby hL hr4 hr5 hLr Hoy Hox hal3 hbl3 hsame Hlx Hly hz8
  go_wp2_with fail
  go_loop [11, 49] (fun s11 s49 => ∃ i : Nat, i ≤ rows.length ∧ s49 = .int .i64 i ∧ s11 = .int .i64 (((chainB (rows.take i)).length : Nat) : Int)) (fun _ s49 => rows.length - (intOf s49).toNat)
  case atStart => exact ⟨0, Nat.zero_le _, rfl, by simp [chainB]⟩
  case round =>
    obtain ⟨i, hi, rfl, rfl⟩ := hrel
    by_cases hlt : i < rows.length
    · cases a7 with
      | none => exact absurd (hrows8.out.1 rfl) (fun e => by rw [e] at hlt; simp at hlt)
      | some x7 =>
        obtain ⟨ar, cr, g0, _⟩ := hrows8.out.2 x7 rfl i rows[i] (by simp [hlt])
        have hsn := hid (show (chainB (rows.take (i + 1))).length = (chainB (rows.take i)).length + 8 + rows[i].length from by
          rw [chainB_snoc rows i hlt, List.length_append, linkB_len]
          omega)
        have hen3 : (chainB (rows.take i)).length ≤ 6480 := by have := chainB_len hs100.out i; omega
        have hr100 := hs100.out _ (List.getElem_mem hlt)
        generalize rows[i] = r at *
        generalize (chainB (rows.take i)).length = en at *
        have hltI : (i : Int) < (rows.length : Int) := by omega
        go_wp2
        go_round
        case rel => exact ⟨i + 1, by omega, by go_num, by rw [hsn.out]; go_num⟩
        case measure => simp [intOf]; omega
    · have hin : i = rows.length := by omega
      subst hin
      rw [List.take_length, HL.out]
      by_cases hL0 : L = 0
      · subst hL0
        go_wp2
        go_ret
        exact ⟨rfl, Hk8.out⟩
      · have hLpos : 0 < L := by omega
        obtain ⟨p, hp, hpl⟩ := bit_in at0 L hLpos
        have hb0 : ((L : Int) == 0) = false := by simpa using hL0
        have hL0' : (L : Int) ≠ 0 := by omega
        clear hL0 hlt hi
        have ho8 : w8.ownsRow w3.heap.size 5 1 (.slice a5 L c5) L ((chainB rows).map B) := by
          have := (hk57.out.trans Hk78.out).owns hr5'.out.2.2.2 (by simp)
          rwa [HL.out] at this
        have hg5 := hid hr5'.out.2.2.1
        have hgb := own_block_ge (show w5.ownsRow w3.heap.size 5 1 (.slice a5 L c5) L ((chainB rows).map B) by have := hr5'.out.2.2.2; rwa [HL.out] at this)
        rcases ho8.2 with ⟨hv, h0⟩ | ⟨g, cap, cur, hv, hg, _⟩
        · exact absurd h0 (by omega)
        simp at hv
        obtain ⟨rfl, rfl⟩ := hv
        have Hgb := hid (hgb g rfl)
        have Ho8 := hid ho8
        obtain ⟨sb, hsb⟩ : ∃ sb, (chainB rows)[p / 8]? = some sb := ⟨(chainB rows)[p / 8]'(by rw [HL.out]; omega), by simp⟩
        have gl := ho8.cellAt (p / 8) (by omega)
        rw [List.getElem?_map, hsb] at gl
        have gl' : w8.cell? ⟨g, p / 8, none⟩ = some (.int .u8 (sb.toNat : Int)) := gl
        have gf : w8.frozen? ⟨g, p / 8, none⟩ = false := ho8.frozenAt _
        have Hsb := hid hsb
        clear gl hsb ho8 hgb hg
        obtain ⟨k, hk⟩ : ∃ k, k = p / 8 := ⟨_, rfl⟩
        obtain ⟨r, hr8⟩ : ∃ r, r = p % 8 := ⟨_, rfl⟩
        obtain ⟨m, hm2, hsh⟩ := shl_u8 r (by omega)
        rw [← hk] at gl' gf
        have f3 : k < L := by omega
        have f1 : (0 : Int) ≤ (k : Int) := by omega
        have f2 : (k : Int) < (L : Int) := by omega
        have e2 : IntKind.i64.wrap ((p : Int) / 8) = (k : Int) := by rw [IntWalk.i64_in _ (by omega)]; omega
        have e4 : (p : Int).tmod 8 = (r : Int) := by rw [Int.tmod_eq_emod_of_nonneg (by omega)]; omega
        have gld : w8.drew.cell? ⟨g, k, none⟩ = some (.int .u8 (sb.toNat : Int)) := gl'
        have Hk := hid hk; have Hr8 := hid hr8; have Hm2 := hid hm2
        have Hpl := hid hpl; have HLpos := hid hLpos
        -- what the turned chain says, and what else is kept
        have hfin := hid (fun (V : Value) (hV : V = B (sb ^^^ m)) => show (Kept [] w ((w8.setCell ⟨g, k, none⟩ V).drew) ∧ IsRows ((w8.setCell ⟨g, k, none⟩ V).drew) a7 rows) ∧
            Calls Tryd.prog 19 #[.slice (some ⟨g, 0, none⟩) L c5] ((w8.setCell ⟨g, k, none⟩ V).drew) (Unchained ((w8.setCell ⟨g, k, none⟩ V).drew) (Crc.flip (chainB rows) p)) from by
          subst hV
          have hkg : Kept [g] w8 ((w8.setCell ⟨g, k, none⟩ (B (sb ^^^ m))).drew) := ((Kept.refl [g] w8).setCell (p := ⟨g, k, none⟩) (fun _ => by simp) _).drew
          have hk9 : Kept [] w ((w8.setCell ⟨g, k, none⟩ (B (sb ^^^ m))).drew) := Hk8.out.trans' hkg (fun x hx hm => by
            simp at hm
            have := Hk3.out.size
            have := Hgb.out.1
            omega)
          have hset := flip_set (chainB rows) p sb Hsb.out
          rw [← Hk.out, ← Hr8.out, ← Hm2.out] at hset
          have hfl : (Crc.flip (chainB rows) p).length = L := by rw [Crc.flip_len, HL.out]
          have ho9 := own_set (w := w8) Ho8.out k (sb ^^^ m)
          rw [hset] at ho9
          have hb9 : BSl ((w8.setCell ⟨g, k, none⟩ (B (sb ^^^ m))).drew) (some ⟨g, 0, none⟩) c5 (Crc.flip (chainB rows) p) := bsl_of_row (base := w3.heap.size) (by rw [hfl]; exact ho9)
          refine ⟨⟨hk9, vals_is ((hkg.owns ((Hk78.out).owns Hown7.out (by simp)) (fun x hx => ?_))) (hvals.out.kept hk9)⟩, ?_⟩
          · have := (own_block_ge Hown7.out x (by simpa using hx)).1
            have := Hgb.out.2
            simp
            omega
          · have := unchain_any (some ⟨g, 0, none⟩) c5 (Crc.flip (chainB rows) p) ((w8.setCell ⟨g, k, none⟩ (B (sb ^^^ m))).drew) (fun W hk => ⟨hb9.src.kept hk (by simp), hb9.le, hb9.max, hb9.nil⟩) (Ht.out.kept hk9 (by simp)) (by rw [hfl]; omega)
            rwa [hfl] at this)
        have hxv := hid (xor_u8 sb m)
        have hp8 := hid (show (2 : Int) ^ min r 8 % 256 = (m.toNat : Int) by rw [Hm2.out]; exact pow8 r (by have := Hr8.out; omega))
        clear hk hr8 hm2 hpl hLpos Hva Hsa Hvb Hsb Hown6
        go_wp2_with fail
        refine wp_region_still_tail 10 (by kernel_rfl) (by kernel_rfl) ?_
        simp only [List.take_succ_cons, List.take_zero, List.drop_succ_cons, List.drop_zero]
        change wpStill _ _ w8.drew _ _ _
        repeat still_step
        refine wpStill_nil ?_
        clear e2 e4 hsh
        go_wp2_with fail
        obtain ⟨⟨hkf, hrf⟩, hcf⟩ := hfin.out _ (show (Value.int .u8 (bits .xor .u8 (sb.toNat : Int) (2 ^ min r 8 % 256))) = B (sb ^^^ m) by rw [hp8.out, hxv.out]; rfl)
        refine hcf.mono ?_
        rintro e w10 ⟨rows', rest, av, cv, vals, a10, c10, hu, rfl, hk10, ho10, hr10, hb10, _⟩
        have Hk10 := hid (hkf.trans hk10)
        have Hrow10 := hid (hrf.kept hk10)
        have Hrows' := hid (rows_is ho10 hr10)
        have Hu := hid hu
        have hcv := hid (row_cap ho10)
        have hc7 := hid (row_cap Hown7.out)
        have hp8k : p / 8 = k := Hk.out.symm
        have q1 : IntKind.i64.wrap ((p : Int) / 8) = (k : Int) := by rw [IntWalk.i64_in _ (by omega)]; omega
        have q2 : (p : Int).tdiv 8 = (k : Int) := by rw [Int.tdiv_eq_ediv_of_nonneg (by omega)]; omega
        have q3 : (p : Int) / 8 = (k : Int) := by omega
        have hat0 := hid (show (chainB (rows.take 0)).length ≤ k by simp [chainB])
        clear hfin hkf hrf hcf hu hk10 ho10 hr10 hb10 hxv hp8 gf gl' gld hp8k hp
        go_wp2_with fail
        go_loop [16, 17] (fun s16 s17 => ∃ i : Nat, i ≤ rows.length ∧ s16 = .int .i64 i ∧ s17 = .int .i64 (((chainB (rows.take i)).length : Nat) : Int) ∧ Hid ((chainB (rows.take i)).length ≤ k)) (fun s16 _ => rows.length - (intOf s16).toNat)
        case atStart => exact ⟨0, Nat.zero_le _, rfl, by simp [chainB], hat0⟩
        case round =>
          obtain ⟨i, hi, rfl, rfl, hen⟩ := hrel
          have hlt : i < rows.length := by
            rcases Nat.lt_or_ge i rows.length with h' | h'
            · exact h'
            · exfalso
              have := hen.out
              rw [List.take_of_length_le h', HL.out] at this
              omega
          cases a7 with
          | none => exact absurd (Hrow10.out.1 rfl) (fun e => by rw [e] at hlt; simp at hlt)
          | some x7 =>
            obtain ⟨ar, cr, g0, _⟩ := Hrow10.out.2 x7 rfl i rows[i] (by simp [hlt])
            have hr100 := hs100.out _ (List.getElem_mem hlt)
            have hget := hid (show rows[i]? = some rows[i] by simp [hlt])
            have hsn := hid (show (chainB (rows.take (i + 1))).length = (chainB (rows.take i)).length + 8 + rows[i].length from by
              rw [chainB_snoc rows i hlt, List.length_append, linkB_len]
              omega)
            have hen3 : (chainB (rows.take i)).length ≤ 6480 := by have := chainB_len hs100.out i; omega
            have hltI : (i : Int) < (rows.length : Int) := by omega
            obtain ⟨row, hrow⟩ : ∃ row, row = rows[i] := ⟨_, rfl⟩
            rw [← hrow] at g0 hr100 hget hsn
            obtain ⟨en, hEn⟩ : ∃ en, en = (chainB (rows.take i)).length := ⟨_, rfl⟩
            rw [← hEn] at hsn hen3 hen
            by_cases hle : en + 8 + row.length ≤ k
            · have hle2 := hid hle
              have hle' : (en : Int) + 8 + (row.length : Int) ≤ (k : Int) := by omega
              rw [← hEn]
              clear hle hEn hrow
              go_wp2
              go_round
              case rel => exact ⟨i + 1, by omega, by go_num, by rw [hsn.out]; go_num, hid (by rw [hsn.out]; exact hle2.out)⟩
              case measure => simp [intOf]; omega
            · have hpk := Hk.out
              have hp1 : 8 * (chainB (rows.take i)).length ≤ p := by rw [← hEn]; have := hen.out; omega
              have hp2 : p < 8 * ((chainB (rows.take i)).length + 8 + row.length) := by rw [← hEn]; omega
              obtain ⟨⟨rows2, rest2, hU1⟩, hU2⟩ := unch_turned rows p i (fun r hr => by have := hs100.out r hr; omega) row hget.out hp1 hp2
              have hti : (rows.take i).length = i := by simp; omega
              have hle' : ¬ ((en : Int) + 8 + (row.length : Int) ≤ (k : Int)) := by omega
              have hcv1 := hcv.out.1
              have hcv2 := hcv.out.2.1
              have hc71 := hc7.out.1
              have hc72 := hc7.out.2.1
              unfold maxLen at hcv2 hc72
              by_cases h4 : k < en + 4
              · have hd := (Hu.out.det hU1).1
                have hnl : i ≤ rows'.length := by rw [hd, List.length_append, hti]; omega
                have hti2 := hid hti
                have hA1 := hid (show IsRows w10 av (rows.take i) by have := Hrows'.out.take i; rwa [hd, List.take_append_of_le_length (by omega), List.take_of_length_le (by omega)] at this)
                have hsr := refsame_rows av (some x7) cv c7 (rows.take i) w10 (by have := Hrows'.out.take i; rwa [hd, List.take_append_of_le_length (by omega), List.take_of_length_le (by omega)] at this) (Hrow10.out.take i) (by omega)
                rw [hti] at hsr
                have Hsr := hid hsr
                obtain ⟨n', hn'⟩ : ∃ n', n' = rows'.length := ⟨_, rfl⟩
                rw [← hn'] at hnl hcv1 ⊢
                rw [← hEn]
                have h4' : (k : Int) < (en : Int) + 4 := by omega
                have hnl' : (i : Int) ≤ (n' : Int) := by omega
                have hicv : (i : Int) ≤ (cv : Int) := by omega
                have hic7 : (i : Int) ≤ (c7 : Int) := by omega
                have hav : (av = none ∧ cv = 0 ∧ i = 0) ∨ ∃ y, av = some y := by
                  cases av with
                  | none => have := hcv.out.2.2 rfl; exact Or.inl ⟨rfl, this, by omega⟩
                  | some y => exact Or.inr ⟨y, rfl⟩
                clear hsr hU1 hU2 hd hti hp1 hp2 hpk hle h4 hn' hEn hrow hen
                have hdec1 : decide (i ≤ n') = true := by simpa using hnl
                have hdec2 : decide ((i : Int) ≤ (n' : Int)) = true := by simpa using hnl'
                have hsrW := hid (fun (W : World) (hW : W = w10.drew ∨ W = w10) => show Calls Tryd.prog 20 #[.slice av i cv, .slice (some x7) i c7] W (fun e w' => e = .returned (.bool true) ∧ Kept [] w10 w') from by
                  rcases hW with rfl | rfl
                  · have h := refsame_rows av (some x7) cv c7 (rows.take i) w10.drew (hA1.out.kept (Kept.refl [] w10).drew) ((Hrow10.out.take i).kept (Kept.refl [] w10).drew) (by rw [hti2.out]; omega)
                    rw [hti2.out] at h
                    exact h.mono fun e w' h => ⟨h.1, (Kept.refl [] w10).drew.trans h.2⟩
                  · exact Hsr.out)
                rcases hav with ⟨rfl, rfl, rfl⟩ | ⟨y, rfl⟩
                · have ex0 : x7.add 0 = x7 := by unfold Addr.add; split <;> simp_all
                  have g00 : w10.cell? x7 = some (.slice ar row.length cr) := by rw [← ex0]; exact g0
                  clear ex0
                  go_wp2_with fail
                  first
                  | refine (hsrW.out _ (by first | exact Or.inl rfl | exact Or.inr rfl)).mono ?_
                  | (go_region_held3 (fun w' => Kept [] w10 w') (first | assumption | exact (Kept.refl [] w10).drew | exact Kept.refl [] w10)
                      ((go_at_call 20
                        refine (hsrW.out _ (by first | exact Or.inl rfl | exact Or.inr rfl)).mono ?_
                        rintro e w11 ⟨rfl, hk11⟩)))
                  all_goals
                    go_wp2
                    go_ret
                    exact ⟨rfl, Hk10.out.trans (by assumption)⟩
                · go_wp2_with fail
                  first
                  | refine (hsrW.out _ (by first | exact Or.inl rfl | exact Or.inr rfl)).mono ?_
                  | (go_region_held3 (fun w' => Kept [] w10 w') (first | assumption | exact (Kept.refl [] w10).drew | exact Kept.refl [] w10)
                      ((go_at_call 20
                        refine (hsrW.out _ (by first | exact Or.inl rfl | exact Or.inr rfl)).mono ?_
                        rintro e w11 ⟨rfl, hk11⟩)))
                  all_goals
                    go_wp2
                    go_ret
                    exact ⟨rfl, Hk10.out.trans (by assumption)⟩
              · obtain ⟨rest3, hU3, hl3⟩ := hU2 (by rw [← hEn]; omega)
                obtain ⟨hd, hd2⟩ := Hu.out.det hU3
                have hsr := refsame_rows av (some x7) cv c7 (rows.take i) w10 (hd ▸ Hrows'.out) (Hrow10.out.take i) (by omega)
                rw [hti] at hsr
                have Hsr := hid hsr
                have hrl' : rows'.length = i := by rw [hd, hti]
                rw [HL.out, ← hEn, ← hd2] at hl3
                obtain ⟨lr, hlr⟩ : ∃ lr, lr = rest.length := ⟨_, rfl⟩
                have henL : en ≤ L := by have := hen.out; omega
                have hlrI : (L : Int) - (en : Int) = (lr : Int) := by omega
                rw [hrl', ← hlr, ← hEn]
                have h4' : ¬ (k : Int) < (en : Int) + 4 := by omega
                have hic7 : (i : Int) ≤ (c7 : Int) := by omega
                clear hsr hU1 hU2 hU3 hd hd2 hl3 hlr hti hp1 hp2 hpk hle h4 hEn hrow hen hrl'
                go_wp2_with fail
                refine Hsr.out.mono ?_
                rintro e w11 ⟨rfl, hk11⟩
                have Hk11 := hid (Hk10.out.trans hk11)
                clear hk11
                go_wp2
                go_ret
                exact ⟨rfl, Hk11.out⟩
end Go.Proofs.YtijkpnggehnmcabDoor
