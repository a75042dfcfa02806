import Derived.Test.YtembincggkpflaaDoorAT
import Derived.Test.YtembincggkpflaaDoorME
import Derived.Test.YtembincggkpflaaDoorMB
import Derived.Test.YtembincggkpflaaDoorMS
import Derived.Test.YtembincggkpflaaDoorHW

/- The reference of layer 12: a pack's name, its size, has it a blob of a sum. -/
namespace Go.Proofs.YtembincggkpflaaDoor
open Go.RowKit Go.Lib Go.Maps

set_option maxRecDepth 100000 in
theorem r12_name (a : Option Addr) (c : Nat) (ys : List UInt8) (w : World) (hy : SrcB w (.slice a ys.length c) ys) (hn : a = none → c = 0) (hl : ys.length ≤ 1000000) :
    Calls Tryd.prog 15 #[.slice a ys.length c] w fun e w' => e = .returned (.string (S (packN ys))) ∧ Kept [] w w' := by
  have ho := hid (refof_any a c ys w (reads_src hy) hn hl (fun s b gh ch gk ck gb ob cb w h1 h2 h3 h4 => refmix_any s b gh ch gk ck gb ob cb w h1 h2 h3 h4))
  have hsl := Sha.sum_len ys
  have hadd : ∀ W : World, (Op.stringOp .add ⟨#[112, 97, 99, 107, 47]⟩ ⟨(hexOf (Sha.sum ys)).toArray⟩).run Tryd.prog W = .ok (.string (S (packN ys))) W := fun W => by
    have h := run_string_add_lists (P := Tryd.prog) W [112, 97, 99, 107, 47] (hexOf (Sha.sum ys)) (by decide) (by rw [hexOf_len, hsl]; decide)
    exact h
  have htx := hid (fun W => reftext_any (Sha.sum ys) hsl W)
  clear hy hn hsl
  generalize packN ys = nm at *
  generalize Sha.sum ys = sm at *
  go_enter Tryd.func15, Tryd.ntmps15
  go_wp2_with fail
  refine ho.out.mono ?_
  rintro e w1 ⟨rfl, k1⟩
  go_wp2_with fail
  refine (htx.out w1).mono ?_
  rintro e w2 ⟨rfl, k2⟩
  have K2 := hid (k1.trans k2)
  clear k1 k2 ho htx
  go_wp2
  go_ret
  exact ⟨rfl, K2.out⟩

set_option maxRecDepth 100000 in
theorem r12_size (a : Option Addr) (n c : Nat) (d : Option Addr) (m k : Nat) (w : World) (h1 : n ≤ 100000000) (h2 : m ≤ 100000) :
    Calls Tryd.prog 10 #[.agg #[.slice a n c, .slice d m k]] w fun e w' => e = .returned (.int .i64 ((n + 13 + 36 * m : Nat) : Int)) ∧ Kept [] w w' := by
  have e1 : IntKind.i64.wrap ((n : Int) + 13) = (n : Int) + 13 := by rw [IntKind.wrap_i64]; omega
  have e2 : IntKind.i64.wrap (36 * (m : Int)) = 36 * (m : Int) := by rw [IntKind.wrap_i64]; omega
  have e3 : IntKind.i64.wrap ((n : Int) + 13 + 36 * (m : Int)) = ((n + 13 + 36 * m : Nat) : Int) := by rw [IntKind.wrap_i64]; omega
  have HK0 := hid (show Kept [] w (w.alloc (.cells #[.slice a n c, .slice d m k] 34)) from (Kept.refl [] w).alloc _)
  go_enter Tryd.func10, Tryd.ntmps10
  go_wp2
  go_ret
  exact ⟨rfl, HK0.out⟩

/-- Has the list a place of the sum? -/
def hasE (es : List En) (id : List UInt8) : Bool := es.any (fun e => decide (e.id = id))
theorem hasE_id {es : List En} {id : List UInt8} : hasE es id = true ↔ id ∈ es.map (·.id) := by
  unfold hasE
  rw [List.any_eq_true]
  constructor
  · rintro ⟨e, h1, h2⟩; exact List.mem_map.2 ⟨e, h1, by simpa using h2⟩
  · intro h; obtain ⟨e, h1, h2⟩ := List.mem_map.1 h; exact ⟨e, h1, by simpa using h2⟩

/-- A list of places, as the reference holds it: in no block, or in one from its beginning. -/
structure EnsW (w : World) (d : Option Addr) (es : List En) : Prop where
  none : d = none → es = []
  at_ : ∀ x, d = some x → ∃ g, x = ⟨g, 0, Option.none⟩ ∧ g < w.heap.size ∧ ∀ i e, es[i]? = some e → e.id.length = 32 ∧ w.rangeAt g (i * 34) e.cells
theorem EnsW.kept {w w' : World} {d : Option Addr} {es : List En} (h : EnsW w d es) (hk : Kept [] w w') : EnsW w' d es :=
  ⟨h.none, fun x hx => by
    obtain ⟨g, h1, h2, h3⟩ := h.at_ x hx
    refine ⟨g, h1, Nat.lt_of_lt_of_le h2 hk.size, fun i e he => ⟨(h3 i e he).1, fun j v hv => ?_⟩⟩
    have h4 := (h3 i e he).2 j v hv
    exact (hk.cell (World.block_lt_of_cell? w _ h4) (by simp)).trans h4⟩

set_option maxRecDepth 100000 in
set_option maxHeartbeats 4000000 in
theorem r12_has (d : Option Addr) (c : Nat) (es : List En) (id : List UInt8) (w : World) (h : EnsW w d es) (h32 : id.length = 32) (hl : es.length ≤ 100000) :
    Calls Tryd.prog 22 #[.slice d es.length c, .agg (id.map B).toArray] w fun e w' => e = .returned (.bool (hasE es id)) ∧ Kept [] w w' := by
  have H := hid h
  obtain ⟨n, hn⟩ : ∃ n, n = es.length := ⟨_, rfl⟩
  have HN := hid hn
  rw [← hn] at hl ⊢
  obtain ⟨ci, hci⟩ : ∃ ci, ci = id.map B := ⟨_, rfl⟩
  have HC := hid hci
  have hlen := hid (show ci.length = 32 by rw [hci]; simp [h32])
  have hinf := hid (show (Tryd.prog.info? 36).map (·.size) = some ci.length by rw [hlen.out]; kernel_rfl)
  have H32 := hid h32
  rw [← hci]
  clear h hn hci h32
  have HB0 := hid (show (w.alloc (.cells ci.toArray 36)).heap[w.heap.size]? = some (.cells ci.toArray 36 (0, 0)) from heap_alloc_at rfl)
  have HK0 := hid (show Kept [] w (w.alloc (.cells ci.toArray 36)) from (Kept.refl [] w).alloc _)
  go_enter Tryd.func22, Tryd.ntmps22
  go_wp2_with fail
  obtain ⟨W1, hW1⟩ : ∃ W1, W1 = w.alloc (.cells ci.toArray 36) := ⟨_, rfl⟩
  rw [← hW1] at HB0 HK0 ⊢
  clear hW1
  have hst := hid (show hasE (es.take 0) id = false from rfl)
  go_loopw [5] (fun s wr => ∃ i : Nat, i ≤ n ∧ s = .int .i64 i ∧ Hid (Kept [] W1 wr) ∧ Hid (hasE (es.take i) id = false)) (fun s _ => n - (intOf s).toNat)
  case atStart => exact ⟨0, Nat.zero_le _, rfl, hid (Kept.refl _ _), hst⟩
  case round =>
    clear hst
    obtain ⟨i, hi, rfl, hk, hno⟩ := hrel
    by_cases hlt : i < n
    · have hlt' : i < es.length := by have := HN.out; omega
      obtain ⟨x, hx⟩ : ∃ x, es[i]? = some x := ⟨es[i], by simp [hlt']⟩
      obtain ⟨g, rfl⟩ : ∃ g, d = some ⟨g, 0, none⟩ := by
        cases d with
        | none => exfalso; have h1 := H.out.none rfl; rw [h1] at hlt'; simp at hlt'
        | some y => obtain ⟨g, h1, -⟩ := H.out.at_ y rfl; exact ⟨g, by rw [h1]⟩
      obtain ⟨g', hg', hgl, hat⟩ := H.out.at_ _ rfl
      have hgg : g = g' := by injection hg'
      subst hgg
      obtain ⟨h32, hrg⟩ := hat i x hx
      have hKw := hid (HK0.out.trans hk.out)
      have hrx := hid (show ∀ v, Kept [] wr v → v.rangeAt g (i * 34) (x.id.map B) from fun v hv j u hu => by
        have h1 : j < x.id.length := by have := (List.getElem?_eq_some_iff.1 hu).1; simpa using this
        have h4 := hrg j u (by unfold En.cells; rw [List.getElem?_append_left (by simpa using h1)]; exact hu)
        exact ((hKw.out.trans hv).cell (World.block_lt_of_cell? w _ h4) (by simp)).trans h4)
      have hri := hid (show ∀ v, Kept [] wr v → v.rangeAt w.heap.size 0 ci from fun v hv j u hu => by
        rw [cell_of_row v _ _ _ _ _ ((hk.out.trans hv).at HB0.out (by simp))]; simpa using hu)
      have hsx := hid (show (Tryd.prog.info? 36).map (·.size) = some (x.id.map B).length by rw [List.length_map, h32]; kernel_rfl)
      have heq := hid (show ∀ W, (Op.equalIn 10000 36 (.agg (x.id.map B).toArray) (.agg ci.toArray)).run Tryd.prog W = .ok (decide (x.id = id)) W from fun W => by rw [HC.out]; exact id_equal _ _ h32 H32.out W)
      have hnx := hid (show hasE (es.take (i + 1)) id = decide (x.id = id) from by
        have h0 := hno.out
        unfold hasE at h0 ⊢
        rw [List.take_add_one, hx]
        simp [h0])
      have hyx := hid (show x.id = id → hasE es id = true from fun he => hasE_id.2 (List.mem_map.2 ⟨x, List.mem_of_getElem? hx, he⟩))
      obtain ⟨cx, hcx⟩ : ∃ cx, cx = x.id.map B := ⟨_, rfl⟩
      rw [← hcx] at hrx hsx heq
      have Hlt := hid hlt
      clear hlt' hx hat hrg hg' hcx h32
      go_wp2_with fail
      have hu := Tryd.underlying36
      have hidx : (i : Int) < (n : Int) := by omega
      refine wp_region_held_drew (S := Kept [] wr) (by kernel_rfl) (Kept.refl _ _).drew (fun hH => ?_)
      refine takeH 0 (.slice (some ⟨g, 0, none⟩) n c) rfl (by kernel_rfl) (by kernel_rfl) (by kernel_rfl) (fun _ _ _ h => h) (by rfl) (fun v hv => by go_simp) hH ?_
      simp only [Act.put, List.setIfInBounds_toArray, List.set_cons_succ, List.set_cons_zero]
      refine takeH 1 (.int .i64 (i : Int)) rfl (by kernel_rfl) (by kernel_rfl) (by kernel_rfl) (fun _ _ _ h => h) (by rfl) (fun v hv => by go_simp) hH ?_
      simp only [Act.put, List.setIfInBounds_toArray, List.set_cons_succ, List.set_cons_zero]
      refine takeH 2 (.pointer (some ⟨g, i * 34, none⟩)) rfl (by kernel_rfl) (by kernel_rfl) (by kernel_rfl) (fun _ _ _ h => h) (by rfl) (fun v hv => by go_simp) hH ?_
      simp only [Act.put, List.setIfInBounds_toArray, List.set_cons_succ, List.set_cons_zero]
      refine takeH 3 (.pointer (some ⟨g, i * 34, none⟩)) rfl (by kernel_rfl) (by kernel_rfl) (by kernel_rfl) (fun _ _ _ h => h) (by rfl) (fun v hv => by go_simp) hH ?_
      simp only [Act.put, List.setIfInBounds_toArray, List.set_cons_succ, List.set_cons_zero]
      refine loadH 4 cx rfl (by kernel_rfl) (by kernel_rfl) (by kernel_rfl) (fun _ _ _ h => h) (by rfl) 36 (.tmp 15) rfl (g) (i * 34) rfl _ (fun v h => hrx.out v h) hu rfl hsx.out hH ?_
      simp only [Act.put, List.setIfInBounds_toArray, List.set_cons_succ, List.set_cons_zero]
      refine loadH 5 ci rfl (by kernel_rfl) (by kernel_rfl) (by kernel_rfl) (fun _ _ _ h => h) (by rfl) 36 (.tmp 3) rfl (w.heap.size) 0 rfl _ (fun v h => hri.out v h) hu rfl hinf.out hH ?_
      simp only [Act.put, List.setIfInBounds_toArray, List.set_cons_succ, List.set_cons_zero]
      refine takeH 6 (.bool (decide (x.id = id))) rfl (by kernel_rfl) (by kernel_rfl) (by kernel_rfl) (fun _ _ _ h => h) (by rfl) (fun v hv => by have he := heq.out v; go_simp) hH ?_
      simp only [Act.put, List.setIfInBounds_toArray, List.set_cons_succ, List.set_cons_zero]
      refine wpAnyH_done (by kernel_rfl) ?_ _
      obtain ⟨wd, hwd⟩ : ∃ wd, wd = wr.drew := ⟨_, rfl⟩
      rw [← hwd] at hH ⊢
      have Kd := hid (hKw.out.trans hH)
      have Kw := hid (hk.out.trans hH)
      clear hwd hH hu
      by_cases hxe : x.id = id
      · have hd1 : decide (x.id = id) = true := by simp [hxe]
        have hans := hid (hyx.out hxe)
        rw [hd1]
        clear hd1 hxe heq hnx
        go_wp2
        go_ret
        exact ⟨by rw [hans.out]; rfl, Kd.out⟩
      · have hd1 : decide (x.id = id) = false := by simp [hxe]
        rw [hd1]
        have hnx2 := hid (hnx.out.trans hd1)
        have hin := Hlt.out
        clear hd1 hxe heq hnx
        go_wp2
        go_roundw
        case rel => exact ⟨i + 1, hin, by go_num, Kw, hnx2⟩
        case measure => simp [intOf]; omega
    · obtain rfl : i = n := by omega
      have hKw := hid (HK0.out.trans hk.out)
      rw [HN.out, List.take_length] at hno
      have hans := hno.out
      clear hk hlt hi
      go_wp2
      go_ret
      exact ⟨by rw [hans]; rfl, hKw.out⟩
end Go.Proofs.YtembincggkpflaaDoor


/- Rows joined by the reference; a sum's bytes. -/
namespace Go.Proofs.YtembincggkpflaaDoor
open Go.RowKit Go.Lib Go.Maps

theorem IsRows.kept' {w w' : World} {a : Option Addr} {rows : List (List UInt8)} (h : IsRows w a rows) (hk : Kept [] w w') : IsRows w' a rows :=
  ⟨h.1, fun x hx i r hr => by
    obtain ⟨ar, cr, h1, h2⟩ := h.2 x hx i r hr
    exact ⟨ar, cr, (hk.cell (World.block_lt_of_cell? w _ h1) (by simp)).trans h1, h2.kept hk (by simp)⟩⟩

set_option maxRecDepth 100000 in
set_option maxHeartbeats 2000000 in
theorem join_rows (a : Option Addr) (n c : Nat) (rows : List (List UInt8)) (w : World) (h : IsRows w a rows) (hn : n = rows.length) (hm : n ≤ 1000000 ∧ rows.flatten.length ≤ 100000000) :
    Calls Tryd.prog 23 #[.slice a n c] w fun e w' => ∃ v, e = .returned v ∧ RowAt w w.heap.size v rows.flatten w' := by
  obtain ⟨i0, hi0, hz0, hz1, hz2⟩ := info_parts info_u8
  have H := hid h
  have HN := hid hn
  have hfr := hid (RowAt.fresh w)
  have hfl0 := hid (show (rows.take 0).flatten = [] from rfl)
  clear h hn
  go_enter Tryd.func23, Tryd.ntmps23
  go_wp2_with fail
  go_loopw [3, 4] (fun v s wr => ∃ i : Nat, i ≤ n ∧ s = .int .i64 i ∧ Hid (RowAt w w.heap.size v (rows.take i).flatten wr)) (fun _ s _ => n - (intOf s).toNat)
  case atStart => exact ⟨0, Nat.zero_le _, rfl, by rw [hfl0.out]; exact hfr⟩
  case round =>
    obtain ⟨i, hi, rfl, hr⟩ := hrel
    by_cases hlt : i < n
    · have hlt' : i < rows.length := by have := HN.out; omega
      obtain ⟨r, hx⟩ : ∃ r, rows[i]? = some r := ⟨rows[i], by simp [hlt']⟩
      have hfl : (rows.take (i + 1)).flatten = (rows.take i).flatten ++ r := by rw [List.take_add_one, hx, List.flatten_append]; simp
      have hle : (rows.take (i + 1)).flatten.length ≤ rows.flatten.length := by
        conv => rhs; rw [← List.take_append_drop (i + 1) rows, List.flatten_append, List.length_append]
        omega
      rw [hfl, List.length_append] at hle
      cases a with
      | none => exfalso; have h1 := H.out.1 rfl; rw [h1] at hlt'; simp at hlt'
      | some x =>
        obtain ⟨ar, cr, g0, s0⟩ := (H.out.kept' hr.out.1).2 x rfl i r hx
        obtain ⟨acc, hacc⟩ : ∃ x, x = (rows.take i).flatten := ⟨_, rfl⟩
        rw [← hacc] at hr hfl hle
        have Hfl := hid hfl; have HR := hid hr.out; have Hs := hid s0
        obtain ⟨av, cv, rfl⟩ := owns_slice HR.out.2.2.2
        have hidx : (i : Int) < (n : Int) := by omega
        have Hlt := hid hlt
        clear hfl hacc hr s0 hx hlt'
        go_wp2_with (at_builtin; refine halt ?_)
        refine Halt.mk ?_
        refine wpList_append_src _ rfl _ _ _ rfl w.heap.size 5 i0 _ 1 Tryd.underlying29 hi0 hz0 hz1 hz2 rfl (.slice av acc.length cv) acc.length (acc.map B) rfl HR.out.2.2.2 (.slice ar r.length cr) r.length (r.map B) rfl Hs.out (by simp) (B_oneCell r) ?_ ?_ ?_ ?_
        · unfold maxLen; omega
        · omega
        · exact HR.out.2.2.1
        intro v2 w2 hown2 hgrow2 _ hf2
        obtain ⟨a2, c2, rfl⟩ := owns_slice hown2
        have hstep := hid (RowAt.step (ys := r) HR.out (Kept.refl [] wr) (by simpa using hown2) hgrow2)
        have hin := Hlt.out
        clear hown2 hgrow2 hf2
        go_wp2
        go_roundw
        case rel => exact ⟨i + 1, hin, by go_num, by rw [Hfl.out]; simpa using hstep⟩
        case measure => simp [intOf]; omega
    · obtain rfl : i = n := by omega
      rw [HN.out, List.take_length] at hr
      have HR := hid hr.out
      clear hr hlt hi
      go_wp2
      go_ret
      exact ⟨_, rfl, HR.out⟩

set_option maxRecDepth 100000 in
set_option maxHeartbeats 2000000 in
theorem r10_raw (id : List UInt8) (w : World) (h32 : id.length = 32) :
    Calls Tryd.prog 45 #[.agg (id.map B).toArray] w fun e w' => ∃ v, e = .returned v ∧ RowAt w (w.heap.size + 1) v id w' := by
  obtain ⟨i0, hi0, hz0, hz1, hz2⟩ := info_parts info_u8
  obtain ⟨ci, hci⟩ : ∃ ci, ci = id.map B := ⟨_, rfl⟩
  have HC := hid hci
  have H32 := hid h32
  rw [← hci]
  clear hci h32
  have HB0 := hid (show (w.alloc (.cells ci.toArray 36)).heap[w.heap.size]? = some (.cells ci.toArray 36 (0, 0)) from heap_alloc_at rfl)
  have HK0 := hid (show Kept [] w (w.alloc (.cells ci.toArray 36)) from (Kept.refl [] w).alloc _)
  obtain ⟨W1, hW1⟩ : ∃ W1, W1 = w.alloc (.cells ci.toArray 36) := ⟨_, rfl⟩
  have hsz1 := hid (show W1.heap.size = w.heap.size + 1 by rw [hW1]; simp)
  have HW1 := hid hW1
  rw [← hW1] at HB0 HK0
  have hfr := hid (RowAt.fresh W1)
  have ht0 := hid (show id.take 0 = [] from rfl)
  clear hW1
  go_enter Tryd.func45, Tryd.ntmps45
  go_wp2_with fail
  rw [← HW1.out, ← hsz1.out]
  go_loopw [3, 4] (fun v s wr => ∃ i : Nat, i ≤ 32 ∧ s = .int .i64 i ∧ Hid (RowAt W1 W1.heap.size v (id.take i) wr)) (fun _ s _ => 32 - (intOf s).toNat)
  case atStart => exact ⟨0, Nat.zero_le _, rfl, by rw [ht0.out]; exact hfr⟩
  case round =>
    obtain ⟨i, hi, rfl, hr⟩ := hrel
    by_cases hlt : i < 32
    · have hlt' : i < id.length := by have := H32.out; omega
      obtain ⟨x, hx⟩ : ∃ x, id[i]? = some x := ⟨id[i], by simp [hlt']⟩
      have hnb := hid (show id.take (i + 1) = id.take i ++ [x] by rw [List.take_add_one, hx]; rfl)
      obtain ⟨acc, hacc⟩ : ∃ z, z = id.take i := ⟨_, rfl⟩
      have hal := hid (show acc.length ≤ 32 by rw [hacc, List.length_take]; omega)
      rw [← hacc] at hr hnb
      have HR := hid hr.out
      obtain ⟨av, cv, rfl⟩ := owns_slice HR.out.2.2.2
      have gl : wr.cell? ⟨w.heap.size, i, none⟩ = some (.int .u8 (x.toNat : Int)) := by
        rw [cell_of_row wr _ _ _ _ _ (HR.out.1.at HB0.out (by simp)), HC.out]
        simp [hx, B]
      have Hlt := hid hlt
      have hown := hid (((Kept.refl [] wr).alloc (.cells #[.int .u8 (x.toNat : Int)] 5)).owns HR.out.2.2.2 (by simp))
      have hidx : (i : Int) < 32 := by omega
      clear hacc hr hx hlt'
      go_wp2_with (at_builtin; refine halt ?_)
      refine Halt.mk ?_
      refine wpList_append_src _ rfl _ _ _ rfl W1.heap.size 5 i0 _ 1 Tryd.underlying29 hi0 hz0 hz1 hz2 rfl (.slice av acc.length cv) acc.length (acc.map B) rfl hown.out _ 1 [B x] rfl (Or.inr ⟨_, _, rfl, cell_one_new _ _ _⟩) rfl (by simp [B, Value.oneCell']) ?_ ?_ ?_ ?_
      · have := hal.out; unfold maxLen; omega
      · have := hal.out; omega
      · have := HR.out.2.2.1; simp; omega
      intro v2 w2 hown2 hgrow2 _ hf2
      obtain ⟨a2, c2, rfl⟩ := owns_slice hown2
      have hstep := hid (RowAt.step (ys := [x]) HR.out ((Kept.refl [] wr).alloc (.cells #[.int .u8 (x.toNat : Int)] 5)) (by simpa using hown2) hgrow2)
      have hin := Hlt.out
      clear hown2 hgrow2 hf2 hown gl
      go_wp2
      go_roundw
      case rel => exact ⟨i + 1, hin, by go_num, by rw [hnb.out]; simpa using hstep⟩
      case measure => simp [intOf]; omega
    · obtain rfl : i = 32 := by omega
      rw [show id.take 32 = id by rw [← H32.out]; exact List.take_length] at hr
      have HR := hid hr.out
      clear hr hlt hi
      go_wp2
      go_ret
      refine ⟨_, rfl, ?_⟩
      rw [← hsz1.out]
      exact ⟨HK0.out.trans HR.out.1, by have := hsz1.out; omega, HR.out.2.2.1, HR.out.2.2.2⟩
end Go.Proofs.YtembincggkpflaaDoor


/- The reference of layer 12: a head's bytes. -/
namespace Go.Proofs.YtembincggkpflaaDoor
open Go.RowKit Go.Lib Go.Maps

/-- A slice of bytes in a block of bytes. -/
def RowU (w : World) (v : Value) (r : List UInt8) : Prop :=
  ∃ a c, v = .slice a r.length c ∧ SrcB w v r ∧ ∀ x, a = some x → ∃ cs, w.heap[x.block]? = some (.cells cs 5 (0, 0))
theorem RowU.kept {w w' : World} {v : Value} {r : List UInt8} (h : RowU w v r) (hk : Kept [] w w') : RowU w' v r := by
  obtain ⟨a, c, rfl, h1, h2⟩ := h
  refine ⟨a, c, rfl, h1.kept hk (by simp), fun x hx => ?_⟩
  obtain ⟨cs, h3⟩ := h2 x hx
  exact ⟨cs, hk.at h3 (by simp)⟩
theorem RowAt.rowU {w : World} {base : Nat} {v : Value} {xs : List UInt8} {wr : World} (h : RowAt w base v xs wr) : RowU wr v xs := by
  obtain ⟨a, c, rfl⟩ := owns_slice h.2.2.2
  refine ⟨a, c, rfl, h.src, fun x hx => ?_⟩
  rcases h.2.2.2.2 with ⟨h1, _⟩ | ⟨g, cap, cur, h1, _, h3, _⟩
  · simp at h1; rw [hx] at h1; simp at h1
  · simp at h1
    rw [hx] at h1
    obtain ⟨rfl⟩ : x = ⟨g, 0, none⟩ := by simpa using h1.1
    exact ⟨cur, h3⟩

/-- A slice of slices of bytes that a call made, each in a block of bytes. -/
def RowsO (w : World) (base : Nat) (v : Value) (rows : List (List UInt8)) (wr : World) : Prop :=
  Kept [] w wr ∧ w.heap.size ≤ base ∧ base ≤ wr.heap.size ∧ ∃ vs : List Value, wr.ownsRow base 29 1 v rows.length vs ∧ vs.length = rows.length ∧ (∀ (i : Nat) (r : List UInt8), rows[i]? = some r → ∃ u : Value, vs[i]? = some u ∧ RowU wr u r) ∧ ∀ u ∈ vs, u.oneCell' = true
theorem own_typed {w : World} {base n : Nat} {v : Value} {vs : List Value} {t : TypeId} (h : w.ownsRow base t 1 v n vs) {g : Nat} (hg : v.ownBlock = some g) : base ≤ g ∧ g < w.heap.size ∧ ∃ cs, w.heap[g]? = some (.cells cs t (0, 0)) := by
  rcases h.2 with ⟨rfl, _⟩ | ⟨g', cap, cur, rfl, h2, h3, _⟩
  · simp [Value.ownBlock] at hg
  · simp [Value.ownBlock] at hg
    subst hg
    exact ⟨h2, (Array.getElem?_eq_some_iff.1 h3).1, cur, h3⟩
theorem RowU.grown {w w' : World} {base n : Nat} {v u : Value} {vs : List Value} {r : List UInt8} (h : RowU w u r) (ho : w.ownsRow base 29 1 v n vs) (hg : w.grownBy w' v.ownBlock) : RowU w' u r := by
  obtain ⟨a, c, rfl, h1, h2⟩ := h
  have key : ∀ x, a = some x → v.ownBlock ≠ some x.block := fun x hx e => by
    obtain ⟨_, _, cs, h3⟩ := own_typed ho e
    obtain ⟨cs', h4⟩ := h2 x hx
    rw [h3] at h4
    simp at h4
  refine ⟨a, c, rfl, ?_, fun x hx => ?_⟩
  · cases a with
    | none => rcases h1 with h | ⟨ad, c', h3, _⟩
              · exact .inl h
              · simp at h3
    | some x =>
      obtain ⟨cs, h4⟩ := h2 x rfl
      have hb := hg.block x.block (Array.getElem?_eq_some_iff.1 h4).1 (key x rfl).symm
      rcases h1 with ⟨h3, _⟩ | ⟨ad, c', h3, h5⟩
      · simp at h3
      · simp at h3
        obtain ⟨rfl, rfl⟩ := h3
        refine .inr ⟨x, c, rfl, fun j b hj => ?_⟩
        refine Eq.trans ?_ (h5 j b hj)
        unfold World.cell?
        rw [show (x.add j).block = x.block by unfold Addr.add; split <;> rfl, hb]
  · obtain ⟨cs, h4⟩ := h2 x hx
    exact ⟨cs, by rw [hg.block x.block (Array.getElem?_eq_some_iff.1 h4).1 (key x hx).symm]; exact h4⟩
theorem RowsO.isRows {w wr : World} {base : Nat} {v : Value} {rows : List (List UInt8)} (h : RowsO w base v rows wr) : ∃ a c, v = .slice a rows.length c ∧ IsRows wr a rows := by
  obtain ⟨_, _, _, vs, ho, hl, hr, _⟩ := h
  rcases ho.2 with ⟨hv, h0⟩ | ⟨g, cap, cur, hv, _⟩
  · have hx : rows = [] := List.eq_nil_of_length_eq_zero h0
    subst hx
    exact ⟨none, 0, hv, fun _ => rfl, fun x h => by simp at h⟩
  · refine ⟨_, _, hv, fun h => by simp at h, fun x hx i r hi => ?_⟩
    simp at hx
    subst hx
    obtain ⟨u, h1, a', c', rfl, h2, _⟩ := hr i r hi
    exact ⟨a', c', ho.cells (g := g) (by rw [hv]; rfl) i _ h1, h2⟩
theorem RowsO.step {w wr w1 w2 : World} {base : Nat} {v v2 : Value} {rows : List (List UInt8)} (h : RowsO w base v rows wr) (hk : Kept [] wr w1) {u1 u2 : Value} {r1 r2 : List UInt8} (h1 : RowU w1 u1 r1) (h2 : RowU w1 u2 r2) {vs : List Value} (hvs : wr.ownsRow base 29 1 v rows.length vs) (hvl : vs.length = rows.length) (hvr : ∀ (i : Nat) (r : List UInt8), rows[i]? = some r → ∃ u : Value, vs[i]? = some u ∧ RowU wr u r) (hv1 : ∀ u ∈ vs, u.oneCell' = true)
    (hown : w2.ownsRow base 29 1 v2 (rows.length + 2) (vs ++ [u1, u2])) (hg : w1.grownBy w2 v.ownBlock) (o1 : u1.oneCell' = true) (o2 : u2.oneCell' = true) : RowsO w base v2 (rows ++ [r1, r2]) w2 := by
  have ho1 := hk.owns hvs (by simp)
  refine ⟨(h.1.trans hk).trans' (Kept.of_row hg) (fun x hx hm => ?_), h.2.1, by have := hk.size; have := hg.size; have := h.2.2.1; omega, vs ++ [u1, u2], by simpa using hown, by simp [hvl], fun i r hi => ?_, fun u hu => ?_⟩
  · simp at hm
    obtain ⟨h3, _⟩ := own_typed hvs hm
    have := h.2.1; omega
  · by_cases hlt : i < rows.length
    · rw [List.getElem?_append_left hlt] at hi
      obtain ⟨u, h3, h4⟩ := hvr i r hi
      exact ⟨u, by rw [List.getElem?_append_left (by omega)]; exact h3, (h4.kept hk).grown ho1 hg⟩
    · rw [List.getElem?_append_right (by omega)] at hi
      obtain ⟨k, hkk⟩ : ∃ k, k = i - rows.length := ⟨_, rfl⟩
      rw [← hkk] at hi
      match k, hkk, hi with
      | 0, hkk, hi =>
        obtain rfl : r1 = r := by simpa using hi
        exact ⟨u1, by rw [List.getElem?_append_right (by omega), hvl, ← hkk]; rfl, h1.grown ho1 hg⟩
      | 1, hkk, hi =>
        obtain rfl : r2 = r := by simpa using hi
        exact ⟨u2, by rw [List.getElem?_append_right (by omega), hvl, ← hkk]; rfl, h2.grown ho1 hg⟩
      | k + 2, hkk, hi => simp at hi
  · rcases List.mem_append.1 hu with hu | hu
    · exact hv1 u hu
    · simp at hu; rcases hu with rfl | rfl; exact o1; exact o2
/-- What the head's loop has gathered. -/
def hrows (es : List En) (i : Nat) : List (List UInt8) := numB es.length 4 :: (es.take i).flatMap fun e => [e.id, numB e.len 4]
theorem hrows_next {es : List En} {i : Nat} {x : En} (h : es[i]? = some x) : hrows es (i + 1) = hrows es i ++ [x.id, numB x.len 4] := by
  unfold hrows; rw [List.take_add_one, h]; simp
theorem hrows_len (es : List En) (i : Nat) (h : i ≤ es.length) : (hrows es i).length = 1 + 2 * i := by
  induction i with
  | zero => simp [hrows]
  | succ k ih => rw [hrows_next (x := es[k]) (by simp [show k < es.length by omega]), List.length_append, ih (by omega)]; simp; omega
theorem hrows_flat (es : List En) : (hrows es es.length).flatten = headB es := by
  unfold hrows headB encB
  rw [List.take_length, List.flatten_cons]
  congr 1
  induction es with
  | nil => rfl
  | cons e r ih => rw [List.flatMap_cons, List.flatMap_cons, List.flatten_append, ih]; simp
end Go.Proofs.YtembincggkpflaaDoor


/- The reference of layer 12: a head's bytes. -/
namespace Go.Proofs.YtembincggkpflaaDoor
open Go.RowKit Go.Lib Go.Maps

theorem two_own (W : World) (v : Value) (t : TypeId) (base : Nat) (hb : base ≤ W.heap.size) : (W.alloc (.cells #[v] t)).ownsRow base t 1 (.slice (some ⟨W.heap.size, 0, none⟩) 1 1) 1 [v] :=
  ⟨rfl, Or.inr ⟨W.heap.size, 1, #[v], rfl, hb, heap_alloc_at rfl, Nat.le_refl _, by unfold maxLen; omega, rfl, rfl⟩⟩
theorem build_b2 (a b : Option Addr) (n m c d : Nat) (W : World) : (Instr.buildSlice 22 2 #[(0, .slice a n c), (1, .slice b m d)]).run Tryd.prog W = .ok (.slice (some ⟨W.heap.size, 0, none⟩) 2 2) (W.alloc (.cells #[.slice a n c, .slice b m d] 29)) := by kernel_rfl

set_option maxRecDepth 100000 in
set_option maxHeartbeats 8000000 in
theorem r12_head (d : Option Addr) (n c : Nat) (es : List En) (w : World) (h : EnsW w d es) (hn : n = es.length) (hl : n ≤ 20) (hlen : ∀ e ∈ es, e.len ≤ 65536) :
    Calls Tryd.prog 30 #[.slice d n c] w (Made w (sealed 80 (headB es))) := by
  obtain ⟨i0, hi0, hz0, hz1, hz2⟩ := info_parts info_bb
  have H := hid h
  have HN := hid hn
  have HL := hid hlen
  clear h hn hlen
  have hnum0 := hid (refnum_any n (by omega) 4 w)
  rw [sz4] at hnum0
  have hwn : IntKind.u64.wrap (n : Int) = (n : Int) := by rw [IntKind.wrap_u64]; omega
  go_enter Tryd.func30, Tryd.ntmps30
  go_wp2_with fail
  refine hnum0.out.mono ?_
  rintro e w1 ⟨v, rfl, hr1⟩
  obtain ⟨a1, c1, rfl⟩ := owns_slice hr1.2.2.2
  have HU := hid hr1.rowU
  have K1 := hid hr1.1
  rw [numB_len] at HU ⊢
  clear hr1 hnum0
  go_wp2_with fail
  have hst := hid (show RowsO w w1.heap.size (.slice (some ⟨w1.heap.size, 0, none⟩) 1 1) (hrows es 0) (w1.alloc (.cells #[.slice a1 4 c1] 29)) from by
    have e0 : hrows es 0 = [numB n 4] := by unfold hrows; rw [HN.out]; rfl
    rw [e0]
    refine ⟨K1.out.alloc _, K1.out.size, by simp, [.slice a1 4 c1], two_own w1 _ _ _ (Nat.le_refl _), rfl, fun i r hi => ?_, by intro u hu; simp at hu; subst hu; rfl⟩
    match i, hi with
    | 0, hi => obtain rfl : numB n 4 = r := by simpa using hi
               exact ⟨_, rfl, HU.out.kept ((Kept.refl [] _).alloc _)⟩
    | k + 1, hi => simp at hi)
  clear HU K1
  obtain ⟨bs, hbs⟩ : ∃ bs, bs = w1.heap.size := ⟨_, rfl⟩
  obtain ⟨W2, hW2⟩ : ∃ W2, W2 = w1.alloc (.cells #[.slice a1 4 c1] 29) := ⟨_, rfl⟩
  rw [← hW2] at hst ⊢
  rw [← hbs] at hst ⊢
  clear hbs hW2
  go_loopw [3, 4] (fun v s wr => ∃ i : Nat, i ≤ n ∧ s = .int .i64 i ∧ Hid (RowsO w bs v (hrows es i) wr)) (fun _ s _ => n - (intOf s).toNat)
  case atStart => exact ⟨0, Nat.zero_le _, rfl, hst⟩
  case round =>
    clear hst
    obtain ⟨i, hi, rfl, hr⟩ := hrel
    obtain ⟨av, cv, rfl, hir⟩ := hr.out.isRows
    have HR := hid hr.out
    have hrl := hrows_len es i (by have := HN.out; omega)
    rw [hrl] at HR ⊢
    have HIR := hid hir
    clear hr hir
    by_cases hlt : i < n
    · have hlt' : i < es.length := by have := HN.out; omega
      obtain ⟨x, hx⟩ : ∃ x, es[i]? = some x := ⟨es[i], by simp [hlt']⟩
      obtain ⟨g, rfl⟩ : ∃ g, d = some ⟨g, 0, none⟩ := by
        cases d with
        | none => exfalso; have h1 := H.out.none rfl; rw [h1] at hlt'; simp at hlt'
        | some y => obtain ⟨g, h1, -⟩ := H.out.at_ y rfl; exact ⟨g, by rw [h1]⟩
      obtain ⟨g', hg', hgl, hat⟩ := H.out.at_ _ rfl
      have hgg : g = g' := by injection hg'
      subst hgg
      obtain ⟨h32, hrg⟩ := hat i x hx
      have hK := hid HR.out.1
      have hrx := hid (show ∀ v, Kept [] w v → v.rangeAt g (i * 34) (x.id.map B) from fun v hv j u hu => by
        have h1 : j < x.id.length := by have := (List.getElem?_eq_some_iff.1 hu).1; simpa using this
        have h4 := hrg j u (by unfold En.cells; rw [List.getElem?_append_left (by simpa using h1)]; exact hu)
        exact (hv.cell (World.block_lt_of_cell? w _ h4) (by simp)).trans h4)
      have hln := hid (show ∀ v, Kept [] w v → v.cell? ⟨g, i * 34 + 33, none⟩ = some (.int .i64 (x.len : Int)) from fun v hv => by
        have h4 := hrg 33 _ (en_c33 h32)
        exact (hv.cell (World.block_lt_of_cell? w _ h4) (by simp)).trans h4)
      have hsx := hid (show (Tryd.prog.info? 36).map (·.size) = some (x.id.map B).length by rw [List.length_map, h32]; kernel_rfl)
      have hxl := hid (HL.out x (List.mem_of_getElem? hx))
      have hraw := hid (fun W => r10_raw x.id W h32)
      have hnum := hid (fun W => refnum_any x.len (by have := hxl.out; omega) 4 W)
      rw [sz4] at hnum
      have hnx := hid (hrows_next hx)
      have Hx32 := hid h32
      obtain ⟨cx, hcx⟩ : ∃ cx, cx = x.id.map B := ⟨_, rfl⟩
      rw [← hcx] at hrx hsx hraw
      have Hlt := hid hlt
      obtain ⟨xl, hxlE⟩ : ∃ xl, xl = x.len := ⟨_, rfl⟩
      rw [← hxlE] at hln hxl hnum hnx
      obtain ⟨xi, hxiE⟩ : ∃ xi, xi = x.id := ⟨_, rfl⟩
      rw [← hxiE] at hnx Hx32 hraw
      have hwl : IntKind.u64.wrap (xl : Int) = (xl : Int) := by have := hxl.out; rw [IntKind.wrap_u64]; omega
      obtain ⟨_, hw2, hb2, vs, hvs, hvl, hvr, hv1⟩ := HR.out
      have HVS := hid hvs; have HVL := hid hvl; have HVR := hid hvr; have HV1 := hid hv1; have Hb2 := hid hb2
      clear hlt' hx hat hrg hg' hcx h32 hvs hvl hvr hv1 hrl hxlE hxiE hw2 hb2
      have hidx : (i : Int) < (n : Int) := by omega
      have hu := Tryd.underlying36
      go_wp2_with fail
      refine wp_region_held_drew (S := Kept [] w) (by kernel_rfl) hK.out.drew (fun hH => ?_)
      refine takeH 0 (.slice av (1 + 2 * i) cv) rfl (by kernel_rfl) (by kernel_rfl) (by kernel_rfl) (fun _ _ _ h => h) (by rfl) (fun v hv => by go_simp) hH ?_
      simp only [Act.put, List.setIfInBounds_toArray, List.set_cons_succ, List.set_cons_zero]
      refine takeH 1 (.slice (some ⟨g, 0, none⟩) n c) rfl (by kernel_rfl) (by kernel_rfl) (by kernel_rfl) (fun _ _ _ h => h) (by rfl) (fun v hv => by go_simp) hH ?_
      simp only [Act.put, List.setIfInBounds_toArray, List.set_cons_succ, List.set_cons_zero]
      refine takeH 2 (.int .i64 (i : Int)) rfl (by kernel_rfl) (by kernel_rfl) (by kernel_rfl) (fun _ _ _ h => h) (by rfl) (fun v hv => by go_simp) hH ?_
      simp only [Act.put, List.setIfInBounds_toArray, List.set_cons_succ, List.set_cons_zero]
      refine takeH 3 (.pointer (some ⟨g, i * 34, none⟩)) rfl (by kernel_rfl) (by kernel_rfl) (by kernel_rfl) (fun _ _ _ h => h) (by rfl) (fun v hv => by go_simp) hH ?_
      simp only [Act.put, List.setIfInBounds_toArray, List.set_cons_succ, List.set_cons_zero]
      refine takeH 4 (.pointer (some ⟨g, i * 34, none⟩)) rfl (by kernel_rfl) (by kernel_rfl) (by kernel_rfl) (fun _ _ _ h => h) (by rfl) (fun v hv => by go_simp) hH ?_
      simp only [Act.put, List.setIfInBounds_toArray, List.set_cons_succ, List.set_cons_zero]
      refine loadH 5 cx rfl (by kernel_rfl) (by kernel_rfl) (by kernel_rfl) (fun _ _ _ h => h) (by rfl) 36 (.tmp 20) rfl (g) (i * 34) rfl _ (fun v h => hrx.out v h) hu rfl hsx.out hH ?_
      simp only [Act.put, List.setIfInBounds_toArray, List.set_cons_succ, List.set_cons_zero]
      refine takeH 7 (.slice (some ⟨g, 0, none⟩) n c) rfl (by kernel_rfl) (by kernel_rfl) (by kernel_rfl) (fun _ _ _ h => h) (by rfl) (fun v hv => by go_simp) hH ?_
      simp only [Act.put, List.setIfInBounds_toArray, List.set_cons_succ, List.set_cons_zero]
      refine takeH 8 (.int .i64 (i : Int)) rfl (by kernel_rfl) (by kernel_rfl) (by kernel_rfl) (fun _ _ _ h => h) (by rfl) (fun v hv => by go_simp) hH ?_
      simp only [Act.put, List.setIfInBounds_toArray, List.set_cons_succ, List.set_cons_zero]
      refine takeH 9 (.pointer (some ⟨g, i * 34, none⟩)) rfl (by kernel_rfl) (by kernel_rfl) (by kernel_rfl) (fun _ _ _ h => h) (by rfl) (fun v hv => by go_simp) hH ?_
      simp only [Act.put, List.setIfInBounds_toArray, List.set_cons_succ, List.set_cons_zero]
      refine takeH 10 (.pointer (some ⟨g, i * 34 + 33, none⟩)) rfl (by kernel_rfl) (by kernel_rfl) (by kernel_rfl) (fun _ _ _ h => h) (by rfl) (fun v hv => by go_simp) hH ?_
      simp only [Act.put, List.setIfInBounds_toArray, List.set_cons_succ, List.set_cons_zero]
      refine takeH 11 (.int .i64 (xl : Int)) rfl (by kernel_rfl) (by kernel_rfl) (by kernel_rfl) (fun _ _ _ h => h) (by rfl) (fun v hv => by have h := hln.out v hv; go_simp) hH ?_
      simp only [Act.put, List.setIfInBounds_toArray, List.set_cons_succ, List.set_cons_zero]
      refine takeH 12 (.int .u64 (xl : Int)) rfl (by kernel_rfl) (by kernel_rfl) (by kernel_rfl) (fun _ _ _ h => h) (by rfl) (fun v hv => by go_simp) hH ?_
      simp only [Act.put, List.setIfInBounds_toArray, List.set_cons_succ, List.set_cons_zero]
      refine callE 6 rfl (by kernel_rfl) (by rfl) 45 #[.agg cx.toArray] (by go_simp) (fun v v' => Kept [] wr v' ∧ ∃ a c, v = .slice a 32 c ∧ RowU v' (.slice a 32 c) xi) (fun _ _ h => hK.out.trans h.1) ((hraw.out _).mono fun e w' h => by
        obtain ⟨v, rfl, h1⟩ := h
        obtain ⟨a, c, rfl⟩ := owns_slice h1.2.2.2
        have h2 := h1.rowU
        rw [Hx32.out] at h2
        exact ⟨_, rfl, (Kept.refl [] wr).drew.trans h1.1, a, c, by rw [Hx32.out], h2⟩) ?_
      rintro _ W6 ⟨k6, a6, c6, rfl, hu6⟩
      simp only [Act.put, List.setIfInBounds_toArray, List.set_cons_succ, List.set_cons_zero]
      refine callE 13 rfl (by kernel_rfl) (by rfl) 31 #[.int .u64 (xl : Int), .int .i64 4] (by go_simp) (fun v v' => Kept [] W6 v' ∧ ∃ a c, v = .slice a 4 c ∧ RowU v' (.slice a 4 c) (numB xl 4)) (fun _ _ h => hK.out.trans (k6.trans h.1)) ((hnum.out _).mono fun e w' h => by
        obtain ⟨v, rfl, h1⟩ := h
        obtain ⟨a, c, rfl⟩ := owns_slice h1.2.2.2
        have h2 := h1.rowU
        rw [numB_len] at h2
        exact ⟨_, rfl, h1.1, a, c, by rw [numB_len], h2⟩) ?_
      rintro _ W7 ⟨k7, a7, c7, rfl, hu7⟩
      simp only [Act.put, List.setIfInBounds_toArray, List.set_cons_succ, List.set_cons_zero]
      have k8 := hid (show Kept [] wr (W7.alloc (.cells #[.slice a6 32 c6, .slice a7 4 c7] 29)) from (k6.trans k7).alloc _)
      have Hu6 := hid ((hu6.kept k7).kept ((Kept.refl [] W7).alloc (.cells #[.slice a6 32 c6, .slice a7 4 c7] 29)))
      have Hu7 := hid (hu7.kept ((Kept.refl [] W7).alloc (.cells #[.slice a6 32 c6, .slice a7 4 c7] 29)))
      have Hs7 := hid (k6.trans k7).size
      refine runH 14 rfl (by kernel_rfl) (by rfl) (.slice (some ⟨W7.heap.size, 0, none⟩) 2 2) (W7.alloc (.cells #[.slice a6 32 c6, .slice a7 4 c7] 29)) (by have hb := build_b2 a6 a7 32 4 c6 c7 W7; go_simp) (hK.out.trans k8.out) ?_
      simp only [Act.put, List.setIfInBounds_toArray, List.set_cons_succ, List.set_cons_zero]
      have hlen1 := HVL.out
      rw [hrows_len es i (by have := HN.out; omega)] at HVS hlen1
      refine appendH 15 rfl (by kernel_rfl) rfl (.tmp 16) (.tmp 30) 22 rfl bs 29 i0 _ 24 Tryd.underlying22 hi0 hz0 hz1 hz2 rfl (.slice av (1 + 2 * i) cv) (1 + 2 * i) vs rfl (k8.out.owns HVS.out (by simp)) ⟨W7.heap.size, 0, none⟩ 2 2 [.slice a6 32 c6, .slice a7 4 c7] rfl (two_cells' W7 (.slice a6 32 c6) (.slice a7 4 c7) _) rfl (by intro u hu; simp at hu; rcases hu with rfl | rfl <;> rfl) (by unfold maxLen; omega) (by omega) (by have := Hb2.out; have := Hs7.out; simp; omega) ?_
      intro a8 c8 w8 hown2 hgrow2 _
      have hstep := hid (show RowsO w bs (.slice a8 (1 + 2 * i + 2) c8) (hrows es (i + 1)) w8 from by
        rw [hnx.out]
        refine RowsO.step HR.out k8.out Hu6.out Hu7.out (by rw [hrows_len es i (by have := HN.out; omega)]; exact HVS.out) HVL.out HVR.out HV1.out (by rw [hrows_len es i (by have := HN.out; omega)]; exact hown2) hgrow2 rfl rfl)
      have hH8 := hstep.out.1
      refine ⟨hH8, ?_⟩
      simp only [Act.put, List.setIfInBounds_toArray, List.set_cons_succ, List.set_cons_zero]
      clear hown2 hgrow2 hu6 hu7 k6 k7
      refine takeH 16 (.slice a8 (1 + 2 * i + 2) c8) rfl (by kernel_rfl) (by kernel_rfl) (by kernel_rfl) (fun _ _ _ h => h) (by rfl) (fun v hSw => by go_simp) hH8 ?_
      simp only [Act.put, List.setIfInBounds_toArray, List.set_cons_succ, List.set_cons_zero]
      refine wpAnyH_done (by kernel_rfl) ?_ _
      have hin := Hlt.out
      clear hwl hidx hH hH8 hlen1 hu
      go_wp2
      go_roundw
      case rel => exact ⟨i + 1, hin, by go_num, hstep⟩
      case measure => simp [intOf]; omega
    · obtain rfl : i = n := by omega
      obtain ⟨m, hm⟩ : ∃ m, m = 1 + 2 * i := ⟨_, rfl⟩
      have hjl : (headB es).length ≤ 800 := by
        have h1 : ∀ e ∈ es, e.id.length = 32 := fun e he => by
          obtain ⟨j, hj⟩ := List.mem_iff_getElem?.1 he
          cases d with
          | none => rw [H.out.none rfl] at he; cases he
          | some y => obtain ⟨g, _, _, h2⟩ := H.out.at_ y rfl; exact (h2 j e hj).1
        rw [headB_len es h1]; have := HN.out; omega
      have hfl : (hrows es i).flatten = headB es := by rw [HN.out]; exact hrows_flat es
      have hj := hid (join_rows av m cv (hrows es i) wr HIR.out (by rw [hrl, hm]) (by rw [hfl]; omega))
      rw [hfl] at hj
      have hK := hid HR.out.1
      rw [← hm]
      have HJL := hid hjl
      clear hfl hjl hm hrl HIR HR hlt
      go_wp2_with fail
      refine hj.out.mono ?_
      rintro e w3 ⟨v3, rfl, hr3⟩
      obtain ⟨a3, c3, rfl⟩ := owns_slice hr3.2.2.2
      have hs3 := hid hr3.src
      have K3 := hid (hK.out.trans hr3.1)
      have hse := hid (refseal_any 80 a3 c3 (headB es) w3 hs3.out (by have := HJL.out; omega))
      clear hr3 hj
      go_wp2_with fail
      refine hse.out.mono ?_
      rintro e w4 ⟨a4, c4, rfl, k4, hb4, hlow⟩
      have K4 := hid (K3.out.trans k4)
      have HB4 := hid hb4
      have Hlow := hid (fun x (hx : a4 = some x) => Nat.le_trans K3.out.size (hlow x hx))
      clear k4 hb4 hlow hse
      generalize sealed 80 (headB es) = ss at *
      go_wp2
      go_ret
      exact ⟨a4, c4, rfl, K4.out, HB4.out, Hlow.out⟩
end Go.Proofs.YtembincggkpflaaDoor


/- The reference of layer 12: a pack's bytes. -/
namespace Go.Proofs.YtembincggkpflaaDoor
open Go.RowKit Go.Lib Go.Maps

theorem build_b3 (a b d : Option Addr) (n m k c e f : Nat) (W : World) : (Instr.buildSlice 22 3 #[(0, .slice a n c), (1, .slice b m e), (2, .slice d k f)]).run Tryd.prog W = .ok (.slice (some ⟨W.heap.size, 0, none⟩) 3 3) (W.alloc (.cells #[.slice a n c, .slice b m e, .slice d k f] 29)) := by kernel_rfl
theorem rows3 {W : World} {a b d : Option Addr} {c e f : Nat} {xs ys zs : List UInt8} (h1 : SrcB W (.slice a xs.length c) xs) (h2 : SrcB W (.slice b ys.length e) ys) (h3 : SrcB W (.slice d zs.length f) zs) :
    IsRows (W.alloc (.cells #[.slice a xs.length c, .slice b ys.length e, .slice d zs.length f] 29)) (some ⟨W.heap.size, 0, none⟩) [xs, ys, zs] := by
  have hk : Kept [] W (W.alloc (.cells #[.slice a xs.length c, .slice b ys.length e, .slice d zs.length f] 29)) := (Kept.refl [] W).alloc _
  refine ⟨fun h => by simp at h, fun x hx i r hi => ?_⟩
  simp at hx
  subst hx
  have e0 : (⟨W.heap.size, 0, none⟩ : Addr).add i = ⟨W.heap.size, i, none⟩ := by rw [plain_add]; simp
  rw [e0, cell_of_row _ _ _ _ _ _ (heap_alloc_at rfl)]
  match i, hi with
  | 0, hi => obtain rfl : xs = r := by simpa using hi
             exact ⟨a, c, rfl, h1.kept hk (by simp)⟩
  | 1, hi => obtain rfl : ys = r := by simpa using hi
             exact ⟨b, e, rfl, h2.kept hk (by simp)⟩
  | 2, hi => obtain rfl : zs = r := by simpa using hi
             exact ⟨d, f, rfl, h3.kept hk (by simp)⟩
  | k + 3, hi => simp at hi

set_option maxRecDepth 100000 in
set_option maxHeartbeats 8000000 in
theorem r12_bytes (a : Option Addr) (m c : Nat) (d : Option Addr) (n k : Nat) (bs : List UInt8) (es : List En) (w : World) (hm : m = bs.length) (hb : SrcB w (.slice a bs.length c) bs) (h : EnsW w d es) (hn : n = es.length) (hl : n ≤ 20) (hlen : ∀ e ∈ es, e.len ≤ 65536) (hbl : m ≤ 1000000) :
    Calls Tryd.prog 13 #[.agg #[.slice a m c, .slice d n k]] w fun e w' => ∃ a' c', e = .returned (.slice a' (packB es bs).length c') ∧ Kept [] w w' ∧ SrcB w' (.slice a' (packB es bs).length c') (packB es bs) ∧ (packB es bs).length ≤ c' ∧ c' ≤ 9223372036854775807 := by
  have hjl : (headB es).length ≤ 800 := by
    have h1 : ∀ e ∈ es, e.id.length = 32 := fun e he => by
      obtain ⟨j, hj⟩ := List.mem_iff_getElem?.1 he
      cases d with
      | none => rw [h.none rfl] at he; cases he
      | some y => obtain ⟨g, _, _, h2⟩ := h.at_ y rfl; exact (h2 j e hj).1
    rw [headB_len es h1]; omega
  obtain ⟨ss, hss⟩ : ∃ ss, ss = sealed 80 (headB es) := ⟨_, rfl⟩
  have hsl : ss.length ≤ 900 := by rw [hss, sealed_len]; omega
  have hpk : packB es bs = bs ++ ss ++ numB ss.length 4 := by rw [hss]; rfl
  rw [hpk]
  obtain ⟨pk, hpkE⟩ : ∃ pk, pk = bs ++ ss ++ numB ss.length 4 := ⟨_, rfl⟩
  rw [← hpkE]
  have HPK := hid hpkE
  clear hpkE
  obtain ⟨W1, hW1⟩ : ∃ W1, W1 = w.alloc (.cells #[.slice a m c, .slice d n k] 34) := ⟨_, rfl⟩
  have k1 := hid (show Kept [] w W1 from hW1 ▸ (Kept.refl [] w).alloc _)
  have hB0 := hid (show W1.heap[w.heap.size]? = some (.cells #[.slice a m c, .slice d n k] 34 (0, 0)) from hW1 ▸ heap_alloc_at rfl)
  have hhd := hid (r12_head d n k es W1 (h.kept k1.out) hn hl hlen)
  rw [← hss] at hhd
  have HW1 := hid hW1
  have HB := hid hb
  have HM := hid hm
  clear hjl hss hpk h hb hlen hn hm hW1
  go_enter Tryd.func13, Tryd.ntmps13
  go_wp2_with fail
  rw [← HW1.out]
  refine hhd.out.mono ?_
  rintro e W3 ⟨a3, c3, rfl, k3, hs3, -⟩
  have K3 := hid (k1.out.trans k3)
  have hbx := hid (show ∀ v, Kept [] W3 v → v.cell? ⟨w.heap.size, 0, none⟩ = some (.slice a m c) from fun v hv => by rw [cell_of_row _ _ _ _ _ _ ((k3.trans hv).at hB0.out (by simp))]; rfl)
  have Hs3 := hid hs3.1
  obtain ⟨hl3, hl3E⟩ : ∃ z, z = ss.length := ⟨_, rfl⟩
  have hnum := hid (fun W => refnum_any hl3 (by omega) 4 W)
  rw [sz4] at hnum
  rw [← hl3E] at hsl Hs3 ⊢
  have Hl3 := hid hl3E
  have hwl : IntKind.u64.wrap (hl3 : Int) = (hl3 : Int) := by rw [IntKind.wrap_u64]; omega
  clear hhd k3 hs3 hl3E HW1
  go_wp2_with fail
  refine wp_region_held_drew (S := Kept [] W3) (by kernel_rfl) (Kept.refl _ _).drew (fun hH => ?_)
  refine takeH 0 (.pointer (some ⟨w.heap.size, 0, none⟩)) rfl (by kernel_rfl) (by kernel_rfl) (by kernel_rfl) (fun _ _ _ h => h) (by rfl) (fun v hv => by go_simp) hH ?_
  simp only [Act.put, List.setIfInBounds_toArray, List.set_cons_succ, List.set_cons_zero]
  refine takeH 1 (.slice a m c) rfl (by kernel_rfl) (by kernel_rfl) (by kernel_rfl) (fun _ _ _ h => h) (by rfl) (fun v hv => by have h := hbx.out v hv; go_simp) hH ?_
  simp only [Act.put, List.setIfInBounds_toArray, List.set_cons_succ, List.set_cons_zero]
  refine takeH 2 (.slice a3 hl3 c3) rfl (by kernel_rfl) (by kernel_rfl) (by kernel_rfl) (fun _ _ _ h => h) (by rfl) (fun v hv => by go_simp) hH ?_
  simp only [Act.put, List.setIfInBounds_toArray, List.set_cons_succ, List.set_cons_zero]
  refine takeH 3 (.slice a3 hl3 c3) rfl (by kernel_rfl) (by kernel_rfl) (by kernel_rfl) (fun _ _ _ h => h) (by rfl) (fun v hv => by go_simp) hH ?_
  simp only [Act.put, List.setIfInBounds_toArray, List.set_cons_succ, List.set_cons_zero]
  refine takeH 4 (.int .i64 (hl3 : Int)) rfl (by kernel_rfl) (by kernel_rfl) (by kernel_rfl) (fun _ _ _ h => h) (by rfl) (fun v hv => by go_simp) hH ?_
  simp only [Act.put, List.setIfInBounds_toArray, List.set_cons_succ, List.set_cons_zero]
  refine takeH 5 (.int .u64 (hl3 : Int)) rfl (by kernel_rfl) (by kernel_rfl) (by kernel_rfl) (fun _ _ _ h => h) (by rfl) (fun v hv => by go_simp) hH ?_
  simp only [Act.put, List.setIfInBounds_toArray, List.set_cons_succ, List.set_cons_zero]
  refine callE 6 rfl (by kernel_rfl) (by rfl) 31 #[.int .u64 (hl3 : Int), .int .i64 4] (by go_simp) (fun v v' => Kept [] W3 v' ∧ ∃ a c, v = .slice a 4 c ∧ SrcB v' (.slice a 4 c) (numB hl3 4)) (fun _ _ h => h.1) ((hnum.out _).mono fun e w' h => by
    obtain ⟨v, rfl, h1⟩ := h
    obtain ⟨a, c, rfl⟩ := owns_slice h1.2.2.2
    have h2 := h1.src
    rw [numB_len] at h2
    exact ⟨_, rfl, (Kept.refl [] W3).drew.trans h1.1, a, c, by rw [numB_len], h2⟩) ?_
  rintro _ W7 ⟨k7, a7, c7, rfl, hs7⟩
  simp only [Act.put, List.setIfInBounds_toArray, List.set_cons_succ, List.set_cons_zero]
  have hir := rows3 (W := W7) (a := a) (b := a3) (d := a7) (c := c) (e := c3) (f := c7) (xs := bs) (ys := ss) (zs := numB hl3 4) (HB.out.kept (K3.out.trans k7) (by simp)) (by rw [← Hl3.out]; exact Hs3.out.kept k7 (by simp)) (by rw [numB_len]; exact hs7)
  rw [← HM.out, ← Hl3.out, numB_len] at hir
  have k8 := hid (show Kept [] W3 (W7.alloc (.cells #[.slice a m c, .slice a3 hl3 c3, .slice a7 4 c7] 29)) from k7.alloc _)
  have hfl : [bs, ss, numB hl3 4].flatten = pk := by rw [HPK.out, Hl3.out]; simp
  have hj := hid (join_rows (some ⟨W7.heap.size, 0, none⟩) 3 3 [bs, ss, numB hl3 4] _ hir rfl (by rw [hfl, HPK.out]; simp [numB_len]; have := HM.out; have := Hl3.out; omega))
  rw [hfl] at hj
  refine runH 7 rfl (by kernel_rfl) (by rfl) (.slice (some ⟨W7.heap.size, 0, none⟩) 3 3) (W7.alloc (.cells #[.slice a m c, .slice a3 hl3 c3, .slice a7 4 c7] 29)) (by have hb := build_b3 a a3 a7 m hl3 4 c c3 c7 W7; go_simp) k8.out ?_
  simp only [Act.put, List.setIfInBounds_toArray, List.set_cons_succ, List.set_cons_zero]
  obtain ⟨W8, hW8⟩ : ∃ W8, W8 = W7.alloc (.cells #[.slice a m c, .slice a3 hl3 c3, .slice a7 4 c7] 29) := ⟨_, rfl⟩
  rw [← hW8] at hj k8 ⊢
  clear hW8 hir
  clear hfl
  refine callE 8 rfl (by kernel_rfl) (by rfl) 23 #[.slice (some ⟨W7.heap.size, 0, none⟩) 3 3] (by go_simp) (fun v v' => Kept [] W3 v' ∧ ∃ a c, v = .slice a pk.length c ∧ SrcB v' (.slice a pk.length c) pk ∧ pk.length ≤ c ∧ c ≤ 9223372036854775807) (fun _ _ h => h.1) (hj.out.mono fun e w' h => by
    obtain ⟨v, rfl, h1⟩ := h
    obtain ⟨a, c, rfl⟩ := owns_slice h1.2.2.2
    have hcp := owns_caps h1.2.2.2
    exact ⟨_, rfl, k8.out.trans h1.1, a, c, rfl, h1.src, hcp.1, hcp.2.1⟩) ?_
  rintro _ W9 ⟨k9, a9, c9, rfl, hs9, hc1, hc2⟩
  simp only [Act.put, List.setIfInBounds_toArray, List.set_cons_succ, List.set_cons_zero]
  refine takeH 9 (.slice a9 pk.length c9) rfl (by kernel_rfl) (by kernel_rfl) (by kernel_rfl) (fun _ _ _ h => h) (by rfl) (fun v hv => by go_simp) k9 ?_
  simp only [Act.put, List.setIfInBounds_toArray, List.set_cons_succ, List.set_cons_zero]
  refine wpAnyH_done (by kernel_rfl) ?_ _
  have Kd := hid (K3.out.trans k9)
  have Hs := hid hs9
  have Hc1 := hid hc1; have Hc2 := hid hc2
  clear hH k9 hs9 k7 hs7 hc1 hc2 hj
  go_wp2
  go_ret
  exact ⟨a9, c9, rfl, Kd.out, Hs.out, Hc1.out, Hc2.out⟩
end Go.Proofs.YtembincggkpflaaDoor
