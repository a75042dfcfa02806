/- bytes.Clone; seal.Unchain. -/
import Derived.Test.YtijkpnggehnmcabDoorS8
import Derived.Test.YtijkpnggehnmcabDoorDR
import Derived.WalkSpells
namespace Go.Proofs.YtijkpnggehnmcabDoor
open Go.RowKit Go.Lib

/-- A copy: bytes of its own. -/
def Copied (w : World) (bs : List UInt8) (e : Ending) (w' : World) : Prop :=
  ∃ a c, e = .returned (.slice a bs.length c) ∧ Kept [] w w' ∧ Bys w' a c bs ∧ ∀ x, a = some x → w.heap.size ≤ x.block

theorem clone_any (a : Option Addr) (c : Nat) (bs : List UInt8) (w : World) (h : SrcB w (.slice a bs.length c) bs) (hlen : bs.length ≤ 500000000) :
    Calls Tryd.prog 36 #[.slice a bs.length c] w (Copied w bs) := by
  obtain ⟨i0, hi0, hz0, hz1, hz2⟩ := info_parts info_u8
  rcases h with ⟨h1, h2, _⟩ | ⟨x, c', h1, hc⟩
  · have hb : bs = [] := List.eq_nil_of_length_eq_zero h2
    subst hb
    simp at h1
    obtain ⟨rfl, rfl⟩ := h1
    have heq := fun (w : World) => run_eql_slice_nil (P := Tryd.prog) w 22 5 none 0 0 0 0 Tryd.underlying22
    go_enter Tryd.func36, Tryd.ntmps36
    go_wp2
    go_ret
    exact ⟨none, 0, rfl, Kept.refl _ _, ⟨Or.inl ⟨rfl, rfl, rfl⟩, fun x hx => by simp at hx⟩, fun x hx => by simp at hx⟩
  · simp at h1
    obtain ⟨rfl, rfl⟩ := h1
    have hsrc := hid (show SrcB w (.slice (some x) bs.length c) bs from Or.inr ⟨x, c, rfl, hc⟩)
    clear hc
    have heq := fun (w : World) => run_eql_slice_nil (P := Tryd.prog) w 22 5 (some x) bs.length c 0 0 Tryd.underlying22
    go_enter Tryd.func36, Tryd.ntmps36
    go_wp2_with (at_builtin; refine halt ?_)
    refine Halt.mk ?_
    refine wpList_append_src _ rfl _ _ _ rfl w.heap.size 5 i0 _ 1 Tryd.underlying22 hi0 hz0 hz1 hz2 rfl (.slice (some ⟨w.heap.size, 0, none⟩) 0 0) ([] : List UInt8).length (([] : List UInt8).map B) rfl (RowAt.fresh w).2.2.2 (.slice (some x) bs.length c) bs.length (bs.map B) rfl (hsrc.out.kept ((Kept.refl [] w).alloc _) (by simp)) (by simp) (B_oneCell bs) ?_ ?_ ?_ ?_
    · unfold maxLen; simp; omega
    · simp; omega
    · simp
    intro v2 w2 hown2 hgrow2 _ hf2
    obtain ⟨a2, c2, rfl⟩ := owns_slice hown2
    have hr := hid (RowAt.step (ys := bs) (RowAt.fresh w) (Kept.refl [] _) (by simpa using hown2) hgrow2)
    clear hown2 hgrow2 hf2
    simp only [List.length_nil, Nat.zero_add] at hr ⊢
    go_wp2
    go_ret
    have hown := hr.out.2.2.2
    simp only [List.nil_append] at hown
    exact ⟨a2, c2, rfl, hr.out.1, bys_of_row hown, fun y hy => (own_block_ge hown y.block (by simp [Value.ownBlock, hy])).1⟩

/-- What Unchain gives. -/
def Unchained (w : World) (xs : List UInt8) (e : Ending) (w' : World) : Prop :=
  ∃ rows rest av cv vals a c, Unch xs rows rest ∧ e = .returned (.tuple #[.slice av rows.length cv, .slice a rest.length c]) ∧ Kept [] w w' ∧ w'.ownsRow w.heap.size 22 1 (.slice av rows.length cv) rows.length vals ∧ RowsAt (w.heap.size ≤ ·) w' vals rows ∧
    Bys w' a c rest ∧ ∀ x, a = some x → w.heap.size ≤ x.block

theorem enters_unchain1 : Enters 34 := fun args w => by simp [go_sem]
theorem UcQ.err {w0 W W' : World} {pr pl : Nat} {xs : List UInt8} {x : Nat} (h : UcQ w0 pr pl xs W) (hx : pr ≠ x ∧ pl ≠ x) (he : ErrAt W x) (hk : Kept [x] W W') : UcQ w0 pr pl xs W' := by
  obtain ⟨rows, rest, h1, ⟨ar, cr, h2, h3⟩, v, vals, h4, h5, h6, h7⟩ := h
  exact ⟨rows, rest, h1, ⟨ar, cr, hk.at h2 (by simpa using hx.1), h3⟩, v, vals, hk.at h4 (by simpa using hx.2), owns_err h5 he hk, h6, h7.err he hk⟩

theorem Unch.len {xs : List UInt8} {rows : List (List UInt8)} {rest : List UInt8} (h : Unch xs rows rest) : rest.length ≤ xs.length := by
  induction h with
  | stop xs _ => exact Nat.le_refl _
  | more xs r rows rest _ _ ih => simp at ih; omega

set_option maxHeartbeats 1000000 in
theorem unchain_any (a : Option Addr) (c : Nat) (xs : List UInt8) (w : World) (h : ∀ W, Kept [] w W → BSl W a c xs) (ht : Tab w) (hlen : xs.length ≤ 500000000) :
    Calls Tryd.prog 19 #[.slice a xs.length c] w (Unchained w xs) := by
  have hmf : ∀ (fn : Fn) (first cap : Array Value) (w : World), (Instr.makeFunc fn first cap).run Tryd.prog w = .ok (.func fn first cap) w := fun _ _ _ _ => rfl
  obtain ⟨W0, hW0⟩ : ∃ W, W = ((w.alloc (.cells #[.slice none 0 0] 35)).alloc (.cells #[.slice a xs.length c] 22)) := ⟨_, rfl⟩
  have hkW := hid (show Kept [] w W0 from hW0 ▸ ((Kept.refl [] w).alloc _).alloc _)
  have hpl := hid (show W0.heap[w.heap.size]? = some (.cells #[.slice none 0 0] 35 (0, 0)) from hW0 ▸ heap_alloc_old (heap_alloc_at rfl))
  have hpr := hid (show W0.heap[w.heap.size + 1]? = some (.cells #[.slice a xs.length c] 22 (0, 0)) from hW0 ▸ heap_alloc_at (by simp))
  have lb := lt_of_block hpl.out
  have lp := lt_of_block hpr.out
  have hpos := ht.pos
  have Ht := hid ht; have H := hid h
  have hd := hid (decode_any' 34 enters_unchain1 #[.pointer (some ⟨w.heap.size + 1, 0, none⟩), .pointer (some ⟨w.heap.size, 0, none⟩)] (.slice a xs.length c) xs W0 ((h W0 hkW.out).src) (by omega) [w.heap.size + 1, w.heap.size] (fun x hx => by simp at hx; omega)
    (fun _ _ W' => UcQ w (w.heap.size + 1) w.heap.size xs W') (fun n rest W W' x hq hx he hk => hq.err (by omega) he hk)
    (fun rb a' c' W hkW' hrb hab hrd => by
      exact unchain1 w rb _ _ a' c' xs W hrd Ht.out (hkW.out.trans hkW') (by omega) (by omega) ⟨a, c, hkW'.at hpr.out (by simp), H.out⟩ (hkW'.at hpl.out (by simp)) (fun x hx => by
        have := hab x hx
        have := (hrd.src x hx).1
        unfold Mid
        simp
        omega) hlen))
  have HW0 := hid hW0
  clear h ht hW0
  go_enter Tryd.func19, Tryd.ntmps19
  go_wp2_with fail
  rw [← HW0.out]
  refine hd.out.mono ?_
  rintro e w4 ⟨n, rest0, rfl, hk4, rows, rest, hu, ⟨ar, cr, h2, h3⟩, v, vals, h4, h5, h6, h7⟩
  obtain ⟨va, vc, rfl⟩ := owns_slice h5
  have hk04 := hid (show Kept [] w w4 from hkW.out.trans' hk4 (fun x hx hm => by simp at hm; omega))
  have hsz := hk04.out.size
  have gr := cell_of_one h2
  have gl := cell_of_one h4
  have hrl := hid hu.len
  have hcl := hid (fun (W : World) (hk : Kept [] w W) => clone_any ar cr rest W (h3 W hk).src (by have := hrl.out; omega))
  have Hu := hid hu; have H5 := hid h5; have H7 := hid h7
  clear hu h2 h3 h4 h5 h6 h7 hk4 hd
  generalize (if n = 0 ∧ rest0 ≠ [] then (22 : Int) else n) = er
  have gld : w4.drew.cell? ⟨w.heap.size, 0, none⟩ = some (.slice va rows.length vc) := gl
  have grd : w4.drew.cell? ⟨w.heap.size + 1, 0, none⟩ = some (.slice ar rest.length cr) := gr
  have lbd : w.heap.size + 1 < w4.drew.heap.size := World.block_lt_of_cell? w4.drew _ grd
  have lbd0 : w.heap.size < w4.drew.heap.size := by omega
  have hkd := hid (show Kept [] w w4.drew from hk04.out.drew)
  go_wp2_with fail
  go_region_held3 (fun w' => w'.cell? ⟨w.heap.size, 0, none⟩ = some (.slice va rows.length vc) ∧ w'.cell? ⟨w.heap.size + 1, 0, none⟩ = some (.slice ar rest.length cr)) (first | exact ⟨gld, grd⟩ | exact ⟨gl5, gr5⟩)
    (first | (go_at_call 36; refine (hcl.out _ hkd.out).mono ?_; rintro e w5 ⟨a5, c5, rfl, hk5, hb5, hx5⟩; have gl5 := (hk5.cell (p := ⟨w.heap.size, 0, none⟩) lbd0 (by simp)).trans gld; have gr5 := (hk5.cell (p := ⟨w.heap.size + 1, 0, none⟩) lbd (by simp)).trans grd; have Hk5 := hid hk5; have Hb5 := hid hb5; have Hx5 := hid hx5; clear hk5 hb5 hx5))
  go_wp2
  go_ret2
  refine ⟨rows, rest, va, vc, vals, a5, c5, Hu.out, rfl, hkd.out.trans Hk5.out, ?_, ?_, Hb5.out, fun x hx => Nat.le_trans hkd.out.size (Hx5.out x hx)⟩
  · exact Hk5.out.owns ((Kept.of_drew [] w4).owns H5.out (by simp)) (by simp)
  · exact (H7.out.kept (Kept.of_drew [] w4) (by simp)).kept Hk5.out (by simp)
end Go.Proofs.YtijkpnggehnmcabDoor
