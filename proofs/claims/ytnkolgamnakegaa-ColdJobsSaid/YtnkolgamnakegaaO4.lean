
/- object: an operation begins. -/
import Derived.Test.YtnkolgamnakegaaO3
namespace Go.Proofs.Ytnkolgamnakegaa
open Go.RowKit Go.Lib Go.Maps

theorem st_cells {W : World} {p T : Nat} {q : Int} {mv : Value} {sz : Int} {fv flv : Value} {k : Int} {more : List Value} (h : W.heap[p]? = some (.cells (stC q mv sz fv flv k more) T (0, 0))) :
    W.cell? ⟨p, 0, none⟩ = some (.int .i64 q) ∧ W.cell? ⟨p, 1, none⟩ = some mv ∧ W.cell? ⟨p, 2, none⟩ = some (.int .i64 sz) ∧ W.cell? ⟨p, 3, none⟩ = some fv ∧ W.cell? ⟨p, 4, none⟩ = some flv ∧ W.cell? ⟨p, 5, none⟩ = some (.int .i64 k) := by
  obtain ⟨h0, h1, h2, h3, h4, h5⟩ := stC_get q mv sz fv flv k more
  exact ⟨(cell_of_row _ _ _ _ _ _ h).trans h0, (cell_of_row _ _ _ _ _ _ h).trans h1, (cell_of_row _ _ _ _ _ _ h).trans h2, (cell_of_row _ _ _ _ _ _ h).trans h3, (cell_of_row _ _ _ _ _ _ h).trans h4, (cell_of_row _ _ _ _ _ _ h).trans h5⟩
theorem st_set {W : World} {p T : Nat} {q : Int} {mv : Value} {sz : Int} {fv flv : Value} {k : Int} {more : List Value} (h : W.heap[p]? = some (.cells (stC q mv sz fv flv k more) T (0, 0))) (u : Value) (m : Int) :
    (W.setCell ⟨p, 1, none⟩ u).heap[p]? = some (.cells (stC q u sz fv flv k more) T (0, 0)) ∧ (W.setCell ⟨p, 2, none⟩ (.int .i64 m)).heap[p]? = some (.cells (stC q mv m fv flv k more) T (0, 0)) ∧ (W.setCell ⟨p, 3, none⟩ u).heap[p]? = some (.cells (stC q mv sz u flv k more) T (0, 0)) ∧
    (W.setCell ⟨p, 4, none⟩ u).heap[p]? = some (.cells (stC q mv sz fv u k more) T (0, 0)) ∧ (W.setCell ⟨p, 5, none⟩ (.int .i64 m)).heap[p]? = some (.cells (stC q mv sz fv flv m more) T (0, 0)) := by
  obtain ⟨h1, h2, h3, h4, h5⟩ := stC_set q mv sz fv flv k more u m
  exact ⟨by rw [← h1]; exact Go.heap_setCell_same W p 1 _ _ _ h, by rw [← h2]; exact Go.heap_setCell_same W p 2 _ _ _ h, by rw [← h3]; exact Go.heap_setCell_same W p 3 _ _ _ h, by rw [← h4]; exact Go.heap_setCell_same W p 4 _ _ _ h, by rw [← h5]; exact Go.heap_setCell_same W p 5 _ _ _ h⟩
theorem Ob.mono {w : World} {S U : List Nat} {p T : Nat} {more : List Value} {q : Int} {es : List Ent} {fv : Value} {fl : List Bool} {k : Nat} (h : Ob w S p T more q es fv fl k) (hU : ∀ x ∈ S, x ∈ U) (hb : ∀ x ∈ U, x < w.heap.size) : Ob w U p T more q es fv fl k := by
  obtain ⟨⟨mv, flv, R, h1, h2, h3, h4, h5, h6⟩, hp, _, hq, hs⟩ := h
  exact ⟨⟨mv, flv, R, fun x hx => ⟨hU x (h1 x hx).1, (h1 x hx).2⟩, h2, h3.more hU, h4, h5, h6⟩, hU p hp, hb, hq, hs⟩
/-- Began: what is told, what has turned. -/
def Began (w : World) (S : List Nat) (p T : Nat) (more : List Value) (q : Int) (es : List Ent) (fv : Value) (fl : List Bool) (k : Nat) (left : Int) (e : Ending) (w' : World) : Prop :=
  e = .returned (.int .i64 (opE fl)) ∧ Kept (p :: fuB fv) w w' ∧ Ob w' S p T more q es fv (fl.drop 1) (k + 1) ∧ FuV w' S fv (decL left)
set_option maxHeartbeats 1000000 in
theorem operate_go (w : World) (S : List Nat) (p T : Nat) (more : List Value) (q : Int) (es : List Ent) (fv : Value) (fl : List Bool) (k : Nat) (left : Int) (h : Ob w S p T more q es fv fl k) (hk : k ≤ 1099511627776) (hf : FuV w S fv left) (h0 : left ≠ 0) :
    Calls Try.prog 58 #[.pointer (some ⟨p, 0, none⟩)] w (Began w S p T more q es fv fl k left) := by
  have H := hid h
  have HF := hid hf
  have HL := hid h0
  rcases hf with ⟨rfl, rfl⟩ | ⟨f, rfl, hf2, hf3, hf4, hf5⟩
  · have HW := H
    cases fl with
    | nil =>
      go_enter Try.func58, Try.ntmps58
      obtain ⟨⟨mv, flv, R, hR, hrow, hmp, hmpp, hfl, hth⟩, hp, hb, hq, hs⟩ := HW.out
      obtain ⟨_, _, _, g3, g4, g5⟩ := st_cells hrow
      have f5 : w.frozen? ⟨p, 5, none⟩ = false := free_of_row' hrow 5
      have r2 := (st_set hrow undef ((k : Int) + 1)).2.2.2.2
      have K2 := hid (show Kept [p] w (w.setCell ⟨p, 5, none⟩ (.int .i64 ((k : Int) + 1))) from (Kept.refl [p] w).setCell (p := ⟨p, 5, none⟩) (fun _ => by simp) _)
      have hRp := hid (show ∀ x ∈ R, x ∉ [p] from fun x hx hm => (hR x hx).2.1 (by simpa using hm))
      have hmk := hid (show Mp (w.setCell ⟨p, 5, none⟩ (.int .i64 ((k : Int) + 1))) S mv es from by
        rcases hmp with h | ⟨b, h1, h2, h3⟩
        · exact Or.inl h
        · exact Or.inr ⟨b, h1, h2, K2.out.ownsMap' h3 (fun hm => hmpp (by rw [h1]; simp at hm; rw [hm]))⟩)
      have hth2 := hid (fun e he => (hth e he).kept K2.out hRp.out)
      have hfl2 := hid (hfl.kept K2.out hRp.out)
      have gg4 : (w.setCell ⟨p, 5, none⟩ (.int .i64 ((k : Int) + 1))).cell? ⟨p, 4, none⟩ = some flv := (st_cells r2).2.2.2.2.1
      have ff4 : (w.setCell ⟨p, 5, none⟩ (.int .i64 ((k : Int) + 1))).frozen? ⟨p, 4, none⟩ = false := free_of_row' r2 4
      have R2 := hid r2
      have HR := hid hR; have HMPP := hid hmpp; have HP := hid hp; have HB := hid hb; have HQ := hid hq; have HS := hid hs
      have hzK := hid (show w.heap.size ≤ (w.setCell ⟨p, 5, none⟩ (.int .i64 ((k : Int) + 1))).heap.size from K2.out.size)
      obtain ⟨hl0, fa, fc, rfl, hc1, hc2, hc3, _⟩ := hfl
      have hfin := hid (show Ob (w.setCell ⟨p, 5, none⟩ (.int .i64 ((k : Int) + 1))) S p T more q es (.pointer none) [] (k + 1) from
        ⟨⟨mv, _, R, HR.out, by simpa using R2.out, hmk.out, HMPP.out, hfl2.out, hth2.out⟩, HP.out, fun x hx => Nat.lt_of_lt_of_le (HB.out x hx) hzK.out, HQ.out, HS.out⟩)
      clear hrow hmp hR hmpp hp hb hq hs hth r2 hl0 hc1 hc2 hc3 h
      go_wp2
      go_ret
      exact ⟨rfl, K2.out, hfin.out, (Or.inl ⟨rfl, rfl⟩)⟩
    | cons b0 r0 =>
      go_enter Try.func58, Try.ntmps58
      obtain ⟨⟨mv, flv, R, hR, hrow, hmp, hmpp, hfl, hth⟩, hp, hb, hq, hs⟩ := HW.out
      obtain ⟨_, _, _, g3, g4, g5⟩ := st_cells hrow
      have f5 : w.frozen? ⟨p, 5, none⟩ = false := free_of_row' hrow 5
      have r2 := (st_set hrow undef ((k : Int) + 1)).2.2.2.2
      have K2 := hid (show Kept [p] w (w.setCell ⟨p, 5, none⟩ (.int .i64 ((k : Int) + 1))) from (Kept.refl [p] w).setCell (p := ⟨p, 5, none⟩) (fun _ => by simp) _)
      have hRp := hid (show ∀ x ∈ R, x ∉ [p] from fun x hx hm => (hR x hx).2.1 (by simpa using hm))
      have hmk := hid (show Mp (w.setCell ⟨p, 5, none⟩ (.int .i64 ((k : Int) + 1))) S mv es from by
        rcases hmp with h | ⟨b, h1, h2, h3⟩
        · exact Or.inl h
        · exact Or.inr ⟨b, h1, h2, K2.out.ownsMap' h3 (fun hm => hmpp (by rw [h1]; simp at hm; rw [hm]))⟩)
      have hth2 := hid (fun e he => (hth e he).kept K2.out hRp.out)
      have hfl2 := hid (hfl.kept K2.out hRp.out)
      have gg4 : (w.setCell ⟨p, 5, none⟩ (.int .i64 ((k : Int) + 1))).cell? ⟨p, 4, none⟩ = some flv := (st_cells r2).2.2.2.2.1
      have ff4 : (w.setCell ⟨p, 5, none⟩ (.int .i64 ((k : Int) + 1))).frozen? ⟨p, 4, none⟩ = false := free_of_row' r2 4
      have R2 := hid r2
      have HR := hid hR; have HMPP := hid hmpp; have HP := hid hp; have HB := hid hb; have HQ := hid hq; have HS := hid hs
      have hzK := hid (show w.heap.size ≤ (w.setCell ⟨p, 5, none⟩ (.int .i64 ((k : Int) + 1))).heap.size from K2.out.size)
      have hx := hid hfl
      obtain ⟨hl0, fa, fc, rfl, hc1, hc2, hc3, h5⟩ := hfl
      obtain ⟨x, rfl, hxR, hxc⟩ := h5 0 (.bool b0) rfl
      have hxs : x.add 0 = x := by simp [Addr.add]
      rw [hxs] at hxc
      have gx : (w.setCell ⟨p, 5, none⟩ (.int .i64 ((k : Int) + 1))).cell? x = some (.bool b0) := (K2.out.cell (World.block_lt_of_cell? _ _ hxc) (hRp.out _ hxR)).trans hxc
      have hlen : (b0 :: r0).length = r0.length + 1 := rfl
      obtain ⟨a2, c2, hsl, hv2⟩ := bool_rest (.slice (some x) (r0.length + 1) fc) r0.length (.bool b0) (r0.map .bool) R w (by simpa using hx.out)
      have r3 := hid (st_set R2.out (.slice a2 r0.length c2) 0).2.2.2.1
      have K3 := hid (show Kept [p] (w.setCell ⟨p, 5, none⟩ (.int .i64 ((k : Int) + 1))) ((w.setCell ⟨p, 5, none⟩ (.int .i64 ((k : Int) + 1))).setCell ⟨p, 4, none⟩ (.slice a2 r0.length c2)) from (Kept.refl [p] _).setCell (p := ⟨p, 4, none⟩) (fun _ => by simp) _)
      have hfin := hid (show Ob ((w.setCell ⟨p, 5, none⟩ (.int .i64 ((k : Int) + 1))).setCell ⟨p, 4, none⟩ (.slice a2 r0.length c2)) S p T more q es (.pointer none) r0 (k + 1) from
        ⟨⟨mv, .slice a2 r0.length c2, R, HR.out, by simpa using r3.out, by
          rcases hmk.out with h | ⟨b, h1, h2, h3⟩
          · exact Or.inl h
          · exact Or.inr ⟨b, h1, h2, K3.out.ownsMap' h3 (fun hm => HMPP.out (by rw [h1]; simp at hm; rw [hm]))⟩, HMPP.out, (hv2 _ (by simpa using hfl2.out)).kept K3.out hRp.out, fun e he => (hth2.out e he).kept K3.out hRp.out⟩, HP.out, fun y hy => Nat.lt_of_lt_of_le (HB.out y hy) (Nat.le_trans hzK.out K3.out.size), HQ.out, HS.out⟩)
      rw [hlen] at g4 gg4
      obtain ⟨er, her⟩ : ∃ er, er = opE (b0 :: r0) := ⟨_, rfl⟩
      have HER := hid her
      have hwh := hid (fun W => by have h := when_any b0 30 W; rw [show (if b0 then (30 : Int) else 0) = er by rw [her]; cases b0 <;> rfl] at h; exact h)
      clear her
      have K4 := hid (K2.out.trans K3.out)
      clear hrow hmp hR hmpp hp hb hq hs hth r2 hl0 hc3 h hx hfl2 h5 hxc hxR hlen hv2 hxs
      generalize r0.length = n at *
      go_wp2_with fail
      refine (hwh.out _).mono ?_
      rintro e wz ⟨rfl, rfl⟩
      go_wp2
      go_ret
      exact ⟨by rw [← HER.out]; rfl, K4.out, hfin.out, (Or.inl ⟨rfl, rfl⟩)⟩
  · cases fl with
    | nil =>
      obtain ⟨⟨mv0, flv0, R0, hR0, hrow0, _⟩, hp0, hb0, _⟩ := H.out
      have g30 := (st_cells hrow0).2.2.2.1
      have hst := hid (step_go w S f left HF.out HL.out)
      clear hR0 hrow0 hf3
      go_enter Try.func58, Try.ntmps58
      go_wp2_with fail
      refine hst.out.mono ?_
      rintro e w1 ⟨rfl, k1, fu1⟩
      have K1 := hid k1
      have F1 := hid fu1
      have HW := hid (H.out.kept k1 (fun x hx hm => hf2 (by simp at hm; rw [← hm]; exact hx)))
      have HN := hid (show f ≠ p from fun e => hf2 (by rw [e]; exact hp0))
      clear k1 fu1 hst g30 hp0 hb0 h
      obtain ⟨⟨mv, flv, R, hR, hrow, hmp, hmpp, hfl, hth⟩, hp, hb, hq, hs⟩ := HW.out
      obtain ⟨_, _, _, g3, g4, g5⟩ := st_cells hrow
      have f5 : w1.frozen? ⟨p, 5, none⟩ = false := free_of_row' hrow 5
      have r2 := (st_set hrow undef ((k : Int) + 1)).2.2.2.2
      have K2 := hid (show Kept [p] w1 (w1.setCell ⟨p, 5, none⟩ (.int .i64 ((k : Int) + 1))) from (Kept.refl [p] w1).setCell (p := ⟨p, 5, none⟩) (fun _ => by simp) _)
      have hRp := hid (show ∀ x ∈ R, x ∉ [p] from fun x hx hm => (hR x hx).2.1 (by simpa using hm))
      have hmk := hid (show Mp (w1.setCell ⟨p, 5, none⟩ (.int .i64 ((k : Int) + 1))) S mv es from by
        rcases hmp with h | ⟨b, h1, h2, h3⟩
        · exact Or.inl h
        · exact Or.inr ⟨b, h1, h2, K2.out.ownsMap' h3 (fun hm => hmpp (by rw [h1]; simp at hm; rw [hm]))⟩)
      have hth2 := hid (fun e he => (hth e he).kept K2.out hRp.out)
      have hfl2 := hid (hfl.kept K2.out hRp.out)
      have gg4 : (w1.setCell ⟨p, 5, none⟩ (.int .i64 ((k : Int) + 1))).cell? ⟨p, 4, none⟩ = some flv := (st_cells r2).2.2.2.2.1
      have ff4 : (w1.setCell ⟨p, 5, none⟩ (.int .i64 ((k : Int) + 1))).frozen? ⟨p, 4, none⟩ = false := free_of_row' r2 4
      have R2 := hid r2
      have HR := hid hR; have HMPP := hid hmpp; have HP := hid hp; have HB := hid hb; have HQ := hid hq; have HS := hid hs
      have hzK := hid (show w1.heap.size ≤ (w1.setCell ⟨p, 5, none⟩ (.int .i64 ((k : Int) + 1))).heap.size from K2.out.size)
      obtain ⟨hl0, fa, fc, rfl, hc1, hc2, hc3, _⟩ := hfl
      have hfin := hid (show Ob (w1.setCell ⟨p, 5, none⟩ (.int .i64 ((k : Int) + 1))) S p T more q es (.pointer (some ⟨f, 0, none⟩)) [] (k + 1) from
        ⟨⟨mv, _, R, HR.out, by simpa using R2.out, hmk.out, HMPP.out, hfl2.out, hth2.out⟩, HP.out, fun x hx => Nat.lt_of_lt_of_le (HB.out x hx) hzK.out, HQ.out, HS.out⟩)
      clear hrow hmp hR hmpp hp hb hq hs hth r2 hl0 hc1 hc2 hc3
      go_wp2
      go_ret
      exact ⟨rfl, ((K1.out.wider (fun x _ hx => by simp at hx; simp [fuB, hx])).trans' K2.out (fun x _ hx => by simp at hx; simp [hx])), hfin.out, (F1.out.kept K2.out (fun x hx hm => by simp [fuB] at hx; simp at hm; exact HN.out (by rw [← hx, hm])))⟩
    | cons b0 r0 =>
      obtain ⟨⟨mv0, flv0, R0, hR0, hrow0, _⟩, hp0, hb0, _⟩ := H.out
      have g30 := (st_cells hrow0).2.2.2.1
      have hst := hid (step_go w S f left HF.out HL.out)
      clear hR0 hrow0 hf3
      go_enter Try.func58, Try.ntmps58
      go_wp2_with fail
      refine hst.out.mono ?_
      rintro e w1 ⟨rfl, k1, fu1⟩
      have K1 := hid k1
      have F1 := hid fu1
      have HW := hid (H.out.kept k1 (fun x hx hm => hf2 (by simp at hm; rw [← hm]; exact hx)))
      have HN := hid (show f ≠ p from fun e => hf2 (by rw [e]; exact hp0))
      clear k1 fu1 hst g30 hp0 hb0 h
      obtain ⟨⟨mv, flv, R, hR, hrow, hmp, hmpp, hfl, hth⟩, hp, hb, hq, hs⟩ := HW.out
      obtain ⟨_, _, _, g3, g4, g5⟩ := st_cells hrow
      have f5 : w1.frozen? ⟨p, 5, none⟩ = false := free_of_row' hrow 5
      have r2 := (st_set hrow undef ((k : Int) + 1)).2.2.2.2
      have K2 := hid (show Kept [p] w1 (w1.setCell ⟨p, 5, none⟩ (.int .i64 ((k : Int) + 1))) from (Kept.refl [p] w1).setCell (p := ⟨p, 5, none⟩) (fun _ => by simp) _)
      have hRp := hid (show ∀ x ∈ R, x ∉ [p] from fun x hx hm => (hR x hx).2.1 (by simpa using hm))
      have hmk := hid (show Mp (w1.setCell ⟨p, 5, none⟩ (.int .i64 ((k : Int) + 1))) S mv es from by
        rcases hmp with h | ⟨b, h1, h2, h3⟩
        · exact Or.inl h
        · exact Or.inr ⟨b, h1, h2, K2.out.ownsMap' h3 (fun hm => hmpp (by rw [h1]; simp at hm; rw [hm]))⟩)
      have hth2 := hid (fun e he => (hth e he).kept K2.out hRp.out)
      have hfl2 := hid (hfl.kept K2.out hRp.out)
      have gg4 : (w1.setCell ⟨p, 5, none⟩ (.int .i64 ((k : Int) + 1))).cell? ⟨p, 4, none⟩ = some flv := (st_cells r2).2.2.2.2.1
      have ff4 : (w1.setCell ⟨p, 5, none⟩ (.int .i64 ((k : Int) + 1))).frozen? ⟨p, 4, none⟩ = false := free_of_row' r2 4
      have R2 := hid r2
      have HR := hid hR; have HMPP := hid hmpp; have HP := hid hp; have HB := hid hb; have HQ := hid hq; have HS := hid hs
      have hzK := hid (show w1.heap.size ≤ (w1.setCell ⟨p, 5, none⟩ (.int .i64 ((k : Int) + 1))).heap.size from K2.out.size)
      have hx := hid hfl
      obtain ⟨hl0, fa, fc, rfl, hc1, hc2, hc3, h5⟩ := hfl
      obtain ⟨x, rfl, hxR, hxc⟩ := h5 0 (.bool b0) rfl
      have hxs : x.add 0 = x := by simp [Addr.add]
      rw [hxs] at hxc
      have gx : (w1.setCell ⟨p, 5, none⟩ (.int .i64 ((k : Int) + 1))).cell? x = some (.bool b0) := (K2.out.cell (World.block_lt_of_cell? _ _ hxc) (hRp.out _ hxR)).trans hxc
      have hlen : (b0 :: r0).length = r0.length + 1 := rfl
      obtain ⟨a2, c2, hsl, hv2⟩ := bool_rest (.slice (some x) (r0.length + 1) fc) r0.length (.bool b0) (r0.map .bool) R w1 (by simpa using hx.out)
      have r3 := hid (st_set R2.out (.slice a2 r0.length c2) 0).2.2.2.1
      have K3 := hid (show Kept [p] (w1.setCell ⟨p, 5, none⟩ (.int .i64 ((k : Int) + 1))) ((w1.setCell ⟨p, 5, none⟩ (.int .i64 ((k : Int) + 1))).setCell ⟨p, 4, none⟩ (.slice a2 r0.length c2)) from (Kept.refl [p] _).setCell (p := ⟨p, 4, none⟩) (fun _ => by simp) _)
      have hfin := hid (show Ob ((w1.setCell ⟨p, 5, none⟩ (.int .i64 ((k : Int) + 1))).setCell ⟨p, 4, none⟩ (.slice a2 r0.length c2)) S p T more q es (.pointer (some ⟨f, 0, none⟩)) r0 (k + 1) from
        ⟨⟨mv, .slice a2 r0.length c2, R, HR.out, by simpa using r3.out, by
          rcases hmk.out with h | ⟨b, h1, h2, h3⟩
          · exact Or.inl h
          · exact Or.inr ⟨b, h1, h2, K3.out.ownsMap' h3 (fun hm => HMPP.out (by rw [h1]; simp at hm; rw [hm]))⟩, HMPP.out, (hv2 _ (by simpa using hfl2.out)).kept K3.out hRp.out, fun e he => (hth2.out e he).kept K3.out hRp.out⟩, HP.out, fun y hy => Nat.lt_of_lt_of_le (HB.out y hy) (Nat.le_trans hzK.out K3.out.size), HQ.out, HS.out⟩)
      rw [hlen] at g4 gg4
      obtain ⟨er, her⟩ : ∃ er, er = opE (b0 :: r0) := ⟨_, rfl⟩
      have HER := hid her
      have hwh := hid (fun W => by have h := when_any b0 30 W; rw [show (if b0 then (30 : Int) else 0) = er by rw [her]; cases b0 <;> rfl] at h; exact h)
      clear her
      have K4 := hid (K2.out.trans K3.out)
      clear hrow hmp hR hmpp hp hb hq hs hth r2 hl0 hc3 hx hfl2 h5 hxc hxR hlen hv2 hxs
      generalize r0.length = n at *
      go_wp2_with fail
      refine (hwh.out _).mono ?_
      rintro e wz ⟨rfl, rfl⟩
      go_wp2
      go_ret
      exact ⟨by rw [← HER.out]; rfl, ((K1.out.wider (fun x _ hx => by simp at hx; simp [fuB, hx])).trans' K4.out (fun x _ hx => by simp at hx; simp [hx])), hfin.out, (F1.out.kept K4.out (fun x hx hm => by simp [fuB] at hx; simp at hm; exact HN.out (by rw [← hx, hm])))⟩
end Go.Proofs.Ytnkolgamnakegaa
