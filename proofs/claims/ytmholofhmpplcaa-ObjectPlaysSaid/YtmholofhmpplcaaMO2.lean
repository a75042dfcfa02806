import Derived.Test.YtmholofhmpplcaaMO

/- object: Drop. -/
namespace Go.Proofs.Ytmholofhmpplcaa
open Go.RowKit Go.Lib Go.Maps

theorem del_size {es : List Ent} (hr : Rising es) (nm : List UInt8) : (sizeE (delE nm es) : Int) = (sizeE es : Int) - ((lookB nm es).length : Int) ∧ (delE nm es).length ≤ es.length := by
  unfold lookB
  cases hf : findE nm es with
  | none => rw [del_none hf]; simp
  | some e => obtain ⟨h1, h2⟩ := del_some hr hf; simp only; omega
def dropE (fl : List Bool) (es : List Ent) (nm : List UInt8) : List Ent := if opE fl = 0 then delE nm es else es
set_option maxHeartbeats 1000000 in
theorem ob_drop (w : World) (U : List Nat) (p T : Nat) (more : List Value) (q : Int) (es : List Ent) (fv : Value) (fl : List Bool) (k : Nat) (left : Int) (nm : List UInt8) (hnm : nm.length ≤ 1000000000) (h : Ob w U p T more q es fv fl k) (hk : k ≤ 1099511627776) (hf : FuV w U fv left) (h0 : left ≠ 0) :
    Calls Try.prog 18 #[.pointer (some ⟨p, 0, none⟩), .string (S nm)] w fun e w' => e = .returned (.int .i64 (gotE fl es nm)) ∧ Kept (U ++ fuB fv) w w' ∧ Ob w' U p T more q (dropE fl es nm) fv (fl.drop 1) (k + 1) ∧ FuV w' U fv (decL left) := by
  have hop := hid (operate_go w U p T more q es fv fl k left h hk hf h0)
  have hpU := hid h.hp
  have hfuU := hid (show ∀ x ∈ fuB fv, x ∉ U from fun x hx => by
    rcases hf with ⟨rfl, _⟩ | ⟨f, rfl, h2, h3, _⟩
    · simp [fuB] at hx
    · simp [fuB] at hx; subst hx; exact h2)
  clear h hf h0
  by_cases hop0 : opE fl = 0
  · have hE : gotE fl es nm = (if (findE nm es).isSome then 0 else 4) := by unfold gotE; rw [if_pos hop0]
    have hD : dropE fl es nm = delE nm es := by unfold dropE; rw [if_pos hop0]
    unfold Began at hop
    rw [hop0] at hop
    obtain ⟨er, her⟩ : ∃ er, er = gotE fl es nm := ⟨_, rfl⟩
    rw [← her, hD]
    have HE := hid (her.trans hE)
    clear hE hop0 her hD
    go_enter Try.func18, Try.ntmps18
    go_wp2_with fail
    refine hop.out.mono ?_
    rintro e w1 ⟨rfl, k1, ob1, fu1⟩
    have K1 := hid k1; have FU1 := hid fu1
    have hris := ob1.rising
    obtain ⟨⟨mv, flv, R, hR, hrow, hmp, hmpp, hfl, hth⟩, hp, hb, hq, hs⟩ := ob1
    obtain ⟨_, g1, g2, _⟩ := st_cells hrow
    have f2 : w1.frozen? ⟨p, 2, none⟩ = false := free_of_row' hrow 2
    have hlk := mp_look hmp nm hnm
    obtain ⟨la, lc, hlv⟩ := lookV_slice hth nm
    obtain ⟨hdz, hdl⟩ := del_size hris nm
    obtain ⟨gl, hgl⟩ : ∃ gl, gl = (lookB nm es).length := ⟨_, rfl⟩
    have hglz : gl ≤ sizeE es := by
      rw [hgl]
      unfold lookB
      cases hf : findE nm es with
      | none => simp
      | some e => exact sizeE_mem (find_mem hf).1
    rw [← hgl] at hlv hdz
    rw [hlv] at hlk
    obtain ⟨fs, hfs⟩ : ∃ fs, fs = (findE nm es).isSome := ⟨_, rfl⟩
    rw [← hfs] at hlk
    have hwh := hid (fun W => by have h := when_any (!fs) 4 W; rw [show (if (!fs) then (4 : Int) else 0) = er by rw [HE.out, hfs]; cases (findE nm es).isSome <;> rfl] at h; exact h)
    have hz := hs.1
    have hwz : IntKind.i64.wrap ((sizeE es : Int) - (gl : Int)) = (sizeE es : Int) - (gl : Int) := by rw [IntKind.wrap_i64]; omega
    have hrow2 := (st_set hrow undef ((sizeE es : Int) - (gl : Int))).2.1
    have K2 := hid (show Kept [p] w1 (w1.setCell ⟨p, 2, none⟩ (.int .i64 ((sizeE es : Int) - (gl : Int)))) from (Kept.refl [p] w1).setCell (p := ⟨p, 2, none⟩) (fun _ => by simp) _)
    have gg1 : (w1.setCell ⟨p, 2, none⟩ (.int .i64 ((sizeE es : Int) - (gl : Int)))).cell? ⟨p, 1, none⟩ = some mv := (st_cells hrow2).2.1
    have hmp2 : Mp (w1.setCell ⟨p, 2, none⟩ (.int .i64 ((sizeE es : Int) - (gl : Int)))) U mv es := by
      rcases hmp with h | ⟨b, h1, h2, h3⟩
      · exact Or.inl h
      · exact Or.inr ⟨b, h1, h2, K2.out.ownsMap' h3 (fun hm => hmpp (by rw [h1]; simp at hm; rw [hm]))⟩
    obtain ⟨W3, hdel, k3, hmp3⟩ := mp_drop hmp2 nm hnm
    have hpm : p ∉ mpB mv := fun hx => by
      rcases hmp with ⟨h1, _⟩ | ⟨b, h1, _⟩
      · rw [h1] at hx; simp [mpB] at hx
      · rw [h1] at hx; simp [mpB] at hx; exact hmpp (by rw [h1, ← hx])
    have hRm : ∀ x ∈ R, x ∉ mpB mv := fun x hx hm => by
      rcases hmp with ⟨h1, _⟩ | ⟨b, h1, _⟩
      · rw [h1] at hm; simp [mpB] at hm
      · rw [h1] at hm; simp [mpB] at hm; exact (hR x hx).2.2 (by rw [h1, hm])
    have hmU : ∀ x ∈ mpB mv, x ∈ U := fun x hx => by
      rcases hmp with ⟨h1, _⟩ | ⟨b, h1, h2, _⟩
      · rw [h1] at hx; simp [mpB] at hx
      · rw [h1] at hx; simp [mpB] at hx; rw [hx]; exact h2
    have hRp : ∀ x ∈ R, x ∉ [p] := fun x hx hm => (hR x hx).2.1 (by simpa using hm)
    have hz2 := K2.out.size; have hz3 := k3.size
    have hfin := hid (show Ob W3 U p T more q (delE nm es) fv (fl.drop 1) (k + 1) from
      ⟨⟨mv, flv, R, hR, by rw [hdz]; exact k3.at hrow2 hpm, hmp3, hmpp, (hfl.kept K2.out hRp).kept k3 hRm, fun e he => ((hth e (mem_del.1 he).1).kept K2.out hRp).kept k3 hRm⟩, hp, fun x hx => by have := hb x hx; omega, hq, by omega, by omega, fun e he => hs.2.2 e (mem_del.1 he).1⟩)
    have K13 := hid (show Kept (U ++ fuB fv) w W3 from ((K1.out.wider (fun x _ hx => by
      rcases List.mem_cons.1 hx with h | h
      · rw [h]; simp [hp]
      · simp [h])).trans' K2.out (fun x _ hx => by simp at hx; rw [hx]; simp [hp])).trans' k3 (fun x _ hx => by simp [hmU x hx]))
    have FU3 := hid (show FuV W3 U fv (decL left) from (FU1.out.kept K2.out (fun x hx hm => hfuU.out x hx (by simp at hm; rw [hm]; exact hp))).kept k3 (fun x hx hm => hfuU.out x hx (hmU x hm)))
    have hmv : ∃ b, mv = .map b := by
      rcases hmp with ⟨h, _⟩ | ⟨b, h, _⟩
      · exact ⟨_, h⟩
      · exact ⟨_, h⟩
    obtain ⟨mb, rfl⟩ := hmv
    obtain ⟨sz, hsz⟩ : ∃ sz, sz = sizeE es := ⟨_, rfl⟩
    rw [← hsz] at g2 hwz gg1 hdel hz hglz
    clear k1 fu1 hrow hmp hmpp hfl hth hp hb hq hs hR hop hlv hfs hrow2 hmp2 hmp3 hpm hRm hmU hRp hz2 hz3 k3 hdz hdl hgl hris hsz
    go_wp2_with fail
    refine (hwh.out _).mono ?_
    rintro e w4 ⟨rfl, rfl⟩
    clear hwh
    go_wp2
    go_ret
    exact ⟨rfl, K13.out, hfin.out, FU3.out⟩
  · have hE : gotE fl es nm = opE fl := by unfold gotE; rw [if_neg hop0]
    have hD : dropE fl es nm = es := by unfold dropE; rw [if_neg hop0]
    rw [hE, hD]
    obtain ⟨er, her⟩ : ∃ er, er = opE fl := ⟨_, rfl⟩
    have hne : (er != 0) = true := by rw [her]; simpa using hop0
    unfold Began at hop
    rw [← her] at hop ⊢
    clear hE hD hop0 her
    go_enter Try.func18, Try.ntmps18
    go_wp2_with fail
    refine hop.out.mono ?_
    rintro e w1 ⟨rfl, k1, ob1, fu1⟩
    have K1 := hid k1; have OB1 := hid ob1; have FU1 := hid fu1
    clear k1 ob1 fu1 hop
    have hne2 : (er == 0) = false := by simpa [bne] using hne
    go_wp2
    go_ret
    exact ⟨rfl, K1.out.wider (fun x _ hx => by
      rcases List.mem_cons.1 hx with h | h
      · rw [h]; simp [hpU.out]
      · simp [h]), OB1.out, FU1.out⟩
end Go.Proofs.Ytmholofhmpplcaa


/- object: what Put asks ahead. -/
namespace Go.Proofs.Ytmholofhmpplcaa
open Go.RowKit Go.Lib Go.Maps

theorem put_1 (b : Nat) (nm : List UInt8) (hnm : nm.length ≤ 1000000000) (w : World) (hb : w.heap[b]? = some (.cells #[.string (S nm)] 9 (0, 0))) :
    Calls Try.prog 35 #[.pointer (some ⟨b, 0, none⟩)] w fun e w' => e = .returned (.int .i64 (if (!okName nm) then 37 else 0)) ∧ Kept [] w w' := by
  have hc := cell_of_one hb
  have h1 := hid (isname_any nm hnm w)
  have h2 := hid (when_any (!okName nm) 37 w)
  generalize okName nm = o at *
  generalize (if (!o) then (37 : Int) else 0) = er at *
  clear hb
  go_enter Try.func35, Try.ntmps35
  go_wp2_with fail
  refine h1.out.mono ?_
  rintro e w1 ⟨rfl, rfl⟩
  go_wp2_with fail
  refine h2.out.mono ?_
  rintro e w1 ⟨rfl, rfl⟩
  go_wp2
  go_ret
  exact ⟨rfl, Kept.refl _ _⟩
theorem put_2 (b : Nat) (a : Option Addr) (n c : Nat) (w : World) (hb : w.heap[b]? = some (.cells #[.slice a n c] 36 (0, 0))) :
    Calls Try.prog 38 #[.pointer (some ⟨b, 0, none⟩)] w fun e w' => e = .returned (.int .i64 (if decide ((1048576 : Int) < (n : Int)) then 2 else 0)) ∧ Kept [] w w' := by
  have hc := cell_of_one hb
  have h2 := hid (fun o => when_any o 2 w)
  clear hb
  cases hd : decide ((1048576 : Int) < (n : Int))
  · have hd2 : ¬ (1048576 : Int) < (n : Int) := of_decide_eq_false hd
    clear hd
    go_enter Try.func38, Try.ntmps38
    go_wp2_with fail
    refine (h2.out _).mono ?_
    rintro e w1 ⟨rfl, rfl⟩
    go_wp2
    go_ret
    exact ⟨rfl, Kept.refl _ _⟩
  · have hd2 : (1048576 : Int) < (n : Int) := of_decide_eq_true hd
    clear hd
    go_enter Try.func38, Try.ntmps38
    go_wp2_with fail
    refine (h2.out _).mono ?_
    rintro e w1 ⟨rfl, rfl⟩
    go_wp2
    go_ret
    exact ⟨rfl, Kept.refl _ _⟩
theorem put_3 (b d p T : Nat) (z q : Int) (cs : Array Value) (hq : cs[0]? = some (.int .i64 q)) (w : World) (hb : w.heap[b]? = some (.cells #[.int .i64 z] 3 (0, 0))) (hd : w.heap[d]? = some (.cells #[.pointer (some ⟨p, 0, none⟩)] 26 (0, 0))) (hp : w.heap[p]? = some (.cells cs T (0, 0))) :
    Calls Try.prog 39 #[.pointer (some ⟨b, 0, none⟩), .pointer (some ⟨d, 0, none⟩)] w fun e w' => e = .returned (.int .i64 (if decide (q < z) then 31 else 0)) ∧ Kept [] w w' := by
  have hc := cell_of_one hb
  have hcd := cell_of_one hd
  have hcp : w.cell? ⟨p, 0, none⟩ = some (.int .i64 q) := (cell_of_row _ _ _ _ _ _ hp).trans hq
  clear hb hd hp hq
  have c0 := hid (fun (v : World) (hv : Kept [] w v) => (hv.cell (World.block_lt_of_cell? _ _ hc) (by simp)).trans hc)
  have c1 := hid (fun (v : World) (hv : Kept [] w v) => (hv.cell (World.block_lt_of_cell? _ _ hcd) (by simp)).trans hcd)
  have c2 := hid (fun (v : World) (hv : Kept [] w v) => (hv.cell (World.block_lt_of_cell? _ _ hcp) (by simp)).trans hcp)
  have h2 := hid (fun W => when_any (decide (q < z)) 31 W)
  obtain ⟨t, ht⟩ : ∃ t, t = decide (q < z) := ⟨_, rfl⟩
  rw [← ht] at h2 ⊢
  have HT := hid ht
  obtain ⟨er, her⟩ : ∃ er, er = (if t then (31 : Int) else 0) := ⟨_, rfl⟩
  rw [← her] at h2 ⊢
  clear hc hcd hcp ht her
  go_enter Try.func39, Try.ntmps39
  go_wp2_with fail
  refine wp_region_held_drew (S := Kept [] w) (by kernel_rfl) (Kept.refl _ w).drew (fun hH => ?_)
  refine takeH 0 (.int .i64 z) rfl (by kernel_rfl) (by kernel_rfl) (by kernel_rfl) (fun _ _ _ h => h) (by rfl) (fun v hv => by have h := c0.out v hv; go_simp) hH ?_
  simp only [Act.put, List.setIfInBounds_toArray, List.set_cons_succ, List.set_cons_zero]
  refine takeH 1 (.pointer (some ⟨p, 0, none⟩)) rfl (by kernel_rfl) (by kernel_rfl) (by kernel_rfl) (fun _ _ _ h => h) (by rfl) (fun v hv => by have h := c1.out v hv; go_simp) hH ?_
  simp only [Act.put, List.setIfInBounds_toArray, List.set_cons_succ, List.set_cons_zero]
  refine takeH 2 (.pointer (some ⟨p, 0, none⟩)) rfl (by kernel_rfl) (by kernel_rfl) (by kernel_rfl) (fun _ _ _ h => h) (by rfl) (fun v hv => by go_simp) hH ?_
  simp only [Act.put, List.setIfInBounds_toArray, List.set_cons_succ, List.set_cons_zero]
  refine takeH 3 (.pointer (some ⟨p, 0, none⟩)) rfl (by kernel_rfl) (by kernel_rfl) (by kernel_rfl) (fun _ _ _ h => h) (by rfl) (fun v hv => by go_simp) hH ?_
  simp only [Act.put, List.setIfInBounds_toArray, List.set_cons_succ, List.set_cons_zero]
  refine takeH 4 (.int .i64 q) rfl (by kernel_rfl) (by kernel_rfl) (by kernel_rfl) (fun _ _ _ h => h) (by rfl) (fun v hv => by have h := c2.out v hv; go_simp) hH ?_
  simp only [Act.put, List.setIfInBounds_toArray, List.set_cons_succ, List.set_cons_zero]
  refine takeH 5 (.bool t) rfl (by kernel_rfl) (by kernel_rfl) (by kernel_rfl) (fun _ _ _ h => h) (by rfl) (fun v hv => by have h := HT.out; unfold execOp; simp [Act.eval, h, go_sem]) hH ?_
  simp only [Act.put, List.setIfInBounds_toArray, List.set_cons_succ, List.set_cons_zero]
  refine callR 6 rfl (by kernel_rfl) (by rfl) 36 #[.bool t, .int .i64 31] (by go_simp) (.int .i64 er) (fun v => Kept [] w v) (fun _ h => h) ((h2.out _).mono fun e w' h => ⟨h.1, h.2 ▸ hH⟩) ?_
  intro wB hB
  simp only [Act.put, List.setIfInBounds_toArray, List.set_cons_succ, List.set_cons_zero]
  refine takeH 7 (.int .i64 er) rfl (by kernel_rfl) (by kernel_rfl) (by kernel_rfl) (fun _ _ _ h => h) (by rfl) (fun v hv => by go_simp) hB ?_
  simp only [Act.put, List.setIfInBounds_toArray, List.set_cons_succ, List.set_cons_zero]
  refine wpAnyH_done (by kernel_rfl) ?_ _
  go_wp2
  go_ret
  exact ⟨rfl, hB⟩
theorem put_4 (b d : Nat) (th : Bool) (w : World) (U : List Nat) (p T : Nat) (more : List Value) (q : Int) (es : List Ent) (fv : Value) (fl : List Bool) (k : Nat) (h : Ob w U p T more q es fv fl k) (hb : w.heap[b]? = some (.cells #[.bool th] 4 (0, 0))) (hd : w.heap[d]? = some (.cells #[.pointer (some ⟨p, 0, none⟩)] 26 (0, 0))) :
    Calls Try.prog 40 #[.pointer (some ⟨b, 0, none⟩), .pointer (some ⟨d, 0, none⟩)] w fun e w' => e = .returned (.int .i64 (if (!th && decide (es.length = 4096)) then 3 else 0)) ∧ Kept [] w w' := by
  have hc := cell_of_one hb
  have hcd := cell_of_one hd
  have hlen := hid (ob_len w U p T more q es fv fl k h)
  obtain ⟨n, hn⟩ : ∃ n, n = es.length := ⟨_, rfl⟩
  rw [← hn] at hlen ⊢
  clear hb hd h hn
  cases th
  · by_cases h4 : n = 4096
    · have h2 := hid (when_any true 3 w)
      rw [decide_eq_true h4]
      have h5 : ((n : Int) == 4096) = true := by simp; omega
      clear h4
      go_enter Try.func40, Try.ntmps40
      go_wp2_with fail
      refine hlen.out.mono ?_
      rintro e w1 ⟨rfl, rfl⟩
      go_wp2_with fail
      refine h2.out.mono ?_
      rintro e w1 ⟨rfl, rfl⟩
      go_wp2
      go_ret
      exact ⟨rfl, Kept.refl _ _⟩
    · have h2 := hid (when_any false 3 w)
      rw [decide_eq_false h4]
      have h5 : ((n : Int) == 4096) = false := by simp; omega
      clear h4
      go_enter Try.func40, Try.ntmps40
      go_wp2_with fail
      refine hlen.out.mono ?_
      rintro e w1 ⟨rfl, rfl⟩
      go_wp2_with fail
      refine h2.out.mono ?_
      rintro e w1 ⟨rfl, rfl⟩
      go_wp2
      go_ret
      exact ⟨rfl, Kept.refl _ _⟩
  · have h2 := hid (when_any false 3 w)
    go_enter Try.func40, Try.ntmps40
    go_wp2_with fail
    refine h2.out.mono ?_
    rintro e w1 ⟨rfl, rfl⟩
    go_wp2
    go_ret
    exact ⟨rfl, Kept.refl _ _⟩

/-- What Put asks ahead, in its order. -/
def putAsk (fl : List Bool) (nm : List UInt8) (n : Nat) (q z : Int) (th : Bool) (m : Nat) : Nat → Int
  | 0 => opE fl
  | 1 => if (!okName nm) then 37 else 0
  | 2 => if decide ((1048576 : Int) < (n : Int)) then 2 else 0
  | 3 => if decide (q < z) then 31 else 0
  | _ => if (!th && decide (m = 4096)) then 3 else 0
def putErr (fl : List Bool) (nm : List UInt8) (n : Nat) (q z : Int) (th : Bool) (m : Nat) : Int := (firstFrom (putAsk fl nm n q z th m) 5 0).2
/-- The boxes of what Put's closures have. -/
structure Caps (w : World) (d b4 b5 b8 b9 p : Nat) (nm : List UInt8) (bv : Value) (th : Bool) (z : Int) : Prop where
  hd : w.heap[d]? = some (.cells #[.pointer (some ⟨p, 0, none⟩)] 26 (0, 0))
  h4 : w.heap[b4]? = some (.cells #[.string (S nm)] 9 (0, 0))
  h5 : w.heap[b5]? = some (.cells #[bv] 36 (0, 0))
  h8 : w.heap[b8]? = some (.cells #[.bool th] 4 (0, 0))
  h9 : w.heap[b9]? = some (.cells #[.int .i64 z] 3 (0, 0))
theorem Caps.kept {w w' : World} {V : List Nat} {d b4 b5 b8 b9 p : Nat} {nm : List UInt8} {bv : Value} {th : Bool} {z : Int} (h : Caps w d b4 b5 b8 b9 p nm bv th z) (hk : Kept V w w') (hd : d ∉ V ∧ b4 ∉ V ∧ b5 ∉ V ∧ b8 ∉ V ∧ b9 ∉ V) : Caps w' d b4 b5 b8 b9 p nm bv th z :=
  ⟨hk.at h.hd hd.1, hk.at h.h4 hd.2.1, hk.at h.h5 hd.2.2.1, hk.at h.h8 hd.2.2.2.1, hk.at h.h9 hd.2.2.2.2⟩
theorem firstFrom_begun (E : Nat → Int) (n : Nat) (h : 0 < n) : 0 < begun E n := by unfold begun; omega
set_option maxHeartbeats 1000000 in
theorem put_all (w : World) (U : List Nat) (p T : Nat) (more : List Value) (q : Int) (es : List Ent) (fv : Value) (fl : List Bool) (k : Nat) (left : Int) (h : Ob w U p T more q es fv fl k) (hk : k ≤ 1099511627776) (hf : FuV w U fv left) (h0 : left ≠ 0)
    (g d b4 b5 b8 b9 : Nat) (nm : List UInt8) (hnm : nm.length ≤ 1000000000) (a : Option Addr) (n c : Nat) (th : Bool) (z : Int) (hc : Caps w d b4 b5 b8 b9 p nm (.slice a n c) th z) (hcU : ∀ x ∈ [d, b4, b5, b8, b9], x ∉ p :: fuB fv)
    (hg : w.heap[g]? = some (.cells #[.func (.func 34) #[.pointer (some ⟨p, 0, none⟩)] #[], .func (.func 35) #[] #[.pointer (some ⟨b4, 0, none⟩)], .func (.func 38) #[] #[.pointer (some ⟨b5, 0, none⟩)], .func (.func 39) #[] #[.pointer (some ⟨b9, 0, none⟩), .pointer (some ⟨d, 0, none⟩)], .func (.func 40) #[] #[.pointer (some ⟨b8, 0, none⟩), .pointer (some ⟨d, 0, none⟩)]] 82 (0, 0))) (hgU : g ∉ p :: fuB fv) :
    Calls Try.prog 33 #[.slice (some ⟨g, 0, none⟩) 5 5] w fun e w' => ∃ i, e = .returned (.tuple #[.int .i64 i, .int .i64 (putErr fl nm n q z th es.length)]) ∧ Kept (p :: fuB fv) w w' ∧ Ob w' U p T more q es fv (fl.drop 1) (k + 1) ∧ FuV w' U fv (decL left) := by
  have hfuU : ∀ x ∈ fuB fv, x < w.heap.size ∧ x ∉ U := fun x hx => by
    rcases hf with ⟨rfl, _⟩ | ⟨f, rfl, h2, h3, _⟩
    · simp [fuB] at hx
    · simp [fuB] at hx; subst hx; exact ⟨lt_of_block h3, h2⟩
  have hcS : d ∉ p :: fuB fv ∧ b4 ∉ p :: fuB fv ∧ b5 ∉ p :: fuB fv ∧ b8 ∉ p :: fuB fv ∧ b9 ∉ p :: fuB fv := ⟨hcU d (by simp), hcU b4 (by simp), hcU b5 (by simp), hcU b8 (by simp), hcU b9 (by simp)⟩
  let St : Nat → World → Prop := fun i W => w.heap.size ≤ W.heap.size ∧ Caps W d b4 b5 b8 b9 p nm (.slice a n c) th z ∧ (if i = 0 then Ob W U p T more q es fv fl k ∧ FuV W U fv left else Ob W U p T more q es fv (fl.drop 1) (k + 1) ∧ FuV W U fv (decL left))
  have hStk : ∀ i W W', St i W → Kept [] W W' → St i W' := fun i W W' hs hkk => by
    obtain ⟨h1, h2, h3⟩ := hs
    refine ⟨Nat.le_trans h1 hkk.size, h2.kept hkk (by simp), ?_⟩
    by_cases hi : i = 0
    · rw [if_pos hi] at h3 ⊢; exact ⟨h3.1.kept hkk (by simp), h3.2.kept hkk (by simp)⟩
    · rw [if_neg hi] at h3 ⊢; exact ⟨h3.1.kept hkk (by simp), h3.2.kept hkk (by simp)⟩
  have hres := o_all 5 (by decide) g 0 5 (fun i => match i with | 0 => 34 | 1 => 35 | 2 => 38 | 3 => 39 | _ => 40)
    (fun i => match i with | 0 => #[.pointer (some ⟨p, 0, none⟩)] | _ => #[]) (fun i => match i with | 0 => #[] | 1 => #[.pointer (some ⟨b4, 0, none⟩)] | 2 => #[.pointer (some ⟨b5, 0, none⟩)] | 3 => #[.pointer (some ⟨b9, 0, none⟩), .pointer (some ⟨d, 0, none⟩)] | _ => #[.pointer (some ⟨b8, 0, none⟩), .pointer (some ⟨d, 0, none⟩)])
    (putAsk fl nm n q z th es.length) w (p :: fuB fv) (fun x hx => by
      rcases List.mem_cons.1 hx with rfl | hx
      · exact h.bound _ h.hp
      · exact (hfuU x hx).1) (lt_of_block hg) hgU
    (fun i hi => by
      match i with
      | 0 => exact fun args w => by simp [go_sem]
      | 1 => exact fun args w => by simp [go_sem]
      | 2 => exact fun args w => by simp [go_sem]
      | 3 => exact fun args w => by simp [go_sem]
      | _ + 4 => exact fun args w => by simp [go_sem])
    (fun i hi => by
      rw [cell_of_row _ _ _ _ _ _ hg]
      match i, hi with
      | 0, _ => rfl
      | 1, _ => rfl
      | 2, _ => rfl
      | 3, _ => rfl
      | 4, _ => rfl)
    St (fun i W W' hs hb => by
      have hkk : Kept ((List.range W.heap.size).filter (fun x => decide (w.heap.size ≤ x))) W W' := ⟨hb.os, hb.tape, hb.output, hb.size, fun x hx hn => hb.block x (by
        rcases Nat.lt_or_ge x w.heap.size with h1 | h1
        · exact h1
        · exact absurd (List.mem_filter.2 ⟨List.mem_range.2 hx, by simpa using h1⟩) hn)⟩
      have hlow : ∀ x, x < w.heap.size → x ∉ (List.range W.heap.size).filter (fun x => decide (w.heap.size ≤ x)) := fun x hx hm => by
        have := (List.mem_filter.1 hm).2
        simp at this; omega
      obtain ⟨h1, h2, h3⟩ := hs
      refine ⟨Nat.le_trans h1 hkk.size, h2.kept hkk ⟨hlow _ (lt_of_block hc.hd), hlow _ (lt_of_block hc.h4), hlow _ (lt_of_block hc.h5), hlow _ (lt_of_block hc.h8), hlow _ (lt_of_block hc.h9)⟩, ?_⟩
      by_cases hi : i = 0
      · rw [if_pos hi] at h3 ⊢; exact ⟨h3.1.kept hkk (fun x hx => hlow x (h.bound x hx)), h3.2.kept hkk (fun x hx => hlow x (hfuU x hx).1)⟩
      · rw [if_neg hi] at h3 ⊢; exact ⟨h3.1.kept hkk (fun x hx => hlow x (h.bound x hx)), h3.2.kept hkk (fun x hx => hlow x (hfuU x hx).1)⟩)
    ⟨Nat.le_refl _, hc, by rw [if_pos rfl]; exact ⟨h, hf⟩⟩
    (fun i hi W hs hkk => by
      match i, hi with
      | 0, _ =>
        obtain ⟨h1, h2, h3⟩ := hs
        rw [if_pos rfl] at h3
        refine (operate_go W U p T more q es fv fl k left h3.1 hk h3.2 h0).mono ?_
        rintro e w' ⟨rfl, k1, ob1, fu1⟩
        exact ⟨rfl, k1, Nat.le_trans h1 k1.size, h2.kept k1 hcS, by rw [if_neg (by decide)]; exact ⟨ob1, fu1⟩⟩
      | 1, _ =>
        refine (put_1 b4 nm hnm W hs.2.1.h4).mono ?_
        rintro e w' ⟨rfl, k1⟩
        exact ⟨rfl, k1.wider (fun _ _ h => by simp at h), (hStk 1 _ _ hs k1)⟩
      | 2, _ =>
        refine (put_2 b5 a n c W hs.2.1.h5).mono ?_
        rintro e w' ⟨rfl, k1⟩
        exact ⟨rfl, k1.wider (fun _ _ h => by simp at h), (hStk 2 _ _ hs k1)⟩
      | 3, _ =>
        obtain ⟨⟨mv, flv, R, hR, hrow, _⟩, _⟩ := hs.2.2.1
        refine (put_3 b9 d p T z q _ (stC_get _ _ _ _ _ _ _).1 W hs.2.1.h9 hs.2.1.hd hrow).mono ?_
        rintro e w' ⟨rfl, k1⟩
        exact ⟨rfl, k1.wider (fun _ _ h => by simp at h), (hStk 3 _ _ hs k1)⟩
      | 4, _ =>
        refine (put_4 b8 d th W U p T more q es fv (fl.drop 1) (k + 1) hs.2.2.1 hs.2.1.h8 hs.2.1.hd).mono ?_
        rintro e w' ⟨rfl, k1⟩
        exact ⟨rfl, k1.wider (fun _ _ h => by simp at h), (hStk 4 _ _ hs k1)⟩)
  refine hres.mono ?_
  rintro e w' ⟨rfl, k1, h1, h2, h3⟩
  have hb := firstFrom_begun (putAsk fl nm n q z th es.length) 5 (by decide)
  rw [if_neg (by omega)] at h3
  exact ⟨_, rfl, k1, h3.1, h3.2⟩
end Go.Proofs.Ytmholofhmpplcaa
