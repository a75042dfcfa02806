
/- object: what a map of things answers; New, Arm, Len, Size, Ops; copies of bytes. -/
import Derived.Test.YtnkolgamnakegaaO4
import Derived.Test.YtnkolgamnakegaaSh
namespace Go.Proofs.Ytnkolgamnakegaa
open Go.RowKit Go.Lib Go.Maps

theorem str_law : Keyed Try.prog 9 := string_keyed Try.underlying9
theorem str_key (nm : List UInt8) (h : nm.length ≤ 1000000000) : keyOf Try.prog 9 (.string (S nm)) = some (.string nm) := by
  have h1 := Go.WideMaps.keyOf_string_mk (P := Try.prog) (k := 9) Try.underlying9 (s := S nm) (by rw [S_size]; unfold maxLen; omega)
  exact h1
theorem zero_bs (w : World) : (zeroValue 36).run Try.prog w = .ok (.slice none 0 0) w := by kernel_rfl
/-- The value of a name. -/
def lookV (nm : List UInt8) (es : List Ent) : Value := match findE nm es with | some e => e.v | none => .slice none 0 0
theorem mp_look {w : World} {U : List Nat} {mv : Value} {es : List Ent} (h : Mp w U mv es) (nm : List UInt8) (hn : nm.length ≤ 1000000000) :
    (Instr.lookup 57 mv (.string (S nm)) true).run Try.prog w = .ok (.tuple #[lookV nm es, .bool (findE nm es).isSome]) w := by
  rcases h with ⟨rfl, rfl⟩ | ⟨b, rfl, _, h⟩
  · exact Maps.look_nil true str_law Try.underlying57 (zero_bs w) (str_key nm hn)
  · obtain ⟨v, ps, h1, h2⟩ := h.look_ok str_law Try.underlying57 (zero_bs w) (zd := .held (.slice none 0 0)) (zp := []) rfl (str_key nm hn)
    rw [DM_has] at h1
    rw [DM_at] at h2
    have hv : v = lookV nm es := by
      unfold heldR at h2
      unfold lookV
      cases hf : findE nm es <;> rw [hf] at h2 <;> simp at h2 <;> exact h2.1
    rw [← hv]
    exact h1
theorem mp_look1 {w : World} {U : List Nat} {mv : Value} {es : List Ent} (h : Mp w U mv es) (nm : List UInt8) (hn : nm.length ≤ 1000000000) :
    (Instr.lookup 57 mv (.string (S nm)) false).run Try.prog w = .ok (lookV nm es) w := by
  rcases h with ⟨rfl, rfl⟩ | ⟨b, rfl, _, h⟩
  · exact Maps.look_nil false str_law Try.underlying57 (zero_bs w) (str_key nm hn)
  · obtain ⟨v, ps, h1, h2⟩ := h.lookup str_law Try.underlying57 (zero_bs w) (zd := .held (.slice none 0 0)) (zp := []) rfl (str_key nm hn)
    rw [DM_at] at h2
    have hv : v = lookV nm es := by
      unfold heldR at h2
      unfold lookV
      cases hf : findE nm es <;> rw [hf] at h2 <;> simp at h2 <;> exact h2.1
    rw [← hv]
    exact h1
theorem mp_len {w : World} {U : List Nat} {mv : Value} {es : List Ent} (h : Mp w U mv es) (ty : TypeId) : (Builtin.len_ #[57] ty #[mv]).run Try.prog w = .ok (.int .i64 es.length) w := by
  rcases h with ⟨rfl, rfl⟩ | ⟨b, rfl, _, h⟩
  · exact Maps.len_nil Try.underlying57 ty
  · have h1 := h.len Try.underlying57 ty
    rw [DM_size] at h1
    exact h1
def mpB : Value → List Nat
  | .map (some b) => [b]
  | _ => []
theorem turned_kept {w w' : World} {b : Nat} (h : w.mapTurned w' b) : Kept [b] w w' := Kept.of_grown h.grown (fun k hk _ => by simp at hk; simp [hk])
theorem mp_drop {w : World} {U : List Nat} {mv : Value} {es : List Ent} (h : Mp w U mv es) (nm : List UInt8) (hn : nm.length ≤ 1000000000) :
    ∃ w', (∀ ty, (Builtin.delete_ #[57, 9] ty #[mv, .string (S nm)]).run Try.prog w = .ok (.tuple #[]) w') ∧ Kept (mpB mv) w w' ∧ Mp w' U mv (delE nm es) := by
  rcases h with ⟨rfl, rfl⟩ | ⟨b, rfl, hb, h⟩
  · exact ⟨w, fun ty => Maps.drop_nil str_law Try.underlying57 (str_key nm hn) ty, Kept.refl _ _, Or.inl ⟨rfl, rfl⟩⟩
  · obtain ⟨w', h1, h2, h3⟩ := h.drop str_law Try.underlying57 (str_key nm hn) 9
    refine ⟨w', fun ty => ?_, turned_kept h3, Or.inr ⟨b, rfl, hb, ?_⟩⟩
    · exact h1
    · rw [DM_del] at h2
      exact owns_tight h2
theorem mp_put {w : World} {U : List Nat} {b : Nat} {es : List Ent} (h : Mp w U (.map (some b)) es) (x : Ent) (hn : x.name.length ≤ 1000000000) (hl : es.length ≤ 1000000000) :
    ∃ w', (Instr.mapUpdate 57 (.map (some b)) (.string (S x.name)) x.v).run Try.prog w = .ok () w' ∧ Kept [b] w w' ∧ Mp w' U (.map (some b)) (putE x es) := by
  rcases h with ⟨h, _⟩ | ⟨b', hb', hb, h⟩
  · cases h
  · cases hb'
    obtain ⟨w', h1, h2, h3⟩ := h.store (val := x.v) (d := .held x.v) (ps := []) str_law Try.underlying57 (by unfold maxLen; omega) (str_key x.name hn) rfl
    refine ⟨w', h1, turned_kept h3, Or.inr ⟨b, rfl, hb, ?_⟩⟩
    rw [DM_put] at h2
    exact owns_tight h2
theorem mp_made (w : World) (U : List Nat) (h : w.heap.size ∈ U) : Mp (w.alloc (.map #[] 0)) U (.map (some w.heap.size)) [] :=
  Or.inr ⟨_, rfl, h, World.ownsMap_made w _ _ _⟩
/-- A slice of a row of the call's own. -/
theorem srcS_of_row {w : World} {base : Nat} {e : TypeId} {v : Value} {n : Nat} {xs : List Value} (h : w.ownsRow base e 1 v n xs) : ∃ U, (∀ x ∈ U, base ≤ x ∧ x < w.heap.size) ∧ SrcS w U v n xs := by
  have h0 := h.1
  rcases h.2 with ⟨rfl, h2⟩ | ⟨g, cap, cur, rfl, h1, h2, h3, h4, h5⟩
  · exact ⟨[], by simp, by omega, none, 0, by rw [h2], by omega, by omega, fun _ => rfl, fun j u hj => by
      have := (List.getElem?_eq_some_iff.1 hj).1; omega⟩
  · refine ⟨[g], fun x hx => by simp at hx; subst hx; exact ⟨h1, lt_of_block h2⟩, by omega, _, _, rfl, h3, by unfold maxLen at h4; omega, fun h => by simp at h, fun j u hj => ⟨_, rfl, by simp, h.cells (g := g) rfl j u hj⟩⟩
/-- A new slice. -/
def NewS (w w' : World) (v : Value) (n : Nat) (xs : List Value) : Prop := ∃ U, (∀ x ∈ U, w.heap.size ≤ x ∧ x < w'.heap.size) ∧ SrcS w' U v n xs
theorem NewS.nil (w w' : World) : NewS w w' (.slice none 0 0) 0 [] := ⟨[], by simp, SrcS.nil _ _⟩
theorem ints_B (bs : List UInt8) : (bs.map fun b => (b.toNat : Int)).map (Value.int .u8) = bs.map B := by rw [List.map_map]; rfl
theorem bclone_any (v : Value) (bs : List UInt8) (w : World) (h : Src w v bs.length (bs.map B)) (hl : bs.length ≤ 140737488355328) :
    Calls Try.prog 65 #[v] w fun e w' => ∃ v', e = .returned v' ∧ Kept [] w w' ∧ NewS w w' v' bs.length (bs.map B) := by
  rcases h with ⟨rfl, h1, h2⟩ | ⟨a, c, rfl, hc⟩
  · refine (Try.bytes_Clone_nil 0 0 w).mono ?_
    rintro e w' ⟨rfl, rfl⟩
    refine ⟨_, rfl, Kept.refl _ _, ?_⟩
    rw [h1, h2]
    exact NewS.nil _ _
  · refine (Try.bytes_Clone_at a bs.length c (bs.map fun b => (b.toNat : Int)) w (by simp) hl (fun i hi => ?_)).mono ?_
    · rw [hc i (B bs[i]) (by simp [hi])]
      simp [hi, B]
    · rintro e w' ⟨v', rfl, h1, _, h3⟩
      rw [ints_B] at h1
      exact ⟨v', rfl, Kept.of_below h3, srcS_of_row h1⟩
theorem info_bool : (Try.prog.info? 4).map (fun i => (i.zero, i.size, i.bytes)) = some (some (.bool false), 1, 1) := by kernel_rfl
theorem info_split {o : Option TypeInfo} {z : Value} {s b : Nat} (h : o.map (fun i => (i.zero, i.size, i.bytes)) = some (some z, s, b)) : ∃ i, o = some i ∧ i.zero = some z ∧ i.size = s ∧ i.bytes = b := by
  obtain ⟨i, hi, h2⟩ := Option.map_eq_some_iff.1 h
  simp at h2
  exact ⟨i, hi, h2.1, h2.2.1, h2.2.2⟩
/-- Truths in a plain block, or none at all. -/
def BoolAt (w : World) (U : List Nat) (v : Value) (fl : List Bool) : Prop := (v = .slice none 0 0 ∧ fl = []) ∨ ∃ b off c, v = .slice (some ⟨b, off, none⟩) fl.length c ∧ b ∉ U ∧ ∀ (j : Nat) u, (fl.map Value.bool)[j]? = some u → w.cell? ⟨b, off + j, none⟩ = some u
theorem flclone_any (v : Value) (U : List Nat) (fl : List Bool) (w : World) (h : BoolAt w U v fl) (hl : fl.length ≤ 1000000000) :
    Calls Try.prog 40 #[v] w fun e w' => ∃ v', e = .returned v' ∧ Kept [] w w' ∧ NewS w w' v' fl.length (fl.map .bool) := by
  rcases h with ⟨rfl, rfl⟩ | ⟨b, off, c, rfl, _, hc⟩
  · refine (Try.slices_Clone_nil 0 0 w).mono ?_
    rintro e w' ⟨rfl, rfl⟩
    exact ⟨_, rfl, Kept.refl _ _, NewS.nil _ _⟩
  · obtain ⟨i0, hi0, hz0, hz1, hz2⟩ := info_split info_bool
    refine (Try.slices_Clone i0 _ 1 1 hi0 hz0 hz1 hz2 rfl (by decide) (fun w => by kernel_rfl) b off fl.length c (fl.map .bool) w (by simp) (by unfold maxLen; omega) (by omega) hc (by intro u hu; simp at hu; rcases hu with ⟨_, rfl⟩ | ⟨_, rfl⟩ <;> rfl)).mono ?_
    rintro e w' ⟨v', rfl, h1, _, h3⟩
    exact ⟨v', rfl, Kept.of_below h3, srcS_of_row h1⟩

theorem ob_new (q : Int) (hq : 0 ≤ q) (hq2 : q ≤ 9223372036854775807) (w : World) :
    Calls Try.prog 9 #[.int .i64 q] w fun e w' => e = .returned (.tuple #[.pointer (some ⟨w.heap.size, 0, none⟩), .int .i64 0]) ∧ Kept [] w w' ∧ Ob w' [w.heap.size] w.heap.size 59 [] q [] (.pointer none) [] 0 := by
  have hk := hid (show Kept [] w (w.alloc (.cells (stC q (.map none) 0 (.pointer none) (.slice none 0 0) 0 []) 59)) from (Kept.refl [] w).alloc _)
  have hob := hid (show Ob (w.alloc (.cells (stC q (.map none) 0 (.pointer none) (.slice none 0 0) 0 []) 59)) [w.heap.size] w.heap.size 59 [] q [] (.pointer none) [] 0 from
    ⟨⟨.map none, .slice none 0 0, [], by simp, heap_alloc_at rfl, Or.inl ⟨rfl, rfl⟩, by simp, SrcS.nil _ _, by simp⟩, by simp, by simp, ⟨hq, hq2⟩, by simp [sizeE]⟩)
  unfold stC at hk hob
  go_enter Try.func9, Try.ntmps9
  go_wp2
  go_ret2
  exact ⟨rfl, hk.out, hob.out⟩
theorem ob_new_bad (q : Int) (hq : q < 0) (hq2 : -9223372036854775808 ≤ q) (w : World) :
    Calls Try.prog 9 #[.int .i64 q] w fun e w' => e = .returned (.tuple #[.pointer none, .int .i64 1]) ∧ w = w' := by
  go_enter Try.func9, Try.ntmps9
  go_wp2
  go_ret2
  exact ⟨rfl, rfl⟩
section
variable (w : World) (U : List Nat) (p T : Nat) (more : List Value) (q : Int) (es : List Ent) (fv : Value) (fl : List Bool) (k : Nat) (h : Ob w U p T more q es fv fl k)
include h
theorem ob_size : Calls Try.prog 32 #[.pointer (some ⟨p, 0, none⟩)] w fun e w' => e = .returned (.int .i64 (sizeE es)) ∧ w = w' := by
  obtain ⟨⟨mv, flv, R, hR, hrow, hmp, hmpp, hfl, hth⟩, hp, hb, hq, hs⟩ := h
  obtain ⟨_, _, g2, _⟩ := st_cells hrow
  clear hrow hmp hR hmpp hp hb hq hs hth hfl
  go_enter Try.func32, Try.ntmps32
  go_wp2
  go_ret
  exact ⟨rfl, rfl⟩
theorem ob_ops : Calls Try.prog 39 #[.pointer (some ⟨p, 0, none⟩)] w fun e w' => e = .returned (.int .i64 k) ∧ w = w' := by
  obtain ⟨⟨mv, flv, R, hR, hrow, hmp, hmpp, hfl, hth⟩, hp, hb, hq, hs⟩ := h
  obtain ⟨_, _, _, _, _, g2⟩ := st_cells hrow
  clear hrow hmp hR hmpp hp hb hq hs hth hfl
  go_enter Try.func39, Try.ntmps39
  go_wp2
  go_ret
  exact ⟨rfl, rfl⟩
theorem ob_len : Calls Try.prog 30 #[.pointer (some ⟨p, 0, none⟩)] w fun e w' => e = .returned (.int .i64 es.length) ∧ w = w' := by
  obtain ⟨⟨mv, flv, R, hR, hrow, hmp, hmpp, hfl, hth⟩, hp, hb, hq, hs⟩ := h
  obtain ⟨_, g1, _⟩ := st_cells hrow
  have hlen := mp_len hmp
  obtain ⟨mb, rfl⟩ : ∃ b, mv = .map b := by
    rcases hmp with ⟨h, _⟩ | ⟨b, h, _⟩
    · exact ⟨_, h⟩
    · exact ⟨_, h⟩
  clear hrow hmp hR hmpp hp hb hq hs hth hfl
  go_enter Try.func30, Try.ntmps30
  go_wp2
  go_ret
  exact ⟨rfl, rfl⟩
theorem ob_arm (fv' flv' : Value) (fl' : List Bool) (hfv : ∃ a, fv' = .pointer a) (hfl' : BoolAt w U flv' fl') (hl : fl'.length ≤ 1000000) :
    Calls Try.prog 11 #[.pointer (some ⟨p, 0, none⟩), fv', flv'] w fun e w' => e = .returned (.tuple #[]) ∧ Kept [p] w w' ∧ ∃ U', (∀ x ∈ U', x ∈ U ∨ w.heap.size ≤ x) ∧ Ob w' U' p T more q es fv' fl' k := by
  obtain ⟨⟨mv, flv, R, hR, hrow, hmp, hmpp, hfl, hth⟩, hp, hb, hq, hs⟩ := h
  obtain ⟨fa, rfl⟩ := hfv
  have f3 : w.frozen? ⟨p, 3, none⟩ = false := free_of_row' hrow 3
  obtain ⟨_, _, _, g3, _⟩ := st_cells hrow
  have r1 := (st_set hrow (.pointer fa) 0).2.2.1
  have K1 := hid (show Kept [p] w (w.setCell ⟨p, 3, none⟩ (.pointer fa)) from (Kept.refl [p] w).setCell (p := ⟨p, 3, none⟩) (fun _ => by simp) _)
  obtain ⟨W, hW⟩ : ∃ W, W = w.setCell ⟨p, 3, none⟩ (.pointer fa) := ⟨_, rfl⟩
  have HW := hid hW
  rw [← hW] at r1 K1
  have hb1 : BoolAt W U flv' fl' := by
    rcases hfl' with h | ⟨b, off, c, h1, h2, h3⟩
    · exact Or.inl h
    · exact Or.inr ⟨b, off, c, h1, h2, fun j u hj => (K1.out.cell (World.block_lt_of_cell? _ _ (h3 j u hj)) (by simp; intro e; exact h2 (e ▸ hp))).trans (h3 j u hj)⟩
  have hcl := hid (flclone_any flv' U fl' W hb1 (by omega))
  have hRp := hid (show ∀ x ∈ R, x ∉ [p] from fun x hx hm => (hR x hx).2.1 (by simpa using hm))
  have hpm := hid (show ∀ x ∈ mpB mv, x ∉ [p] from fun x hx hm => by
    rcases hmp with ⟨h1, _⟩ | ⟨b, h1, _⟩
    · rw [h1] at hx; simp [mpB] at hx
    · rw [h1] at hx; simp [mpB] at hx; simp at hm; exact hmpp (by rw [h1, ← hm, hx]))
  have hm1 := hid (show Mp W U mv es from by
    rcases hmp with h | ⟨b, h1, h2, h3⟩
    · exact Or.inl h
    · exact Or.inr ⟨b, h1, h2, K1.out.ownsMap' h3 (fun hm => hmpp (by rw [h1]; simp at hm; rw [hm]))⟩)
  have hth1 := hid (fun e he => (hth e he).kept K1.out hRp.out)
  have R1 := hid r1
  have HR := hid hR; have HMPP := hid hmpp; have HP := hid hp; have HB := hid hb; have HQ := hid hq; have HS := hid hs; have HMP := hid hmp
  have hfls : ∃ a n c, flv' = .slice a n c := by
    rcases hfl' with ⟨h, _⟩ | ⟨b, off, c, h, _⟩
    · exact ⟨_, _, _, h⟩
    · exact ⟨_, _, _, h⟩
  obtain ⟨fa1, fn1, fc1, rfl⟩ := hfls
  clear hW r1 hrow hmp hR hmpp hp hb hq hs hth hfl hfl' hb1
  go_enter Try.func11, Try.ntmps11
  go_wp2_with fail
  rw [← HW.out]
  refine hcl.out.mono ?_
  rintro e W2 ⟨v', rfl, k2, U2, hU2, hs2⟩
  have K2 := hid k2
  have r2 := k2.at R1.out (by simp)
  have f4 : W2.frozen? ⟨p, 4, none⟩ = false := free_of_row' r2 4
  have gg4 := (st_cells r2).2.2.2.2.1
  have Hs2 := hid hs2
  obtain ⟨_, a2, c2, rfl, _⟩ := hs2
  have R3 := hid (st_set r2 (.slice a2 fl'.length c2) 0).2.2.2.1
  have K3 := hid (show Kept [p] W2 (W2.setCell ⟨p, 4, none⟩ (.slice a2 fl'.length c2)) from (Kept.refl [p] W2).setCell (p := ⟨p, 4, none⟩) (fun _ => by simp) _)
  have HU2 := hid hU2
  have hps := hid (lt_of_block R1.out)
  have hz2 := hid K2.out.size; have hz1 := hid K1.out.size; have hz3 := hid K3.out.size
  clear k2 hU2 r2 hcl
  go_wp2
  go_end0
  refine ⟨rfl, (K1.out.trans' K2.out (fun _ _ h => by simp at h)).trans K3.out, U ++ U2, fun x hx => ?_, ?_⟩
  · rcases List.mem_append.1 hx with h | h
    · exact Or.inl h
    · exact Or.inr (by have := (HU2.out x h).1; have := hz1.out; omega)
  · have hR2p : ∀ x ∈ U2, x ∉ [p] := fun x hx hm => by simp at hm; have := (HU2.out x hx).1; have := hps.out; omega
    refine ⟨⟨mv, _, R ++ U2, fun x hx => ?_, R3.out, ?_, HMPP.out, (Hs2.out.kept K3.out hR2p).more (fun x hx => by simp [hx]), fun e he => (((hth1.out e he).kept K2.out (by simp)).kept K3.out hRp.out).more (fun x hx => by simp [hx])⟩, by simp [HP.out], fun x hx => ?_, HQ.out, HS.out⟩
    · rcases List.mem_append.1 hx with h | h
      · exact ⟨by simp [(HR.out x h).1], (HR.out x h).2⟩
      · refine ⟨by simp [h], fun e => hR2p x h (by simp [e]), fun e => ?_⟩
        rcases HMP.out with ⟨h1, _⟩ | ⟨b, h1, _, h3⟩
        · rw [h1] at e; simp at e
        · rw [h1] at e; simp at e
          have := h3.lt; have := (HU2.out x h).1; have := hz1.out; omega
    · rcases hm1.out with h | ⟨b, h1, h2, h3⟩
      · exact Or.inl h
      · exact Or.inr ⟨b, h1, by simp [h2], K3.out.ownsMap' (K2.out.ownsMap' h3 (by simp)) (hpm.out b (by rw [h1]; simp [mpB]))⟩
    · rcases List.mem_append.1 hx with h | h
      · have := HB.out x h; have := hz1.out; have := hz2.out; have := hz3.out; omega
      · have := (HU2.out x h).2; have := hz3.out; omega
end
end Go.Proofs.Ytnkolgamnakegaa
