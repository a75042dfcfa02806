
/- cold: a store in memory; what a thing is, how long it is young. -/
import Derived.Test.YtnkolgamnakegaaY0
namespace Go.Proofs.Ytnkolgamnakegaa
open Go.RowKit Go.Lib Go.Maps

def SyOk (s : Sy) : Prop := 0 ≤ s.since ∧ s.since ≤ 1125899906842624 ∧ 0 ≤ s.ready ∧ s.ready ≤ 1125899906842624
/-- What stands behind the store of layer 6. -/
def cmore (jobs life least : Int) (mv : Value) (lost : Int) : List Value := [.int .i64 jobs, .int .i64 life, .int .i64 least, mv, .int .i64 lost]
/-- Stays. -/
def IsSt (ss : List Ent) : Prop := ∀ e ∈ ss, ∃ s, e = stE e.name s ∧ SyOk s
theorem IsSt.find {ss : List Ent} (h : IsSt ss) {nm : List UInt8} {e : Ent} (hf : findE nm ss = some e) : ∃ s, e.v = stV s ∧ syOf e.v = s ∧ SyOk s := by
  obtain ⟨s, h1, h2⟩ := h e (find_mem hf).1
  exact ⟨s, by rw [h1]; rfl, by rw [h1]; rfl, h2⟩
def stateT (ss : List Ent) (nm : List UInt8) (now life : Int) : Int := match findE nm ss with | some e => stT (syOf e.v) (momT now) life | none => -1
def leftT (ss : List Ent) (nm : List UInt8) (now least : Int) : Int := match findE nm ss with | some e => max (latT (syOf e.v).since least - momT now) 0 | none => 0
/-- A cold store that begins block p. U: the blocks of what layer 6 has; V: the stays' own. -/
structure Co (w : World) (U V : List Nat) (p : Nat) (q : Int) (es ss : List Ent) (fv : Value) (fl : List Bool) (k : Nat) (jobs life least lost : Int) : Prop where
  row : ∃ mv, Ob w U p 62 (cmore jobs life least mv lost) q es fv fl k ∧ Mp w V mv ss
  apart : ∀ x ∈ V, x ∉ U
  bound : ∀ x ∈ V, x < w.heap.size
  names : ss.map (·.name) = es.map (·.name)
  st : IsSt ss
  nums : 1 ≤ jobs ∧ jobs ≤ 64 ∧ 1 ≤ life ∧ life ≤ 1125899906842624 ∧ 0 ≤ least ∧ least ≤ 1125899906842624 ∧ 0 ≤ lost ∧ lost ≤ 9223372036854775807
theorem Co.kept {w w' : World} {U V X : List Nat} {p : Nat} {q : Int} {es ss : List Ent} {fv : Value} {fl : List Bool} {k : Nat} {jobs life least lost : Int} (h : Co w U V p q es ss fv fl k jobs life least lost) (hk : Kept X w w') (hd : ∀ x ∈ U ++ V, x ∉ X) : Co w' U V p q es ss fv fl k jobs life least lost := by
  obtain ⟨⟨mv, h1, h2⟩, h3, h4, h5, h6, h7⟩ := h
  exact ⟨⟨mv, h1.kept hk (fun x hx => hd x (by simp [hx])), h2.kept hk (fun x hx => hd x (by simp [hx]))⟩, h3, fun x hx => Nat.lt_of_lt_of_le (h4 x hx) hk.size, h5, h6, h7⟩
/-- The cells behind. -/
theorem ob_tail {w : World} {U : List Nat} {p T : Nat} {q : Int} {es : List Ent} {fv : Value} {fl : List Bool} {k : Nat} {jobs life least lost : Int} {mv : Value} (h : Ob w U p T (cmore jobs life least mv lost) q es fv fl k) :
    w.cell? ⟨p, 6, none⟩ = some (.int .i64 jobs) ∧ w.cell? ⟨p, 7, none⟩ = some (.int .i64 life) ∧ w.cell? ⟨p, 8, none⟩ = some (.int .i64 least) ∧ w.cell? ⟨p, 9, none⟩ = some mv ∧ w.cell? ⟨p, 10, none⟩ = some (.int .i64 lost) := by
  obtain ⟨⟨m, flv, R, hR, hrow, _⟩, _⟩ := h
  unfold stC cmore at hrow
  refine ⟨?_, ?_, ?_, ?_, ?_⟩ <;> (rw [cell_of_row _ _ _ _ _ _ hrow]; simp)
theorem ob_free {w : World} {U : List Nat} {p T : Nat} {more : List Value} {q : Int} {es : List Ent} {fv : Value} {fl : List Bool} {k : Nat} (h : Ob w U p T more q es fv fl k) (i : Nat) : w.frozen? ⟨p, i, none⟩ = false := by
  obtain ⟨⟨m, flv, R, hR, hrow, _⟩, _⟩ := h
  exact free_of_row' hrow i
/-- A cell behind is set. -/
theorem ob_set {w : World} {U : List Nat} {p T : Nat} {more : List Value} {q : Int} {es : List Ent} {fv : Value} {fl : List Bool} {k : Nat} (h : Ob w U p T more q es fv fl k) (i : Nat) (u : Value) :
    Ob (w.setCell ⟨p, 6 + i, none⟩ u) U p T (more.set i u) q es fv fl k ∧ Kept [p] w (w.setCell ⟨p, 6 + i, none⟩ u) := by
  have hk : Kept [p] w (w.setCell ⟨p, 6 + i, none⟩ u) := (Kept.refl [p] w).setCell (p := ⟨p, 6 + i, none⟩) (fun _ => by simp) _
  obtain ⟨⟨mv, flv, R, h1, h2, h3, h4, h5, h6⟩, hp, hb, hq, hs⟩ := h
  have hR : ∀ x ∈ R, x ∉ [p] := fun x hx hm => (h1 x hx).2.1 (by simpa using hm)
  refine ⟨⟨⟨mv, flv, R, h1, ?_, ?_, h4, h5.kept hk hR, fun e he => (h6 e he).kept hk hR⟩, hp, fun x hx => Nat.lt_of_lt_of_le (hb x hx) hk.size, hq, hs⟩, hk⟩
  · rw [Go.heap_setCell_same w p (6 + i) _ _ _ h2]
    have e : (stC q mv (sizeE es) fv flv k more).setIfInBounds (6 + i) u = stC q mv (sizeE es) fv flv k (more.set i u) := by
      unfold stC
      rw [List.setIfInBounds_toArray, Nat.add_comm 6 i]
      rfl
    rw [e]
  · rcases h3 with h | ⟨b, e1, e2, e3⟩
    · exact Or.inl h
    · exact Or.inr ⟨b, e1, e2, hk.ownsMap' e3 (fun hm => h4 (by rw [e1]; simp at hm; rw [hm]))⟩
theorem Mp.free {w : World} {V : List Nat} {mv : Value} {ss : List Ent} {p : Nat} (h : Mp w V mv ss) (hp : p ∉ V) (w' : World) (hk : Kept [p] w w') : Mp w' V mv ss := h.kept hk (fun x hx hm => by simp at hm; subst hm; exact hp hx)
section
variable (w : World) (U V : List Nat) (p : Nat) (q : Int) (es ss : List Ent) (fv : Value) (fl : List Bool) (k : Nat) (jobs life least lost : Int) (h : Co w U V p q es ss fv fl k jobs life least lost)
include h
theorem co_lost : Calls Try.prog 29 #[.pointer (some ⟨p, 0, none⟩)] w fun e w' => e = .returned (.int .i64 lost) ∧ w = w' := by
  obtain ⟨⟨mv, h1, h2⟩, _⟩ := h
  obtain ⟨_, _, _, _, g⟩ := ob_tail h1
  clear h1 h2
  go_enter Try.func29, Try.ntmps29
  go_wp2
  go_ret
  exact ⟨rfl, rfl⟩
theorem co_state (nm : List UInt8) (hnm : nm.length ≤ 1000000000) (now : Int) (n1 : -9223372036854775808 ≤ now) (n2 : now ≤ 9223372036854775807) :
    Calls Try.prog 25 #[.pointer (some ⟨p, 0, none⟩), .string (S nm), .int .i64 now] w fun e w' => e = .returned (.int .i64 (stateT ss nm now life)) ∧ Kept [] w w' := by
  obtain ⟨⟨mv, h1, h2⟩, h3, h4, h5, h6, ⟨_, _, n3, n4, _⟩⟩ := h
  have hlk := my_look h2 nm hnm
  have hcell := hid (fun W (hk : Kept [] w W) => ob_tail (h1.kept hk (by simp)))
  obtain ⟨_, _, _, g9, _⟩ := ob_tail h1
  have hsT : stateT ss nm now life = match findE nm ss with | some e => stT (syOf e.v) (momT now) life | none => -1 := rfl
  unfold lookY at hlk
  cases hf : findE nm ss with
  | none =>
    rw [hf] at hlk hsT
    simp only at hlk hsT
    rw [hsT]
    unfold zeroY at hlk
    have hk := hid (show Kept [] w (w.alloc (.cells #[.int .i64 0, .bool false, .int .i64 0] 111)) from (Kept.refl [] w).alloc _)
    clear h1 h2 h3 h4 h5 h6 hf hsT
    go_enter Try.func25, Try.ntmps25
    go_wp2
    go_ret
    exact ⟨rfl, hk.out⟩
  | some en =>
    obtain ⟨s, es1, es2, so⟩ := h6.find hf
    rw [hf] at hlk hsT
    simp only at hlk hsT
    rw [es2] at hsT
    rw [es1] at hlk
    rw [hsT]
    unfold stV at hlk
    obtain ⟨W, hW⟩ : ∃ W, W = w.alloc (.cells #[.int .i64 s.since, .bool s.asked, .int .i64 s.ready] 111) := ⟨_, rfl⟩
    have HW := hid hW
    have hk := hid (show Kept [] w W from hW ▸ (Kept.refl [] w).alloc _)
    have hb := hid (show W.heap[w.heap.size]? = some (.cells #[.int .i64 s.since, .bool s.asked, .int .i64 s.ready] 111 (0, 0)) from hW ▸ heap_alloc_at rfl)
    have HS := hid so
    have hld := hid (fun X (hX : Kept [] W X) => ld_stay X w.heap.size s (hX.at hb.out (by simp)))
    have hc := hid (fun X (hX : Kept [] W X) => (hcell.out X (hk.out.trans hX)).2.1)
    have hmo := hid (fun X => moment_any now X n1 n2)
    have hst := hid (fun X => state_any s (momT now) life X (by have := HS.out.2.2.1; omega) (by have := HS.out.2.2.2; omega) (by omega) (by omega))
    obtain ⟨mn, hmn⟩ : ∃ mn, mn = momT now := ⟨_, rfl⟩
    obtain ⟨r, hr⟩ : ∃ r, r = stT s mn life := ⟨_, rfl⟩
    rw [← hmn] at hmo hst ⊢
    rw [← hr] at hst ⊢
    clear h1 h2 h3 h4 h5 h6 hf hsT hW hmn hr
    go_enter Try.func25, Try.ntmps25
    go_wp2_with fail
    rw [← HW.out]
    go_wp2_with fail
    have hH0 : Kept [] W W.drew := (Kept.refl [] W).drew
    refine wp_region_held_drew (S := fun v => Kept [] W v) (by kernel_rfl) hH0 (fun hH => ?_)
    refine takeH 0 (stV s) rfl (by kernel_rfl) (by kernel_rfl) (by kernel_rfl) (fun _ _ _ h => h) (by rfl) (fun v hv => by have h := hld.out v hv; unfold execOp; simp [Instr.loadAt, Instr.sureAddr, Sem.run_bind, Sem.run_pure, Result.andThen_ok, Act.eval, h]) hH ?_
    simp only [Act.put, List.setIfInBounds_toArray, List.set_cons_succ, List.set_cons_zero]
    refine takeH 1 (.int .i64 now) rfl (by kernel_rfl) (by kernel_rfl) (by kernel_rfl) (fun _ _ _ h => h) (by rfl) (fun v hv => by go_simp) hH ?_
    simp only [Act.put, List.setIfInBounds_toArray, List.set_cons_succ, List.set_cons_zero]
    refine takeH 3 (.pointer (some ⟨p, 0, none⟩)) rfl (by kernel_rfl) (by kernel_rfl) (by kernel_rfl) (fun _ _ _ h => h) (by rfl) (fun v hv => by go_simp) hH ?_
    simp only [Act.put, List.setIfInBounds_toArray, List.set_cons_succ, List.set_cons_zero]
    refine takeH 4 (.pointer (some ⟨p, 0, none⟩)) rfl (by kernel_rfl) (by kernel_rfl) (by kernel_rfl) (fun _ _ _ h => h) (by rfl) (fun v hv => by go_simp) hH ?_
    simp only [Act.put, List.setIfInBounds_toArray, List.set_cons_succ, List.set_cons_zero]
    refine takeH 5 (.pointer (some ⟨p, 7, none⟩)) rfl (by kernel_rfl) (by kernel_rfl) (by kernel_rfl) (fun _ _ _ h => h) (by rfl) (fun v hv => by go_simp) hH ?_
    simp only [Act.put, List.setIfInBounds_toArray, List.set_cons_succ, List.set_cons_zero]
    refine takeH 6 (.int .i64 life) rfl (by kernel_rfl) (by kernel_rfl) (by kernel_rfl) (fun _ _ _ h => h) (by rfl) (fun v hv => by have h := hc.out v hv; go_simp) hH ?_
    simp only [Act.put, List.setIfInBounds_toArray, List.set_cons_succ, List.set_cons_zero]
    refine callR 2 rfl (by kernel_rfl) (by rfl) 51 #[.int .i64 now] (by go_simp) (.int .i64 mn) (fun v => W.drew = v) (fun v h => h ▸ hH) (hmo.out _) ?_
    rintro v1 rfl
    simp only [Act.put, List.setIfInBounds_toArray, List.set_cons_succ, List.set_cons_zero]
    refine callR 7 rfl (by kernel_rfl) (by rfl) 55 #[stV s, .int .i64 mn, .int .i64 life] (by go_simp) (.int .i64 r) (fun v => Kept [] W.drew v) (fun v h => hH.trans h) (hst.out _) ?_
    rintro v2 hv2
    simp only [Act.put, List.setIfInBounds_toArray, List.set_cons_succ, List.set_cons_zero]
    refine takeH 8 (.int .i64 r) rfl (by kernel_rfl) (by kernel_rfl) (by kernel_rfl) (fun _ _ _ h => h) (by rfl) (fun v hv => by go_simp) (hH.trans hv2) ?_
    simp only [Act.put, List.setIfInBounds_toArray, List.set_cons_succ, List.set_cons_zero]
    refine wpAnyH_done (by kernel_rfl) ?_ _
    have hfin := hid (hk.out.trans (hH.trans hv2))
    clear hv2 hH hH0
    go_wp2
    go_ret
    exact ⟨rfl, hfin.out⟩
end
end Go.Proofs.Ytnkolgamnakegaa
