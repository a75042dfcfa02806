
/- cold: stays, times as mathematics; a map of stays; moment, later, added, state, requested, failed. -/
import Derived.Test.YtnkolgamnakegaaOB
import Derived.Sort.Walk0
import Derived.Test.YtnkolgamnakegaaH4
namespace Go.Proofs.Ytnkolgamnakegaa
open Go.RowKit Go.Lib Go.Maps

structure Sy where
  since : Int
  asked : Bool
  ready : Int
def stV (s : Sy) : Value := .agg #[.int .i64 s.since, .bool s.asked, .int .i64 s.ready]
def stE (n : List UInt8) (s : Sy) : Ent := ⟨n, stV s, []⟩
def syOf : Value → Sy
  | .agg a => match a.toList with
    | [.int _ x, .bool b, .int _ y] => ⟨x, b, y⟩
    | _ => ⟨0, false, 0⟩
  | _ => ⟨0, false, 0⟩
theorem syOf_stV (s : Sy) : syOf (stV s) = s := rfl
def momT (t : Int) : Int := min (max t 0) 1125899906842624
def latT (t l : Int) : Int := momT (momT t + momT l)
def addT (a b : Int) : Int := a + min b (9223372036854775807 - a)
def stT (s : Sy) (now life : Int) : Int := if s.asked = false then 0 else if now < s.ready then 1 else if now < latT s.ready life then 2 else 0
theorem momT_in (t : Int) : 0 ≤ momT t ∧ momT t ≤ 1125899906842624 := by unfold momT; omega
theorem latT_in (t l : Int) : 0 ≤ latT t l ∧ latT t l ≤ 1125899906842624 := momT_in _
def zeroY : Value := .agg #[.int .i64 0, .bool false, .int .i64 0]

theorem zero_y (w : World) : (zeroValue 111).run Try.prog w = .ok (zeroY) w := by kernel_rfl
/-- The value of a name in a map of stays. -/
def lookY (nm : List UInt8) (es : List Ent) : Value := match findE nm es with | some e => e.v | none => zeroY
theorem my_look {w : World} {U : List Nat} {mv : Value} {es : List Ent} (h : Mp w U mv es) (nm : List UInt8) (hn : nm.length ≤ 1000000000) :
    (Instr.lookup 60 mv (.string (S nm)) true).run Try.prog w = .ok (.tuple #[lookY nm es, .bool (findE nm es).isSome]) w := by
  rcases h with ⟨rfl, rfl⟩ | ⟨b, rfl, _, h⟩
  · exact Maps.look_nil true str_law Try.underlying60 (zero_y w) (str_key nm hn)
  · obtain ⟨v, ps, h1, h2⟩ := h.look_ok str_law Try.underlying60 (zero_y w) (zd := .held (zeroY)) (zp := []) rfl (str_key nm hn)
    rw [DM_has] at h1
    rw [DM_at] at h2
    have hv : v = lookY nm es := by
      unfold heldR at h2
      unfold lookY
      cases hf : findE nm es <;> rw [hf] at h2 <;> simp at h2 <;> exact h2.1
    rw [← hv]
    exact h1
theorem my_look1 {w : World} {U : List Nat} {mv : Value} {es : List Ent} (h : Mp w U mv es) (nm : List UInt8) (hn : nm.length ≤ 1000000000) :
    (Instr.lookup 60 mv (.string (S nm)) false).run Try.prog w = .ok (lookY nm es) w := by
  rcases h with ⟨rfl, rfl⟩ | ⟨b, rfl, _, h⟩
  · exact Maps.look_nil false str_law Try.underlying60 (zero_y w) (str_key nm hn)
  · obtain ⟨v, ps, h1, h2⟩ := h.lookup str_law Try.underlying60 (zero_y w) (zd := .held (zeroY)) (zp := []) rfl (str_key nm hn)
    rw [DM_at] at h2
    have hv : v = lookY nm es := by
      unfold heldR at h2
      unfold lookY
      cases hf : findE nm es <;> rw [hf] at h2 <;> simp at h2 <;> exact h2.1
    rw [← hv]
    exact h1
theorem my_len {w : World} {U : List Nat} {mv : Value} {es : List Ent} (h : Mp w U mv es) (ty : TypeId) : (Builtin.len_ #[60] ty #[mv]).run Try.prog w = .ok (.int .i64 es.length) w := by
  rcases h with ⟨rfl, rfl⟩ | ⟨b, rfl, _, h⟩
  · exact Maps.len_nil Try.underlying60 ty
  · have h1 := h.len Try.underlying60 ty
    rw [DM_size] at h1
    exact h1
theorem my_drop {w : World} {U : List Nat} {mv : Value} {es : List Ent} (h : Mp w U mv es) (nm : List UInt8) (hn : nm.length ≤ 1000000000) :
    ∃ w', (∀ ty, (Builtin.delete_ #[60, 9] ty #[mv, .string (S nm)]).run Try.prog w = .ok (.tuple #[]) w') ∧ Kept (mpB mv) w w' ∧ Mp w' U mv (delE nm es) := by
  rcases h with ⟨rfl, rfl⟩ | ⟨b, rfl, hb, h⟩
  · exact ⟨w, fun ty => Maps.drop_nil str_law Try.underlying60 (str_key nm hn) ty, Kept.refl _ _, Or.inl ⟨rfl, rfl⟩⟩
  · obtain ⟨w', h1, h2, h3⟩ := h.drop str_law Try.underlying60 (str_key nm hn) 9
    refine ⟨w', fun ty => ?_, turned_kept h3, Or.inr ⟨b, rfl, hb, ?_⟩⟩
    · exact h1
    · rw [DM_del] at h2
      exact owns_tight h2
theorem my_put {w : World} {U : List Nat} {b : Nat} {es : List Ent} (h : Mp w U (.map (some b)) es) (x : Ent) (hn : x.name.length ≤ 1000000000) (hl : es.length ≤ 1000000000) :
    ∃ w', (Instr.mapUpdate 60 (.map (some b)) (.string (S x.name)) x.v).run Try.prog w = .ok () w' ∧ Kept [b] w w' ∧ Mp w' U (.map (some b)) (putE x es) := by
  rcases h with ⟨h, _⟩ | ⟨b', hb', hb, h⟩
  · cases h
  · cases hb'
    obtain ⟨w', h1, h2, h3⟩ := h.store (val := x.v) (d := .held x.v) (ps := []) str_law Try.underlying60 (by unfold maxLen; omega) (str_key x.name hn) rfl
    refine ⟨w', h1, turned_kept h3, Or.inr ⟨b, rfl, hb, ?_⟩⟩
    rw [DM_put] at h2
    exact owns_tight h2


theorem moment_any (t : Int) (w : World) (h1 : -9223372036854775808 ≤ t) (h2 : t ≤ 9223372036854775807) :
    Calls Try.prog 51 #[.int .i64 t] w fun e w' => e = .returned (.int .i64 (momT t)) ∧ w = w' := by
  go_enter Try.func51, Try.ntmps51
  go_wp2
  go_ret
  exact ⟨rfl, rfl⟩
theorem later_any (t l : Int) (w : World) (h1 : -9223372036854775808 ≤ t) (h2 : t ≤ 9223372036854775807) (h3 : -9223372036854775808 ≤ l) (h4 : l ≤ 9223372036854775807) :
    Calls Try.prog 54 #[.int .i64 t, .int .i64 l] w fun e w' => e = .returned (.int .i64 (latT t l)) ∧ w = w' := by
  have c1 := hid (moment_any t w h1 h2)
  have c2 := hid (moment_any l w h3 h4)
  have i1 := momT_in t
  have i2 := momT_in l
  have c3 := hid (moment_any (momT t + momT l) w (by omega) (by omega))
  have hr : latT t l = momT (momT t + momT l) := rfl
  rw [hr]
  clear hr
  obtain ⟨x, hx⟩ : ∃ x, x = momT t := ⟨_, rfl⟩
  obtain ⟨y, hy⟩ : ∃ y, y = momT l := ⟨_, rfl⟩
  rw [← hx] at c1 c3 i1 ⊢
  rw [← hy] at c2 c3 i2 ⊢
  obtain ⟨i1, i1'⟩ := i1
  obtain ⟨i2, i2'⟩ := i2
  clear hx hy
  go_enter Try.func54, Try.ntmps54
  go_wp2_with fail
  refine c1.out.mono ?_
  rintro e w1 ⟨rfl, rfl⟩
  go_wp2_with fail
  refine c2.out.mono ?_
  rintro e w1 ⟨rfl, rfl⟩
  go_wp2_with fail
  refine c3.out.mono ?_
  rintro e w1 ⟨rfl, rfl⟩
  go_wp2
  go_ret
  exact ⟨rfl, rfl⟩
theorem added_any (a b : Int) (w : World) (h1 : 0 ≤ a) (h2 : a ≤ 9223372036854775807) (h3 : 0 ≤ b) (h4 : b ≤ 9223372036854775807) :
    Calls Try.prog 73 #[.int .i64 a, .int .i64 b] w fun e w' => e = .returned (.int .i64 (addT a b)) ∧ w = w' := by
  have e1 : IntKind.i64.wrap (9223372036854775807 - a) = 9223372036854775807 - a := by rw [IntKind.wrap_i64]; omega
  have e2 : IntKind.i64.wrap (a + min b (9223372036854775807 - a)) = a + min b (9223372036854775807 - a) := by rw [IntKind.wrap_i64]; omega
  go_enter Try.func73, Try.ntmps73
  go_wp2
  go_ret
  exact ⟨by first | rfl | (show Ending.returned (.int .i64 _) = _; rw [e2]; rfl) | (simp [addT, e2]), rfl⟩
theorem state_any (s : Sy) (now life : Int) (w : World) (h1 : -9223372036854775808 ≤ s.ready) (h2 : s.ready ≤ 9223372036854775807) (h3 : -9223372036854775808 ≤ life) (h4 : life ≤ 9223372036854775807) :
    Calls Try.prog 55 #[stV s, .int .i64 now, .int .i64 life] w fun e w' => e = .returned (.int .i64 (stT s now life)) ∧ Kept [] w w' := by
  obtain ⟨si, ak, re⟩ := s
  have hm : stT ⟨si, ak, re⟩ now life = if ak = false then 0 else if now < re then 1 else if now < latT re life then 2 else 0 := rfl
  obtain ⟨W, hW⟩ : ∃ W, W = w.alloc (.cells #[.int .i64 si, .bool ak, .int .i64 re] 111) := ⟨_, rfl⟩
  have HW := hid hW
  have hk := hid (show Kept [] w W from hW ▸ (Kept.refl [] w).alloc _)
  have c1 := hid (later_any re life W h1 h2 h3 h4)
  have hb := hid (show W.heap[w.heap.size]? = some (.cells #[.int .i64 si, .bool ak, .int .i64 re] 111 (0, 0)) from hW ▸ heap_alloc_at rfl)
  have f1 : W.cell? ⟨w.heap.size, 1, none⟩ = some (.bool ak) := by rw [cell_of_row _ _ 1 _ _ _ hb.out]; rfl
  have f2 : W.cell? ⟨w.heap.size, 2, none⟩ = some (.int .i64 re) := by rw [cell_of_row _ _ 2 _ _ _ hb.out]; rfl
  obtain ⟨x, hx⟩ : ∃ x, x = latT re life := ⟨_, rfl⟩
  rw [← hx] at c1 hm
  unfold stV
  clear hW hx
  rw [hm]
  clear hm
  cases ak
  · rw [if_pos rfl]
    go_enter Try.func55, Try.ntmps55
    go_wp2_with fail
    rw [← HW.out]
    go_wp2_with fail
    go_ret
    exact ⟨rfl, hk.out⟩
  · rw [if_neg (by simp)]
    by_cases a : now < re
    · rw [if_pos a]
      go_enter Try.func55, Try.ntmps55
      go_wp2_with fail
      rw [← HW.out]
      go_wp2_with fail
      go_ret
      exact ⟨rfl, hk.out⟩
    · rw [if_neg a]
      by_cases b : now < x
      · rw [if_pos b]
        go_enter Try.func55, Try.ntmps55
        go_wp2_with fail
        rw [← HW.out]
        go_wp2_with fail
        refine c1.out.mono ?_
        rintro e w1 ⟨rfl, rfl⟩
        go_wp2
        go_ret
        exact ⟨rfl, hk.out⟩
      · rw [if_neg b]
        go_enter Try.func55, Try.ntmps55
        go_wp2_with fail
        rw [← HW.out]
        go_wp2_with fail
        refine c1.out.mono ?_
        rintro e w1 ⟨rfl, rfl⟩
        go_wp2
        go_ret
        exact ⟨rfl, hk.out⟩
theorem results_cell_c {P : Program} {fn : Func} {tmps : Array Value} {w : World} {k T : Nat} {x : Addr} {v : Value} (hr : fn.results = #[.cell k T]) (ht : tmps[k]?.getD undef = .pointer (some x)) (hl : (loadVar T x).run P w = .ok v w) : (results fn tmps).run P w = .ok v w := by
  unfold results
  rw [hr]
  simp [Sem.run_bind, ht, asAddr, hl]
theorem ld_stay (W : World) (p : Nat) (s : Sy) (h : W.heap[p]? = some (.cells #[.int .i64 s.since, .bool s.asked, .int .i64 s.ready] 111 (0, 0))) :
    (loadVar 111 ⟨p, 0, none⟩).run Try.prog W = .ok (stV s) W :=
  run_loadVar_cells W _ _ [.int .i64 s.since, .bool s.asked, .int .i64 s.ready] _ Try.underlying111 rfl (by kernel_rfl) (fun j v hj => by rw [add_plain, cell_of_row _ _ j _ _ _ h]; simpa using hj)
theorem requested_any (s : Sy) (r : Int) (w : World) :
    Calls Try.prog 53 #[stV s, .int .i64 r] w fun e w' => e = .returned (stV ⟨s.since, true, r⟩) ∧ Kept [] w w' := by
  have hk := hid (show Kept [] w ((w.alloc (.cells #[.int .i64 s.since, .bool s.asked, .int .i64 s.ready] 111)).alloc (.cells #[.int .i64 s.since, .bool true, .int .i64 r] 111)) from ((Kept.refl [] w).alloc _).alloc _)
  have hld := hid (ld_stay ((w.alloc (.cells #[.int .i64 s.since, .bool s.asked, .int .i64 s.ready] 111)).alloc (.cells #[.int .i64 s.since, .bool true, .int .i64 r] 111)) (w.heap.size + 1) ⟨s.since, true, r⟩ (heap_alloc_at (by simp)))
  unfold stV at *
  go_enter Try.func53, Try.ntmps53
  go_wp2_with fail
  refine bodyPost_ret (v := stV ⟨s.since, true, r⟩) (results_cell_c Try.results53 rfl hld.out) rfl ?_
  exact ⟨rfl, hk.out⟩
theorem failed_any (s : Sy) (w : World) :
    Calls Try.prog 56 #[stV s] w fun e w' => e = .returned (stV ⟨s.since, false, 0⟩) ∧ Kept [] w w' := by
  have hk := hid (show Kept [] w ((w.alloc (.cells #[.int .i64 s.since, .bool s.asked, .int .i64 s.ready] 111)).alloc (.cells #[.int .i64 s.since, .bool false, .int .i64 0] 111)) from ((Kept.refl [] w).alloc _).alloc _)
  have hld := hid (ld_stay ((w.alloc (.cells #[.int .i64 s.since, .bool s.asked, .int .i64 s.ready] 111)).alloc (.cells #[.int .i64 s.since, .bool false, .int .i64 0] 111)) (w.heap.size + 1) ⟨s.since, false, 0⟩ (heap_alloc_at (by simp)))
  unfold stV at *
  go_enter Try.func56, Try.ntmps56
  go_wp2_with fail
  refine bodyPost_ret (v := stV ⟨s.since, false, 0⟩) (results_cell_c Try.results56 rfl hld.out) rfl ?_
  exact ⟨rfl, hk.out⟩
end Go.Proofs.Ytnkolgamnakegaa
