import Derived.Test.YtmholofhmpplcaaMO3
import Derived.Test.YtmholofhmpplcaaA9
import Derived.Test.YtmholofhmpplcaaWT
import Derived.Test.YtmholofhmpplcaaWK

/- object: what All's iterator yields. -/
namespace Go.Proofs.Ytmholofhmpplcaa
open Go.RowKit Go.Lib Go.Maps
attribute [local go_sem] Oper.semAt_some

abbrev evals (x : Ent) : Array Value := #[.string (S x.name), szV x]
theorem keep_owns {B : Nat → Prop} {a w : World} (h : Keep B a w) {base : Nat} {e : TypeId} {size : Nat} {v : Value} {n : Nat} {xs : List Value} (ho : a.ownsRow base e size v n xs) (hv : ∀ g, v.ownBlock = some g → B g) : w.ownsRow base e size v n xs := by
  obtain ⟨h1, h2⟩ := ho
  refine ⟨h1, ?_⟩
  rcases h2 with h2 | ⟨g, cap, cur, rfl, hg, hh, r⟩
  · exact Or.inl h2
  · exact Or.inr ⟨g, cap, cur, rfl, hg, h.at hh (hv g rfl), r⟩
/-- What the iterator leans on. -/
def ONeed (b1 b2 : Nat) (la oa : Option Addr) (k : Nat) : Prop := k = b1 ∨ k = b2 ∨ (∃ x, la = some x ∧ k = x.block) ∨ ∃ x, oa = some x ∧ k = x.block
theorem OAll.keep {W W' : World} {b1 b2 : Nat} {la : Option Addr} {lc : Nat} {oa : Option Addr} {oc : Nat} {es : List Ent} (h : OAll W b1 b2 la lc oa oc es) (hk : Keep (ONeed b1 b2 la oa) W W') : OAll W' b1 b2 la lc oa oc es := by
  refine ⟨hk.at h.one (by simp [ONeed]), hk.at h.two (by simp [ONeed]), keep_owns hk h.list (fun g hg => ?_), keep_owns hk h.ints (fun g hg => ?_)⟩
  · cases la with
    | none => simp [Value.ownBlock] at hg
    | some x => simp [Value.ownBlock] at hg; exact Or.inr (Or.inr (Or.inl ⟨x, rfl, hg.symm⟩))
  · cases oa with
    | none => simp [Value.ownBlock] at hg
    | some x => simp [Value.ownBlock] at hg; exact Or.inr (Or.inr (Or.inr ⟨x, rfl, hg.symm⟩))
theorem OAll.kept {W W' : World} {b1 b2 : Nat} {la : Option Addr} {lc : Nat} {oa : Option Addr} {oc : Nat} {es : List Ent} (h : OAll W b1 b2 la lc oa oc es) (hk : Kept [] W W') : OAll W' b1 b2 la lc oa oc es := h.keep (hk.keep (fun _ _ _ => by simp))
theorem OAll.lt {W : World} {b1 b2 : Nat} {la : Option Addr} {lc : Nat} {oa : Option Addr} {oc : Nat} {es : List Ent} (h : OAll W b1 b2 la lc oa oc es) : ∀ k, ONeed b1 b2 la oa k → k < W.heap.size := by
  rintro k (rfl | rfl | ⟨x, rfl, rfl⟩ | ⟨x, rfl, rfl⟩)
  · exact lt_of_block h.one
  · exact lt_of_block h.two
  · exact (h.list.lt x.block rfl).2
  · exact (h.ints.lt x.block rfl).2
theorem owns_cell {w : World} {base g n c i : Nat} {e : TypeId} {xs : List Value} {v : Value} (h : w.ownsRow base e 1 (.slice (some ⟨g, 0, none⟩) n c) n xs) (hi : xs[i]? = some v) : w.cell? ⟨g, i, none⟩ = some v := by
  have hc := h.cells (g := g) rfl i v hi
  rw [add_plain] at hc
  exact hc

set_option maxHeartbeats 1000000 in
theorem oall_in (n : Nat) (hn : 1 ≤ n) (l b1 b2 : Nat) (la : Option Addr) (lc : Nat) (oa : Option Addr) (oc : Nat) (es : List Ent) (W : World) (h : OAll W b1 b2 la lc oa oc es) (hm : es.length ≤ 4096) (J Jx : List Ent → World → Prop)
    (hY : ∀ pre x A, J pre A → (pre ++ [x]) <+: es → YieldAt Fence.wide (n - 1) Try.prog l (evals x) A fun e B =>
      (e = .returned (.bool true) ∧ J (pre ++ [x]) B ∧ Keep (ONeed b1 b2 la oa) A B) ∨ (e = .returned (.bool false) ∧ Jx (pre ++ [x]) B)) (h0 : J [] W) :
    CallsIn Fence.wide n Try.prog 48 #[.func (.yield l) #[] #[], .pointer (some ⟨b1, 0, none⟩), .pointer (some ⟨b2, 0, none⟩)] W fun e B => (∃ v, e = .returned v) ∧ ((∃ xs, xs = es ∧ J xs B ∧ True) ∨ (∃ pre, pre <+: es ∧ Jx pre B)) := by
  have g1 : W.cell? ⟨b1, 0, none⟩ = some (.slice la es.length lc) := cell_of_one h.one
  have HY := hid hY
  have hst0 := hid (show J (es.take 0) W ∧ OAll W b1 b2 la lc oa oc es from ⟨by simpa using h0, h⟩)
  obtain ⟨ne, hne⟩ : ∃ ne, ne = es.length := ⟨_, rfl⟩
  have HNE := hid hne
  rw [← hne] at g1 hm
  clear h hY h0 hne
  refine callsIn_of_wp Try.func48 rfl trivial ?_ rfl
  simp only [Try.ntmps48, List.size_toArray, List.length_cons, List.length_nil, Nat.reduceAdd, Nat.reduceSub, Array.replicate_succ, Array.replicate_zero, List.push_toArray, List.append_toArray, List.nil_append, List.cons_append]
  gi_wp2
  gi_loopw [8] (fun s wr => ∃ i : Nat, i ≤ ne ∧ s = .int .i64 i ∧ Hid (J (es.take i) wr ∧ OAll wr b1 b2 la lc oa oc es)) (fun s _ => ne - (intOf s).toNat)
  case atStart => exact ⟨0, Nat.zero_le _, rfl, hst0⟩
  case round =>
    clear hst0 g1
    obtain ⟨i, hi, rfl, hst⟩ := hrel
    have HJ := hid hst.out.1; have HA := hid hst.out.2
    clear hst
    by_cases hlt : i < ne
    · have hlt' : i < es.length := by have := HNE.out; omega
      obtain ⟨en, hen⟩ : ∃ en, es[i]? = some en := ⟨es[i], by simp⟩
      have htk := hid (show es.take (i + 1) = es.take i ++ [en] from by rw [List.take_add_one, hen]; rfl)
      obtain ⟨g, rfl⟩ : ∃ g, la = some ⟨g, 0, none⟩ := by
        rcases HA.out.list.2 with ⟨h1, h2⟩ | ⟨g, cap, cur, h1, _⟩
        · exfalso; omega
        · simp at h1; exact ⟨g, h1.1⟩
      obtain ⟨g', rfl⟩ : ∃ g, oa = some ⟨g, 0, none⟩ := by
        rcases HA.out.ints.2 with ⟨h1, h2⟩ | ⟨g, cap, cur, h1, _⟩
        · exfalso; omega
        · simp at h1; exact ⟨g, h1.1⟩
      have c1 : wr.cell? ⟨g, i, none⟩ = some (.string (S en.name)) := owns_cell HA.out.list (by simp [hen])
      obtain ⟨sz, hsz⟩ : ∃ sz, sz = szV en := ⟨_, rfl⟩
      have c2 : wr.cell? ⟨g', i, none⟩ = some sz := owns_cell HA.out.ints (by simp [hen, hsz])
      have c3 : wr.cell? ⟨b2, 0, none⟩ = some (.slice (some ⟨g', 0, none⟩) ne oc) := by rw [HNE.out]; exact cell_of_one HA.out.two
      have hpre : (es.take i ++ [en]) <+: es := by rw [← htk.out]; exact List.take_prefix _ _
      obtain ⟨fn, tmps, assign, body, hy, hR⟩ := HY.out (es.take i) en wr HJ.out hpre
      dsimp only [evals] at hy
      rw [← hsz] at hy
      have HP := hid hpre
      have HLT := hid hlt
      clear hpre hen hlt' hsz
      gi_wp2
      refine hR.mono ?_
      rintro e W' (⟨rfl, hJ', hk⟩ | ⟨rfl, hJx'⟩)
      · have hkk := hid hk
        have hJJ := hid hJ'
        clear hk hJ' hy hR
        gi_wp2
        go_roundw
        case rel => exact ⟨i + 1, HLT.out, by go_num, hid ⟨by rw [htk.out]; exact hJJ.out, HA.out.keep hkk.out⟩⟩
        case measure => simp [intOf]; omega
      · have hJJ := hid hJx'
        clear hJx' hy hR
        gi_wp2
        refine bodyPost_ret (results_none rfl _ _ _) rfl ?_
        exact ⟨⟨_, rfl⟩, .inr ⟨_, HP.out, hJJ.out⟩⟩
    · obtain rfl : i = ne := by omega
      have hfin := hid (show J es wr from by have := HJ.out; rw [HNE.out, List.take_length] at this; exact this)
      clear hlt
      gi_wp2
      go_end0
      exact ⟨⟨_, rfl⟩, .inl ⟨es, rfl, hfin.out, trivial⟩⟩
theorem oall_seq (n : Nat) (hn : 1 ≤ n) (b1 b2 : Nat) (la : Option Addr) (lc : Nat) (oa : Option Addr) (oc : Nat) (es : List Ent) (w : World) (h : OAll w b1 b2 la lc oa oc es) (hm : es.length ≤ 4096) :
    SeqR Fence.wide n Try.prog 48 #[.pointer (some ⟨b1, 0, none⟩), .pointer (some ⟨b2, 0, none⟩)] evals b1 (ONeed b1 b2 la oa) (fun xs => xs = es) (fun pre => pre <+: es) (fun _ => True) w :=
  fun l J Jx W hW _ _ hY h0 => oall_in n hn l b1 b2 la lc oa oc es W (h.kept (Kept.of_below (S := []) hW)) hm J Jx hY h0
end Go.Proofs.Ytmholofhmpplcaa


/- coldstorelaw06.names: the names and sizes that All yields, where they are fewer than asked. -/
namespace Go.Proofs.Ytmholofhmpplcaa
open Go.RowKit Go.Lib Go.Maps
attribute [local go_sem] Oper.semAt_some

abbrev nmV (x : Ent) : Value := .string (S x.name)
/-- The block of a row has its type. -/
theorem owns_type {w : World} {base : Nat} {e : TypeId} {size : Nat} {v : Value} {n : Nat} {xs : List Value} (h : w.ownsRow base e size v n xs) {g : Nat} (hg : v.ownBlock = some g) : ∃ cur, w.heap[g]? = some (.cells cur e (0, 0)) := by
  rcases h.2 with ⟨rfl, _⟩ | ⟨g', cap, cur, rfl, _, hh, _⟩
  · simp [Value.ownBlock] at hg
  · simp [Value.ownBlock] at hg; subst hg; exact ⟨cur, hh⟩
theorem owns_far {w : World} {b b' : Nat} {e e' : TypeId} {s s' : Nat} {v v' : Value} {n n' : Nat} {xs xs' : List Value} (h : w.ownsRow b e s v n xs) (h' : w.ownsRow b' e' s' v' n' xs') (he : e ≠ e') {g : Nat} (hg : v.ownBlock = some g) : g ∉ v'.ownBlock.toList := by
  intro hm
  simp at hm
  obtain ⟨c, hc⟩ := owns_type h hg
  obtain ⟨c', hc'⟩ := owns_type h' hm
  rw [hc] at hc'; simp at hc'; exact he hc'.2
theorem cell_far {w : World} {b : Nat} {e e' : TypeId} {s : Nat} {v : Value} {n : Nat} {xs : List Value} {g : Nat} {c : Array Value} (h : w.ownsRow b e s v n xs) (hc : w.heap[g]? = some (.cells c e' (0, 0))) (he : e' ≠ e) : v.ownBlock ≠ some g := by
  intro hm
  obtain ⟨c', hc'⟩ := owns_type h hm
  rw [hc] at hc'; simp at hc'; exact he hc'.2

/-- The call's own variables, its rows. -/
structure NR (W : World) (s D : Nat) (most : Int) (vx vy : Value) (pre : List Ent) : Prop where
  most_ : W.heap[s]? = some (.cells #[.int .i64 most] 3 (0, 0))
  resx : W.heap[s + 1]? = some (.cells #[.slice none 0 0] 44 (0, 0))
  resy : W.heap[s + 2]? = some (.cells #[.slice none 0 0] 45 (0, 0))
  cx : W.heap[s + 5]? = some (.cells #[vx] 44 (0, 0))
  cy : W.heap[s + 6]? = some (.cells #[vy] 45 (0, 0))
  rowx : W.ownsRow s 9 1 vx pre.length (pre.map nmV)
  rowy : W.ownsRow s 3 1 vy pre.length (pre.map szV)
  ownx : ∀ g, vx.ownBlock = some g → g = s + 3 ∨ D + 1 < g
  owny : ∀ g, vy.ownBlock = some g → g = s + 4 ∨ D + 1 < g
theorem NR.keep {W W' : World} {s D : Nat} {most : Int} {vx vy : Value} {pre : List Ent} {S : List Nat} (h : NR W s D most vx vy pre) (hk : Kept S W W') (hS : ∀ k ∈ S, s + 7 ≤ k ∧ k ≤ D + 1) : NR W' s D most vx vy pre := by
  refine ⟨hk.at h.most_ ?_, hk.at h.resx ?_, hk.at h.resy ?_, hk.at h.cx ?_, hk.at h.cy ?_, hk.owns h.rowx (fun g hg hm => ?_), hk.owns h.rowy (fun g hg hm => ?_), h.ownx, h.owny⟩
  · intro hm; have := hS _ hm; omega
  · intro hm; have := hS _ hm; omega
  · intro hm; have := hS _ hm; omega
  · intro hm; have := hS _ hm; omega
  · intro hm; have := hS _ hm; omega
  · have := hS _ hm; rcases h.ownx g hg with e | e <;> omega
  · have := hS _ hm; rcases h.owny g hg with e | e <;> omega

/-- Midway: the rows as they are now, one longer or not; what was there but theirs is as it was. -/
structure MidN (W : World) (s : Nat) (vx vy : Value) (v : World) (vx' vy' : Value) (nx ny : Nat) (xr yr : List Value) : Prop where
  kept : Kept (vx.ownBlock.toList ++ vy.ownBlock.toList) W v
  rowx : v.ownsRow s 9 1 vx' nx xr
  rowy : v.ownsRow s 3 1 vy' ny yr
  newx : ∀ g, vx'.ownBlock = some g → vx.ownBlock = some g ∨ W.heap.size ≤ g
  newy : ∀ g, vy'.ownBlock = some g → vy.ownBlock = some g ∨ W.heap.size ≤ g
theorem MidN.alloc {W : World} {s : Nat} {vx vy : Value} {v : World} {vx' vy' : Value} {nx ny : Nat} {xr yr : List Value} (h : MidN W s vx vy v vx' vy' nx ny xr yr) (o : Obj) : MidN W s vx vy (v.alloc o) vx' vy' nx ny xr yr :=
  ⟨h.kept.alloc o, ((Kept.refl [] v).alloc o).owns h.rowx (by simp), ((Kept.refl [] v).alloc o).owns h.rowy (by simp), h.newx, h.newy⟩
theorem MidN.appx {W : World} {s : Nat} {vx vy : Value} {v v' : World} {vx' vy' vx2 : Value} {nx ny n2 : Nat} {xr yr xr2 : List Value} (h : MidN W s vx vy v vx' vy' nx ny xr yr) (hown : v'.ownsRow s 9 1 vx2 n2 xr2) (hg : v.grownBy v' vx'.ownBlock)
    (hn : ∀ g, vx2.ownBlock = some g → vx'.ownBlock = some g ∨ v.heap.size ≤ g) : MidN W s vx vy v' vx2 vy' n2 ny xr2 yr := by
  have hk := Kept.of_row hg
  refine ⟨h.kept.trans' hk (fun x hx hm => ?_), hown, hk.owns h.rowy (fun g hgy => owns_far h.rowy h.rowx (by decide) hgy), fun g hgx => ?_, h.newy⟩
  · simp at hm
    rcases h.newx x hm with e | e
    · simp [e]
    · omega
  · rcases hn g hgx with e | e
    · exact h.newx g e
    · exact Or.inr (Nat.le_trans h.kept.size e)
theorem MidN.appy {W : World} {s : Nat} {vx vy : Value} {v v' : World} {vx' vy' vy2 : Value} {nx ny n2 : Nat} {xr yr yr2 : List Value} (h : MidN W s vx vy v vx' vy' nx ny xr yr) (hown : v'.ownsRow s 3 1 vy2 n2 yr2) (hg : v.grownBy v' vy'.ownBlock)
    (hn : ∀ g, vy2.ownBlock = some g → vy'.ownBlock = some g ∨ v.heap.size ≤ g) : MidN W s vx vy v' vx' vy2 nx n2 xr yr2 := by
  have hk := Kept.of_row hg
  refine ⟨h.kept.trans' hk (fun x hx hm => ?_), hk.owns h.rowx (fun g hgx => owns_far h.rowx h.rowy (by decide) hgx), hown, h.newx, fun g hgy => ?_⟩
  · simp at hm
    rcases h.newy x hm with e | e
    · simp [e]
    · omega
  · rcases hn g hgy with e | e
    · exact h.newy g e
    · exact Or.inr (Nat.le_trans h.kept.size e)
theorem one_src {v : World} {g : Nat} {cs : List Value} {t : TypeId} (h : v.heap[g]? = some (.cells cs.toArray t (0, 0))) : Src v (.slice (some ⟨g, 0, none⟩) 1 1) 1 cs := Or.inr ⟨_, _, rfl, fun j u hj => by
  rw [add_plain, cell_of_row v _ j _ _ _ h]; simpa using hj⟩
theorem build_nm (x : ByteArray) (W : World) : (Instr.buildSlice 44 1 #[(0, .string x)]).run Try.prog W = .ok (.slice (some ⟨W.heap.size, 0, none⟩) 1 1) (W.alloc (.cells #[.string x] 9)) := by kernel_rfl
theorem build_sz (x : Int) (W : World) : (Instr.buildSlice 45 1 #[(0, .int .i64 x)]).run Try.prog W = .ok (.slice (some ⟨W.heap.size, 0, none⟩) 1 1) (W.alloc (.cells #[.int .i64 x] 3)) := by kernel_rfl

set_option maxRecDepth 100000 in
set_option maxHeartbeats 8000000 in
theorem names_any (w : World) (U : List Nat) (p T : Nat) (more : List Value) (q : Int) (es : List Ent) (fv : Value) (fl : List Bool) (k : Nat) (h : Ob w U p T more q es fv fl k) (most : Nat) (hm : es.length < most) (hm2 : most ≤ 4096) :
    Calls Try.prog 14 #[.pointer (some ⟨p, 0, none⟩), .int .i64 (most : Int)] w fun e w' => ∃ vx vy, e = .returned (.tuple #[vx, vy]) ∧ Kept [] w w' ∧ w'.ownsRow w.heap.size 9 1 vx es.length (es.map nmV) ∧ w'.ownsRow w.heap.size 3 1 vy es.length (es.map szV) := by
  have h00 : ¬ ((most : Int) ≤ 0) := by omega
  have hall := hid (fun (W : World) (kk : Kept [] w W) => ob_all W U p T more q es fv fl k (h.kept kk (by simp)))
  have Hm := hid hm
  clear h hm
  obtain ⟨i0, hi0, hz0, hz1, hz2⟩ := info_split info_str
  obtain ⟨j0, hj0, hy0, hy1, hy2⟩ := info_split info_int
  refine (callsIn_wide (n := 4)).1 ?_
  refine callsIn_of_wp_marks Try.func14 rfl trivial ?_ rfl
  simp only [Try.ntmps14, List.size_toArray, List.length_cons, List.length_nil, Nat.reduceAdd, Nat.reduceSub, Array.replicate_succ, Array.replicate_zero, List.push_toArray, List.append_toArray, List.nil_append, List.cons_append]
  gi_wp2_with (refine ⟨trivial, ?_⟩; gi_at_call 32; refine (callsIn_wide.2 (hall.out _ ((((((((Kept.refl [] w).alloc _).alloc _).alloc _).alloc _).alloc _).alloc _).alloc _))).mono ?_; rintro e w1 ⟨b3, b4, la, lc, oa, oc, rfl, k1, hA, hb3, hb4, hla, hoa⟩)
  obtain ⟨W0, hW0⟩ : ∃ W0, W0 = (((((((w.alloc (.cells #[.int .i64 (most : Int)] 3)).alloc (.cells #[.slice none 0 0] 44)).alloc (.cells #[.slice none 0 0] 45)).alloc (.cells #[] 9)).alloc (.cells #[] 3)).alloc (.cells #[.slice (some ⟨w.heap.size + 1 + 1 + 1, 0, none⟩) 0 0] 44)).alloc (.cells #[.slice (some ⟨w.heap.size + 1 + 1 + 1 + 1, 0, none⟩) 0 0] 45)) := ⟨_, rfl⟩
  have k00 : Kept [] w W0 := hW0 ▸ ((((((((Kept.refl [] w).alloc _).alloc _).alloc _).alloc _).alloc _).alloc _).alloc _)
  have hs0 : W0.heap.size = w.heap.size + 7 := by rw [hW0]; simp
  have q0 : W0.heap[w.heap.size]? = some (.cells #[.int .i64 (most : Int)] 3 (0, 0)) := by
    rw [hW0]; exact heap_alloc_old (heap_alloc_old (heap_alloc_old (heap_alloc_old (heap_alloc_old (heap_alloc_old (heap_alloc_at rfl))))))
  have q1 : W0.heap[w.heap.size + 1]? = some (.cells #[.slice none 0 0] 44 (0, 0)) := by
    rw [hW0]; exact heap_alloc_old (heap_alloc_old (heap_alloc_old (heap_alloc_old (heap_alloc_old (heap_alloc_at (by simp))))))
  have q2 : W0.heap[w.heap.size + 2]? = some (.cells #[.slice none 0 0] 45 (0, 0)) := by
    rw [hW0]; exact heap_alloc_old (heap_alloc_old (heap_alloc_old (heap_alloc_old (heap_alloc_at (by simp)))))
  have q3 : W0.heap[w.heap.size + 3]? = some (.cells #[] 9 (0, 0)) := by
    rw [hW0]; exact heap_alloc_old (heap_alloc_old (heap_alloc_old (heap_alloc_at (by simp))))
  have q4 : W0.heap[w.heap.size + 4]? = some (.cells #[] 3 (0, 0)) := by
    rw [hW0]; exact heap_alloc_old (heap_alloc_old (heap_alloc_at (by simp)))
  have q5 : W0.heap[w.heap.size + 5]? = some (.cells #[.slice (some ⟨w.heap.size + 3, 0, none⟩) 0 0] 44 (0, 0)) := by
    rw [hW0]; exact heap_alloc_old (heap_alloc_at (by simp))
  have q6 : W0.heap[w.heap.size + 6]? = some (.cells #[.slice (some ⟨w.heap.size + 4, 0, none⟩) 0 0] 45 (0, 0)) := by
    rw [hW0]; exact heap_alloc_at (by simp)
  rw [← hW0] at k1 hb3 hb4 hla hoa
  clear hW0 hall
  rw [hs0] at hb3 hb4 hla hoa
  have hk01 := hid (k00.trans k1)
  have hR1 := hid (show NR w1 w.heap.size w1.heap.size most (.slice (some ⟨w.heap.size + 3, 0, none⟩) 0 0) (.slice (some ⟨w.heap.size + 4, 0, none⟩) 0 0) [] from
    ⟨k1.at q0 (by simp), k1.at q1 (by simp), k1.at q2 (by simp), k1.at q5 (by simp), k1.at q6 (by simp),
     ⟨by simp, Or.inr ⟨w.heap.size + 3, 0, #[], rfl, by omega, k1.at q3 (by simp), by simp, by unfold maxLen; omega, by simp, by simp⟩⟩,
     ⟨by simp, Or.inr ⟨w.heap.size + 4, 0, #[], rfl, by omega, k1.at q4 (by simp), by simp, by unfold maxLen; omega, by simp, by simp⟩⟩,
     fun g hg => by simp [Value.ownBlock] at hg; omega, fun g hg => by simp [Value.ownBlock] at hg; omega⟩)
  have HA := hid hA
  have hneed := hid (show ∀ k, ONeed b3 b4 la oa k → k < w1.heap.size ∧ w.heap.size + 7 ≤ k from fun k hk => ⟨hA.lt k hk, by
    rcases hk with rfl | rfl | ⟨x, hx, rfl⟩ | ⟨x, hx, rfl⟩
    · exact hb3
    · exact hb4
    · exact hla x hx
    · exact hoa x hx⟩)
  have hw1 : w.heap.size + 7 ≤ w1.heap.size := by have := k1.size; omega
  have hb31 : b3 < w1.heap.size ∧ w.heap.size + 7 ≤ b3 := hneed.out b3 (Or.inl rfl)
  clear hla hoa hb3 hb4 k1 hA k00 hs0 q0 q1 q2 q3 q4 q5 q6
  refine range_r (β := Unit) (encs := evals) rfl (by omega) (gf := 48) (lb := #[.pointer (some ⟨b3, 0, none⟩), .pointer (some ⟨b4, 0, none⟩)]) rfl trivial (enters_of Try.func48 (by kernel_rfl) rfl)
    (E := fun _ => True) (fun _ _ _ _ => trivial) (oall_seq (4 - 1) (by omega) b3 b4 la lc oa oc es w1 HA.out (by have := Hm.out; omega)) (fun k hk => (hneed.out k hk).1) (Or.inl rfl) (fun _ => rfl)
    (fun pre W => pre.length < most ∧ Kept [] w W ∧ ∃ vx vy, NR W w.heap.size w1.heap.size most vx vy pre) (fun _ _ => False) ?hI (fun _ _ _ h _ => h.elim) ?h0
    (fun x _ => { tmps := #[.pointer (some ⟨p, 0, none⟩), .int .i64 (most : Int), undef, .pointer (some ⟨w.heap.size, 0, none⟩), .pointer (some ⟨w.heap.size + 1, 0, none⟩), .pointer (some ⟨w.heap.size + 1 + 1, 0, none⟩), .pointer (some ⟨w.heap.size + 1 + 1 + 1 + 1 + 1, 0, none⟩), .pointer (some ⟨w.heap.size + 1 + 1 + 1 + 1 + 1 + 1, 0, none⟩), nmV x, szV x, .slice (some ⟨w.heap.size + 1 + 1 + 1, 0, none⟩) 0 0, .slice (some ⟨w.heap.size + 1 + 1 + 1 + 1, 0, none⟩) 0 0, .int .i64 (most : Int), .bool false, undef, undef, .pointer (some ⟨p, 0, none⟩), .func (.func 48) #[] #[.pointer (some ⟨b3, 0, none⟩), .pointer (some ⟨b4, 0, none⟩)], nmV x, szV x, undef, undef, undef, undef, undef, undef, undef, undef, undef, undef, undef, undef, undef, undef, undef, undef], defers := [] })
    (fun _ _ _ => True) (fun _ _ _ _ _ _ => trivial) ?assign ?body ?done (fun _ _ _ h => h.elim)
  case hI =>
    rintro s A B ⟨hlt, hk0, vx, vy, hi⟩ hkk
    exact ⟨hlt, hk0.trans' hkk (fun x hx hm => by simp at hm; omega), vx, vy, hi.keep hkk (fun k hk => by simp at hk; omega)⟩
  case h0 => exact ⟨by have := Hm.out; simp; omega, hk01.out, _, _, hR1.out⟩
  case assign =>
    intro l pre x V K _ hsz hK
    gi_wp2
    exact hK () V (Kept.refl [] V) trivial
  case body =>
    rintro l pre x _ W ⟨hlt, hk0, vx, vy, hR⟩ hzp hsz _
    have hlen : pre.length + 1 ≤ es.length := by
      obtain ⟨r, hr⟩ := hzp
      have h1 := congrArg List.length hr
      simp at h1
      omega
    have cx := cell_of_one hR.cx; have cy := cell_of_one hR.cy
    have hes := Hm.out
    have hM0 := hid (show MidN W w.heap.size vx vy W.drew vx vy pre.length pre.length (pre.map nmV) (pre.map szV) from ⟨(Kept.refl _ W).drew, hR.rowx, hR.rowy, fun g hg => Or.inl hg, fun g hg => Or.inl hg⟩)
    have HR := hid hR; have Hk0 := hid hk0
    clear hR hk0
    gi_wp2
    have hlt5 := hid (show w.heap.size + 7 ≤ W.heap.size from by omega)
    have hMs : ∀ {v : World}, Kept (vx.ownBlock.toList ++ vy.ownBlock.toList) W v → w.heap.size ≤ v.heap.size := fun h => by have := h.size; have := hlt5.out; omega
    have hno := hid (show ∀ k, w.heap.size + 5 ≤ k → k ≤ w1.heap.size + 1 → k ∉ vx.ownBlock.toList ++ vy.ownBlock.toList from fun k h1 h2 hm => by
      simp at hm
      rcases hm with e | e
      · rcases HR.out.ownx _ e with e | e <;> omega
      · rcases HR.out.owny _ e with e | e <;> omega)
    have hcx : ∀ {v : World}, Kept (vx.ownBlock.toList ++ vy.ownBlock.toList) W v → v.heap[w.heap.size + 1 + 1 + 1 + 1 + 1]? = some (.cells #[vx] 44 (0, 0)) := fun h => h.at HR.out.cx (hno.out _ (by omega) (by omega))
    have hcy : ∀ {v : World}, Kept (vx.ownBlock.toList ++ vy.ownBlock.toList) W v → v.heap[w.heap.size + 1 + 1 + 1 + 1 + 1 + 1]? = some (.cells #[vy] 45 (0, 0)) := fun h => h.at HR.out.cy (hno.out _ (by omega) (by omega))
    have hSof : ∀ {v : World}, Kept (vx.ownBlock.toList ++ vy.ownBlock.toList) W v → v.cell? ⟨w.heap.size + 1 + 1 + 1 + 1 + 1, 0, none⟩ = some vx ∧ v.cell? ⟨w.heap.size + 1 + 1 + 1 + 1 + 1 + 1, 0, none⟩ = some vy := fun h => ⟨cell_of_one (hcx h), cell_of_one (hcy h)⟩
    refine wpIn_region_V (fun v => v.cell? ⟨w.heap.size + 1 + 1 + 1 + 1 + 1, 0, none⟩ = some vx ∧ v.cell? ⟨w.heap.size + 1 + 1 + 1 + 1 + 1 + 1, 0, none⟩ = some vy) [8, 9]
      (fun a' w' => ∃ vx' vy' z1 z2, a' = { tmps := #[.pointer (some ⟨p, 0, none⟩), .int .i64 (most : Int), undef, .pointer (some ⟨w.heap.size, 0, none⟩), .pointer (some ⟨w.heap.size + 1, 0, none⟩), .pointer (some ⟨w.heap.size + 1 + 1, 0, none⟩), .pointer (some ⟨w.heap.size + 1 + 1 + 1 + 1 + 1, 0, none⟩), .pointer (some ⟨w.heap.size + 1 + 1 + 1 + 1 + 1 + 1, 0, none⟩), nmV x, szV x, .slice (some ⟨w.heap.size + 1 + 1 + 1, 0, none⟩) 0 0, .slice (some ⟨w.heap.size + 1 + 1 + 1 + 1, 0, none⟩) 0 0, .int .i64 (most : Int), .bool false, undef, undef, .pointer (some ⟨p, 0, none⟩), .func (.func 48) #[] #[.pointer (some ⟨b3, 0, none⟩), .pointer (some ⟨b4, 0, none⟩)], nmV x, szV x, vx, nmV x, z1, vx', vy, szV x, z2, vy', undef, undef, undef, undef, undef, undef, undef, undef], defers := [] } ∧
        ∃ v, Hid (MidN W w.heap.size vx vy v vx' vy' (pre.length + 1) (pre.length + 1) ((pre ++ [x]).map nmV) ((pre ++ [x]).map szV)) ∧ w' = (v.setCell ⟨w.heap.size + 1 + 1 + 1 + 1 + 1, 0, none⟩ vx').setCell ⟨w.heap.size + 1 + 1 + 1 + 1 + 1 + 1, 0, none⟩ vy') (by kernel_rfl) ?plain ?rest ?region
    case plain =>
      intro o ho
      simp only [List.mem_cons, List.not_mem_nil, or_false] at ho
      rcases ho with rfl | rfl | rfl | rfl | rfl | rfl | rfl | rfl | rfl | rfl <;> exact ⟨fun ρ => Oper.semAt_plain _ _ _ (by intro c hc; cases hc), fun w ρ => by simp [Oper.about, resolve, Target.leads, Sem.run_pure]⟩
    case region =>
      refine takeV 0 vx rfl (by kernel_rfl) (by kernel_rfl) (by kernel_rfl) (by kernel_rfl) (by kernel_rfl) (by decide) (by rfl) (fun v hv => by have h := hv.1; go_simp) (hSof hM0.out.kept) ?_
      simp only [Act.put, List.setIfInBounds_toArray, List.set_cons_succ, List.set_cons_zero]
      refine takeV 4 vy rfl (by kernel_rfl) (by kernel_rfl) (by kernel_rfl) (by kernel_rfl) (by kernel_rfl) (by decide) (by rfl) (fun v hv => by have h := hv.2; go_simp) (hSof hM0.out.kept) ?_
      simp only [Act.put, List.setIfInBounds_toArray, List.set_cons_succ, List.set_cons_zero]
      refine takeV 1 (nmV x) rfl (by kernel_rfl) (by kernel_rfl) (by kernel_rfl) (by kernel_rfl) (by kernel_rfl) (by decide) (by rfl) (fun v hv => by go_simp) (hSof hM0.out.kept) ?_
      simp only [Act.put, List.setIfInBounds_toArray, List.set_cons_succ, List.set_cons_zero]
      refine takeV 5 (szV x) rfl (by kernel_rfl) (by kernel_rfl) (by kernel_rfl) (by kernel_rfl) (by kernel_rfl) (by decide) (by rfl) (fun v hv => by go_simp) (hSof hM0.out.kept) ?_
      simp only [Act.put, List.setIfInBounds_toArray, List.set_cons_succ, List.set_cons_zero]
      have hM1 := hid (show MidN W w.heap.size vx vy (W.drew.alloc (.cells #[nmV x] 9)) vx vy (pre.length) (pre.length) (pre.map nmV) (pre.map szV) from hM0.out.alloc _)
      have hx2 := hid (show (W.drew.alloc (.cells #[nmV x] 9)).heap[W.drew.heap.size]? = some (.cells [nmV x].toArray 9 (0, 0)) from heap_alloc_at rfl)
      have hM3 := hid (show MidN W w.heap.size vx vy (W.drew.alloc (.cells #[szV x] 3)) vx vy (pre.length) (pre.length) (pre.map nmV) (pre.map szV) from hM0.out.alloc _)
      have hy4 := hid (show (W.drew.alloc (.cells #[szV x] 3)).heap[W.drew.heap.size]? = some (.cells [szV x].toArray 3 (0, 0)) from heap_alloc_at rfl)
      refine bothV 2 6 rfl rfl (by kernel_rfl) (by rfl) (by rfl) (.slice (some ⟨W.drew.heap.size, 0, none⟩) 1 1) (W.drew.alloc (.cells #[nmV x] 9)) (by have h := build_nm (S x.name) W.drew; unfold execOp; simp [Act.eval, Act.put, h]) (fun _ => hSof hM1.out.kept) (.slice (some ⟨W.drew.heap.size, 0, none⟩) 1 1) (W.drew.alloc (.cells #[szV x] 3)) (by have h := build_sz x.b.length W.drew; unfold execOp; simp [Act.eval, Act.put, szV, h]) (fun _ => hSof hM3.out.kept) ?_ ?_
      · simp only [Act.put, List.setIfInBounds_toArray, List.set_cons_succ, List.set_cons_zero]
        obtain ⟨ux5, U6, hr7, ho8, hg9, -, hn10⟩ := run_append_k (P := Try.prog) (W.drew.alloc (.cells #[nmV x] 9)) 44 44 w.heap.size 9 i0 _ 1 16 Try.underlying44 hi0 hz0 hz1 hz2 rfl (by decide) vx pre.length _ hM1.out.rowx _ 1 [nmV x] (one_src hx2.out) rfl (by simp [Value.oneCell', szV]) (by unfold maxLen; omega) (by omega) (by have := hMs hM1.out.kept; omega)
        have hM11 := hid (show MidN W w.heap.size vx vy U6 ux5 vy (pre.length + 1) (pre.length) ((pre ++ [x]).map nmV) (pre.map szV) from hM1.out.appx (by rw [List.map_append]; simpa using ho8) hg9 hn10)
        clear ho8 hn10
        have hM12 := hid (show MidN W w.heap.size vx vy ((W.drew.alloc (.cells #[nmV x] 9)).alloc (.cells #[szV x] 3)) vx vy (pre.length) (pre.length) (pre.map nmV) (pre.map szV) from hM1.out.alloc _)
        have hy13 := hid (show ((W.drew.alloc (.cells #[nmV x] 9)).alloc (.cells #[szV x] 3)).heap[(W.drew.alloc (.cells #[nmV x] 9)).heap.size]? = some (.cells [szV x].toArray 3 (0, 0)) from heap_alloc_at rfl)
        have hx14 := hid (show ((W.drew.alloc (.cells #[nmV x] 9)).alloc (.cells #[szV x] 3)).heap[W.drew.heap.size]? = some (.cells [nmV x].toArray 9 (0, 0)) from heap_alloc_old hx2.out)
        refine bothV 3 6 rfl rfl (by kernel_rfl) (by rfl) (by rfl) ux5 U6 (run_app_op (.tmp 20) (.tmp 22) 44 rfl _ _ _ rfl rfl hr7) (fun _ => hSof hM11.out.kept) (.slice (some ⟨(W.drew.alloc (.cells #[nmV x] 9)).heap.size, 0, none⟩) 1 1) ((W.drew.alloc (.cells #[nmV x] 9)).alloc (.cells #[szV x] 3)) (by have h := build_sz x.b.length (W.drew.alloc (.cells #[nmV x] 9)); unfold execOp; simp [Act.eval, Act.put, szV, h]) (fun _ => hSof hM12.out.kept) ?_ ?_
        · simp only [Act.put, List.setIfInBounds_toArray, List.set_cons_succ, List.set_cons_zero]
          have hM15 := hid (show MidN W w.heap.size vx vy (U6.alloc (.cells #[szV x] 3)) ux5 vy (pre.length + 1) (pre.length) ((pre ++ [x]).map nmV) (pre.map szV) from hM11.out.alloc _)
          have hy16 := hid (show (U6.alloc (.cells #[szV x] 3)).heap[U6.heap.size]? = some (.cells [szV x].toArray 3 (0, 0)) from heap_alloc_at rfl)
          refine runV 6 rfl (by kernel_rfl) (by rfl) (.slice (some ⟨U6.heap.size, 0, none⟩) 1 1) (U6.alloc (.cells #[szV x] 3)) (by have h := build_sz x.b.length U6; unfold execOp; simp [Act.eval, Act.put, szV, h]) (fun _ => hSof hM15.out.kept) ?_
          simp only [Act.put, List.setIfInBounds_toArray, List.set_cons_succ, List.set_cons_zero]
          obtain ⟨uy17, U18, hr19, ho20, hg21, -, hn22⟩ := run_append_k (P := Try.prog) (U6.alloc (.cells #[szV x] 3)) 45 45 w.heap.size 3 j0 _ 1 8 Try.underlying45 hj0 hy0 hy1 hy2 rfl (by decide) vy pre.length _ hM15.out.rowy _ 1 [szV x] (one_src hy16.out) rfl (by simp [Value.oneCell', szV]) (by unfold maxLen; omega) (by omega) (by have := hMs hM15.out.kept; omega)
          have hM23 := hid (show MidN W w.heap.size vx vy U18 ux5 uy17 (pre.length + 1) (pre.length + 1) ((pre ++ [x]).map nmV) ((pre ++ [x]).map szV) from hM15.out.appy (by rw [List.map_append]; simpa using ho20) hg21 hn22)
          clear ho20 hn22
          refine runV 7 rfl (by kernel_rfl) (by rfl) uy17 U18 (run_app_op (.tmp 24) (.tmp 26) 45 rfl _ _ _ rfl rfl hr19) (fun _ => hSof hM23.out.kept) ?_
          simp only [Act.put, List.setIfInBounds_toArray, List.set_cons_succ, List.set_cons_zero]
          have c1 := cell_of_one (hcx hM23.out.kept)
          have f1 := free_of_one (hcx hM23.out.kept)
          obtain ⟨ax, cx2, rfl⟩ := owns_slice hM23.out.rowx
          obtain ⟨ay, cy2, rfl⟩ := owns_slice hM23.out.rowy
          refine writeV 8 rfl (by kernel_rfl) (by rfl) (U18.setCell ⟨w.heap.size + 1 + 1 + 1 + 1 + 1, 0, none⟩ (.slice ax (pre.length + 1) cx2)) (by go_simp) (fun h => absurd (by simp) h) ?_
          simp only [Act.put, List.setIfInBounds_toArray, List.set_cons_succ, List.set_cons_zero]
          have hcy2 := heap_setCell_other (p := ⟨w.heap.size + 1 + 1 + 1 + 1 + 1, 0, none⟩) (u := .slice ax (pre.length + 1) cx2) (hcy hM23.out.kept) (by simp)
          have c2 := cell_of_one hcy2
          have f2 := free_of_one hcy2
          refine writeV 9 rfl (by kernel_rfl) (by rfl) ((U18.setCell ⟨w.heap.size + 1 + 1 + 1 + 1 + 1, 0, none⟩ (.slice ax (pre.length + 1) cx2)).setCell ⟨w.heap.size + 1 + 1 + 1 + 1 + 1 + 1, 0, none⟩ (.slice ay (pre.length + 1) cy2)) (by go_simp) (fun h => absurd (by simp) h) ?_
          simp only [Act.put, List.setIfInBounds_toArray, List.set_cons_succ, List.set_cons_zero]
          exact doneV (by kernel_rfl) ⟨_, _, _, _, rfl, _, hM23, rfl⟩ _
        · simp only [Act.put, List.setIfInBounds_toArray, List.set_cons_succ, List.set_cons_zero]
          obtain ⟨ux24, U25, hr26, ho27, hg28, -, hn29⟩ := run_append_k (P := Try.prog) ((W.drew.alloc (.cells #[nmV x] 9)).alloc (.cells #[szV x] 3)) 44 44 w.heap.size 9 i0 _ 1 16 Try.underlying44 hi0 hz0 hz1 hz2 rfl (by decide) vx pre.length _ hM12.out.rowx _ 1 [nmV x] (one_src hx14.out) rfl (by simp [Value.oneCell', szV]) (by unfold maxLen; omega) (by omega) (by have := hMs hM12.out.kept; omega)
          have hM30 := hid (show MidN W w.heap.size vx vy U25 ux24 vy (pre.length + 1) (pre.length) ((pre ++ [x]).map nmV) (pre.map szV) from hM12.out.appx (by rw [List.map_append]; simpa using ho27) hg28 hn29)
          have hy31 := hid (show U25.heap[(W.drew.alloc (.cells #[nmV x] 9)).heap.size]? = some (.cells [szV x].toArray 3 (0, 0)) from heap_grown hg28 hy13.out (cell_far hM12.out.rowx hy13.out (by decide)))
          clear ho27 hn29
          refine runV 3 rfl (by kernel_rfl) (by rfl) ux24 U25 (run_app_op (.tmp 20) (.tmp 22) 44 rfl _ _ _ rfl rfl hr26) (fun _ => hSof hM30.out.kept) ?_
          simp only [Act.put, List.setIfInBounds_toArray, List.set_cons_succ, List.set_cons_zero]
          obtain ⟨uy32, U33, hr34, ho35, hg36, -, hn37⟩ := run_append_k (P := Try.prog) U25 45 45 w.heap.size 3 j0 _ 1 8 Try.underlying45 hj0 hy0 hy1 hy2 rfl (by decide) vy pre.length _ hM30.out.rowy _ 1 [szV x] (one_src hy31.out) rfl (by simp [Value.oneCell', szV]) (by unfold maxLen; omega) (by omega) (by have := hMs hM30.out.kept; omega)
          have hM38 := hid (show MidN W w.heap.size vx vy U33 ux24 uy32 (pre.length + 1) (pre.length + 1) ((pre ++ [x]).map nmV) ((pre ++ [x]).map szV) from hM30.out.appy (by rw [List.map_append]; simpa using ho35) hg36 hn37)
          clear ho35 hn37
          refine runV 7 rfl (by kernel_rfl) (by rfl) uy32 U33 (run_app_op (.tmp 24) (.tmp 26) 45 rfl _ _ _ rfl rfl hr34) (fun _ => hSof hM38.out.kept) ?_
          simp only [Act.put, List.setIfInBounds_toArray, List.set_cons_succ, List.set_cons_zero]
          have c1 := cell_of_one (hcx hM38.out.kept)
          have f1 := free_of_one (hcx hM38.out.kept)
          obtain ⟨ax, cx2, rfl⟩ := owns_slice hM38.out.rowx
          obtain ⟨ay, cy2, rfl⟩ := owns_slice hM38.out.rowy
          refine writeV 8 rfl (by kernel_rfl) (by rfl) (U33.setCell ⟨w.heap.size + 1 + 1 + 1 + 1 + 1, 0, none⟩ (.slice ax (pre.length + 1) cx2)) (by go_simp) (fun h => absurd (by simp) h) ?_
          simp only [Act.put, List.setIfInBounds_toArray, List.set_cons_succ, List.set_cons_zero]
          have hcy2 := heap_setCell_other (p := ⟨w.heap.size + 1 + 1 + 1 + 1 + 1, 0, none⟩) (u := .slice ax (pre.length + 1) cx2) (hcy hM38.out.kept) (by simp)
          have c2 := cell_of_one hcy2
          have f2 := free_of_one hcy2
          refine writeV 9 rfl (by kernel_rfl) (by rfl) ((U33.setCell ⟨w.heap.size + 1 + 1 + 1 + 1 + 1, 0, none⟩ (.slice ax (pre.length + 1) cx2)).setCell ⟨w.heap.size + 1 + 1 + 1 + 1 + 1 + 1, 0, none⟩ (.slice ay (pre.length + 1) cy2)) (by go_simp) (fun h => absurd (by simp) h) ?_
          simp only [Act.put, List.setIfInBounds_toArray, List.set_cons_succ, List.set_cons_zero]
          exact doneV (by kernel_rfl) ⟨_, _, _, _, rfl, _, hM38, rfl⟩ _
      · simp only [Act.put, List.setIfInBounds_toArray, List.set_cons_succ, List.set_cons_zero]
        have hM39 := hid (show MidN W w.heap.size vx vy ((W.drew.alloc (.cells #[szV x] 3)).alloc (.cells #[nmV x] 9)) vx vy (pre.length) (pre.length) (pre.map nmV) (pre.map szV) from hM3.out.alloc _)
        have hx40 := hid (show ((W.drew.alloc (.cells #[szV x] 3)).alloc (.cells #[nmV x] 9)).heap[(W.drew.alloc (.cells #[szV x] 3)).heap.size]? = some (.cells [nmV x].toArray 9 (0, 0)) from heap_alloc_at rfl)
        have hy41 := hid (show ((W.drew.alloc (.cells #[szV x] 3)).alloc (.cells #[nmV x] 9)).heap[W.drew.heap.size]? = some (.cells [szV x].toArray 3 (0, 0)) from heap_alloc_old hy4.out)
        refine runV 2 rfl (by kernel_rfl) (by rfl) (.slice (some ⟨(W.drew.alloc (.cells #[szV x] 3)).heap.size, 0, none⟩) 1 1) ((W.drew.alloc (.cells #[szV x] 3)).alloc (.cells #[nmV x] 9)) (by have h := build_nm (S x.name) (W.drew.alloc (.cells #[szV x] 3)); unfold execOp; simp [Act.eval, Act.put, h]) (fun _ => hSof hM39.out.kept) ?_
        simp only [Act.put, List.setIfInBounds_toArray, List.set_cons_succ, List.set_cons_zero]
        obtain ⟨ux42, U43, hr44, ho45, hg46, -, hn47⟩ := run_append_k (P := Try.prog) ((W.drew.alloc (.cells #[szV x] 3)).alloc (.cells #[nmV x] 9)) 44 44 w.heap.size 9 i0 _ 1 16 Try.underlying44 hi0 hz0 hz1 hz2 rfl (by decide) vx pre.length _ hM39.out.rowx _ 1 [nmV x] (one_src hx40.out) rfl (by simp [Value.oneCell', szV]) (by unfold maxLen; omega) (by omega) (by have := hMs hM39.out.kept; omega)
        have hM48 := hid (show MidN W w.heap.size vx vy U43 ux42 vy (pre.length + 1) (pre.length) ((pre ++ [x]).map nmV) (pre.map szV) from hM39.out.appx (by rw [List.map_append]; simpa using ho45) hg46 hn47)
        have hy49 := hid (show U43.heap[W.drew.heap.size]? = some (.cells [szV x].toArray 3 (0, 0)) from heap_grown hg46 hy41.out (cell_far hM39.out.rowx hy41.out (by decide)))
        clear ho45 hn47
        refine runV 3 rfl (by kernel_rfl) (by rfl) ux42 U43 (run_app_op (.tmp 20) (.tmp 22) 44 rfl _ _ _ rfl rfl hr44) (fun _ => hSof hM48.out.kept) ?_
        simp only [Act.put, List.setIfInBounds_toArray, List.set_cons_succ, List.set_cons_zero]
        obtain ⟨uy50, U51, hr52, ho53, hg54, -, hn55⟩ := run_append_k (P := Try.prog) U43 45 45 w.heap.size 3 j0 _ 1 8 Try.underlying45 hj0 hy0 hy1 hy2 rfl (by decide) vy pre.length _ hM48.out.rowy _ 1 [szV x] (one_src hy49.out) rfl (by simp [Value.oneCell', szV]) (by unfold maxLen; omega) (by omega) (by have := hMs hM48.out.kept; omega)
        have hM56 := hid (show MidN W w.heap.size vx vy U51 ux42 uy50 (pre.length + 1) (pre.length + 1) ((pre ++ [x]).map nmV) ((pre ++ [x]).map szV) from hM48.out.appy (by rw [List.map_append]; simpa using ho53) hg54 hn55)
        clear ho53 hn55
        refine runV 7 rfl (by kernel_rfl) (by rfl) uy50 U51 (run_app_op (.tmp 24) (.tmp 26) 45 rfl _ _ _ rfl rfl hr52) (fun _ => hSof hM56.out.kept) ?_
        simp only [Act.put, List.setIfInBounds_toArray, List.set_cons_succ, List.set_cons_zero]
        have c1 := cell_of_one (hcx hM56.out.kept)
        have f1 := free_of_one (hcx hM56.out.kept)
        obtain ⟨ax, cx2, rfl⟩ := owns_slice hM56.out.rowx
        obtain ⟨ay, cy2, rfl⟩ := owns_slice hM56.out.rowy
        refine writeV 8 rfl (by kernel_rfl) (by rfl) (U51.setCell ⟨w.heap.size + 1 + 1 + 1 + 1 + 1, 0, none⟩ (.slice ax (pre.length + 1) cx2)) (by go_simp) (fun h => absurd (by simp) h) ?_
        simp only [Act.put, List.setIfInBounds_toArray, List.set_cons_succ, List.set_cons_zero]
        have hcy2 := heap_setCell_other (p := ⟨w.heap.size + 1 + 1 + 1 + 1 + 1, 0, none⟩) (u := .slice ax (pre.length + 1) cx2) (hcy hM56.out.kept) (by simp)
        have c2 := cell_of_one hcy2
        have f2 := free_of_one hcy2
        refine writeV 9 rfl (by kernel_rfl) (by rfl) ((U51.setCell ⟨w.heap.size + 1 + 1 + 1 + 1 + 1, 0, none⟩ (.slice ax (pre.length + 1) cx2)).setCell ⟨w.heap.size + 1 + 1 + 1 + 1 + 1 + 1, 0, none⟩ (.slice ay (pre.length + 1) cy2)) (by go_simp) (fun h => absurd (by simp) h) ?_
        simp only [Act.put, List.setIfInBounds_toArray, List.set_cons_succ, List.set_cons_zero]
        exact doneV (by kernel_rfl) ⟨_, _, _, _, rfl, _, hM56, rfl⟩ _
    case rest =>
      rintro a' w' ⟨vx', vy', z1, z2, rfl, v, hv, hw'⟩
      have c5 := hcx hv.out.kept
      have c6 := hcy hv.out.kept
      obtain ⟨ax, ca, rfl⟩ := owns_slice hv.out.rowx
      obtain ⟨ay, cb, rfl⟩ := owns_slice hv.out.rowy
      have hk2 := hid (show Kept [w.heap.size + 5, w.heap.size + 6] v w' from hw' ▸ ((Kept.refl _ v).setCell (p := ⟨w.heap.size + 5, 0, none⟩) (fun _ => by simp) _).setCell (p := ⟨w.heap.size + 6, 0, none⟩) (fun _ => by simp) _)
      have hc5 := hid (show w'.heap[w.heap.size + 5]? = some (.cells #[.slice ax (pre.length + 1) ca] 44 (0, 0)) from hw' ▸ heap_setCell_other (one_setCell c5) (by simp))
      have hc6 := hid (show w'.heap[w.heap.size + 6]? = some (.cells #[.slice ay (pre.length + 1) cb] 45 (0, 0)) from hw' ▸ one_setCell (heap_setCell_other c6 (by simp)))
      have HV := hid hv.out
      have hkv := hid hv.out.kept
      have hR' : NR w' w.heap.size w1.heap.size most (.slice ax (pre.length + 1) ca) (.slice ay (pre.length + 1) cb) (pre ++ [x]) := by
        have e5 : ∀ k, w.heap.size ≤ k → k ≤ w.heap.size + 2 → k ∉ vx.ownBlock.toList ++ vy.ownBlock.toList := fun k h1 h2 hm => by
          simp at hm
          rcases hm with e | e
          · rcases HR.out.ownx _ e with e | e <;> omega
          · rcases HR.out.owny _ e with e | e <;> omega
        have hrx := hk2.out.owns HV.out.rowx (fun g hg hm => by
          rcases HV.out.newx g hg with e | e
          · rcases HR.out.ownx _ e with e | e <;> (simp at hm; omega)
          · simp at hm; omega)
        have hry := hk2.out.owns HV.out.rowy (fun g hg hm => by
          rcases HV.out.newy g hg with e | e
          · rcases HR.out.owny _ e with e | e <;> (simp at hm; omega)
          · simp at hm; omega)
        refine ⟨hk2.out.at (hkv.out.at HR.out.most_ (e5 _ (by omega) (by omega))) (by simp), hk2.out.at (hkv.out.at HR.out.resx (e5 _ (by omega) (by omega))) (by simp), hk2.out.at (hkv.out.at HR.out.resy (e5 _ (by omega) (by omega))) (by simp), hc5.out, hc6.out,
          by rw [List.length_append]; exact hrx, by rw [List.length_append]; exact hry, fun g hg => ?_, fun g hg => ?_⟩
        · rcases HV.out.newx g hg with e | e
          · exact HR.out.ownx _ e
          · right; omega
        · rcases HV.out.newy g hg with e | e
          · exact HR.out.owny _ e
          · right; omega
      have HR' := hid hR'
      have hkeep := hid (show Keep (fun k => ONeed b3 b4 la oa k ∨ k = w1.heap.size ∨ k = w1.heap.size + 1) W w' from
        (hkv.out.keep (fun k _ hk hm => by
          simp at hm
          have hb : k ≤ w1.heap.size + 1 ∧ k ≠ w.heap.size + 3 ∧ k ≠ w.heap.size + 4 := by
            rcases hk with hk | hk
            · have := hneed.out k hk; omega
            · omega
          rcases hm with e | e
          · rcases HR.out.ownx _ e with e | e <;> omega
          · rcases HR.out.owny _ e with e | e <;> omega)).trans (hk2.out.keep (fun k _ hk => by
          rcases hk with hk | hk
          · have := hneed.out k hk; simp; omega
          · simp; omega)))
      have Hk2 := hid (show Kept [] w w' from (Hk0.out.trans' hkv.out (fun k hl hm => by
        simp at hm
        rcases hm with e | e
        · rcases HR.out.ownx _ e with e | e <;> omega
        · rcases HR.out.owny _ e with e | e <;> omega)).trans' hk2.out (fun k hl hm => by simp at hm; omega))
      have cx' : w'.cell? ⟨w.heap.size + 1 + 1 + 1 + 1 + 1, 0, none⟩ = some (.slice ax (pre.length + 1) ca) := cell_of_one hc5.out
      have cm' : w'.cell? ⟨w.heap.size, 0, none⟩ = some (.int .i64 (most : Int)) := cell_of_one HR'.out.most_
      have hne : ((pre.length : Int) + 1 == (most : Int)) = false := by simp; omega
      have hplen := hid hlen
      clear hv hw' hR' c5 c6
      gi_wp2
      exact ⟨hkeep.out, by simp; omega, Hk2.out, _, _, HR'.out⟩
  case done =>
    rintro ps W rfl ⟨hlt, hk0, vx, vy, hR⟩ _ hK
    obtain ⟨ax, ca, rfl⟩ := owns_slice hR.rowx
    obtain ⟨ay, cb, rfl⟩ := owns_slice hR.rowy
    have cx := cell_of_one hR.cx
    have cy := cell_of_one hR.cy
    have r1 : W.cell? ⟨w.heap.size + 1, 0, none⟩ = some (.slice none 0 0) := cell_of_one hR.resx
    have q1 : W.frozen? ⟨w.heap.size + 1, 0, none⟩ = false := free_of_one hR.resx
    have r2 : W.cell? ⟨w.heap.size + 1 + 1, 0, none⟩ = some (.slice none 0 0) := cell_of_one hR.resy
    have q2 : W.frozen? ⟨w.heap.size + 1 + 1, 0, none⟩ = false := free_of_one hR.resy
    have HR := hid hR; have Hk0 := hid hk0
    clear hR hk0
    gi_wp2
    refine wpIn_region_V (fun v => v.cell? ⟨w.heap.size + 1 + 1 + 1 + 1 + 1, 0, none⟩ = some (.slice ax ps.length ca) ∧ v.cell? ⟨w.heap.size + 1 + 1 + 1 + 1 + 1 + 1, 0, none⟩ = some (.slice ay ps.length cb)) []
      (fun a' w' => a'.defers = [{ target := Target.collected w1.heap.size, args := #[] }] ∧ a'.tmps[4]?.getD undef = .pointer (some ⟨w.heap.size + 1, 0, none⟩) ∧ a'.tmps[5]?.getD undef = .pointer (some ⟨w.heap.size + 1 + 1, 0, none⟩) ∧ w' = (W.drew.setCell ⟨w.heap.size + 1, 0, none⟩ (.slice ax ps.length ca)).setCell ⟨w.heap.size + 1 + 1, 0, none⟩ (.slice ay ps.length cb)) (by kernel_rfl) ?plain2 ?rest2 ?region2
    case plain2 =>
      intro o ho
      simp only [List.mem_cons, List.not_mem_nil, or_false] at ho
      rcases ho with rfl | rfl | rfl | rfl <;> exact ⟨fun ρ => Oper.semAt_plain _ _ _ (by intro c hc; cases hc), fun w ρ => by simp [Oper.about, resolve, Target.leads, Sem.run_pure]⟩
    case region2 =>
      refine takeV 0 (.slice ax ps.length ca) rfl (by kernel_rfl) (by kernel_rfl) (by kernel_rfl) (by kernel_rfl) (by kernel_rfl) (by decide) (by rfl) (fun v hv => by have h := hv.1; go_simp) ⟨cx, cy⟩ ?_
      simp only [Act.put, List.setIfInBounds_toArray, List.set_cons_succ, List.set_cons_zero]
      refine takeV 1 (.slice ay ps.length cb) rfl (by kernel_rfl) (by kernel_rfl) (by kernel_rfl) (by kernel_rfl) (by kernel_rfl) (by decide) (by rfl) (fun v hv => by have h := hv.2; go_simp) ⟨cx, cy⟩ ?_
      simp only [Act.put, List.setIfInBounds_toArray, List.set_cons_succ, List.set_cons_zero]
      have r1' : W.drew.cell? ⟨w.heap.size + 1, 0, none⟩ = some (.slice none 0 0) := r1
      have q1' : W.drew.frozen? ⟨w.heap.size + 1, 0, none⟩ = false := q1
      have k1 := (Kept.refl [w.heap.size + 1] W.drew).setCell (p := ⟨w.heap.size + 1, 0, none⟩) (fun _ => by simp) (.slice ax ps.length ca)
      refine writeV 2 rfl (by kernel_rfl) (by rfl) (W.drew.setCell ⟨w.heap.size + 1, 0, none⟩ (.slice ax ps.length ca)) (by go_simp) (fun _ => ⟨cell_of_one (k1.at (show W.drew.heap[w.heap.size + 1 + 1 + 1 + 1 + 1]? = _ from HR.out.cx) (by simp; omega)), cell_of_one (k1.at (show W.drew.heap[w.heap.size + 1 + 1 + 1 + 1 + 1 + 1]? = _ from HR.out.cy) (by simp; omega))⟩) ?_
      simp only [Act.put, List.setIfInBounds_toArray, List.set_cons_succ, List.set_cons_zero]
      have hb2 := k1.at (show W.drew.heap[w.heap.size + 1 + 1]? = _ from HR.out.resy) (by simp)
      have r2' := cell_of_one hb2
      have q2' := free_of_one hb2
      have k2 := ((Kept.refl [w.heap.size + 1, w.heap.size + 1 + 1] W.drew).setCell (p := ⟨w.heap.size + 1, 0, none⟩) (fun _ => by simp) (.slice ax ps.length ca)).setCell (p := ⟨w.heap.size + 1 + 1, 0, none⟩) (fun _ => by simp) (.slice ay ps.length cb)
      refine writeV 3 rfl (by kernel_rfl) (by rfl) ((W.drew.setCell ⟨w.heap.size + 1, 0, none⟩ (.slice ax ps.length ca)).setCell ⟨w.heap.size + 1 + 1, 0, none⟩ (.slice ay ps.length cb)) (by go_simp) (fun _ => ⟨cell_of_one (k2.at (show W.drew.heap[w.heap.size + 1 + 1 + 1 + 1 + 1]? = _ from HR.out.cx) (by simp; omega)), cell_of_one (k2.at (show W.drew.heap[w.heap.size + 1 + 1 + 1 + 1 + 1 + 1]? = _ from HR.out.cy) (by simp; omega))⟩) ?_
      simp only [Act.put, List.setIfInBounds_toArray, List.set_cons_succ, List.set_cons_zero]
      exact doneV (by kernel_rfl) ⟨rfl, rfl, rfl, rfl⟩ _
    case rest2 =>
      rintro a' w' ⟨hd', ht4, ht5, hw'⟩
      have hk4 : Kept [w.heap.size + 1, w.heap.size + 2] W w' := hw' ▸ (((Kept.refl _ W).drew).setCell (p := ⟨w.heap.size + 1, 0, none⟩) (fun _ => by simp) _).setCell (p := ⟨w.heap.size + 2, 0, none⟩) (fun _ => by simp) _
      have e1 : w'.heap[w.heap.size + 1]? = some (.cells #[.slice ax ps.length ca] 44 (0, 0)) := hw' ▸ heap_setCell_other (one_setCell (show W.drew.heap[w.heap.size + 1]? = _ from HR.out.resx)) (by simp)
      have e2 : w'.heap[w.heap.size + 2]? = some (.cells #[.slice ay ps.length cb] 45 (0, 0)) := hw' ▸ one_setCell (heap_setCell_other (show W.drew.heap[w.heap.size + 1 + 1]? = _ from HR.out.resy) (by simp))
      have hK2 := hk4.at hK (by simp; omega)
      obtain ⟨tm, df⟩ := a'
      dsimp only at hd' ht4 ht5
      subst hd'
      clear hw'
      gi_wp2
      refine ⟨by simp, .inl ⟨_, _, rfl, run_takeDeferred hK2, ?_⟩⟩
      have hkd := kept_putObj w' w1.heap.size (.deferred none)
      have e3 := cell_of_one (hkd.at e1 (by simp; omega))
      have e4 : (w'.putObj w1.heap.size (.deferred none)).cell? ⟨w.heap.size + 1 + 1, 0, none⟩ = some (.slice ay ps.length cb) := cell_of_one (hkd.at e2 (by simp; omega))
      have hno : ∀ k, (k = w.heap.size + 1 ∨ k = w.heap.size + 2 ∨ k = w1.heap.size) → k ∉ (Value.slice ax ps.length ca).ownBlock.toList ∧ k ∉ (Value.slice ay ps.length cb).ownBlock.toList := fun k hk => ⟨fun hm => by
        simp at hm
        rcases HR.out.ownx _ hm with e | e <;> omega, fun hm => by
        simp at hm
        rcases HR.out.owny _ hm with e | e <;> omega⟩
      refine ⟨.tuple #[.slice ax ps.length ca, .slice ay ps.length cb], ?_, _, _, rfl, (Hk0.out.trans' hk4 (fun x hx hm => by simp at hm; omega)).trans' hkd (fun x hx hm => by simp at hm; omega), hkd.owns (hk4.owns HR.out.rowx (fun g hg hm => ?_)) (fun g hg hm => ?_), hkd.owns (hk4.owns HR.out.rowy (fun g hg hm => ?_)) (fun g hg hm => ?_)⟩
      · simp [results, Try.f14, go_sem, ht4, ht5, e3, e4]
      · exact (hno g (by simp at hm; omega)).1 (by simp [hg])
      · exact (hno g (by simp at hm; omega)).1 (by simp [hg])
      · exact (hno g (by simp at hm; omega)).2 (by simp [hg])
      · exact (hno g (by simp at hm; omega)).2 (by simp [hg])
end Go.Proofs.Ytmholofhmpplcaa
