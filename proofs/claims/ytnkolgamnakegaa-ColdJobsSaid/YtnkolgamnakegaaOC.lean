
/- object: what All's iterator yields. -/
import Derived.Test.YtnkolgamnakegaaOB
import Derived.Test.YtnkolgamnakegaaA9
import Derived.Test.YtnkolgamnakegaaWT
import Derived.Test.YtnkolgamnakegaaWK
namespace Go.Proofs.Ytnkolgamnakegaa
open Go.RowKit Go.Lib Go.Maps
attribute [local go_sem] Oper.semAt_some

abbrev evals (x : Ent) : Array Value := #[.string (S x.name), szV x]
theorem keep_owns {B : Nat → Prop} {a w : World} (h : Keep B a w) {base : Nat} {e : TypeId} {size : Nat} {v : Value} {n : Nat} {xs : List Value} (ho : a.ownsRow base e size v n xs) (hv : ∀ g, v.ownBlock = some g → B g) : w.ownsRow base e size v n xs := by
  obtain ⟨h1, h2⟩ := ho
  refine ⟨h1, ?_⟩
  rcases h2 with h2 | ⟨g, cap, cur, rfl, hg, hh, r⟩
  · exact Or.inl h2
  · exact Or.inr ⟨g, cap, cur, rfl, hg, h.at hh (hv g rfl), r⟩
/-- What the iterator leans on. -/
def ONeed (b1 b2 : Nat) (la oa : Option Addr) (k : Nat) : Prop := k = b1 ∨ k = b2 ∨ (∃ x, la = some x ∧ k = x.block) ∨ ∃ x, oa = some x ∧ k = x.block
theorem OAll.keep {W W' : World} {b1 b2 : Nat} {la : Option Addr} {lc : Nat} {oa : Option Addr} {oc : Nat} {es : List Ent} (h : OAll W b1 b2 la lc oa oc es) (hk : Keep (ONeed b1 b2 la oa) W W') : OAll W' b1 b2 la lc oa oc es := by
  refine ⟨hk.at h.one (by simp [ONeed]), hk.at h.two (by simp [ONeed]), keep_owns hk h.list (fun g hg => ?_), keep_owns hk h.ints (fun g hg => ?_)⟩
  · cases la with
    | none => simp [Value.ownBlock] at hg
    | some x => simp [Value.ownBlock] at hg; exact Or.inr (Or.inr (Or.inl ⟨x, rfl, hg.symm⟩))
  · cases oa with
    | none => simp [Value.ownBlock] at hg
    | some x => simp [Value.ownBlock] at hg; exact Or.inr (Or.inr (Or.inr ⟨x, rfl, hg.symm⟩))
theorem OAll.kept {W W' : World} {b1 b2 : Nat} {la : Option Addr} {lc : Nat} {oa : Option Addr} {oc : Nat} {es : List Ent} (h : OAll W b1 b2 la lc oa oc es) (hk : Kept [] W W') : OAll W' b1 b2 la lc oa oc es := h.keep (hk.keep (fun _ _ _ => by simp))
theorem OAll.lt {W : World} {b1 b2 : Nat} {la : Option Addr} {lc : Nat} {oa : Option Addr} {oc : Nat} {es : List Ent} (h : OAll W b1 b2 la lc oa oc es) : ∀ k, ONeed b1 b2 la oa k → k < W.heap.size := by
  rintro k (rfl | rfl | ⟨x, rfl, rfl⟩ | ⟨x, rfl, rfl⟩)
  · exact lt_of_block h.one
  · exact lt_of_block h.two
  · exact (h.list.lt x.block rfl).2
  · exact (h.ints.lt x.block rfl).2
theorem owns_cell {w : World} {base g n c i : Nat} {e : TypeId} {xs : List Value} {v : Value} (h : w.ownsRow base e 1 (.slice (some ⟨g, 0, none⟩) n c) n xs) (hi : xs[i]? = some v) : w.cell? ⟨g, i, none⟩ = some v := by
  have hc := h.cells (g := g) rfl i v hi
  rw [add_plain] at hc
  exact hc

set_option maxHeartbeats 1000000 in
theorem oall_in (n : Nat) (hn : 1 ≤ n) (l b1 b2 : Nat) (la : Option Addr) (lc : Nat) (oa : Option Addr) (oc : Nat) (es : List Ent) (W : World) (h : OAll W b1 b2 la lc oa oc es) (hm : es.length ≤ 4096) (J Jx : List Ent → World → Prop)
    (hY : ∀ pre x A, J pre A → (pre ++ [x]) <+: es → YieldAt Fence.wide (n - 1) Try.prog l (evals x) A fun e B =>
      (e = .returned (.bool true) ∧ J (pre ++ [x]) B ∧ Keep (ONeed b1 b2 la oa) A B) ∨ (e = .returned (.bool false) ∧ Jx (pre ++ [x]) B)) (h0 : J [] W) :
    CallsIn Fence.wide n Try.prog 72 #[.func (.yield l) #[] #[], .pointer (some ⟨b1, 0, none⟩), .pointer (some ⟨b2, 0, none⟩)] W fun e B => (∃ v, e = .returned v) ∧ ((∃ xs, xs = es ∧ J xs B ∧ True) ∨ (∃ pre, pre <+: es ∧ Jx pre B)) := by
  have g1 : W.cell? ⟨b1, 0, none⟩ = some (.slice la es.length lc) := cell_of_one h.one
  have HY := hid hY
  have hst0 := hid (show J (es.take 0) W ∧ OAll W b1 b2 la lc oa oc es from ⟨by simpa using h0, h⟩)
  obtain ⟨ne, hne⟩ : ∃ ne, ne = es.length := ⟨_, rfl⟩
  have HNE := hid hne
  rw [← hne] at g1 hm
  clear h hY h0 hne
  refine callsIn_of_wp Try.func72 rfl trivial ?_ rfl
  simp only [Try.ntmps72, List.size_toArray, List.length_cons, List.length_nil, Nat.reduceAdd, Nat.reduceSub, Array.replicate_succ, Array.replicate_zero, List.push_toArray, List.append_toArray, List.nil_append, List.cons_append]
  gi_wp2
  gi_loopw [8] (fun s wr => ∃ i : Nat, i ≤ ne ∧ s = .int .i64 i ∧ Hid (J (es.take i) wr ∧ OAll wr b1 b2 la lc oa oc es)) (fun s _ => ne - (intOf s).toNat)
  case atStart => exact ⟨0, Nat.zero_le _, rfl, hst0⟩
  case round =>
    clear hst0 g1
    obtain ⟨i, hi, rfl, hst⟩ := hrel
    have HJ := hid hst.out.1; have HA := hid hst.out.2
    clear hst
    by_cases hlt : i < ne
    · have hlt' : i < es.length := by have := HNE.out; omega
      obtain ⟨en, hen⟩ : ∃ en, es[i]? = some en := ⟨es[i], by simp⟩
      have htk := hid (show es.take (i + 1) = es.take i ++ [en] from by rw [List.take_add_one, hen]; rfl)
      obtain ⟨g, rfl⟩ : ∃ g, la = some ⟨g, 0, none⟩ := by
        rcases HA.out.list.2 with ⟨h1, h2⟩ | ⟨g, cap, cur, h1, _⟩
        · exfalso; omega
        · simp at h1; exact ⟨g, h1.1⟩
      obtain ⟨g', rfl⟩ : ∃ g, oa = some ⟨g, 0, none⟩ := by
        rcases HA.out.ints.2 with ⟨h1, h2⟩ | ⟨g, cap, cur, h1, _⟩
        · exfalso; omega
        · simp at h1; exact ⟨g, h1.1⟩
      have c1 : wr.cell? ⟨g, i, none⟩ = some (.string (S en.name)) := owns_cell HA.out.list (by simp [hen])
      obtain ⟨sz, hsz⟩ : ∃ sz, sz = szV en := ⟨_, rfl⟩
      have c2 : wr.cell? ⟨g', i, none⟩ = some sz := owns_cell HA.out.ints (by simp [hen, hsz])
      have c3 : wr.cell? ⟨b2, 0, none⟩ = some (.slice (some ⟨g', 0, none⟩) ne oc) := by rw [HNE.out]; exact cell_of_one HA.out.two
      have hpre : (es.take i ++ [en]) <+: es := by rw [← htk.out]; exact List.take_prefix _ _
      obtain ⟨fn, tmps, assign, body, hy, hR⟩ := HY.out (es.take i) en wr HJ.out hpre
      dsimp only [evals] at hy
      rw [← hsz] at hy
      have HP := hid hpre
      have HLT := hid hlt
      clear hpre hen hlt' hsz
      gi_wp2
      refine hR.mono ?_
      rintro e W' (⟨rfl, hJ', hk⟩ | ⟨rfl, hJx'⟩)
      · have hkk := hid hk
        have hJJ := hid hJ'
        clear hk hJ' hy hR
        gi_wp2
        go_roundw
        case rel => exact ⟨i + 1, HLT.out, by go_num, hid ⟨by rw [htk.out]; exact hJJ.out, HA.out.keep hkk.out⟩⟩
        case measure => simp [intOf]; omega
      · have hJJ := hid hJx'
        clear hJx' hy hR
        gi_wp2
        refine bodyPost_ret (results_none rfl _ _ _) rfl ?_
        exact ⟨⟨_, rfl⟩, .inr ⟨_, HP.out, hJJ.out⟩⟩
    · obtain rfl : i = ne := by omega
      have hfin := hid (show J es wr from by have := HJ.out; rw [HNE.out, List.take_length] at this; exact this)
      clear hlt
      gi_wp2
      go_end0
      exact ⟨⟨_, rfl⟩, .inl ⟨es, rfl, hfin.out, trivial⟩⟩
theorem oall_seq (n : Nat) (hn : 1 ≤ n) (b1 b2 : Nat) (la : Option Addr) (lc : Nat) (oa : Option Addr) (oc : Nat) (es : List Ent) (w : World) (h : OAll w b1 b2 la lc oa oc es) (hm : es.length ≤ 4096) :
    SeqR Fence.wide n Try.prog 72 #[.pointer (some ⟨b1, 0, none⟩), .pointer (some ⟨b2, 0, none⟩)] evals b1 (ONeed b1 b2 la oa) (fun xs => xs = es) (fun pre => pre <+: es) (fun _ => True) w :=
  fun l J Jx W hW _ _ hY h0 => oall_in n hn l b1 b2 la lc oa oc es W (h.kept (Kept.of_below (S := []) hW)) hm J Jx hY h0
end Go.Proofs.Ytnkolgamnakegaa
