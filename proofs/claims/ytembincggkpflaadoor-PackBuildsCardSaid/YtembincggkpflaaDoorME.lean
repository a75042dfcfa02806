import Derived.Test.YtembincggkpflaaDoorMB
import Derived.Test.YtembincggkpflaaDoorWA
import Derived.Test.YtembincggkpflaaDoorHW
import Derived.Test.YtembincggkpflaaDoorW1
import Derived.OrdersIn
import Derived.Test.YtembincggkpflaaDoorMJ
import Derived.Test.YtembincggkpflaaDoorMS
import Derived.Test.YtembincggkpflaaDoorMC
import Derived.Deep.QuietTactic
import Derived.Test.YtembincggkpflaaDoorRows
import Derived.ProofKit
import Derived.OpenShut
import Derived.Deep.Slices

/- pack.Read. -/
namespace Go.Proofs.YtembincggkpflaaDoor
open Go.RowKit Go.Lib Go.Maps

/-- What is told of bytes that are no pack's, ahead of what the head tells. -/
def rdErr (xs : List UInt8) : Int := if shErr xs = 0 then unsealErr 80 (shOf xs) else 20
/-- What Read does with bytes whose head is that of es. -/
def ReadGood (w : World) (xs : List UInt8) (es : List En) (e : Ending) (w' : World) : Prop :=
  Kept [] w w' ∧ ((sizeP es = xs.length ∧ ∃ a c, e = .returned (.tuple #[.slice a es.length c, .int .i64 0]) ∧ w'.ownsRow w.heap.size 38 34 (.slice a es.length c) es.length (es.flatMap c34)) ∨ (sizeP es ≠ xs.length ∧ e = .returned (.tuple #[.slice none 0 0, .int .i64 21])))
theorem owns_raise {w : World} {base b : Nat} {e : TypeId} {size : Nat} {v : Value} {n : Nat} {xs : List Value} (h : w.ownsRow base e size v n xs) (hb : ∀ g, v.ownBlock = some g → b ≤ g) : w.ownsRow b e size v n xs := by
  obtain ⟨h1, h2⟩ := h
  refine ⟨h1, ?_⟩
  rcases h2 with h2 | ⟨g, cap, cur, rfl, hg, r⟩
  · exact Or.inl h2
  · exact Or.inr ⟨g, cap, cur, rfl, hb g rfl, r⟩
theorem shOf_le (xs : List UInt8) : (shOf xs).length ≤ xs.length := by unfold shOf; rw [List.length_take, List.length_drop]; omega
def zHd : List Value := [.slice none 0 0, .map none, .int .i64 0]

set_option maxRecDepth 100000 in
set_option maxHeartbeats 4000000 in
theorem p_read_bad (a : Option Addr) (c : Nat) (xs : List UInt8) (w : World) (ht : Tab w) (hsrc : SrcB w (.slice a xs.length c) xs) (hc : xs.length ≤ c) (hn : a = none → c = 0) (hl : xs.length ≤ 100000000) (hbad : rdErr xs ≠ 0) :
    Calls Tryd.prog 16 #[.slice a xs.length c] w fun e w' => e = .returned (.tuple #[.slice none 0 0, .int .i64 (rdErr xs)]) ∧ Kept [] w w' := by
  have hsh := hid (sh_any a c xs w hsrc hc hn hl)
  have Hsrc := hid hsrc; have Ht := hid ht; have Hl := hid hl; have Hb := hid hbad
  obtain ⟨n, hnx⟩ : ∃ n, n = xs.length := ⟨_, rfl⟩
  rw [← hnx] at hsh ⊢
  clear hsrc ht hc hn hl hbad hnx
  go_enter Tryd.func16, Tryd.ntmps16
  go_wp2_with fail
  refine hsh.out.mono ?_
  rintro e w1 ⟨k1, (⟨hs, rfl⟩ | ⟨hs, sa, sc, rfl, hsr⟩)⟩
  · have K1 := hid k1
    have he := hid (show rdErr xs = 20 by unfold rdErr; rw [if_neg hs])
    clear k1 hs hsh
    go_wp2
    go_ret2
    exact ⟨by rw [he.out]; rfl, K1.out⟩
  · have he := hid (show rdErr xs = unsealErr 80 (shOf xs) by unfold rdErr; rw [if_pos hs])
    have hs1 := hid (hsr w1 (Hsrc.out.kept k1 (by simp)))
    have hun := hid (unseal_any 80 _ (shOf xs) w1 hs1.out (Ht.out.kept k1 (by simp)) (by have := shOf_le xs; have := Hl.out; omega))
    have K1 := hid k1
    obtain ⟨er, her⟩ : ∃ er, er = unsealErr 80 (shOf xs) := ⟨_, rfl⟩
    have hne : (er == 0) = false := by have := Hb.out; rw [he.out, ← her] at this; simpa using this
    have Hne := hid (show unsealErr 80 (shOf xs) ≠ 0 from he.out ▸ Hb.out)
    generalize (shOf xs).length = m at *
    have HER := hid her
    clear k1 hs hsr hsh hs1 her
    go_wp2_with fail
    refine hun.out.mono ?_
    rintro e w2 ⟨a2, c2, rfl, k2, -, -⟩
    rw [← HER.out]
    have K2 := hid (K1.out.trans k2)
    generalize (unsealed 80 (shOf xs)).length = u at *
    clear k2 hun
    go_wp2
    go_ret2
    exact ⟨by rw [he.out, ← HER.out]; rfl, K2.out⟩

set_option maxRecDepth 100000 in
set_option maxHeartbeats 4000000 in
theorem p_read_good (a : Option Addr) (c : Nat) (xs : List UInt8) (w : World) (ht : Tab w) (hsrc : SrcB w (.slice a xs.length c) xs) (hc : xs.length ≤ c) (hn : a = none → c = 0) (hl : xs.length ≤ 100000000) (es : List En) (h0 : shErr xs = 0) (h1 : shOf xs = sealed 80 (headB es)) (hgd : Gd es) (hm : es.length ≤ 4096) :
    Calls Tryd.prog 16 #[.slice a xs.length c] w (ReadGood w xs es) := by
  have hsh := hid (sh_any a c xs w hsrc hc hn hl)
  have hids : ∀ e ∈ es, e.id.length = 32 := fun e he => by obtain ⟨i, hi⟩ := List.getElem?_of_mem he; exact (hgd i e hi).2.2.1
  have hhl := headB_len es hids
  have hsl := sealed_len 80 (headB es)
  have Hsrc := hid hsrc; have Ht := hid ht; have H0 := hid h0; have Hgd := hid hgd; have Hm := hid hm; have H1 := hid h1
  have Hhl := hid (show (headB es).length ≤ 200000 by omega); have Hsl := hid (show (sealed 80 (headB es)).length ≤ 200100 by omega)
  unfold ReadGood
  obtain ⟨n, hnx⟩ : ∃ n, n = xs.length := ⟨_, rfl⟩
  have HN := hid hnx
  rw [← hnx] at hsh hl ⊢
  clear hsrc ht hc hn h0 hgd hm hhl hids h1 hsl hnx
  go_enter Tryd.func16, Tryd.ntmps16
  go_wp2_with fail
  refine hsh.out.mono ?_
  rintro e w1 ⟨k1, (⟨hs, -⟩ | ⟨-, sa, sc, rfl, hsr⟩)⟩
  · exact absurd H0.out hs
  have hs1 := hid (hsr w1 (Hsrc.out.kept k1 (by simp)))
  have K1 := hid k1
  rw [H1.out] at hs1
  have hun := hid (unseal_any 80 _ (sealed 80 (headB es)) w1 hs1.out (Ht.out.kept k1 (by simp)) (by have := Hsl.out; omega))
  obtain ⟨hu1, hu2⟩ := unseal_own 80 (headB es)
  have hun2 := hid hun.out
  unfold Unsealed at hun2
  rw [hu1, hu2] at hun2
  rw [H1.out]
  generalize (sealed 80 (headB es)).length = m at *
  clear k1 hsr hsh hs1 hu1 hu2 hun
  go_wp2_with fail
  refine hun2.out.mono ?_
  rintro e w2 ⟨a2, c2, rfl, k2, b2, -⟩
  have K2 := hid (K1.out.trans k2)
  have hrh := hid (rh_any _ es w2 b2.1 Hgd.out Hm.out)
  generalize (headB es).length = hl2 at *
  clear k2 hun2 b2
  go_wp2_with fail
  refine hrh.out.mono ?_
  rintro e w3 ⟨lv, mv, rfl, k3, hv⟩
  obtain ⟨la, lc, rfl⟩ := owns_slice hv.list
  obtain ⟨mb, rfl⟩ : ∃ mb, mv = .map mb := by rcases hv.set with ⟨h, _⟩ | ⟨b, _, _, h, _⟩ <;> exact ⟨_, h⟩
  have K3 := hid (K2.out.trans k3)
  have hz : ∀ w, (zeroValue 28).run Tryd.prog w = .ok (.agg zHd.toArray) w := fun w => by kernel_rfl
  have HV := hid hv
  obtain ⟨cs, hcs⟩ : ∃ cs, cs = [Value.slice la es.length lc, .map mb, .int .i64 (ends es : Int)] := ⟨_, rfl⟩
  have hca : #[Value.slice la es.length lc, .map mb, .int .i64 (ends es : Int)] = cs.toArray := by rw [hcs]
  rw [hca]
  have hci := hid (show (Tryd.prog.info? 28).map (·.size) = some cs.length by rw [hcs]; kernel_rfl)
  have hcf := hid (show 0 + cs.length ≤ zHd.length by rw [hcs]; simp [zHd])
  have hco := hid (show ∀ v ∈ cs, v.oneCell' = true by rw [hcs]; intro v hv; simp at hv; rcases hv with rfl | rfl | rfl <;> rfl)
  have hcp := hid (splice36 zHd cs (by rw [hcs]; rfl))
  have hce := hid hcs
  clear hcs hca k3 hv hrh
  go_wp2_with (first | (refine wpList_store_at rfl 28 (.tmp 7) (.tmp 28) rfl w3.heap.size 0 cs rfl rfl 28 zHd (heap_alloc_at rfl) hci.out hcf.out hco.out ?_; refine halt ?_))
  rw [hcp.out]
  refine Halt.mk ?_
  obtain ⟨wb, hwb⟩ : ∃ wb : World, wb = (w3.alloc (.cells zHd.toArray 28)).setRow w3.heap.size cs.toArray := ⟨_, rfl⟩
  rw [← hwb]
  have hkb := hid (show Kept [] w3 wb by rw [hwb]; exact ((Kept.refl [] w3).alloc _).setRow (fun h => absurd h (Nat.lt_irrefl _)) _)
  have hrb := hid (show wb.heap[w3.heap.size]? = some (.cells cs.toArray 28 (0, 0)) by rw [hwb]; exact setRow_heap _ _ _ _ _ _ (heap_alloc_at rfl))
  have hhd := hid (HV.out.at hkb.out (Nat.le_refl _) (by rw [← hce.out]; exact hrb.out))
  have hsz := hid (h_size _ w3.heap.size 28 [] es _ _ wb hhd.out)
  have g0 := hid (fun v (hv : Kept [] wb v) => (hhd.out.kept hv (by simp)).c0)
  have KB := hid (K3.out.trans hkb.out)
  have hown := hid (show ∀ v, Kept [] wb v → v.ownsRow w.heap.size 38 34 (.slice la es.length lc) es.length (es.flatMap c34) from fun v hv => owns_raise (hv.owns (hkb.out.owns HV.out.list (by simp)) (by simp)) (fun g hg => by have := (HV.out.hl g hg).1; have := K2.out.size; omega))
  obtain ⟨sz, hsz'⟩ : ∃ sz, sz = sizeP es := ⟨_, rfl⟩
  have HSZ := hid hsz'
  rw [← hsz'] at hsz
  have HOW := hid (show es.length = es.length from rfl)
  clear hwb hsz' HV hce
  go_wp2_with fail
  refine hsz.out.mono ?_
  rintro e w4 ⟨rfl, k4⟩
  have g4 := g0.out w4 k4
  have ho4 := hid (hown.out w4 k4)
  have K4 := hid (KB.out.trans k4)
  clear hsz k4
  by_cases hsn : sz = n
  · have hb : ((sz : Int) != (n : Int)) = false := by rw [hsn]; simp
    have HSN := hid hsn
    clear hsn
    go_wp2
    go_ret2
    exact ⟨K4.out, Or.inl ⟨HSZ.out ▸ HSN.out, la, lc, rfl, ho4.out⟩⟩
  · have hb : ((sz : Int) != (n : Int)) = true := by simp; omega
    have HSN := hid hsn
    clear hsn
    go_wp2
    go_ret2
    exact ⟨K4.out, Or.inr ⟨HSZ.out ▸ HSN.out, rfl⟩⟩
end Go.Proofs.YtembincggkpflaaDoor


/- pack.All; what its iterator yields. -/
namespace Go.Proofs.YtembincggkpflaaDoor
open Go.RowKit Go.Lib Go.Maps
attribute [local go_sem] Oper.semAt_some

section
variable {F : Fence} {n : Nat} {P : Program}
theorem wpListIn_load_w {ops : Array Oper} {rest : List Oper} {o : Oper} {a : Act} {w : World} {Q : Exit → Act → World → Prop} (hw : Region.wanted o (yielded ops a.tmps) = true) (ty : TypeId) (x : Operand) (ho : o.op = .load ty x)
    (ad : Addr) (hx : a.eval x = .pointer (some ad)) (cs : List Value) (d : TypeDesc) (hu : P.underlying ty = some d) (hd : (match d with | .struct _ | .array _ _ => true | _ => false) = true)
    (hi : (P.info? ty).map (·.size) = some cs.length) (hc : ∀ (j : Nat) v, cs[j]? = some v → w.cell? (ad.add j) = some v)
    (h : wpListIn F n P ops Q rest (a.put o.dst (.agg cs.toArray)) w) : wpListIn F n P ops Q (o :: rest) a w := by
  unfold wpListIn
  rw [if_pos hw]
  unfold Oper.wpIn
  constructor
  · simp [Oper.about, ho, resolve, Target.leads, Sem.run_pure]
  · rw [Oper.semAt_plain F _ _ (by rw [ho]; intro c hc; cases hc)]
    unfold execOp
    simp only [ho, hx, Instr.loadAt, Instr.sureAddr, Sem.run_bind, Sem.run_pure, Result.andThen_ok, run_loadVar_cells w ty ad cs d hu hd hi hc]
    exact h
end
theorem Keep.owns {B : Nat → Prop} {a w : World} (h : Keep B a w) {base : Nat} {e : TypeId} {size : Nat} {v : Value} {n : Nat} {xs : List Value} (ho : a.ownsRow base e size v n xs) (hv : ∀ g, v.ownBlock = some g → B g) : w.ownsRow base e size v n xs := by
  obtain ⟨h1, h2⟩ := ho
  refine ⟨h1, ?_⟩
  rcases h2 with h2 | ⟨g, cap, cur, rfl, hg, hh, r⟩
  · exact Or.inl h2
  · exact Or.inr ⟨g, cap, cur, rfl, hg, h.at hh (hv g rfl), r⟩
theorem Keep.cell {B : Nat → Prop} {a w : World} (h : Keep B a w) {p : Addr} {v : Value} (hc : a.cell? p = some v) (hB : B p.block) : w.cell? p = some v := by
  have hlt := World.block_lt_of_cell? a _ hc
  unfold World.cell? at hc ⊢
  rw [h.block _ hB hlt]; exact hc

/-- A piece that All yields. -/
structure Pc where
  en : En
  a : Option Addr
  c : Nat
  ys : List UInt8
abbrev pcvals (x : Pc) : Array Value := #[.agg (c34 x.en).toArray, .slice x.a x.ys.length x.c]
def PcFt (p : Nat) (x : Pc) (w : World) : Prop := w.ownsRow (p + 1) 5 1 (.slice x.a x.ys.length x.c) x.ys.length (x.ys.map B) ∧ p < w.heap.size
def PcZ (xs : List UInt8) (es : List En) (ps : List Pc) : Prop := ps.map (·.en) = es ∧ ∀ x ∈ ps, x.ys = blobAt xs x.en.off x.en.len
def PcZp (xs : List UInt8) (es : List En) (ps : List Pc) : Prop := ps.map (·.en) <+: es ∧ ∀ x ∈ ps, x.ys = blobAt xs x.en.off x.en.len
/-- What the iterator leans on. -/
def ANeed (b3 b4 : Nat) (la oa : Option Addr) (k : Nat) : Prop :=
  k = b3 ∨ k = b4 ∨ k = 0 ∨ k = 2 ∨ (∃ x, la = some x ∧ k = x.block) ∨ ∃ x, oa = some x ∧ k = x.block
structure AllAt (W : World) (b3 b4 : Nat) (la : Option Addr) (lc : Nat) (oa : Option Addr) (oc : Nat) (es : List En) (xs : List UInt8) : Prop where
  one : W.heap[b4]? = some (.cells #[.slice la es.length lc] 25 (0, 0))
  two : W.heap[b3]? = some (.cells #[.slice oa xs.length oc] 29 (0, 0))
  list : W.ownsRow 0 38 34 (.slice la es.length lc) es.length (es.flatMap c34)
  own : W.ownsRow 0 5 1 (.slice oa xs.length oc) xs.length (xs.map B)
  tabs : Tabs W
theorem Tabs.keep {B : Nat → Prop} {w w' : World} (h : Tabs w) (hk : Keep B w w') (h0 : B 0) (h1 : B 2) : Tabs w' :=
  ⟨fun i hi => hk.cell (h.1 i hi) h0, fun i hi => hk.cell (h.2 i hi) h1⟩
theorem AllAt.keep {W W' : World} {b3 b4 : Nat} {la : Option Addr} {lc : Nat} {oa : Option Addr} {oc : Nat} {es : List En} {xs : List UInt8} (h : AllAt W b3 b4 la lc oa oc es xs) (hk : Keep (ANeed b3 b4 la oa) W W') : AllAt W' b3 b4 la lc oa oc es xs := by
  refine ⟨hk.at h.one (by simp [ANeed]), hk.at h.two (by simp [ANeed]), hk.owns h.list (fun g hg => ?_), hk.owns h.own (fun g hg => ?_), h.tabs.keep hk (by simp [ANeed]) (by simp [ANeed])⟩
  · cases la with
    | none => simp [Value.ownBlock] at hg
    | some x => simp [Value.ownBlock] at hg; exact Or.inr (Or.inr (Or.inr (Or.inr (Or.inl ⟨x, rfl, hg.symm⟩))))
  · cases oa with
    | none => simp [Value.ownBlock] at hg
    | some x => simp [Value.ownBlock] at hg; exact Or.inr (Or.inr (Or.inr (Or.inr (Or.inr ⟨x, rfl, hg.symm⟩))))
theorem AllAt.lt {W : World} {b3 b4 : Nat} {la : Option Addr} {lc : Nat} {oa : Option Addr} {oc : Nat} {es : List En} {xs : List UInt8} (h : AllAt W b3 b4 la lc oa oc es xs) : ∀ k, ANeed b3 b4 la oa k → k < W.heap.size := by
  rintro k (rfl | rfl | rfl | rfl | ⟨x, rfl, rfl⟩ | ⟨x, rfl, rfl⟩)
  · exact lt_of_block h.two
  · exact lt_of_block h.one
  · exact h.tabs.pos0
  · exact h.tabs.pos
  · exact ownsA_lt h.list rfl
  · exact ownsA_lt h.own rfl
theorem AllAt.kept {W W' : World} {b3 b4 : Nat} {la : Option Addr} {lc : Nat} {oa : Option Addr} {oc : Nat} {es : List En} {xs : List UInt8} (h : AllAt W b3 b4 la lc oa oc es xs) (hk : Kept [] W W') : AllAt W' b3 b4 la lc oa oc es xs := h.keep (hk.keep (fun _ _ _ => by simp))
theorem owns_caps {w : World} {base : Nat} {a : Option Addr} {c n : Nat} {xs : List Value} (h : w.ownsRow base 5 1 (.slice a n c) n xs) : n ≤ c ∧ c ≤ 9223372036854775807 ∧ (a = none → c = 0) ∧ xs.length = n := by
  have h0 := h.1
  rcases h.2 with ⟨h1, h2⟩ | ⟨g, cap, cur, h1, hb, hh, h3, h4, _⟩
  · simp at h1; obtain ⟨rfl, rfl, rfl⟩ := h1; exact ⟨by omega, by omega, fun _ => rfl, by omega⟩
  · simp at h1; obtain ⟨rfl, rfl⟩ := h1; exact ⟨h3, by unfold maxLen at h4; omega, fun h => by simp at h, by omega⟩

set_option maxRecDepth 100000 in
set_option maxHeartbeats 4000000 in
theorem pall_in (n : Nat) (hn : 1 ≤ n) (l b3 b4 : Nat) (la : Option Addr) (lc : Nat) (oa : Option Addr) (oc : Nat) (es : List En) (xs : List UInt8) (W : World) (h : AllAt W b3 b4 la lc oa oc es xs)
    (hgd : ∀ e ∈ es, e.id.length = 32 ∧ blobErr xs e.id e.off e.len = 0 ∧ e.off + e.len ≤ xs.length) (hl : xs.length ≤ 100000000) (hm : es.length ≤ 4096) (J Jx : List Pc → World → Prop) (hJ : ∀ s A B, J s A → Kept [] A B → J s B)
    (hY : ∀ pre x A, J pre A → PcFt W.heap.size x A → PcZp xs es (pre ++ [x]) → YieldAt Fence.wide (n - 1) Tryd.prog l (pcvals x) A fun e B =>
      (e = .returned (.bool true) ∧ J (pre ++ [x]) B ∧ Keep (fun k => ANeed b3 b4 la oa k ∨ k = W.heap.size) A B) ∨ (e = .returned (.bool false) ∧ Jx (pre ++ [x]) B)) (h0 : J [] W) :
    CallsIn Fence.wide n Tryd.prog 59 #[.func (.yield l) #[] #[], .pointer (some ⟨b4, 0, none⟩), .pointer (some ⟨b3, 0, none⟩)] W fun e B => (∃ v, e = .returned v) ∧ ((∃ ps, PcZ xs es ps ∧ J ps B) ∨ (∃ pre, PcZp xs es pre ∧ Jx pre B)) := by
  have g1 : W.cell? ⟨b4, 0, none⟩ = some (.slice la es.length lc) := cell_of_one h.one
  have H := hid h; have HJ := hid hJ; have HY := hid hY; have Hgd := hid hgd; have Hl := hid hl
  have H0 := hid h0
  have hzv := zero_en
  have hst0 := hid (show ∃ pre : List Pc, pre.map (·.en) = es.take 0 ∧ (∀ x ∈ pre, x.ys = blobAt xs x.en.off x.en.len) ∧ J pre W ∧ Kept [] W W ∧ AllAt W b3 b4 la lc oa oc es xs from ⟨[], by simp, by simp, h0, Kept.refl _ _, h⟩)
  obtain ⟨ne, hne⟩ : ∃ ne, ne = es.length := ⟨_, rfl⟩
  have HNE := hid hne
  rw [← hne] at g1 hm
  clear h hJ hY hgd hl h0 hne
  refine callsIn_of_wp Tryd.func59 rfl trivial ?_ rfl
  simp only [Tryd.ntmps59, List.size_toArray, List.length_cons, List.length_nil, Nat.reduceAdd, Nat.reduceSub, Array.replicate_succ, Array.replicate_zero, List.push_toArray, List.append_toArray, List.nil_append, List.cons_append]
  gi_wp2
  gi_loopw [10] (fun s wr => ∃ i : Nat, i ≤ ne ∧ s = .int .i64 i ∧ Hid (∃ pre : List Pc, pre.map (·.en) = es.take i ∧ (∀ x ∈ pre, x.ys = blobAt xs x.en.off x.en.len) ∧ J pre wr ∧ W.heap.size ≤ wr.heap.size ∧ AllAt wr b3 b4 la lc oa oc es xs)) (fun s _ => ne - (intOf s).toNat)
  case atStart => exact ⟨0, Nat.zero_le _, rfl, hid (by obtain ⟨pre, q1, q2, q3, q4, q5⟩ := hst0.out; exact ⟨pre, q1, q2, q3, Nat.le_refl _, q5⟩)⟩
  case round =>
    clear hst0
    obtain ⟨i, hi, rfl, hst⟩ := hrel
    obtain ⟨pre, hp1, hp2, hp3, hp4, hp5⟩ := hst.out
    have HP1 := hid hp1; have HP2 := hid hp2; have HP3 := hid hp3; have HP4 := hid hp4; have HP5 := hid hp5
    clear hst hp1 hp2 hp3 hp4 hp5 g1
    by_cases hlt : i < ne
    · have hlt' : i < es.length := by have := HNE.out; omega
      obtain ⟨en, hen⟩ : ∃ en, es[i]? = some en := ⟨es[i], by simp⟩
      have hmem := List.mem_of_getElem? hen
      obtain ⟨h32, hbe, hfit⟩ := Hgd.out en hmem
      have H32 := hid h32; have HBE := hid hbe
      have htk := hid (show es.take (i + 1) = es.take i ++ [en] from by rw [List.take_add_one, hen]; rfl)
      obtain ⟨ce, hce⟩ : ∃ ce, ce = en.cells := ⟨_, rfl⟩
      have HCE := hid hce
      have lce := hid (show ce.length = 34 by rw [hce]; exact en_size h32)
      have ice := hid (show (Tryd.prog.info? 38).map (·.size) = some ce.length by rw [lce.out]; exact en_info)
      have fce := hid (show 0 + ce.length ≤ zEnC.length by rw [lce.out, zEnC_len]; decide)
      have sce := hid (splice36 zEnC ce (by rw [lce.out, zEnC_len]))
      have oce := hid (show ∀ v ∈ ce, v.oneCell' = true by rw [hce]; exact en_one _)
      obtain ⟨g, rfl⟩ : ∃ g, la = some ⟨g, 0, none⟩ := by
        rcases HP5.out.list.2 with ⟨h1, h2⟩ | ⟨g, cap, cur, h1, _⟩
        · exfalso; omega
        · simp at h1; exact ⟨g, h1.1⟩
      have hreads := hid (show ∀ (j : Nat) v, ce[j]? = some v → wr.cell? ((⟨g, i * 34, none⟩ : Addr).add j) = some v from fun j v hj => by
        have hj34 : j < 34 := by have := (List.getElem?_eq_some_iff.1 hj).1; rw [lce.out] at this; exact this
        have hc := HP5.out.list.cells (g := g) rfl (i * 34 + j) v (by rw [flat_get c34 34 c34_len es i j en hen hj34, c34_of h32, ← hce]; exact hj)
        rw [plain_add] at hc ⊢
        simpa using hc)
      obtain ⟨wb, hwb⟩ : ∃ wb : World, wb = (wr.alloc (.cells zEnC.toArray 38)).setRow wr.heap.size ce.toArray := ⟨_, rfl⟩
      have hkb := hid (show Kept [] wr wb by rw [hwb]; exact ((Kept.refl [] wr).alloc _).setRow (fun h => absurd h (Nat.lt_irrefl _)) _)
      have hqb := hid (show wb.heap[wr.heap.size]? = some (.cells ce.toArray 38 (0, 0)) from by rw [hwb]; exact setRow_heap _ _ _ _ _ _ (heap_alloc_at rfl))
      have hA := hid (HP5.out.kept hkb.out)
      have g3 : wb.cell? ⟨b3, 0, none⟩ = some (.slice oa xs.length oc) := cell_of_one hA.out.two
      have hcap := owns_caps hA.out.own
      have hblob := hid (p_blob_near oa oc xs en.id en.off en.len wb hA.out.tabs h32 Hl.out hfit hcap.1 hcap.2.1 hcap.2.2.1 (fun v hv => ownsRow_src (hv.owns hA.out.own (by simp))))
      have hpl : (plC en.id (en.off : Int) (en.len : Int)).toArray = ce.toArray := by rw [hce]; rfl
      rw [hpl] at hblob
      have HLT := hid hlt
      clear hce hen hmem hbe h32 hfit hlt' hpl hcap
      obtain ⟨nx, hnx⟩ : ∃ nx, nx = xs.length := ⟨_, rfl⟩
      have HNX := hid hnx
      rw [← hnx] at g3 hblob
      clear hnx
      gi_wp2_with (first | (refine wpListIn_load_cells rfl 38 (.tmp 12) rfl ⟨g, i * 34, none⟩ rfl ce _ Tryd.underlying38 rfl ice.out hreads.out ?_) | (refine wpListIn_store_at rfl 38 (.tmp 5) (.tmp 13) rfl wr.heap.size 0 ce rfl rfl 38 zEnC (heap_alloc_at rfl) ice.out fce.out oce.out ?_; refine halt ?_))
      rw [sce.out]
      refine Halt.mk ?_
      rw [← hwb]
      clear hwb hreads
      gi_wp2_with (first | (refine wpListIn_load_cells rfl 38 (.tmp 5) rfl ⟨wr.heap.size, 0, none⟩ rfl ce _ Tryd.underlying38 rfl ice.out (ld_en hqb.out) ?_) | (refine ⟨trivial, ?_⟩; gi_at_call 17; refine (callsIn_wide.2 hblob.out).mono ?_; rintro e w2 ⟨k2, (⟨hb, -⟩ | ⟨-, a2, c2, rfl, s2⟩)⟩; exact absurd HBE.out hb; have HQ2 := hid (k2.at hqb.out (by simp)); have K2 := hid k2; have S2 := hid s2; clear k2 s2) | (refine wpListIn_load_w (by rfl) 38 (.tmp 5) rfl ⟨wr.heap.size, 0, none⟩ rfl ce _ Tryd.underlying38 rfl ice.out (ld_en HQ2.out) ?_; refine halt ?_))
      have hft : PcFt W.heap.size ⟨en, a2, c2, blobAt xs en.off en.len⟩ w2 := ⟨owns_lower S2.out (by have h2 := lt_of_block hqb.out; have h3 := HP4.out; omega), by have h1 := K2.out.size; have h2 := lt_of_block hqb.out; have h3 := HP4.out; omega⟩
      have hzp : PcZp xs es (pre ++ [⟨en, a2, c2, blobAt xs en.off en.len⟩]) := ⟨by rw [List.map_append, HP1.out]; show es.take i ++ [en] <+: es; rw [← htk.out]; exact List.take_prefix _ _, fun x hx => by
        rcases List.mem_append.1 hx with h | h
        · exact HP2.out x h
        · simp at h; subst h; rfl⟩
      obtain ⟨fn, tmps, assign, body, hy, hR⟩ := HY.out pre ⟨en, a2, c2, blobAt xs en.off en.len⟩ w2 (HJ.out _ _ _ HP3.out (hkb.out.trans K2.out)) hft hzp
      dsimp only [pcvals] at hy
      rw [c34_of H32.out, ← HCE.out] at hy
      have HZP := hid hzp
      refine Halt.mk ?_
      clear hft hzp
      generalize (blobAt xs en.off en.len).length = bl at *
      gi_wp2
      refine hR.mono ?_
      rintro e W' (⟨rfl, hJ', hk⟩ | ⟨rfl, hJx'⟩)
      · have hkk := hid hk
        have hJJ := hid hJ'
        clear hk hJ' hy hR
        gi_wp2
        go_roundw
        case rel =>
          refine ⟨i + 1, HLT.out, by go_num, hid ⟨pre ++ [⟨en, a2, c2, blobAt xs en.off en.len⟩], by rw [List.map_append, HP1.out, htk.out]; rfl, HZP.out.2, hJJ.out, ?_, ?_⟩⟩
          · have h1 := K2.out.size; have h2 := hkb.out.size; have h3 := hkk.out.size; have h4 := HP4.out; omega
          · exact ((HP5.out.kept hkb.out).kept K2.out).keep (hkk.out.less (fun k _ hk => Or.inl hk))
        case measure => simp [intOf]; omega
      · have hJJ := hid hJx'
        clear hJx' hy hR
        gi_wp2
        refine bodyPost_ret (results_none rfl _ _ _) rfl ?_
        exact ⟨⟨_, rfl⟩, .inr ⟨_, HZP.out, hJJ.out⟩⟩
    · obtain rfl : i = ne := by omega
      have hfin := hid (show PcZ xs es pre from ⟨by rw [HP1.out, HNE.out, List.take_length], HP2.out⟩)
      clear hlt
      gi_wp2
      go_end0
      exact ⟨⟨_, rfl⟩, .inl ⟨pre, hfin.out, HP3.out⟩⟩
theorem pall_seq (n : Nat) (hn : 1 ≤ n) (b3 b4 : Nat) (la : Option Addr) (lc : Nat) (oa : Option Addr) (oc : Nat) (es : List En) (xs : List UInt8) (w : World) (h : AllAt w b3 b4 la lc oa oc es xs)
    (hgd : ∀ e ∈ es, e.id.length = 32 ∧ blobErr xs e.id e.off e.len = 0 ∧ e.off + e.len ≤ xs.length) (hl : xs.length ≤ 100000000) (hm : es.length ≤ 4096) :
    SeqW Fence.wide n Tryd.prog 59 #[.pointer (some ⟨b4, 0, none⟩), .pointer (some ⟨b3, 0, none⟩)] pcvals PcFt (ANeed b3 b4 la oa) (PcZ xs es) (PcZp xs es) w :=
  fun l J Jx W hW hJ _ hY h0 => pall_in n hn l b3 b4 la lc oa oc es xs W (h.kept (Kept.of_below (S := []) hW)) hgd hl hm J Jx (fun s A B ha hk => hJ s A B ha (hk.wider (by simp))) hY h0

set_option maxRecDepth 100000 in
set_option maxHeartbeats 4000000 in
theorem pall_any (a : Option Addr) (c : Nat) (xs : List UInt8) (w : World) (ht : Tab w) (hts : Tabs w) (hsrc : SrcB w (.slice a xs.length c) xs) (hl : xs.length ≤ 100000000) (es : List En) (h0 : shErr xs = 0) (h1 : shOf xs = sealed 80 (headB es)) (hgd : Gd es) (hm : es.length ≤ 4096) (hsz : sizeP es = xs.length) :
    Calls Tryd.prog 38 #[.slice a xs.length c] w fun e w' => ∃ b3 b4 la lc oa oc, e = .returned (.func (.func 59) #[] #[.pointer (some ⟨b4, 0, none⟩), .pointer (some ⟨b3, 0, none⟩)]) ∧ Kept [] w w' ∧ AllAt w' b3 b4 la lc oa oc es xs ∧ w.heap.size ≤ b3 ∧ w.heap.size ≤ b4 ∧ (∀ x, la = some x → w.heap.size ≤ x.block) ∧ ∀ x, oa = some x → w.heap.size ≤ x.block := by
  have hmf : ∀ (fn : Fn) (first cap : Array Value) (w : World), (Instr.makeFunc fn first cap).run Tryd.prog w = .ok (.func fn first cap) w := fun _ _ _ _ => rfl
  have hcl := hid (clone_own a c xs w hsrc hl)
  have Ht := hid ht; have Hts := hid hts; have H0 := hid h0; have H1 := hid h1; have Hgd := hid hgd; have Hm := hid hm; have Hsz := hid hsz; have Hl := hid hl
  obtain ⟨n, hnx⟩ : ∃ n, n = xs.length := ⟨_, rfl⟩
  have HN := hid hnx
  rw [← hnx] at hcl ⊢
  clear ht hts hsrc hl h0 h1 hgd hm hsz hnx
  go_enter Tryd.func38, Tryd.ntmps38
  go_wp2_with fail
  refine hcl.out.mono ?_
  rintro e w1 ⟨oa, oc, rfl, k1, o1⟩
  obtain ⟨W, hW⟩ : ∃ W, W = w1.alloc (.cells #[.slice oa n oc] 29) := ⟨_, rfl⟩
  have KW1 := hid (show Kept [] w1 W by rw [hW]; exact (Kept.refl [] w1).alloc _)
  have HW := hid hW
  have hcap := owns_caps o1
  have hrd := hid (p_read_good oa oc xs W (Ht.out.kept (k1.trans KW1.out) (by simp)) (by rw [← HN.out]; exact ownsRow_src (by have := KW1.out.owns o1 (by simp); rw [HN.out] at this ⊢; exact this)) (by rw [← HN.out]; exact hcap.1) hcap.2.2.1 Hl.out es H0.out H1.out Hgd.out Hm.out)
  rw [← HN.out] at hrd
  have K1 := hid (k1.trans KW1.out)
  have O1 := hid (KW1.out.owns o1 (by simp))
  have B1 := hid (show W.heap[w1.heap.size]? = some (.cells #[.slice oa n oc] 29 (0, 0)) by rw [hW]; exact heap_alloc_at rfl)
  have hs1 := hid k1.size
  clear k1 o1 hcl hW hcap
  go_wp2_with fail
  rw [← HW.out]
  refine hrd.out.mono ?_
  rintro e w2 ⟨k2, (⟨-, la, lc, rfl, o2⟩ | ⟨hb, -⟩)⟩
  · have hfin := hid (show AllAt (w2.alloc (.cells #[.slice la es.length lc] 25)) w1.heap.size w2.heap.size la lc oa oc es xs from
      ⟨heap_alloc_at rfl, heap_alloc_old (by rw [← HN.out]; exact k2.at B1.out (by simp)), ((Kept.refl [] w2).alloc _).owns (owns_lower o2 (Nat.zero_le _)) (by simp), by
        rw [← HN.out]; exact ((Kept.refl [] w2).alloc _).owns (owns_lower (k2.owns O1.out (by simp)) (Nat.zero_le _)) (by simp), ((Hts.out.kept K1.out (by simp) (by simp)).kept k2 (by simp) (by simp)).kept ((Kept.refl [] w2).alloc _) (by simp) (by simp)⟩)
    have hla := hid (show ∀ x, la = some x → w.heap.size ≤ x.block from fun x hx => by have := (o2.lt x.block (by rw [hx]; rfl)).1; have := K1.out.size; omega)
    have hoa := hid (show ∀ x, oa = some x → w.heap.size ≤ x.block from fun x hx => (O1.out.lt x.block (by rw [hx]; rfl)).1)
    have KF := hid ((K1.out.trans k2).alloc (.cells #[.slice la es.length lc] 25))
    have hs2 := hid k2.size
    have hs3 := hid K1.out.size
    clear o2 k2
    go_wp2
    go_ret
    exact ⟨w1.heap.size, w2.heap.size, la, lc, oa, oc, rfl, KF.out, hfin.out, hs1.out, by have := hs2.out; have := hs3.out; omega, hla.out, hoa.out⟩
  · exact absurd Hsz.out hb
end Go.Proofs.YtembincggkpflaaDoor


/- A drawn region that loads a cell and stores into it: what stands in the cell need hold only as far as the store, which waits for the load. No program is named here. -/
namespace Go.Proofs.YtembincggkpflaaDoor
open Go.RowKit

section
variable {P : Program} {md : Region.Mode} {Q : Exit → Act → World → Prop} {S : World → Prop} {late : List Nat}

/-- In whatever order, each operation yields a value, or writes; and S holds behind each that is not late. -/
def AnyV (P : Program) (md : Region.Mode) (ops : Array Oper) (Q : Act → World → Prop) (S : World → Prop) (late : List Nat) : Nat → Array Bool → Act → World → Prop
  | 0, listed, a, w => Region.ready md ops listed = [] ∧ Q a w
  | k + 1, listed, a, w => (Region.ready md ops listed = [] → Q a w) ∧
      ∀ i ∈ Region.ready md ops listed, ∃ o v w', ops[i]? = some o ∧ Region.wanted o (yielded ops a.tmps) = true ∧ ((execOp a.eval o).run P w = .ok (.value v) w' ∨ (v = undef ∧ (execOp a.eval o).run P w = .ok .skip w')) ∧ (i ∉ late → S w') ∧ AnyV P md ops Q S late k (listed.setIfInBounds i true) (a.put o.dst v) w'
/-- It does so within whatever fence, if none of its operations is about to call. -/
theorem anyIn_of_V {F : Fence} {n : Nat} {ops : Array Oper} {Q' : Act → World → Prop} (hpl : ∀ (i : Nat) (o : Oper), ops[i]? = some o → (∀ ρ, o.semAt F.round ρ = execOp ρ o) ∧ ∀ w ρ, o.about P w ρ = none) (hq : ∀ a w, Q' a w → Q .normal a w) :
    ∀ (k : Nat) (listed : Array Bool) (a : Act) (w : World), AnyV P md ops Q' S late k listed a w → wpAnyIn F n P md ops Q k listed a w
  | 0, _, _, _, h => ⟨h.1, hq _ _ h.2⟩
  | k + 1, listed, a, w, h => ⟨fun h0 => hq _ _ (h.1 h0), fun i hi => by
    obtain ⟨o, v, w', ho, hw, hrun, _, hrest⟩ := h.2 i hi
    have hnext := anyIn_of_V (n := n) hpl hq k _ _ _ hrest
    unfold wpOpIn
    rw [ho]
    dsimp only
    rw [if_pos hw]
    unfold Oper.wpIn
    refine ⟨fun f hf => (by rw [(hpl i o ho).2] at hf; cases hf), ?_⟩
    rw [(hpl i o ho).1]
    rcases hrun with hrun | ⟨rfl, hrun⟩
    · rw [hrun]; exact hnext
    · rw [hrun]; exact hnext⟩
/-- Does j wait for i itself? -/
def direct (md : Region.Mode) (ops : Array Oper) (j i : Nat) : Bool :=
  match ops[j]? with
  | some oj => oj.after.any (fun e => Region.binds md e && e.on == i)
  | none => false
theorem direct_not {ops : Array Oper} {i j : Nat} {oj : Oper} (hj : ops[j]? = some oj) (hno : ∀ e ∈ oj.after, Region.binds md e = true → e.on ≠ i) : direct md ops j i = false := by
  unfold direct
  rw [hj]
  dsimp only
  rw [Array.any_eq_false]
  intro k hk hb
  simp at hb
  exact hno oj.after[k] (Array.getElem_mem hk) hb.1 hb.2
/-- Or for what waits for it? -/
def waits2 (md : Region.Mode) (ops : Array Oper) (j i : Nat) : Bool :=
  direct md ops j i || match ops[j]? with
  | some oj => oj.after.any (fun e => Region.binds md e && direct md ops e.on i)
  | none => false
theorem waits2_not {ops : Array Oper} {i j : Nat} {oj : Oper} {listed : Array Bool} (hj : ops[j]? = some oj) (hno : ∀ e ∈ oj.after, Region.binds md e = true → e.on ≠ i) (hl : ∀ m, listed[m]? = some true → waits2 md ops m i = false)
    (hall : ∀ e ∈ oj.after, Region.binds md e = true → listed[e.on]? = some true) : waits2 md ops j i = false := by
  unfold waits2
  rw [direct_not hj hno, hj]
  simp only [Bool.false_or]
  rw [Array.any_eq_false]
  intro k hk hb
  simp only [Bool.and_eq_true] at hb
  have := hl _ (hall _ (Array.getElem_mem hk) hb.1)
  unfold waits2 at this
  rw [hb.2] at this
  simp at this
/-- The late ones wait for i, if need be by what waits for it. -/
def lateWait (md : Region.Mode) (ops : Array Oper) (late : List Nat) (i : Nat) : Bool :=
  late.all fun j => direct md ops j i || match ops[j]? with
    | some oj => oj.after.any (fun e => Region.binds md e && waits2 md ops e.on i)
    | none => false
/-- Nothing that has come waits for i. -/
def lateFree (md : Region.Mode) (ops : Array Oper) (listed : Array Bool) (i : Nat) : Bool := (List.range listed.size).all fun m => !(listed.getD m false) || !(waits2 md ops m i)
theorem lateFree_spec {ops : Array Oper} {listed : Array Bool} {i : Nat} (h : lateFree md ops listed i = true) : ∀ m, listed[m]? = some true → waits2 md ops m i = false := by
  intro m hm
  have hlt := (Array.getElem?_eq_some_iff.1 hm).1
  have h1 := List.all_eq_true.1 h m (List.mem_range.2 hlt)
  have h2 : listed.getD m false = true := by rw [Array.getD_eq_getD_getElem?, hm]; rfl
  rw [h2] at h1
  simpa using h1
theorem lateWait_spec {ops : Array Oper} {listed : Array Bool} {i : Nat} (h : lateWait md ops late i = true) (hl : ∀ m, listed[m]? = some true → waits2 md ops m i = false) {j : Nat} {oj : Oper} (hj : ops[j]? = some oj) (hno : ∀ e ∈ oj.after, Region.binds md e = true → e.on ≠ i)
    (hall : ∀ e ∈ oj.after, Region.binds md e = true → listed[e.on]? = some true) : j ∉ late := by
  intro hm
  have h1 := List.all_eq_true.1 h j hm
  rw [direct_not hj hno, hj] at h1
  simp only [Bool.false_or] at h1
  obtain ⟨k, hk, hb⟩ := Array.any_eq_true.1 h1
  simp only [Bool.and_eq_true] at hb
  have := hl _ (hall _ (Array.getElem_mem hk) hb.1)
  rw [this] at hb
  cases hb.2
variable {Q : Act → World → Prop}
theorem firstV {ops : Array Oper} {i : Nat} {oi : Oper} {v : Value} (hi : ops[i]? = some oi) (hsel : ∀ (j : Nat) (o : Oper) cs b, ops[j]? = some o → o.op ≠ .select cs b) (hlw : lateWait md ops late i = true) :
    ∀ (k : Nat) (listed : Array Bool) (a : Act) (w : World),
      (∀ j oj, ops[j]? = some oj → j ≠ i → listed.getD j true = false → (∀ e ∈ oj.after, Region.binds md e = true → e.on ≠ i) → oi.apart ops oj = true) →
      (∀ m, listed[m]? = some true → waits2 md ops m i = false) →
      i ∈ Region.ready md ops listed → Region.wanted oi (yielded ops a.tmps) = true → (∀ w, S w → (execOp a.eval oi).run P w = .ok (.value v) w) → S w → i ∉ late →
      AnyV P md ops Q S late k (listed.setIfInBounds i true) (a.put oi.dst v) w → AnyV P md ops Q S late (k + 1) listed a w := by
  intro k
  induction k with
  | zero =>
    intro listed a w _ _ hr hw hy hS hil H
    refine ⟨fun h => (by rw [h] at hr; cases hr), fun j hj => ?_⟩
    by_cases e : j = i
    · subst e; exact ⟨oi, v, w, hi, hw, .inl (hy w hS), fun _ => hS, H⟩
    · have := ready_mono hj e
      rw [H.1] at this
      cases this
  | succ k ih =>
    intro listed a w hfr hin hr hw hy hS hil H
    refine ⟨fun h => (by rw [h] at hr; cases hr), fun j hj => ?_⟩
    by_cases e : j = i
    · subst e; exact ⟨oi, v, w, hi, hw, .inl (hy w hS), fun _ => hS, H⟩
    obtain ⟨oj, u, w', hoj, hwj, hrj, hSj, Hj⟩ := H.2 j (ready_mono hj e)
    obtain ⟨hun, oj', hoj', hall⟩ := mem_ready.1 hj
    rw [hoj] at hoj'
    cases hoj'
    have hno : ∀ d ∈ oj.after, Region.binds md d = true → d.on ≠ i := fun d hd hb he => by
      have h2 := hall d hd hb
      have h0 := (mem_ready.1 hr).1
      rw [he] at h2
      rcases Nat.lt_or_ge i listed.size with hl | hl
      · simp [hl] at h0 h2; rw [h0] at h2; cases h2
      · simp [Array.getElem?_eq_none hl] at h2
    have hall' : ∀ d ∈ oj.after, Region.binds md d = true → listed[d.on]? = some true := fun d hd hb => by
      have h4 := hall d hd hb
      rw [Array.getD_eq_getD_getElem?] at h4
      cases h5 : listed[d.on]? with
      | none => rw [h5] at h4; cases h4
      | some b => rw [h5] at h4; simp at h4; rw [h4]
    have hjl : j ∉ late := lateWait_spec hlw hin hoj hno hall'
    obtain ⟨h1, h2, h3⟩ := Oper.apart_spec (hfr j oj hoj e hun hno)
    rw [wanted_put oj a oi.dst v h1] at hwj
    rw [execOp_put oj (fun cs b => hsel j oj cs b hoj) a oi.dst v h1] at hrj
    refine ⟨oj, u, w', hoj, hwj, hrj, hSj, ih (listed.setIfInBounds j true) (a.put oj.dst u) w' (fun m om hm hmi hmu hmn => ?_) (fun m hm => ?_) (ready_mono hr (Ne.symm e)) ?_ ?_ (hSj hjl) hil ?_⟩
    · refine hfr m om hm hmi ?_ hmn
      by_cases ejm : j = m
      · subst ejm; exact hun
      · rwa [getD_set_ne true ejm] at hmu
    · by_cases ejm : j = m
      · subst ejm; exact waits2_not hoj hno hin hall'
      · rw [Array.getElem?_setIfInBounds_ne ejm] at hm; exact hin m hm
    · rw [wanted_put oi a oj.dst u h3]; exact hw
    · rw [execOp_put oi (fun cs b => hsel i oi cs b hi) a oj.dst u h3]; exact hy
    · rw [Array.setIfInBounds_comm _ _ e, ← Act.put_comm a v u h2]
      exact Hj

variable {l rest rest' : List Oper} {oi oj : Oper} {fuel : Nat} {listed : Array Bool} {a : Act} {w : World}
theorem takeV (i : Nat) (v : Value) (hi : l.drop i = oi :: rest) (hs : Region.noSelect l.toArray = true) (hf : Region.free md l.toArray listed i = true) (hr : (Region.ready md l.toArray listed).contains i = true)
    (hlw : lateWait md l.toArray late i = true) (hlf : lateFree md l.toArray listed i = true) (hil : i ∉ late)
    (hw : Region.wanted oi (yielded l.toArray a.tmps) = true) (hy : ∀ w, S w → (execOp a.eval oi).run P w = .ok (.value v) w) (hS : S w)
    (h : AnyV P md l.toArray Q S late fuel (listed.setIfInBounds i true) (a.put oi.dst v) w) : AnyV P md l.toArray Q S late (fuel + 1) listed a w :=
  firstV (getL_of_drop hi) (Region.noSelect_spec hs) hlw fuel listed a w (Region.free_spec (getL_of_drop hi) hf) (lateFree_spec hlf) (by simpa using hr) hw hy hS hil h
theorem runV (i : Nat) (hi : l.drop i = oi :: rest) (hr : Region.ready md l.toArray listed = [i]) (hw : Region.wanted oi (yielded l.toArray a.tmps) = true)
    (v : Value) (w' : World) (hrun : (execOp a.eval oi).run P w = .ok (.value v) w') (hS' : i ∉ late → S w') (h : AnyV P md l.toArray Q S late fuel (listed.setIfInBounds i true) (a.put oi.dst v) w') : AnyV P md l.toArray Q S late (fuel + 1) listed a w :=
  ⟨fun h0 => (by rw [hr] at h0; cases h0), fun j hj => by rw [hr] at hj; cases List.mem_singleton.1 hj; exact ⟨oi, v, w', getL_of_drop hi, hw, .inl hrun, hS', h⟩⟩
theorem writeV (i : Nat) (hi : l.drop i = oi :: rest) (hr : Region.ready md l.toArray listed = [i]) (hw : Region.wanted oi (yielded l.toArray a.tmps) = true)
    (w' : World) (hrun : (execOp a.eval oi).run P w = .ok .skip w') (hS' : i ∉ late → S w') (h : AnyV P md l.toArray Q S late fuel (listed.setIfInBounds i true) (a.put oi.dst undef) w') : AnyV P md l.toArray Q S late (fuel + 1) listed a w :=
  ⟨fun h0 => (by rw [hr] at h0; cases h0), fun j hj => by rw [hr] at hj; cases List.mem_singleton.1 hj; exact ⟨oi, undef, w', getL_of_drop hi, hw, .inr ⟨rfl, hrun⟩, hS', h⟩⟩
theorem bothV (i j : Nat) (hi : l.drop i = oi :: rest) (hj : l.drop j = oj :: rest') (hr : Region.ready md l.toArray listed = [i, j]) (hwi : Region.wanted oi (yielded l.toArray a.tmps) = true) (hwj : Region.wanted oj (yielded l.toArray a.tmps) = true)
    (vi : Value) (wi : World) (hri : (execOp a.eval oi).run P w = .ok (.value vi) wi) (hSi : i ∉ late → S wi) (vj : Value) (wj : World) (hrj : (execOp a.eval oj).run P w = .ok (.value vj) wj) (hSj : j ∉ late → S wj)
    (h1 : AnyV P md l.toArray Q S late fuel (listed.setIfInBounds i true) (a.put oi.dst vi) wi) (h2 : AnyV P md l.toArray Q S late fuel (listed.setIfInBounds j true) (a.put oj.dst vj) wj) : AnyV P md l.toArray Q S late (fuel + 1) listed a w :=
  ⟨fun h0 => (by rw [hr] at h0; cases h0), fun k hk => by
    rw [hr] at hk
    rcases List.mem_cons.1 hk with rfl | hk
    · exact ⟨oi, vi, wi, getL_of_drop hi, hwi, .inl hri, hSi, h1⟩
    · cases List.mem_singleton.1 hk; exact ⟨oj, vj, wj, getL_of_drop hj, hwj, .inl hrj, hSj, h2⟩⟩
theorem doneV {ops : Array Oper} (hr : Region.ready md ops listed = []) (h : Q a w) : ∀ k, AnyV P md ops Q S late k listed a w
  | 0 => ⟨hr, h⟩
  | _ + 1 => ⟨fun _ => h, by rw [hr]; simp⟩
theorem wpIn_region_V {F : Fence} {n : Nat} {Q' : Exit → Act → World → Prop} {l : List Oper} {id : Nat} (S : World → Prop) (late : List Nat) (Q : Act → World → Prop) (hm : P.follows .mixedOrders = true) (hpl : ∀ o ∈ l, (∀ ρ, o.semAt F.round ρ = execOp ρ o) ∧ ∀ w ρ, o.about P w ρ = none) (hq : ∀ a w, Q a w → Q' .normal a w)
    (h : AnyV P .any l.toArray Q S late l.length (Array.replicate l.length false) a w.drew) : (Code.region id l.toArray true).wpIn F n P Q' a w :=
  wpIn_region_any hm (anyIn_of_V (fun i o hi => hpl o (by have := Array.mem_of_getElem? hi; simpa using this)) hq _ _ _ _ (by simpa using h))
/-- An append whose outcome is known. -/
theorem run_app_op {oi : Oper} {w' : World} (s x : Operand) (t : TypeId) (ho : oi.op = .call { callee := .builtin .append, args := #[s, x], argTypes := #[t, t] }) (v sv v' : Value) (hs : a.eval s = v) (hx : a.eval x = sv)
    (hrun : (Builtin.append_ #[t, t] oi.type #[v, sv]).run P w = .ok v' w') : (execOp a.eval oi).run P w = .ok (.value v') w' := by
  unfold execOp
  simp only [ho, resolve, invoke, builtin, Sem.run_bind, Sem.run_pure, Result.andThen_ok, List.map_toArray, List.map_cons, List.map_nil, hs, hx, hrun]
end
end Go.Proofs.YtembincggkpflaaDoor


/- coldstorelaw12.all: the places and bytes that All yields. -/
namespace Go.Proofs.YtembincggkpflaaDoor
open Go.RowKit Go.Lib Go.Maps
attribute [local go_sem] Oper.semAt_some

abbrev pcval (x : Pc) : Value := .slice x.a x.ys.length x.c
theorem info_bb : (Tryd.prog.info? 29).map (fun i => (i.zero, i.size, i.bytes)) = some (some (.slice none 0 0), 1, 24) := by kernel_rfl
/-- The block of a row has its type. -/
theorem owns_type {w : World} {base : Nat} {e : TypeId} {size : Nat} {v : Value} {n : Nat} {xs : List Value} (h : w.ownsRow base e size v n xs) {g : Nat} (hg : v.ownBlock = some g) : ∃ cur, w.heap[g]? = some (.cells cur e (0, 0)) := by
  rcases h.2 with ⟨rfl, _⟩ | ⟨g', cap, cur, rfl, _, hh, _⟩
  · simp [Value.ownBlock] at hg
  · simp [Value.ownBlock] at hg; subst hg; exact ⟨cur, hh⟩
theorem owns_far {w : World} {b b' : Nat} {e e' : TypeId} {s s' : Nat} {v v' : Value} {n n' : Nat} {xs xs' : List Value} (h : w.ownsRow b e s v n xs) (h' : w.ownsRow b' e' s' v' n' xs') (he : e ≠ e') {g : Nat} (hg : v.ownBlock = some g) : g ∉ v'.ownBlock.toList := by
  intro hm
  simp at hm
  obtain ⟨c, hc⟩ := owns_type h hg
  obtain ⟨c', hc'⟩ := owns_type h' hm
  rw [hc] at hc'; simp at hc'; exact he hc'.2
theorem cell_far {w : World} {b : Nat} {e e' : TypeId} {s : Nat} {v : Value} {n : Nat} {xs : List Value} {g : Nat} {c : Array Value} (h : w.ownsRow b e s v n xs) (hc : w.heap[g]? = some (.cells c e' (0, 0))) (he : e' ≠ e) : v.ownBlock ≠ some g := by
  intro hm
  obtain ⟨c', hc'⟩ := owns_type h hm
  rw [hc] at hc'; simp at hc'; exact he hc'.2

/-- The call's own variables, its rows. -/
structure AllR (W : World) (s D most : Nat) (vx vy : Value) (pre : List Pc) : Prop where
  most_ : W.heap[s]? = some (.cells #[.int .i64 (most : Int)] 3 (0, 0))
  resx : W.heap[s + 1]? = some (.cells #[.slice none 0 0] 25 (0, 0))
  resy : W.heap[s + 2]? = some (.cells #[.slice none 0 0] 22 (0, 0))
  cx : W.heap[s + 5]? = some (.cells #[vx] 25 (0, 0))
  cy : W.heap[s + 6]? = some (.cells #[vy] 22 (0, 0))
  rowx : W.ownsRow s 38 34 vx pre.length (pre.flatMap fun x => c34 x.en)
  rowy : W.ownsRow s 29 1 vy pre.length (pre.map pcval)
  ownx : ∀ g, vx.ownBlock = some g → g = s + 3 ∨ D + 2 < g
  owny : ∀ g, vy.ownBlock = some g → g = s + 4 ∨ D + 2 < g
  ps : ∀ x ∈ pre, W.ownsRow s 5 1 (.slice x.a x.ys.length x.c) x.ys.length (x.ys.map B) ∧ ∀ y, x.a = some y → D + 2 < y.block
theorem AllR.keep {W W' : World} {s D most : Nat} {vx vy : Value} {pre : List Pc} {S : List Nat} (h : AllR W s D most vx vy pre) (hk : Kept S W W') (hS : ∀ k ∈ S, s + 7 ≤ k ∧ k ≤ D + 2) : AllR W' s D most vx vy pre := by
  refine ⟨hk.at h.most_ ?_, hk.at h.resx ?_, hk.at h.resy ?_, hk.at h.cx ?_, hk.at h.cy ?_, hk.owns h.rowx (fun g hg hm => ?_), hk.owns h.rowy (fun g hg hm => ?_), h.ownx, h.owny, fun x hx => ⟨hk.owns (h.ps x hx).1 (fun g hg hm => ?_), (h.ps x hx).2⟩⟩
  · intro hm; have := hS _ hm; omega
  · intro hm; have := hS _ hm; omega
  · intro hm; have := hS _ hm; omega
  · intro hm; have := hS _ hm; omega
  · intro hm; have := hS _ hm; omega
  · have := hS _ hm; rcases h.ownx g hg with e | e <;> omega
  · have := hS _ hm; rcases h.owny g hg with e | e <;> omega
  · have h1 := hS _ hm
    cases hxa : x.a with
    | none => rw [hxa] at hg; simp [Value.ownBlock] at hg
    | some y => rw [hxa] at hg; simp [Value.ownBlock] at hg; have := (h.ps x hx).2 y hxa; omega

/-- Midway: the rows as they are now, one longer or not; what was there but theirs is as it was. -/
structure MidR (W : World) (s : Nat) (vx vy : Value) (v : World) (vx' vy' : Value) (nx ny : Nat) (xr yr : List Value) : Prop where
  kept : Kept (vx.ownBlock.toList ++ vy.ownBlock.toList) W v
  rowx : v.ownsRow s 38 34 vx' nx xr
  rowy : v.ownsRow s 29 1 vy' ny yr
  newx : ∀ g, vx'.ownBlock = some g → vx.ownBlock = some g ∨ W.heap.size ≤ g
  newy : ∀ g, vy'.ownBlock = some g → vy.ownBlock = some g ∨ W.heap.size ≤ g
theorem MidR.alloc {W : World} {s : Nat} {vx vy : Value} {v : World} {vx' vy' : Value} {nx ny : Nat} {xr yr : List Value} (h : MidR W s vx vy v vx' vy' nx ny xr yr) (o : Obj) : MidR W s vx vy (v.alloc o) vx' vy' nx ny xr yr :=
  ⟨h.kept.alloc o, ((Kept.refl [] v).alloc o).owns h.rowx (by simp), ((Kept.refl [] v).alloc o).owns h.rowy (by simp), h.newx, h.newy⟩
theorem MidR.appx {W : World} {s : Nat} {vx vy : Value} {v v' : World} {vx' vy' vx2 : Value} {nx ny n2 : Nat} {xr yr xr2 : List Value} (h : MidR W s vx vy v vx' vy' nx ny xr yr) (hown : v'.ownsRow s 38 34 vx2 n2 xr2) (hg : v.grownBy v' vx'.ownBlock)
    (hn : ∀ g, vx2.ownBlock = some g → vx'.ownBlock = some g ∨ v.heap.size ≤ g) : MidR W s vx vy v' vx2 vy' n2 ny xr2 yr := by
  have hk := Kept.of_row hg
  refine ⟨h.kept.trans' hk (fun x hx hm => ?_), hown, hk.owns h.rowy (fun g hgy => owns_far h.rowy h.rowx (by decide) hgy), fun g hgx => ?_, h.newy⟩
  · simp at hm
    rcases h.newx x hm with e | e
    · simp [e]
    · omega
  · rcases hn g hgx with e | e
    · exact h.newx g e
    · exact Or.inr (Nat.le_trans h.kept.size e)
theorem MidR.appy {W : World} {s : Nat} {vx vy : Value} {v v' : World} {vx' vy' vy2 : Value} {nx ny n2 : Nat} {xr yr yr2 : List Value} (h : MidR W s vx vy v vx' vy' nx ny xr yr) (hown : v'.ownsRow s 29 1 vy2 n2 yr2) (hg : v.grownBy v' vy'.ownBlock)
    (hn : ∀ g, vy2.ownBlock = some g → vy'.ownBlock = some g ∨ v.heap.size ≤ g) : MidR W s vx vy v' vx' vy2 nx n2 xr yr2 := by
  have hk := Kept.of_row hg
  refine ⟨h.kept.trans' hk (fun x hx hm => ?_), hk.owns h.rowx (fun g hgx => owns_far h.rowx h.rowy (by decide) hgx), hown, h.newx, fun g hgy => ?_⟩
  · simp at hm
    rcases h.newy x hm with e | e
    · simp [e]
    · omega
  · rcases hn g hgy with e | e
    · exact h.newy g e
    · exact Or.inr (Nat.le_trans h.kept.size e)
/-- A slice of one element that stands in a block of its own. -/
theorem one_src {v : World} {g : Nat} {cs : List Value} {t : TypeId} (h : v.heap[g]? = some (.cells cs.toArray t (0, 0))) : Src v (.slice (some ⟨g, 0, none⟩) 1 1) 1 cs := Or.inr ⟨_, _, rfl, fun j u hj => by
  rw [plain_add', cell_of_row v _ j _ _ _ h]; simpa using hj⟩
theorem build_bb (a : Option Addr) (n c : Nat) (W : World) : (Instr.buildSlice 22 1 #[(0, .slice a n c)]).run Tryd.prog W = .ok (.slice (some ⟨W.heap.size, 0, none⟩) 1 1) (W.alloc (.cells #[.slice a n c] 29)) := by kernel_rfl
theorem all_zero (W : World) : (zeroValue 25).run Tryd.prog W = .ok (.slice none 0 0) W := by kernel_rfl

set_option maxRecDepth 100000 in
set_option maxHeartbeats 8000000 in
theorem all12 (a : Option Addr) (c : Nat) (xs : List UInt8) (most : Nat) (w : World) (ht : Tab w) (hts : Tabs w) (hsrc : SrcB w (.slice a xs.length c) xs) (hl : xs.length ≤ 100000000) (es : List En) (h0 : shErr xs = 0) (h1 : shOf xs = sealed 80 (headB es)) (hgd : Gd es) (hm : es.length < most) (hm2 : most ≤ 4096) (hsz : sizeP es = xs.length)
    (hbl : ∀ e ∈ es, e.id.length = 32 ∧ blobErr xs e.id e.off e.len = 0 ∧ e.off + e.len ≤ xs.length) :
    Calls Tryd.prog 18 #[.slice a xs.length c, .int .i64 (most : Int)] w fun e w' => ∃ vx vy ps, e = .returned (.tuple #[vx, vy]) ∧ Kept [] w w' ∧ PcZ xs es ps ∧ w'.ownsRow w.heap.size 38 34 vx ps.length (ps.flatMap fun x => c34 x.en) ∧ w'.ownsRow w.heap.size 29 1 vy ps.length (ps.map pcval) ∧
      ∀ x ∈ ps, w'.ownsRow w.heap.size 5 1 (.slice x.a x.ys.length x.c) x.ys.length (x.ys.map B) := by
  have h00 : ¬ ((most : Int) ≤ 0) := by omega
  have hall := hid (fun (W : World) (k : Kept [] w W) => pall_any a c xs W (ht.kept k (by simp)) (hts.kept k (by simp) (by simp)) (hsrc.kept k (by simp)) hl es h0 h1 hgd (by omega) hsz)
  have htw := hid (show 0 < w.heap.size ∧ 2 < w.heap.size from ⟨hts.pos0, hts.pos⟩)
  have Hbl := hid hbl; have Hl := hid hl; have Hm := hid hm
  have hids : ∀ e ∈ es, e.id.length = 32 := fun e he => (hbl e he).1
  have Hids := hid hids
  obtain ⟨nx, hnx⟩ : ∃ nx, nx = xs.length := ⟨_, rfl⟩
  have HNX := hid hnx
  rw [← hnx] at hall ⊢
  clear ht hts hsrc hl h0 h1 hgd hm hsz hbl hnx hids
  obtain ⟨i0, hi0, hz0, hz1, hz2⟩ := info_parts en_zero
  obtain ⟨j0, hj0, hy0, hy1, hy2⟩ := info_parts info_bb
  refine (callsIn_wide (n := 4)).1 ?_
  refine callsIn_of_wp_marks Tryd.func18 rfl trivial ?_ rfl
  simp only [Tryd.ntmps18, List.size_toArray, List.length_cons, List.length_nil, Nat.reduceAdd, Nat.reduceSub, Array.replicate_succ, Array.replicate_zero, List.push_toArray, List.append_toArray, List.nil_append, List.cons_append]
  gi_wp2_with (refine ⟨trivial, ?_⟩; gi_at_call 38; refine (callsIn_wide.2 (hall.out _ ((((((((Kept.refl [] w).alloc _).alloc _).alloc _).alloc _).alloc _).alloc _).alloc _))).mono ?_; rintro e w1 ⟨b3, b4, la, lc, oa, oc, rfl, k1, hA, hb3, hb4, hla, hoa⟩)
  obtain ⟨W0, hW0⟩ : ∃ W0, W0 = (((((((w.alloc (.cells #[.int .i64 (most : Int)] 3)).alloc (.cells #[.slice none 0 0] 25)).alloc (.cells #[.slice none 0 0] 22)).alloc (.cells #[] 38)).alloc (.cells #[] 29)).alloc (.cells #[.slice (some ⟨w.heap.size + 1 + 1 + 1, 0, none⟩) 0 0] 25)).alloc (.cells #[.slice (some ⟨w.heap.size + 1 + 1 + 1 + 1, 0, none⟩) 0 0] 22)) := ⟨_, rfl⟩
  have k00 : Kept [] w W0 := hW0 ▸ ((((((((Kept.refl [] w).alloc _).alloc _).alloc _).alloc _).alloc _).alloc _).alloc _)
  have hs0 : W0.heap.size = w.heap.size + 7 := by rw [hW0]; simp
  have q0 : W0.heap[w.heap.size]? = some (.cells #[.int .i64 (most : Int)] 3 (0, 0)) := by
    rw [hW0]; exact heap_alloc_old (heap_alloc_old (heap_alloc_old (heap_alloc_old (heap_alloc_old (heap_alloc_old (heap_alloc_at rfl))))))
  have q1 : W0.heap[w.heap.size + 1]? = some (.cells #[.slice none 0 0] 25 (0, 0)) := by
    rw [hW0]; exact heap_alloc_old (heap_alloc_old (heap_alloc_old (heap_alloc_old (heap_alloc_old (heap_alloc_at (by simp))))))
  have q2 : W0.heap[w.heap.size + 2]? = some (.cells #[.slice none 0 0] 22 (0, 0)) := by
    rw [hW0]; exact heap_alloc_old (heap_alloc_old (heap_alloc_old (heap_alloc_old (heap_alloc_at (by simp)))))
  have q3 : W0.heap[w.heap.size + 3]? = some (.cells #[] 38 (0, 0)) := by
    rw [hW0]; exact heap_alloc_old (heap_alloc_old (heap_alloc_old (heap_alloc_at (by simp))))
  have q4 : W0.heap[w.heap.size + 4]? = some (.cells #[] 29 (0, 0)) := by
    rw [hW0]; exact heap_alloc_old (heap_alloc_old (heap_alloc_at (by simp)))
  have q5 : W0.heap[w.heap.size + 5]? = some (.cells #[.slice (some ⟨w.heap.size + 3, 0, none⟩) 0 0] 25 (0, 0)) := by
    rw [hW0]; exact heap_alloc_old (heap_alloc_at (by simp))
  have q6 : W0.heap[w.heap.size + 6]? = some (.cells #[.slice (some ⟨w.heap.size + 4, 0, none⟩) 0 0] 22 (0, 0)) := by
    rw [hW0]; exact heap_alloc_at (by simp)
  rw [← hW0] at k1 hb3 hb4 hla hoa
  clear hW0 hall
  rw [hs0] at hb3 hb4 hla hoa
  have hk01 := hid (k00.trans k1)
  have hR1 := hid (show AllR w1 w.heap.size w1.heap.size most (.slice (some ⟨w.heap.size + 3, 0, none⟩) 0 0) (.slice (some ⟨w.heap.size + 4, 0, none⟩) 0 0) [] from
    ⟨k1.at q0 (by simp), k1.at q1 (by simp), k1.at q2 (by simp), k1.at q5 (by simp), k1.at q6 (by simp),
     ⟨by simp, Or.inr ⟨w.heap.size + 3, 0, #[], rfl, by omega, k1.at q3 (by simp), by simp, by unfold maxLen; omega, by simp, by simp⟩⟩,
     ⟨by simp, Or.inr ⟨w.heap.size + 4, 0, #[], rfl, by omega, k1.at q4 (by simp), by simp, by unfold maxLen; omega, by simp, by simp⟩⟩,
     fun g hg => by simp [Value.ownBlock] at hg; omega, fun g hg => by simp [Value.ownBlock] at hg; omega, fun x hx => by simp at hx⟩)
  have HA := hid hA
  have hneed := hid (show ∀ k, ANeed b3 b4 la oa k → k < w1.heap.size ∧ (k < w.heap.size ∨ w.heap.size + 7 ≤ k) from fun k hk => ⟨hA.lt k hk, by
    have hz := htw.out
    rcases hk with rfl | rfl | rfl | rfl | ⟨x, hx, rfl⟩ | ⟨x, hx, rfl⟩
    · exact Or.inr hb3
    · exact Or.inr hb4
    · exact Or.inl hz.1
    · exact Or.inl hz.2
    · exact Or.inr (hla x hx)
    · exact Or.inr (hoa x hx)⟩)
  have hw1 : w.heap.size + 7 ≤ w1.heap.size := by have := k1.size; omega
  clear hla hoa hb3 hb4 k1 hA k00 hs0 q0 q1 q2 q3 q4 q5 q6
  refine range_v (β := Nat) (encs := pcvals) rfl (by omega) (gf := 59) (lb := #[.pointer (some ⟨b4, 0, none⟩), .pointer (some ⟨b3, 0, none⟩)]) rfl trivial (enters_of Tryd.func59 (by kernel_rfl) rfl)
    (pall_seq (4 - 1) (by omega) b3 b4 la lc oa oc es xs w1 HA.out Hbl.out Hl.out (by have := Hm.out; omega)) (fun k hk => (hneed.out k hk).1) (fun _ => rfl) (fun x A B hf hk => ⟨hk.owns hf.1 (fun g hg => by have := (hf.1.lt g hg).1; simp; omega), Nat.lt_of_lt_of_le hf.2 hk.size⟩)
    (fun pre W => pre.length < most ∧ Kept [] w W ∧ ∃ vx vy, AllR W w.heap.size w1.heap.size most vx vy pre) (fun _ _ => False) ?hI (fun _ _ _ h _ => h.elim) ?h0
    (fun x pp => { tmps := #[.slice a nx c, .int .i64 (most : Int), undef, .pointer (some ⟨w.heap.size, 0, none⟩), .pointer (some ⟨w.heap.size + 1, 0, none⟩), .pointer (some ⟨w.heap.size + 1 + 1, 0, none⟩), .pointer (some ⟨w.heap.size + 1 + 1 + 1 + 1 + 1, 0, none⟩), .pointer (some ⟨w.heap.size + 1 + 1 + 1 + 1 + 1 + 1, 0, none⟩), .pointer (some ⟨pp, 0, none⟩), pcval x, .slice (some ⟨w.heap.size + 1 + 1 + 1, 0, none⟩) 0 0, .slice (some ⟨w.heap.size + 1 + 1 + 1 + 1, 0, none⟩) 0 0, .int .i64 (most : Int), .bool false, undef, undef, .slice a nx c, .func (.func 59) #[] #[.pointer (some ⟨b4, 0, none⟩), .pointer (some ⟨b3, 0, none⟩)], .agg (c34 x.en).toArray, pcval x, undef, undef, undef, undef, undef, undef, undef, undef, undef, undef, undef, undef, undef, undef, undef, undef], defers := [] })
    (fun x pp V => V.heap[pp]? = some (.cells (c34 x.en).toArray 38 (0, 0)) ∧ w1.heap.size + 2 < pp) ?hAs ?assign ?body ?fs ?done (fun _ _ _ h => h.elim)
  case hI =>
    rintro s A B ⟨hlt, hk0, vx, vy, hi⟩ hkk
    exact ⟨hlt, hk0.trans' hkk (fun x hx hm => by simp at hm; omega), vx, vy, hi.keep hkk (fun k hk => by simp at hk; omega)⟩
  case h0 => exact ⟨by have := Hm.out; simp; omega, hk01.out, _, _, hR1.out⟩
  case hAs =>
    rintro x pp A B ⟨q1, q2⟩ hk
    exact ⟨hk.at q1 (by simp; omega), q2⟩
  case fs => exact fun x A hf => hf.2
  case assign =>
    intro l x V K hsz hK
    have hs34 := hid (show (Tryd.prog.info? 38).map (·.size) = some (c34 x.en).length by rw [c34_len]; exact en_info)
    have hfit := hid (show 0 + (c34 x.en).length ≤ zEnC.length by rw [c34_len, zEnC_len]; decide)
    have hone := hid (show ∀ v ∈ c34 x.en, v.oneCell' = true by have := c34_one [x.en]; simpa using this)
    have hspl := hid (splice36 zEnC (c34 x.en) (by rw [c34_len, zEnC_len]))
    have hzv := zero_en
    gi_wp2_with (refine wpListIn_store_at rfl 38 (.tmp 8) (.tmp 18) rfl V.heap.size 0 (c34 x.en) rfl rfl 38 zEnC (heap_alloc_at rfl) hs34.out hfit.out hone.out ?_; refine halt ?_)
    rw [hspl.out]
    refine Halt.mk ?_
    gi_wp2
    exact hK V.heap.size _ (((Kept.refl [] V).alloc _).setRow (fun h => absurd h (Nat.lt_irrefl _)) _) ⟨setRow_heap _ _ _ _ _ _ (heap_alloc_at rfl), hsz⟩
  case body =>
    rintro l pre x pp W ⟨hlt, hk0, vx, vy, hR⟩ hft hzp hsz ⟨hpp, hpl⟩
    have hlen : pre.length + 1 ≤ es.length := by
      obtain ⟨r, hr⟩ := hzp.1
      have h1 := congrArg List.length hr
      simp at h1
      omega
    have hx32 : x.en.id.length = 32 := by
      obtain ⟨r, hr⟩ := hzp.1
      exact Hids.out x.en (by rw [← hr]; simp)
    have hbs := hid (fun W => build_ens x.en hx32 W)
    rw [← c34_of hx32] at hbs
    have hon := hid (show ∀ v ∈ c34 x.en, v.oneCell' = true by have := c34_one [x.en]; simpa using this)
    have cx := cell_of_one hR.cx; have cy := cell_of_one hR.cy
    have hes := Hm.out
    have hM0 := hid (show MidR W w.heap.size vx vy W.drew vx vy pre.length pre.length (pre.flatMap fun x => c34 x.en) (pre.map pcval) from ⟨(Kept.refl _ W).drew, hR.rowx, hR.rowy, fun g hg => Or.inl hg, fun g hg => Or.inl hg⟩)
    have HR := hid hR; have Hft := hid hft; have Hpp := hid hpp; have Hk0 := hid hk0
    clear hR hft hpp hk0
    gi_wp2
    have hlt5 := hid (show w.heap.size + 7 ≤ W.heap.size from by omega)
    have hMs : ∀ {v : World}, Kept (vx.ownBlock.toList ++ vy.ownBlock.toList) W v → w.heap.size ≤ v.heap.size := fun h => by have := h.size; have := hlt5.out; omega
    have hno := hid (show ∀ k, w.heap.size + 5 ≤ k → k ≤ w1.heap.size + 2 → k ∉ vx.ownBlock.toList ++ vy.ownBlock.toList from fun k h1 h2 hm => by
      simp at hm
      rcases hm with e | e
      · rcases HR.out.ownx _ e with e | e <;> omega
      · rcases HR.out.owny _ e with e | e <;> omega)
    have hcx : ∀ {v : World}, Kept (vx.ownBlock.toList ++ vy.ownBlock.toList) W v → v.heap[w.heap.size + 1 + 1 + 1 + 1 + 1]? = some (.cells #[vx] 25 (0, 0)) := fun h => h.at HR.out.cx (hno.out _ (by omega) (by omega))
    have hcy : ∀ {v : World}, Kept (vx.ownBlock.toList ++ vy.ownBlock.toList) W v → v.heap[w.heap.size + 1 + 1 + 1 + 1 + 1 + 1]? = some (.cells #[vy] 22 (0, 0)) := fun h => h.at HR.out.cy (hno.out _ (by omega) (by omega))
    have hSof : ∀ {v : World}, Kept (vx.ownBlock.toList ++ vy.ownBlock.toList) W v → v.cell? ⟨w.heap.size + 1 + 1 + 1 + 1 + 1, 0, none⟩ = some vx ∧ v.cell? ⟨w.heap.size + 1 + 1 + 1 + 1 + 1 + 1, 0, none⟩ = some vy := fun h => ⟨cell_of_one (hcx h), cell_of_one (hcy h)⟩
    have hp0 := hid (show W.drew.heap[pp]? = some (.cells (c34 x.en).toArray 38 (0, 0)) from Hpp.out)
    refine wpIn_region_V (fun v => v.cell? ⟨w.heap.size + 1 + 1 + 1 + 1 + 1, 0, none⟩ = some vx ∧ v.cell? ⟨w.heap.size + 1 + 1 + 1 + 1 + 1 + 1, 0, none⟩ = some vy) [8, 9]
      (fun a' w' => ∃ vx' vy' z1 z2, a' = { tmps := #[.slice a nx c, .int .i64 (most : Int), undef, .pointer (some ⟨w.heap.size, 0, none⟩), .pointer (some ⟨w.heap.size + 1, 0, none⟩), .pointer (some ⟨w.heap.size + 1 + 1, 0, none⟩), .pointer (some ⟨w.heap.size + 1 + 1 + 1 + 1 + 1, 0, none⟩), .pointer (some ⟨w.heap.size + 1 + 1 + 1 + 1 + 1 + 1, 0, none⟩), .pointer (some ⟨pp, 0, none⟩), pcval x, .slice (some ⟨w.heap.size + 1 + 1 + 1, 0, none⟩) 0 0, .slice (some ⟨w.heap.size + 1 + 1 + 1 + 1, 0, none⟩) 0 0, .int .i64 (most : Int), .bool false, undef, undef, .slice a nx c, .func (.func 59) #[] #[.pointer (some ⟨b4, 0, none⟩), .pointer (some ⟨b3, 0, none⟩)], .agg (c34 x.en).toArray, pcval x, vx, .agg (c34 x.en).toArray, z1, vx', vy, pcval x, z2, vy', undef, undef, undef, undef, undef, undef, undef, undef], defers := [] } ∧
        ∃ v, Hid (MidR W w.heap.size vx vy v vx' vy' (pre.length + 1) (pre.length + 1) ((pre ++ [x]).flatMap fun x => c34 x.en) ((pre ++ [x]).map pcval)) ∧ w' = (v.setCell ⟨w.heap.size + 1 + 1 + 1 + 1 + 1, 0, none⟩ vx').setCell ⟨w.heap.size + 1 + 1 + 1 + 1 + 1 + 1, 0, none⟩ vy') (by kernel_rfl) ?plain ?rest ?region
    case plain =>
      intro o ho
      simp only [List.mem_cons, List.not_mem_nil, or_false] at ho
      rcases ho with rfl | rfl | rfl | rfl | rfl | rfl | rfl | rfl | rfl | rfl <;> exact ⟨fun ρ => Oper.semAt_plain _ _ _ (by intro c hc; cases hc), fun w ρ => by simp [Oper.about, resolve, Target.leads, Sem.run_pure]⟩
    case region =>
      refine takeV 0 vx rfl (by kernel_rfl) (by kernel_rfl) (by kernel_rfl) (by kernel_rfl) (by kernel_rfl) (by decide) (by rfl) (fun v hv => by have h := hv.1; go_simp) (hSof hM0.out.kept) ?_
      simp only [Act.put, List.setIfInBounds_toArray, List.set_cons_succ, List.set_cons_zero]
      refine takeV 4 vy rfl (by kernel_rfl) (by kernel_rfl) (by kernel_rfl) (by kernel_rfl) (by kernel_rfl) (by decide) (by rfl) (fun v hv => by have h := hv.2; go_simp) (hSof hM0.out.kept) ?_
      simp only [Act.put, List.setIfInBounds_toArray, List.set_cons_succ, List.set_cons_zero]
      refine takeV 5 (pcval x) rfl (by kernel_rfl) (by kernel_rfl) (by kernel_rfl) (by kernel_rfl) (by kernel_rfl) (by decide) (by rfl) (fun v hv => by go_simp) (hSof hM0.out.kept) ?_
      simp only [Act.put, List.setIfInBounds_toArray, List.set_cons_succ, List.set_cons_zero]
      have hl1 := run_ld_en hp0.out (c34_len x.en)
      have hM2 := hid (show MidR W w.heap.size vx vy (W.drew.alloc (.cells #[pcval x] 29)) vx vy (pre.length) (pre.length) (pre.flatMap fun x => c34 x.en) (pre.map pcval) from hM0.out.alloc _)
      have hy3 := hid (show (W.drew.alloc (.cells #[pcval x] 29)).heap[W.drew.heap.size]? = some (.cells [pcval x].toArray 29 (0, 0)) from heap_alloc_at rfl)
      have hp4 := hid (show (W.drew.alloc (.cells #[pcval x] 29)).heap[pp]? = some (.cells (c34 x.en).toArray 38 (0, 0)) from heap_alloc_old hp0.out)
      refine bothV 1 6 rfl rfl (by kernel_rfl) (by rfl) (by rfl) (.agg (c34 x.en).toArray) W.drew (by have h := hl1; unfold execOp; simp [Instr.loadAt, Instr.sureAddr, Sem.run_bind, Sem.run_pure, Result.andThen_ok, Act.eval, h]) (fun _ => hSof hM0.out.kept) (.slice (some ⟨W.drew.heap.size, 0, none⟩) 1 1) (W.drew.alloc (.cells #[pcval x] 29)) (by have h := build_bb x.a x.ys.length x.c W.drew; unfold execOp; simp [Act.eval, Act.put, h]) (fun _ => hSof hM2.out.kept) ?_ ?_
      · simp only [Act.put, List.setIfInBounds_toArray, List.set_cons_succ, List.set_cons_zero]
        have hM5 := hid (show MidR W w.heap.size vx vy (W.drew.alloc (.cells (c34 x.en).toArray 38)) vx vy (pre.length) (pre.length) (pre.flatMap fun x => c34 x.en) (pre.map pcval) from hM0.out.alloc _)
        have hx6 := hid (show (W.drew.alloc (.cells (c34 x.en).toArray 38)).heap[W.drew.heap.size]? = some (.cells (c34 x.en).toArray 38 (0, 0)) from heap_alloc_at rfl)
        have hp7 := hid (show (W.drew.alloc (.cells (c34 x.en).toArray 38)).heap[pp]? = some (.cells (c34 x.en).toArray 38 (0, 0)) from heap_alloc_old hp0.out)
        have hM8 := hid (show MidR W w.heap.size vx vy (W.drew.alloc (.cells #[pcval x] 29)) vx vy (pre.length) (pre.length) (pre.flatMap fun x => c34 x.en) (pre.map pcval) from hM0.out.alloc _)
        have hy9 := hid (show (W.drew.alloc (.cells #[pcval x] 29)).heap[W.drew.heap.size]? = some (.cells [pcval x].toArray 29 (0, 0)) from heap_alloc_at rfl)
        have hp10 := hid (show (W.drew.alloc (.cells #[pcval x] 29)).heap[pp]? = some (.cells (c34 x.en).toArray 38 (0, 0)) from heap_alloc_old hp0.out)
        refine bothV 2 6 rfl rfl (by kernel_rfl) (by rfl) (by rfl) (.slice (some ⟨W.drew.heap.size, 0, none⟩) 1 1) (W.drew.alloc (.cells (c34 x.en).toArray 38)) (by have h := hbs.out W.drew; unfold execOp; simp [Act.eval, Act.put, h]) (fun _ => hSof hM5.out.kept) (.slice (some ⟨W.drew.heap.size, 0, none⟩) 1 1) (W.drew.alloc (.cells #[pcval x] 29)) (by have h := build_bb x.a x.ys.length x.c W.drew; unfold execOp; simp [Act.eval, Act.put, h]) (fun _ => hSof hM8.out.kept) ?_ ?_
        · simp only [Act.put, List.setIfInBounds_toArray, List.set_cons_succ, List.set_cons_zero]
          obtain ⟨ux11, U12, hr13, ho14, hg15, -, hn16⟩ := run_append_k (P := Tryd.prog) (W.drew.alloc (.cells (c34 x.en).toArray 38)) 25 25 w.heap.size 38 i0 _ 34 48 Tryd.underlying25 hi0 hz0 hz1 hz2 (by rw [Value.cells, List.size_toArray, zEnC_len]) (by decide) vx pre.length _ hM5.out.rowx _ 1 (c34 x.en) (one_src hx6.out) (by rw [c34_len]) hon.out (by unfold maxLen; omega) (by omega) (by have := hMs hM5.out.kept; omega)
          have hM17 := hid (show MidR W w.heap.size vx vy U12 ux11 vy (pre.length + 1) (pre.length) ((pre ++ [x]).flatMap fun x => c34 x.en) (pre.map pcval) from hM5.out.appx (by rw [List.flatMap_append]; simpa using ho14) hg15 hn16)
          clear ho14 hn16
          have hM18 := hid (show MidR W w.heap.size vx vy ((W.drew.alloc (.cells (c34 x.en).toArray 38)).alloc (.cells #[pcval x] 29)) vx vy (pre.length) (pre.length) (pre.flatMap fun x => c34 x.en) (pre.map pcval) from hM5.out.alloc _)
          have hy19 := hid (show ((W.drew.alloc (.cells (c34 x.en).toArray 38)).alloc (.cells #[pcval x] 29)).heap[(W.drew.alloc (.cells (c34 x.en).toArray 38)).heap.size]? = some (.cells [pcval x].toArray 29 (0, 0)) from heap_alloc_at rfl)
          have hp20 := hid (show ((W.drew.alloc (.cells (c34 x.en).toArray 38)).alloc (.cells #[pcval x] 29)).heap[pp]? = some (.cells (c34 x.en).toArray 38 (0, 0)) from heap_alloc_old hp7.out)
          have hx21 := hid (show ((W.drew.alloc (.cells (c34 x.en).toArray 38)).alloc (.cells #[pcval x] 29)).heap[W.drew.heap.size]? = some (.cells (c34 x.en).toArray 38 (0, 0)) from heap_alloc_old hx6.out)
          refine bothV 3 6 rfl rfl (by kernel_rfl) (by rfl) (by rfl) ux11 U12 (run_app_op (.tmp 20) (.tmp 22) 25 rfl _ _ _ rfl rfl hr13) (fun _ => hSof hM17.out.kept) (.slice (some ⟨(W.drew.alloc (.cells (c34 x.en).toArray 38)).heap.size, 0, none⟩) 1 1) ((W.drew.alloc (.cells (c34 x.en).toArray 38)).alloc (.cells #[pcval x] 29)) (by have h := build_bb x.a x.ys.length x.c (W.drew.alloc (.cells (c34 x.en).toArray 38)); unfold execOp; simp [Act.eval, Act.put, h]) (fun _ => hSof hM18.out.kept) ?_ ?_
          · simp only [Act.put, List.setIfInBounds_toArray, List.set_cons_succ, List.set_cons_zero]
            have hM22 := hid (show MidR W w.heap.size vx vy (U12.alloc (.cells #[pcval x] 29)) ux11 vy (pre.length + 1) (pre.length) ((pre ++ [x]).flatMap fun x => c34 x.en) (pre.map pcval) from hM17.out.alloc _)
            have hy23 := hid (show (U12.alloc (.cells #[pcval x] 29)).heap[U12.heap.size]? = some (.cells [pcval x].toArray 29 (0, 0)) from heap_alloc_at rfl)
            refine runV 6 rfl (by kernel_rfl) (by rfl) (.slice (some ⟨U12.heap.size, 0, none⟩) 1 1) (U12.alloc (.cells #[pcval x] 29)) (by have h := build_bb x.a x.ys.length x.c U12; unfold execOp; simp [Act.eval, Act.put, h]) (fun _ => hSof hM22.out.kept) ?_
            simp only [Act.put, List.setIfInBounds_toArray, List.set_cons_succ, List.set_cons_zero]
            obtain ⟨uy24, U25, hr26, ho27, hg28, -, hn29⟩ := run_append_k (P := Tryd.prog) (U12.alloc (.cells #[pcval x] 29)) 22 22 w.heap.size 29 j0 _ 1 24 Tryd.underlying22 hj0 hy0 hy1 hy2 rfl (by decide) vy pre.length _ hM22.out.rowy _ 1 [pcval x] (one_src hy23.out) rfl (by simp [Value.oneCell']) (by unfold maxLen; omega) (by omega) (by have := hMs hM22.out.kept; omega)
            have hM30 := hid (show MidR W w.heap.size vx vy U25 ux11 uy24 (pre.length + 1) (pre.length + 1) ((pre ++ [x]).flatMap fun x => c34 x.en) ((pre ++ [x]).map pcval) from hM22.out.appy (by rw [List.map_append]; simpa using ho27) hg28 hn29)
            clear ho27 hn29
            refine runV 7 rfl (by kernel_rfl) (by rfl) uy24 U25 (run_app_op (.tmp 24) (.tmp 26) 22 rfl _ _ _ rfl rfl hr26) (fun _ => hSof hM30.out.kept) ?_
            simp only [Act.put, List.setIfInBounds_toArray, List.set_cons_succ, List.set_cons_zero]
            have c1 := cell_of_one (hcx hM30.out.kept)
            have f1 := free_of_one (hcx hM30.out.kept)
            obtain ⟨ax, cx2, rfl⟩ := owns_slice hM30.out.rowx
            obtain ⟨ay, cy2, rfl⟩ := owns_slice hM30.out.rowy
            refine writeV 8 rfl (by kernel_rfl) (by rfl) (U25.setCell ⟨w.heap.size + 1 + 1 + 1 + 1 + 1, 0, none⟩ (.slice ax (pre.length + 1) cx2)) (by go_simp) (fun h => absurd (by simp) h) ?_
            simp only [Act.put, List.setIfInBounds_toArray, List.set_cons_succ, List.set_cons_zero]
            have hcy2 := heap_setCell_other (p := ⟨w.heap.size + 1 + 1 + 1 + 1 + 1, 0, none⟩) (u := .slice ax (pre.length + 1) cx2) (hcy hM30.out.kept) (by simp)
            have c2 := cell_of_one hcy2
            have f2 := free_of_one hcy2
            refine writeV 9 rfl (by kernel_rfl) (by rfl) ((U25.setCell ⟨w.heap.size + 1 + 1 + 1 + 1 + 1, 0, none⟩ (.slice ax (pre.length + 1) cx2)).setCell ⟨w.heap.size + 1 + 1 + 1 + 1 + 1 + 1, 0, none⟩ (.slice ay (pre.length + 1) cy2)) (by go_simp) (fun h => absurd (by simp) h) ?_
            simp only [Act.put, List.setIfInBounds_toArray, List.set_cons_succ, List.set_cons_zero]
            exact doneV (by kernel_rfl) ⟨_, _, _, _, rfl, _, hM30, rfl⟩ _
          · simp only [Act.put, List.setIfInBounds_toArray, List.set_cons_succ, List.set_cons_zero]
            obtain ⟨ux31, U32, hr33, ho34, hg35, -, hn36⟩ := run_append_k (P := Tryd.prog) ((W.drew.alloc (.cells (c34 x.en).toArray 38)).alloc (.cells #[pcval x] 29)) 25 25 w.heap.size 38 i0 _ 34 48 Tryd.underlying25 hi0 hz0 hz1 hz2 (by rw [Value.cells, List.size_toArray, zEnC_len]) (by decide) vx pre.length _ hM18.out.rowx _ 1 (c34 x.en) (one_src hx21.out) (by rw [c34_len]) hon.out (by unfold maxLen; omega) (by omega) (by have := hMs hM18.out.kept; omega)
            have hM37 := hid (show MidR W w.heap.size vx vy U32 ux31 vy (pre.length + 1) (pre.length) ((pre ++ [x]).flatMap fun x => c34 x.en) (pre.map pcval) from hM18.out.appx (by rw [List.flatMap_append]; simpa using ho34) hg35 hn36)
            have hy38 := hid (show U32.heap[(W.drew.alloc (.cells (c34 x.en).toArray 38)).heap.size]? = some (.cells [pcval x].toArray 29 (0, 0)) from heap_grown hg35 hy19.out (cell_far hM18.out.rowx hy19.out (by decide)))
            clear ho34 hn36
            refine runV 3 rfl (by kernel_rfl) (by rfl) ux31 U32 (run_app_op (.tmp 20) (.tmp 22) 25 rfl _ _ _ rfl rfl hr33) (fun _ => hSof hM37.out.kept) ?_
            simp only [Act.put, List.setIfInBounds_toArray, List.set_cons_succ, List.set_cons_zero]
            obtain ⟨uy39, U40, hr41, ho42, hg43, -, hn44⟩ := run_append_k (P := Tryd.prog) U32 22 22 w.heap.size 29 j0 _ 1 24 Tryd.underlying22 hj0 hy0 hy1 hy2 rfl (by decide) vy pre.length _ hM37.out.rowy _ 1 [pcval x] (one_src hy38.out) rfl (by simp [Value.oneCell']) (by unfold maxLen; omega) (by omega) (by have := hMs hM37.out.kept; omega)
            have hM45 := hid (show MidR W w.heap.size vx vy U40 ux31 uy39 (pre.length + 1) (pre.length + 1) ((pre ++ [x]).flatMap fun x => c34 x.en) ((pre ++ [x]).map pcval) from hM37.out.appy (by rw [List.map_append]; simpa using ho42) hg43 hn44)
            clear ho42 hn44
            refine runV 7 rfl (by kernel_rfl) (by rfl) uy39 U40 (run_app_op (.tmp 24) (.tmp 26) 22 rfl _ _ _ rfl rfl hr41) (fun _ => hSof hM45.out.kept) ?_
            simp only [Act.put, List.setIfInBounds_toArray, List.set_cons_succ, List.set_cons_zero]
            have c1 := cell_of_one (hcx hM45.out.kept)
            have f1 := free_of_one (hcx hM45.out.kept)
            obtain ⟨ax, cx2, rfl⟩ := owns_slice hM45.out.rowx
            obtain ⟨ay, cy2, rfl⟩ := owns_slice hM45.out.rowy
            refine writeV 8 rfl (by kernel_rfl) (by rfl) (U40.setCell ⟨w.heap.size + 1 + 1 + 1 + 1 + 1, 0, none⟩ (.slice ax (pre.length + 1) cx2)) (by go_simp) (fun h => absurd (by simp) h) ?_
            simp only [Act.put, List.setIfInBounds_toArray, List.set_cons_succ, List.set_cons_zero]
            have hcy2 := heap_setCell_other (p := ⟨w.heap.size + 1 + 1 + 1 + 1 + 1, 0, none⟩) (u := .slice ax (pre.length + 1) cx2) (hcy hM45.out.kept) (by simp)
            have c2 := cell_of_one hcy2
            have f2 := free_of_one hcy2
            refine writeV 9 rfl (by kernel_rfl) (by rfl) ((U40.setCell ⟨w.heap.size + 1 + 1 + 1 + 1 + 1, 0, none⟩ (.slice ax (pre.length + 1) cx2)).setCell ⟨w.heap.size + 1 + 1 + 1 + 1 + 1 + 1, 0, none⟩ (.slice ay (pre.length + 1) cy2)) (by go_simp) (fun h => absurd (by simp) h) ?_
            simp only [Act.put, List.setIfInBounds_toArray, List.set_cons_succ, List.set_cons_zero]
            exact doneV (by kernel_rfl) ⟨_, _, _, _, rfl, _, hM45, rfl⟩ _
        · simp only [Act.put, List.setIfInBounds_toArray, List.set_cons_succ, List.set_cons_zero]
          have hM46 := hid (show MidR W w.heap.size vx vy ((W.drew.alloc (.cells #[pcval x] 29)).alloc (.cells (c34 x.en).toArray 38)) vx vy (pre.length) (pre.length) (pre.flatMap fun x => c34 x.en) (pre.map pcval) from hM8.out.alloc _)
          have hx47 := hid (show ((W.drew.alloc (.cells #[pcval x] 29)).alloc (.cells (c34 x.en).toArray 38)).heap[(W.drew.alloc (.cells #[pcval x] 29)).heap.size]? = some (.cells (c34 x.en).toArray 38 (0, 0)) from heap_alloc_at rfl)
          have hp48 := hid (show ((W.drew.alloc (.cells #[pcval x] 29)).alloc (.cells (c34 x.en).toArray 38)).heap[pp]? = some (.cells (c34 x.en).toArray 38 (0, 0)) from heap_alloc_old hp10.out)
          have hy49 := hid (show ((W.drew.alloc (.cells #[pcval x] 29)).alloc (.cells (c34 x.en).toArray 38)).heap[W.drew.heap.size]? = some (.cells [pcval x].toArray 29 (0, 0)) from heap_alloc_old hy9.out)
          refine runV 2 rfl (by kernel_rfl) (by rfl) (.slice (some ⟨(W.drew.alloc (.cells #[pcval x] 29)).heap.size, 0, none⟩) 1 1) ((W.drew.alloc (.cells #[pcval x] 29)).alloc (.cells (c34 x.en).toArray 38)) (by have h := hbs.out (W.drew.alloc (.cells #[pcval x] 29)); unfold execOp; simp [Act.eval, Act.put, h]) (fun _ => hSof hM46.out.kept) ?_
          simp only [Act.put, List.setIfInBounds_toArray, List.set_cons_succ, List.set_cons_zero]
          obtain ⟨ux50, U51, hr52, ho53, hg54, -, hn55⟩ := run_append_k (P := Tryd.prog) ((W.drew.alloc (.cells #[pcval x] 29)).alloc (.cells (c34 x.en).toArray 38)) 25 25 w.heap.size 38 i0 _ 34 48 Tryd.underlying25 hi0 hz0 hz1 hz2 (by rw [Value.cells, List.size_toArray, zEnC_len]) (by decide) vx pre.length _ hM46.out.rowx _ 1 (c34 x.en) (one_src hx47.out) (by rw [c34_len]) hon.out (by unfold maxLen; omega) (by omega) (by have := hMs hM46.out.kept; omega)
          have hM56 := hid (show MidR W w.heap.size vx vy U51 ux50 vy (pre.length + 1) (pre.length) ((pre ++ [x]).flatMap fun x => c34 x.en) (pre.map pcval) from hM46.out.appx (by rw [List.flatMap_append]; simpa using ho53) hg54 hn55)
          have hy57 := hid (show U51.heap[W.drew.heap.size]? = some (.cells [pcval x].toArray 29 (0, 0)) from heap_grown hg54 hy49.out (cell_far hM46.out.rowx hy49.out (by decide)))
          clear ho53 hn55
          refine runV 3 rfl (by kernel_rfl) (by rfl) ux50 U51 (run_app_op (.tmp 20) (.tmp 22) 25 rfl _ _ _ rfl rfl hr52) (fun _ => hSof hM56.out.kept) ?_
          simp only [Act.put, List.setIfInBounds_toArray, List.set_cons_succ, List.set_cons_zero]
          obtain ⟨uy58, U59, hr60, ho61, hg62, -, hn63⟩ := run_append_k (P := Tryd.prog) U51 22 22 w.heap.size 29 j0 _ 1 24 Tryd.underlying22 hj0 hy0 hy1 hy2 rfl (by decide) vy pre.length _ hM56.out.rowy _ 1 [pcval x] (one_src hy57.out) rfl (by simp [Value.oneCell']) (by unfold maxLen; omega) (by omega) (by have := hMs hM56.out.kept; omega)
          have hM64 := hid (show MidR W w.heap.size vx vy U59 ux50 uy58 (pre.length + 1) (pre.length + 1) ((pre ++ [x]).flatMap fun x => c34 x.en) ((pre ++ [x]).map pcval) from hM56.out.appy (by rw [List.map_append]; simpa using ho61) hg62 hn63)
          clear ho61 hn63
          refine runV 7 rfl (by kernel_rfl) (by rfl) uy58 U59 (run_app_op (.tmp 24) (.tmp 26) 22 rfl _ _ _ rfl rfl hr60) (fun _ => hSof hM64.out.kept) ?_
          simp only [Act.put, List.setIfInBounds_toArray, List.set_cons_succ, List.set_cons_zero]
          have c1 := cell_of_one (hcx hM64.out.kept)
          have f1 := free_of_one (hcx hM64.out.kept)
          obtain ⟨ax, cx2, rfl⟩ := owns_slice hM64.out.rowx
          obtain ⟨ay, cy2, rfl⟩ := owns_slice hM64.out.rowy
          refine writeV 8 rfl (by kernel_rfl) (by rfl) (U59.setCell ⟨w.heap.size + 1 + 1 + 1 + 1 + 1, 0, none⟩ (.slice ax (pre.length + 1) cx2)) (by go_simp) (fun h => absurd (by simp) h) ?_
          simp only [Act.put, List.setIfInBounds_toArray, List.set_cons_succ, List.set_cons_zero]
          have hcy2 := heap_setCell_other (p := ⟨w.heap.size + 1 + 1 + 1 + 1 + 1, 0, none⟩) (u := .slice ax (pre.length + 1) cx2) (hcy hM64.out.kept) (by simp)
          have c2 := cell_of_one hcy2
          have f2 := free_of_one hcy2
          refine writeV 9 rfl (by kernel_rfl) (by rfl) ((U59.setCell ⟨w.heap.size + 1 + 1 + 1 + 1 + 1, 0, none⟩ (.slice ax (pre.length + 1) cx2)).setCell ⟨w.heap.size + 1 + 1 + 1 + 1 + 1 + 1, 0, none⟩ (.slice ay (pre.length + 1) cy2)) (by go_simp) (fun h => absurd (by simp) h) ?_
          simp only [Act.put, List.setIfInBounds_toArray, List.set_cons_succ, List.set_cons_zero]
          exact doneV (by kernel_rfl) ⟨_, _, _, _, rfl, _, hM64, rfl⟩ _
      · simp only [Act.put, List.setIfInBounds_toArray, List.set_cons_succ, List.set_cons_zero]
        have hl65 := run_ld_en hp4.out (c34_len x.en)
        refine runV 1 rfl (by kernel_rfl) (by rfl) (.agg (c34 x.en).toArray) (W.drew.alloc (.cells #[pcval x] 29)) (by have h := hl65; unfold execOp; simp [Instr.loadAt, Instr.sureAddr, Sem.run_bind, Sem.run_pure, Result.andThen_ok, Act.eval, h]) (fun _ => hSof hM2.out.kept) ?_
        simp only [Act.put, List.setIfInBounds_toArray, List.set_cons_succ, List.set_cons_zero]
        have hM66 := hid (show MidR W w.heap.size vx vy ((W.drew.alloc (.cells #[pcval x] 29)).alloc (.cells (c34 x.en).toArray 38)) vx vy (pre.length) (pre.length) (pre.flatMap fun x => c34 x.en) (pre.map pcval) from hM2.out.alloc _)
        have hx67 := hid (show ((W.drew.alloc (.cells #[pcval x] 29)).alloc (.cells (c34 x.en).toArray 38)).heap[(W.drew.alloc (.cells #[pcval x] 29)).heap.size]? = some (.cells (c34 x.en).toArray 38 (0, 0)) from heap_alloc_at rfl)
        have hp68 := hid (show ((W.drew.alloc (.cells #[pcval x] 29)).alloc (.cells (c34 x.en).toArray 38)).heap[pp]? = some (.cells (c34 x.en).toArray 38 (0, 0)) from heap_alloc_old hp4.out)
        have hy69 := hid (show ((W.drew.alloc (.cells #[pcval x] 29)).alloc (.cells (c34 x.en).toArray 38)).heap[W.drew.heap.size]? = some (.cells [pcval x].toArray 29 (0, 0)) from heap_alloc_old hy3.out)
        refine runV 2 rfl (by kernel_rfl) (by rfl) (.slice (some ⟨(W.drew.alloc (.cells #[pcval x] 29)).heap.size, 0, none⟩) 1 1) ((W.drew.alloc (.cells #[pcval x] 29)).alloc (.cells (c34 x.en).toArray 38)) (by have h := hbs.out (W.drew.alloc (.cells #[pcval x] 29)); unfold execOp; simp [Act.eval, Act.put, h]) (fun _ => hSof hM66.out.kept) ?_
        simp only [Act.put, List.setIfInBounds_toArray, List.set_cons_succ, List.set_cons_zero]
        obtain ⟨ux70, U71, hr72, ho73, hg74, -, hn75⟩ := run_append_k (P := Tryd.prog) ((W.drew.alloc (.cells #[pcval x] 29)).alloc (.cells (c34 x.en).toArray 38)) 25 25 w.heap.size 38 i0 _ 34 48 Tryd.underlying25 hi0 hz0 hz1 hz2 (by rw [Value.cells, List.size_toArray, zEnC_len]) (by decide) vx pre.length _ hM66.out.rowx _ 1 (c34 x.en) (one_src hx67.out) (by rw [c34_len]) hon.out (by unfold maxLen; omega) (by omega) (by have := hMs hM66.out.kept; omega)
        have hM76 := hid (show MidR W w.heap.size vx vy U71 ux70 vy (pre.length + 1) (pre.length) ((pre ++ [x]).flatMap fun x => c34 x.en) (pre.map pcval) from hM66.out.appx (by rw [List.flatMap_append]; simpa using ho73) hg74 hn75)
        have hy77 := hid (show U71.heap[W.drew.heap.size]? = some (.cells [pcval x].toArray 29 (0, 0)) from heap_grown hg74 hy69.out (cell_far hM66.out.rowx hy69.out (by decide)))
        clear ho73 hn75
        refine runV 3 rfl (by kernel_rfl) (by rfl) ux70 U71 (run_app_op (.tmp 20) (.tmp 22) 25 rfl _ _ _ rfl rfl hr72) (fun _ => hSof hM76.out.kept) ?_
        simp only [Act.put, List.setIfInBounds_toArray, List.set_cons_succ, List.set_cons_zero]
        obtain ⟨uy78, U79, hr80, ho81, hg82, -, hn83⟩ := run_append_k (P := Tryd.prog) U71 22 22 w.heap.size 29 j0 _ 1 24 Tryd.underlying22 hj0 hy0 hy1 hy2 rfl (by decide) vy pre.length _ hM76.out.rowy _ 1 [pcval x] (one_src hy77.out) rfl (by simp [Value.oneCell']) (by unfold maxLen; omega) (by omega) (by have := hMs hM76.out.kept; omega)
        have hM84 := hid (show MidR W w.heap.size vx vy U79 ux70 uy78 (pre.length + 1) (pre.length + 1) ((pre ++ [x]).flatMap fun x => c34 x.en) ((pre ++ [x]).map pcval) from hM76.out.appy (by rw [List.map_append]; simpa using ho81) hg82 hn83)
        clear ho81 hn83
        refine runV 7 rfl (by kernel_rfl) (by rfl) uy78 U79 (run_app_op (.tmp 24) (.tmp 26) 22 rfl _ _ _ rfl rfl hr80) (fun _ => hSof hM84.out.kept) ?_
        simp only [Act.put, List.setIfInBounds_toArray, List.set_cons_succ, List.set_cons_zero]
        have c1 := cell_of_one (hcx hM84.out.kept)
        have f1 := free_of_one (hcx hM84.out.kept)
        obtain ⟨ax, cx2, rfl⟩ := owns_slice hM84.out.rowx
        obtain ⟨ay, cy2, rfl⟩ := owns_slice hM84.out.rowy
        refine writeV 8 rfl (by kernel_rfl) (by rfl) (U79.setCell ⟨w.heap.size + 1 + 1 + 1 + 1 + 1, 0, none⟩ (.slice ax (pre.length + 1) cx2)) (by go_simp) (fun h => absurd (by simp) h) ?_
        simp only [Act.put, List.setIfInBounds_toArray, List.set_cons_succ, List.set_cons_zero]
        have hcy2 := heap_setCell_other (p := ⟨w.heap.size + 1 + 1 + 1 + 1 + 1, 0, none⟩) (u := .slice ax (pre.length + 1) cx2) (hcy hM84.out.kept) (by simp)
        have c2 := cell_of_one hcy2
        have f2 := free_of_one hcy2
        refine writeV 9 rfl (by kernel_rfl) (by rfl) ((U79.setCell ⟨w.heap.size + 1 + 1 + 1 + 1 + 1, 0, none⟩ (.slice ax (pre.length + 1) cx2)).setCell ⟨w.heap.size + 1 + 1 + 1 + 1 + 1 + 1, 0, none⟩ (.slice ay (pre.length + 1) cy2)) (by go_simp) (fun h => absurd (by simp) h) ?_
        simp only [Act.put, List.setIfInBounds_toArray, List.set_cons_succ, List.set_cons_zero]
        exact doneV (by kernel_rfl) ⟨_, _, _, _, rfl, _, hM84, rfl⟩ _
    case rest =>
      rintro a' w' ⟨vx', vy', z1, z2, rfl, v, hv, hw'⟩
      have c5 := hcx hv.out.kept
      have c6 := hcy hv.out.kept
      obtain ⟨ax, ca, rfl⟩ := owns_slice hv.out.rowx
      obtain ⟨ay, cb, rfl⟩ := owns_slice hv.out.rowy
      have hk2 := hid (show Kept [w.heap.size + 5, w.heap.size + 6] v w' from hw' ▸ ((Kept.refl _ v).setCell (p := ⟨w.heap.size + 5, 0, none⟩) (fun _ => by simp) _).setCell (p := ⟨w.heap.size + 6, 0, none⟩) (fun _ => by simp) _)
      have hc5 := hid (show w'.heap[w.heap.size + 5]? = some (.cells #[.slice ax (pre.length + 1) ca] 25 (0, 0)) from hw' ▸ heap_setCell_other (one_setCell c5) (by simp))
      have hc6 := hid (show w'.heap[w.heap.size + 6]? = some (.cells #[.slice ay (pre.length + 1) cb] 22 (0, 0)) from hw' ▸ one_setCell (heap_setCell_other c6 (by simp)))
      have HV := hid hv.out
      have hkv := hid hv.out.kept
      have hR' : AllR w' w.heap.size w1.heap.size most (.slice ax (pre.length + 1) ca) (.slice ay (pre.length + 1) cb) (pre ++ [x]) := by
        have e5 : ∀ k, w.heap.size ≤ k → k ≤ w.heap.size + 2 → k ∉ vx.ownBlock.toList ++ vy.ownBlock.toList := fun k h1 h2 hm => by
          simp at hm
          rcases hm with e | e
          · rcases HR.out.ownx _ e with e | e <;> omega
          · rcases HR.out.owny _ e with e | e <;> omega
        have hrx := hk2.out.owns HV.out.rowx (fun g hg hm => by
          rcases HV.out.newx g hg with e | e
          · rcases HR.out.ownx _ e with e | e <;> (simp at hm; omega)
          · simp at hm; omega)
        have hry := hk2.out.owns HV.out.rowy (fun g hg hm => by
          rcases HV.out.newy g hg with e | e
          · rcases HR.out.owny _ e with e | e <;> (simp at hm; omega)
          · simp at hm; omega)
        refine ⟨hk2.out.at (hkv.out.at HR.out.most_ (e5 _ (by omega) (by omega))) (by simp), hk2.out.at (hkv.out.at HR.out.resx (e5 _ (by omega) (by omega))) (by simp), hk2.out.at (hkv.out.at HR.out.resy (e5 _ (by omega) (by omega))) (by simp), hc5.out, hc6.out,
          by rw [List.length_append]; exact hrx, by rw [List.length_append]; exact hry, fun g hg => ?_, fun g hg => ?_, fun z hz => ⟨hk2.out.owns (hkv.out.owns (base := w.heap.size) ?_ (fun g hg hm => ?_)) (fun g hg hm => ?_), ?_⟩⟩
        · rcases HV.out.newx g hg with e | e
          · exact HR.out.ownx _ e
          · right; omega
        · rcases HV.out.newy g hg with e | e
          · exact HR.out.owny _ e
          · right; omega
        · rcases List.mem_append.1 hz with hz | hz
          · exact (HR.out.ps z hz).1
          · simp at hz; subst hz; exact owns_lower Hft.out.1 (by omega)
        · have hz2 : W.ownsRow w.heap.size 5 1 (.slice z.a z.ys.length z.c) z.ys.length (z.ys.map B) := by
            rcases List.mem_append.1 hz with hz | hz
            · exact (HR.out.ps z hz).1
            · simp at hz; subst hz; exact owns_lower Hft.out.1 (by omega)
          rcases List.mem_append.1 hm with hm | hm
          · exact owns_far hz2 HR.out.rowx (by decide) hg hm
          · exact owns_far hz2 HR.out.rowy (by decide) hg hm
        · have hgl : w1.heap.size + 2 < g := by
            rcases List.mem_append.1 hz with hz | hz
            · cases hza : z.a with
              | none => rw [hza] at hg; simp [Value.ownBlock] at hg
              | some y => rw [hza] at hg; simp [Value.ownBlock] at hg; have := (HR.out.ps z hz).2 y hza; omega
            · simp at hz; subst hz; exact (Hft.out.1.lt g hg).1
          simp at hm; omega
        · intro y hy
          rcases List.mem_append.1 hz with hz | hz
          · exact (HR.out.ps z hz).2 y hy
          · simp at hz; subst hz; exact (Hft.out.1.lt y.block (by rw [hy]; rfl)).1
      have HR' := hid hR'
      have hkeep := hid (show Keep (fun k => ANeed b3 b4 la oa k ∨ k = w1.heap.size ∨ k = w1.heap.size + 1 ∨ k = w1.heap.size + 2) W w' from
        (hkv.out.keep (fun k _ hk hm => by
          simp at hm
          have hb : k ≤ w1.heap.size + 2 ∧ k ≠ w.heap.size + 3 ∧ k ≠ w.heap.size + 4 := by
            rcases hk with hk | hk
            · have := hneed.out k hk; omega
            · omega
          rcases hm with e | e
          · rcases HR.out.ownx _ e with e | e <;> omega
          · rcases HR.out.owny _ e with e | e <;> omega)).trans (hk2.out.keep (fun k _ hk => by
          rcases hk with hk | hk
          · have := hneed.out k hk; simp; omega
          · simp; omega)))
      have Hk2 := hid (show Kept [] w w' from (Hk0.out.trans' hkv.out (fun k hl hm => by
        simp at hm
        rcases hm with e | e
        · rcases HR.out.ownx _ e with e | e <;> omega
        · rcases HR.out.owny _ e with e | e <;> omega)).trans' hk2.out (fun k hl hm => by simp at hm; omega))
      have cx' : w'.cell? ⟨w.heap.size + 1 + 1 + 1 + 1 + 1, 0, none⟩ = some (.slice ax (pre.length + 1) ca) := cell_of_one hc5.out
      have cm' : w'.cell? ⟨w.heap.size, 0, none⟩ = some (.int .i64 (most : Int)) := cell_of_one HR'.out.most_
      have hne : ((pre.length : Int) + 1 == (most : Int)) = false := by simp; omega
      have hplen := hid hlen
      clear hv hw' hR' c5 c6
      gi_wp2
      exact ⟨hkeep.out, by simp; omega, Hk2.out, _, _, HR'.out⟩
  case done =>
    rintro ps W hZ ⟨hlt, hk0, vx, vy, hR⟩ hK
    obtain ⟨ax, ca, rfl⟩ := owns_slice hR.rowx
    obtain ⟨ay, cb, rfl⟩ := owns_slice hR.rowy
    have cx := cell_of_one hR.cx
    have cy := cell_of_one hR.cy
    have r1 : W.cell? ⟨w.heap.size + 1, 0, none⟩ = some (.slice none 0 0) := cell_of_one hR.resx
    have q1 : W.frozen? ⟨w.heap.size + 1, 0, none⟩ = false := free_of_one hR.resx
    have r2 : W.cell? ⟨w.heap.size + 1 + 1, 0, none⟩ = some (.slice none 0 0) := cell_of_one hR.resy
    have q2 : W.frozen? ⟨w.heap.size + 1 + 1, 0, none⟩ = false := free_of_one hR.resy
    have HR := hid hR; have HZ := hid hZ; have Hk0 := hid hk0
    clear hR hZ hk0
    gi_wp2
    refine wpIn_region_V (fun v => v.cell? ⟨w.heap.size + 1 + 1 + 1 + 1 + 1, 0, none⟩ = some (.slice ax ps.length ca) ∧ v.cell? ⟨w.heap.size + 1 + 1 + 1 + 1 + 1 + 1, 0, none⟩ = some (.slice ay ps.length cb)) []
      (fun a' w' => a'.defers = [{ target := Target.collected w1.heap.size, args := #[] }] ∧ a'.tmps[4]?.getD undef = .pointer (some ⟨w.heap.size + 1, 0, none⟩) ∧ a'.tmps[5]?.getD undef = .pointer (some ⟨w.heap.size + 1 + 1, 0, none⟩) ∧ w' = (W.drew.setCell ⟨w.heap.size + 1, 0, none⟩ (.slice ax ps.length ca)).setCell ⟨w.heap.size + 1 + 1, 0, none⟩ (.slice ay ps.length cb)) (by kernel_rfl) ?plain2 ?rest2 ?region2
    case plain2 =>
      intro o ho
      simp only [List.mem_cons, List.not_mem_nil, or_false] at ho
      rcases ho with rfl | rfl | rfl | rfl <;> exact ⟨fun ρ => Oper.semAt_plain _ _ _ (by intro c hc; cases hc), fun w ρ => by simp [Oper.about, resolve, Target.leads, Sem.run_pure]⟩
    case region2 =>
      refine takeV 0 (.slice ax ps.length ca) rfl (by kernel_rfl) (by kernel_rfl) (by kernel_rfl) (by kernel_rfl) (by kernel_rfl) (by decide) (by rfl) (fun v hv => by have h := hv.1; go_simp) ⟨cx, cy⟩ ?_
      simp only [Act.put, List.setIfInBounds_toArray, List.set_cons_succ, List.set_cons_zero]
      refine takeV 1 (.slice ay ps.length cb) rfl (by kernel_rfl) (by kernel_rfl) (by kernel_rfl) (by kernel_rfl) (by kernel_rfl) (by decide) (by rfl) (fun v hv => by have h := hv.2; go_simp) ⟨cx, cy⟩ ?_
      simp only [Act.put, List.setIfInBounds_toArray, List.set_cons_succ, List.set_cons_zero]
      have r1' : W.drew.cell? ⟨w.heap.size + 1, 0, none⟩ = some (.slice none 0 0) := r1
      have q1' : W.drew.frozen? ⟨w.heap.size + 1, 0, none⟩ = false := q1
      have k1 := (Kept.refl [w.heap.size + 1] W.drew).setCell (p := ⟨w.heap.size + 1, 0, none⟩) (fun _ => by simp) (.slice ax ps.length ca)
      refine writeV 2 rfl (by kernel_rfl) (by rfl) (W.drew.setCell ⟨w.heap.size + 1, 0, none⟩ (.slice ax ps.length ca)) (by go_simp) (fun _ => ⟨cell_of_one (k1.at (show W.drew.heap[w.heap.size + 1 + 1 + 1 + 1 + 1]? = _ from HR.out.cx) (by simp; omega)), cell_of_one (k1.at (show W.drew.heap[w.heap.size + 1 + 1 + 1 + 1 + 1 + 1]? = _ from HR.out.cy) (by simp; omega))⟩) ?_
      simp only [Act.put, List.setIfInBounds_toArray, List.set_cons_succ, List.set_cons_zero]
      have hb2 := k1.at (show W.drew.heap[w.heap.size + 1 + 1]? = _ from HR.out.resy) (by simp)
      have r2' := cell_of_one hb2
      have q2' := free_of_one hb2
      have k2 := ((Kept.refl [w.heap.size + 1, w.heap.size + 1 + 1] W.drew).setCell (p := ⟨w.heap.size + 1, 0, none⟩) (fun _ => by simp) (.slice ax ps.length ca)).setCell (p := ⟨w.heap.size + 1 + 1, 0, none⟩) (fun _ => by simp) (.slice ay ps.length cb)
      refine writeV 3 rfl (by kernel_rfl) (by rfl) ((W.drew.setCell ⟨w.heap.size + 1, 0, none⟩ (.slice ax ps.length ca)).setCell ⟨w.heap.size + 1 + 1, 0, none⟩ (.slice ay ps.length cb)) (by go_simp) (fun _ => ⟨cell_of_one (k2.at (show W.drew.heap[w.heap.size + 1 + 1 + 1 + 1 + 1]? = _ from HR.out.cx) (by simp; omega)), cell_of_one (k2.at (show W.drew.heap[w.heap.size + 1 + 1 + 1 + 1 + 1 + 1]? = _ from HR.out.cy) (by simp; omega))⟩) ?_
      simp only [Act.put, List.setIfInBounds_toArray, List.set_cons_succ, List.set_cons_zero]
      exact doneV (by kernel_rfl) ⟨rfl, rfl, rfl, rfl⟩ _
    case rest2 =>
      rintro a' w' ⟨hd', ht4, ht5, hw'⟩
      have hk4 : Kept [w.heap.size + 1, w.heap.size + 2] W w' := hw' ▸ (((Kept.refl _ W).drew).setCell (p := ⟨w.heap.size + 1, 0, none⟩) (fun _ => by simp) _).setCell (p := ⟨w.heap.size + 2, 0, none⟩) (fun _ => by simp) _
      have e1 : w'.heap[w.heap.size + 1]? = some (.cells #[.slice ax ps.length ca] 25 (0, 0)) := hw' ▸ heap_setCell_other (one_setCell (show W.drew.heap[w.heap.size + 1]? = _ from HR.out.resx)) (by simp)
      have e2 : w'.heap[w.heap.size + 2]? = some (.cells #[.slice ay ps.length cb] 22 (0, 0)) := hw' ▸ one_setCell (heap_setCell_other (show W.drew.heap[w.heap.size + 1 + 1]? = _ from HR.out.resy) (by simp))
      have hK2 := hk4.at hK (by simp; omega)
      obtain ⟨tm, df⟩ := a'
      dsimp only at hd' ht4 ht5
      subst hd'
      clear hw'
      gi_wp2
      refine ⟨by simp, .inl ⟨_, _, rfl, run_takeDeferred hK2, ?_⟩⟩
      have hkd := kept_putObj w' w1.heap.size (.deferred none)
      have e3 := cell_of_one (hkd.at e1 (by simp; omega))
      have e4 : (w'.putObj w1.heap.size (.deferred none)).cell? ⟨w.heap.size + 1 + 1, 0, none⟩ = some (.slice ay ps.length cb) := cell_of_one (hkd.at e2 (by simp; omega))
      have hno : ∀ k, (k = w.heap.size + 1 ∨ k = w.heap.size + 2 ∨ k = w1.heap.size) → k ∉ (Value.slice ax ps.length ca).ownBlock.toList ∧ k ∉ (Value.slice ay ps.length cb).ownBlock.toList := fun k hk => ⟨fun hm => by
        simp at hm
        rcases HR.out.ownx _ hm with e | e <;> omega, fun hm => by
        simp at hm
        rcases HR.out.owny _ hm with e | e <;> omega⟩
      refine ⟨.tuple #[.slice ax ps.length ca, .slice ay ps.length cb], ?_, _, _, ps, rfl, (Hk0.out.trans' hk4 (fun x hx hm => by simp at hm; omega)).trans' hkd (fun x hx hm => by simp at hm; omega), HZ.out, hkd.owns (hk4.owns HR.out.rowx (fun g hg hm => ?_)) (fun g hg hm => ?_), hkd.owns (hk4.owns HR.out.rowy (fun g hg hm => ?_)) (fun g hg hm => ?_), fun x hx => hkd.owns (hk4.owns (HR.out.ps x hx).1 (fun g hg hm => ?_)) (fun g hg hm => ?_)⟩
      · simp [results, Tryd.f18, go_sem, ht4, ht5, e3, e4]
      · exact (hno g (by simp at hm; omega)).1 (by simp [hg])
      · exact (hno g (by simp at hm; omega)).1 (by simp [hg])
      · exact (hno g (by simp at hm; omega)).2 (by simp [hg])
      · exact (hno g (by simp at hm; omega)).2 (by simp [hg])
      · have hgl : w1.heap.size + 2 < g := by
          cases hza : x.a with
          | none => rw [hza] at hg; simp [Value.ownBlock] at hg
          | some y => rw [hza] at hg; simp [Value.ownBlock] at hg; have := (HR.out.ps x hx).2 y hza; omega
        simp at hm; omega
      · have hgl : w1.heap.size + 2 < g := by
          cases hza : x.a with
          | none => rw [hza] at hg; simp [Value.ownBlock] at hg
          | some y => rw [hza] at hg; simp [Value.ownBlock] at hg; have := (HR.out.ps x hx).2 y hza; omega
        simp at hm; omega
end Go.Proofs.YtembincggkpflaaDoor


/- Places held against each other. -/
namespace Go.Proofs.YtembincggkpflaaDoor
open Go.RowKit Go.Lib Go.Maps

theorem en_c32 {x : En} (h : x.id.length = 32) : x.cells[32]? = some (.int .i64 (x.off : Int)) := by
  unfold En.cells; rw [List.getElem?_append_right (by simp [h])]; simp [h]
theorem en_c33 {x : En} (h : x.id.length = 32) : x.cells[33]? = some (.int .i64 (x.len : Int)) := by
  unfold En.cells; rw [List.getElem?_append_right (by simp [h])]; simp [h]
theorem en_equal_part_id {x : En} (h : x.id.length = 32) (W : World) : (part 36 x.cells.toArray 0).run Tryd.prog W = .ok (.agg (x.id.map B).toArray) W := by
  have e : List.take 32 (List.drop 0 x.cells) = x.id.map B := by
    unfold En.cells
    rw [List.drop_zero, List.take_left' (by simp [h])]
  rw [List.drop_zero] at e
  have hs : (Go.sizeOf 36).run Tryd.prog W = .ok 32 W := Tryd.sizeOf36 W
  have ha : (isAgg 36).run Tryd.prog W = .ok true W := Tryd.isAgg36 W
  simp only [part, Sem.run_bind, hs, ha, Result.andThen_ok, Sem.run_pure]
  simp [e]
set_option maxRecDepth 100000 in
theorem en_equal' (D : Nat) (x y : En) (hx : x.id.length = 32) (hy : y.id.length = 32) (W : World) : (Op.equalIn (D + 3) 38 (.agg x.cells.toArray) (.agg y.cells.toArray)).run Tryd.prog W = .ok (decide (x.id = y.id ∧ x.off = y.off ∧ x.len = y.len)) W := by
  have hS : Tryd.prog.underlying 38 = some (.struct (Tryd.prog.fieldsOf 38)) := by kernel_rfl
  have hp : Tryd.prog.stoodInHeld 38 = false := by kernel_rfl
  rw [run_equalIn_agg W (D + 2) _ _ _ hS hp]
  have a0 := en_equal_part_id hx W
  have a1 := part_one Tryd.underlying3 rfl x.cells.toArray 32 _ (by simpa using en_c32 hx) W
  have a2 := part_one Tryd.underlying3 rfl x.cells.toArray 33 _ (by simpa using en_c33 hx) W
  have b0 := en_equal_part_id hy W
  have b1 := part_one Tryd.underlying3 rfl y.cells.toArray 32 _ (by simpa using en_c32 hy) W
  have b2 := part_one Tryd.underlying3 rfl y.cells.toArray 33 _ (by simpa using en_c33 hy) W
  have q0 := nid_equal' x.id y.id hx hy D W
  have q1 := run_equalIn_int (P := Tryd.prog) W (D + 1) 3 .i64 .i64 (x.off : Int) (y.off : Int) Tryd.underlying3
  have q2 := run_equalIn_int (P := Tryd.prog) W (D + 1) 3 .i64 .i64 (x.len : Int) (y.len : Int) Tryd.underlying3
  simp only [Program.fieldsOf, Tryd.underlying38, List.toList_toArray]
  generalize x.cells.toArray = cx at *
  generalize y.cells.toArray = cy at *
  clear hS hp hx hy
  by_cases h0 : x.id = y.id
  · rw [decide_eq_true h0] at q0
    by_cases h1 : x.off = y.off
    · have r1 : ((x.off : Int) == (y.off : Int)) = true := by simp [h1]
      rw [r1] at q1
      by_cases h2 : x.len = y.len
      · have r2 : ((x.len : Int) == (y.len : Int)) = true := by simp [h2]
        rw [r2] at q2
        rw [decide_eq_true ⟨h0, h1, h2⟩]
        clear h0 h1 h2 r1 r2
        refine Eq.trans (eqF_true (a := .agg (x.id.map B).toArray) (b := .agg (y.id.map B).toArray) ?h1 ?h2 ?h3 ?h4) ?_
        case h1 => decide
        case h2 => exact a0
        case h3 => exact b0
        case h4 => exact q0
        refine Eq.trans (eqF_true (a := .int .i64 (x.off : Int)) (b := .int .i64 (y.off : Int)) ?h1 ?h2 ?h3 ?h4) ?_
        case h1 => decide
        case h2 => exact a1
        case h3 => exact b1
        case h4 => exact q1
        refine Eq.trans (eqF_true (a := .int .i64 (x.len : Int)) (b := .int .i64 (y.len : Int)) ?h1 ?h2 ?h3 ?h4) ?_
        case h1 => decide
        case h2 => exact a2
        case h3 => exact b2
        case h4 => exact q2
        exact eqF_nil
      · have r2 : ((x.len : Int) == (y.len : Int)) = false := by simp; omega
        rw [r2] at q2
        rw [decide_eq_false (fun h => h2 h.2.2)]
        clear h0 h1 h2 r1 r2
        refine Eq.trans (eqF_true (a := .agg (x.id.map B).toArray) (b := .agg (y.id.map B).toArray) ?h1 ?h2 ?h3 ?h4) ?_
        case h1 => decide
        case h2 => exact a0
        case h3 => exact b0
        case h4 => exact q0
        refine Eq.trans (eqF_true (a := .int .i64 (x.off : Int)) (b := .int .i64 (y.off : Int)) ?h1 ?h2 ?h3 ?h4) ?_
        case h1 => decide
        case h2 => exact a1
        case h3 => exact b1
        case h4 => exact q1
        refine eqF_false (a := .int .i64 (x.len : Int)) (b := .int .i64 (y.len : Int)) ?h1 ?h2 ?h3 ?h4
        case h1 => decide
        case h2 => exact a2
        case h3 => exact b2
        case h4 => exact q2
    · have r1 : ((x.off : Int) == (y.off : Int)) = false := by simp; omega
      rw [r1] at q1
      rw [decide_eq_false (fun h => h1 h.2.1)]
      clear h0 h1 r1
      refine Eq.trans (eqF_true (a := .agg (x.id.map B).toArray) (b := .agg (y.id.map B).toArray) ?h1 ?h2 ?h3 ?h4) ?_
      case h1 => decide
      case h2 => exact a0
      case h3 => exact b0
      case h4 => exact q0
      refine eqF_false (a := .int .i64 (x.off : Int)) (b := .int .i64 (y.off : Int)) ?h1 ?h2 ?h3 ?h4
      case h1 => decide
      case h2 => exact a1
      case h3 => exact b1
      case h4 => exact q1
  · rw [decide_eq_false h0] at q0
    rw [decide_eq_false (fun h => h0 h.1)]
    clear h0
    refine eqF_false (a := .agg (x.id.map B).toArray) (b := .agg (y.id.map B).toArray) ?h1 ?h2 ?h3 ?h4
    case h1 => decide
    case h2 => exact a0
    case h3 => exact b0
    case h4 => exact q0
theorem en_equal_neq (x y : En) (hx : x.id.length = 32) (hy : y.id.length = 32) (W : World) : (binOp .neq 38 (.agg x.cells.toArray) (.agg y.cells.toArray)).run Tryd.prog W = .ok (.bool (!decide (x.id = y.id ∧ x.off = y.off ∧ x.len = y.len))) W := by
  have h := en_equal' 9997 x y hx hy W
  rw [run_neq_struct, show (10000 : Nat) = 9997 + 3 from rfl, h]; rfl
end Go.Proofs.YtembincggkpflaaDoor


/- coldstorelaw12.alive. -/
namespace Go.Proofs.YtembincggkpflaaDoor
open Go.RowKit Go.Lib Go.Maps

def zBd : List Value := [.slice none 0 0, .map none, .int .i64 0, .slice none 0 0]
theorem Bd.zero {w : World} {p : Nat} (h : w.heap[p]? = some (.cells zBd.toArray 31 (0, 0))) : Bd w [p] p [] [] :=
  ⟨[p], .slice none 0 0, _, _, Hd.none (more := [.slice none 0 0]) (by simpa [zBd] using h), World.ownsRow_nil _ _ _ 1, fun g hg => by simp [Value.ownBlock] at hg, fun x hx => hx, rfl⟩
def abc : List UInt8 := [97, 98, 99]
def pabc : List UInt8 := packB (ens [abc]) abc
theorem abc_took : addErr [] (Sha.sum abc) 3 = 0 := by
  unfold addErr
  rw [if_neg (by decide), if_neg (by decide), if_neg (by simp), if_neg (by decide)]
theorem abc_ens : ens [abc] = [addE [] (Sha.sum abc) 3] := by rw [show [abc] = [] ++ [abc] from rfl, ens_snoc]; rfl
theorem abc_twice : addErr (ens [abc]) (Sha.sum abc) 3 = 5 := by
  unfold addErr
  rw [if_neg (by decide), abc_ens, if_neg (by simp), if_pos (by simp [addE])]
theorem abc_good : Gd (ens [abc]) := good_nil.snoc (bl := []) (b := abc) (by unfold took; exact decide_eq_true abc_took)
theorem abc_ids : ∀ e ∈ ens [abc], e.id.length = 32 := fun e he => by rw [abc_ens] at he; simp at he; subst he; exact sum32 _
theorem abc_size : sizeP (ens [abc]) = 52 := by rw [abc_ens]; simp [sizeP, ends, addE]
theorem abc_ends : ends (ens [abc]) = 3 := by rw [abc_ens]; simp [ends, addE]
theorem pabc_len : pabc.length = 52 := by unfold pabc; rw [packB_len _ _ abc_ids (by rw [abc_ends]; rfl), abc_size]
theorem p0_len : (packB [] []).length = 13 := by rw [packB_len _ _ (by simp) rfl]; rfl
theorem seal_lt {es : List En} (h : ∀ e ∈ es, e.id.length = 32) (hm : es.length ≤ 4096) : (sealed 80 (headB es)).length < 4294967296 := by rw [sealed_len, headB_len es h]; omega
theorem pabc_sh : shErr pabc = 0 ∧ shOf pabc = sealed 80 (headB (ens [abc])) := by
  unfold pabc; rw [packB_eq]; exact sh_at _ _ (seal_lt abc_ids (by rw [abc_ens]; decide))
theorem pabc_drop : pabc.drop 1 = [98, 99] ++ tailP (ens [abc]) := by unfold pabc; rw [packB_eq]; rfl
theorem pabc1_sh : shErr (pabc.drop 1) = 0 ∧ shOf (pabc.drop 1) = sealed 80 (headB (ens [abc])) := by
  rw [pabc_drop]; exact sh_at _ _ (seal_lt abc_ids (by rw [abc_ens]; decide))
theorem rd_nil : rdErr [] = 20 := by unfold rdErr; rw [if_neg (by decide)]
theorem pabc_at : blobAt pabc (0 : Nat) (3 : Nat) = abc := by unfold blobAt pabc; rw [packB_eq]; rfl
theorem pabc_blob : blobErr pabc (Sha.sum abc) (0 : Nat) (3 : Nat) = 0 := by
  have h := pabc_at
  unfold blobAt at h
  unfold blobErr
  rw [if_neg (by rw [pabc_len]; decide), h, if_neg (by simp)]
def z32 : List UInt8 := List.replicate 32 0
theorem sum_bc : Sha.sum [98, 99] ≠ z32 := by decide +kernel
theorem pabc_at2 : blobAt pabc (1 : Nat) (2 : Nat) = [98, 99] := by unfold blobAt pabc; rw [packB_eq]; rfl
theorem pabc_blob2 : blobErr pabc z32 (1 : Nat) (2 : Nat) = 35 := by
  have h := pabc_at2
  unfold blobAt at h
  unfold blobErr
  rw [if_neg (by rw [pabc_len]; decide), h, if_pos sum_bc]
theorem pabc_blob3 : blobErr pabc z32 99 0 = 23 := by unfold blobErr; rw [if_pos (by rw [pabc_len]; decide)]
theorem build_abc (W : World) : (Instr.buildSlice 29 3 #[(0, .int .u8 97), (1, .int .u8 98), (2, .int .u8 99)]).run Tryd.prog W = .ok (.slice (some ⟨W.heap.size, 0, none⟩) 3 3) (W.alloc (.cells #[.int .u8 97, .int .u8 98, .int .u8 99] 5)) := by kernel_rfl
theorem build_p2 (W : World) : (Instr.build 38 #[(1, .int .i64 1), (2, .int .i64 2)]).run Tryd.prog W = .ok (.agg (plC z32 1 2).toArray) W := run_build W _ _ _ (by kernel_rfl)
theorem build_p3 (W : World) : (Instr.build 38 #[(1, .int .i64 99)]).run Tryd.prog W = .ok (.agg (plC z32 99 0).toArray) W := run_build W _ _ _ (by kernel_rfl)
theorem zero_bd (W : World) : (zeroValue 31).run Tryd.prog W = .ok (.agg zBd.toArray) W := by kernel_rfl

theorem en_guard : Tryd.prog.eqGuardType Tryd.prog.depth 38 = false := by kernel_rfl
theorem en_grd (op : BinOp) (x y : Operand) (xs ys : Array Value) (W : World) : (eqGuard op 38 x y (.agg xs) (.agg ys)).run Tryd.prog W = .ok () W := run_eqGuard_agg W op _ x y xs ys en_guard
theorem slice_from (a : Option Addr) (xs : List UInt8) (c o : Nat) (h : o ≤ xs.length) (hc : xs.length ≤ c) (hn : a = none → c = 0) :
    ∃ sa sc, (∀ W, (Instr.sliceAt 29 (.slice a xs.length c) (some (.int .i64 (o : Int))) none none).run Tryd.prog W = .ok (.slice sa (xs.length - o) sc) W) ∧ xs.length - o ≤ sc ∧ sc ≤ c ∧ (sa = none → sc = 0) ∧ ∀ W, SrcB W (.slice a xs.length c) xs → SrcB W (.slice sa (xs.drop o).length sc) (xs.drop o) := by
  have hs : ∀ W, (sizeOf 5).run Tryd.prog W = .ok 1 W := fun W => by kernel_rfl
  cases a with
  | none =>
    have hc0 := hn rfl
    subst hc0
    obtain ⟨rfl, rfl⟩ : o = 0 ∧ xs = [] := ⟨by omega, List.eq_nil_of_length_eq_zero (by omega)⟩
    refine ⟨none, 0, fun W => ?_, by simp, by omega, fun _ => rfl, fun W hW => by simpa using hW⟩
    rw [run_sliceAt_slice W 29 _ _ _ _ (by simp [Program.elem, Tryd.underlying29])]
    rw [run_slice_l W 29 _ _ _ (by simp [Program.elem, Tryd.underlying29]) .i64 (((0 : Nat) : Int)) (by simp) (by simp), elem_u8p, hs]
    simp [Result.andThen, sliced, Addr.add]
  | some ad =>
    refine ⟨some (if c = o then ad else ad.add o), c - o, fun W => ?_, by omega, by omega, fun h => by simp at h, fun W hW => ?_⟩
    · rw [run_sliceAt_slice W 29 _ _ _ _ (by simp [Program.elem, Tryd.underlying29])]
      rw [run_slice_l W 29 _ _ _ (by simp [Program.elem, Tryd.underlying29]) .i64 (o : Int) (by omega) (by omega), elem_u8p, hs]
      simp [Result.andThen, sliced]
      split <;> simp_all
    · rcases hW with ⟨h1, _⟩ | ⟨ad', c', h1, h2⟩
      · simp at h1
      · simp at h1
        obtain ⟨rfl, rfl⟩ := h1
        refine Or.inr ⟨_, _, rfl, fun j u hj => ?_⟩
        by_cases hco : c = o
        · exfalso
          have hj2 := (List.getElem?_eq_some_iff.1 hj).1
          simp at hj2; omega
        · rw [if_neg hco]
          rw [List.getElem?_map, List.getElem?_drop] at hj
          have h3 := h2 (o + j) u (by rw [List.getElem?_map]; exact hj)
          rw [add_add']; exact h3
theorem Bd.low {w : World} {S : List Nat} {p : Nat} {es : List En} {bs : List UInt8} (h : Bd w S p es bs) : p ∈ S ∧ p < w.heap.size := by
  obtain ⟨SH, bv, lv, mv, hd, _, _, h4, _⟩ := h
  exact ⟨h4 _ hd.hp, hd.bound _ hd.hp⟩
/-- The blocks of a builder that it must have. -/
theorem Bd.small {w : World} {S : List Nat} {p : Nat} {es : List En} {bs : List UInt8} (h : Bd w S p es bs) : ∃ S', Bd w S' p es bs ∧ (∀ x ∈ S', x ∈ S) ∧ ∀ x ∈ S', x < w.heap.size := by
  obtain ⟨SH, bv, lv, mv, hd, h2, h3, h4, h5⟩ := h
  refine ⟨SH ++ bv.ownBlock.toList, ⟨SH, bv, lv, mv, hd, h2, fun g hg => ⟨by simp [hg], (h3 g hg).2⟩, fun x hx => by simp [hx], h5⟩, fun x hx => ?_, fun x hx => ?_⟩
  · rcases List.mem_append.1 hx with h | h
    · exact h4 x h
    · exact (h3 x (by simpa using h)).1
  · rcases List.mem_append.1 hx with h | h
    · exact hd.bound x h
    · exact ownsA_lt h2 (by simpa using h)

set_option maxRecDepth 100000 in
set_option maxHeartbeats 8000000 in
theorem alive12 (w : World) (ht : Tab w) (hts : Tabs w) : Calls Tryd.prog 4 #[] w fun e w' => e = .returned (.bool true) ∧ Kept [] w w' := by
  have kc := fun (w : World) (C : Array Value) (n c : Nat) => Lib.run_convert_bytes_const (P := Tryd.prog) w 29 5 C n c Tryd.underlying29 Tryd.underlying5
  have hzb := zero_bd
  have hzv := zero_en
  have Ht := hid ht; have Hts := hid hts
  obtain ⟨w1, hw1⟩ : ∃ w1, w1 = w.alloc (.cells zBd.toArray 31) := ⟨_, rfl⟩
  have K1 := hid (show Kept [] w w1 from hw1 ▸ (Kept.refl [] w).alloc _)
  have B1 := hid (show Bd w1 [w.heap.size] w.heap.size [] [] from Bd.zero (hw1 ▸ heap_alloc_at rfl))
  have hd1 := hid (b_done _ _ _ _ w1 B1.out (Ht.out.kept K1.out (by simp)))
  have HW1 := hid hw1
  clear ht hts hw1
  go_enter Tryd.func4, Tryd.ntmps4
  go_wp2_with fail
  rw [← HW1.out]
  refine hd1.out.mono ?_
  rintro e w2 ⟨a2, c2, rfl, k2, -⟩
  rw [p0_len]
  have K2 := hid (K1.out.trans k2)
  have B2 := hid (B1.out.kept k2 (by simp))
  clear k2 hd1
  -- the first blob
  obtain ⟨w3, hw3⟩ : ∃ w3, w3 = w2.alloc (.cells #[.int .u8 97, .int .u8 98, .int .u8 99] 5 (3, 4)) := ⟨_, rfl⟩
  have k3 := hid (show Kept [] w2 w3 from hw3 ▸ (Kept.refl [] w2).alloc _)
  have K3 := hid (K2.out.trans k3.out)
  have B3 := hid (B2.out.kept k3.out (by simp))
  have s3 := hid (show SrcB w3 (.slice (some ⟨w2.heap.size, 0, none⟩) 3 3) abc from hw3 ▸ src_alloc w2 abc 3 (3, 4))
  have hwz := hid (show w.heap.size < w2.heap.size from by have := K2.out.size; have := K1.out.size; obtain ⟨SH, bv, lv, mv, hd, _⟩ := B2.out; have := lt_of_block hd.row; omega)
  have ha3 := hid (b_add [w.heap.size] w.heap.size [] [] (some ⟨w2.heap.size, 0, none⟩) 3 abc w3 B3.out (fun w' hk => (Hts.out.kept K3.out (by simp) (by simp)).kept hk (by have := Hts.out.pos0; simp; omega) (by have := Hts.out.pos; simp; omega)) (fun w' hk => s3.out.kept hk (fun g hg => by simp [Value.ownBlock] at hg; have := hwz.out; simp; omega)) (by decide) (by decide) (by decide))
  have HW3 := hid hw3
  clear hw3
  go_wp2_with fail
  rw [← HW3.out]
  refine ha3.out.mono ?_
  rintro e w4 (⟨hb, -, -⟩ | ⟨-, rfl, k4, S4', hB4, hS4'⟩)
  · exact absurd abc_took hb
  have e1 : [] ++ [addE [] (Sha.sum abc) abc.length] = ens [abc] := abc_ens.symm
  rw [e1, List.nil_append] at hB4
  obtain ⟨S4, hB4s, hs4, hl4⟩ := hB4.small
  have hwS := hid (show ∀ x ∈ S4, w.heap.size ≤ x from fun x hx => by
    rcases hS4' x (hs4 x hx) with h | h
    · simp at h; omega
    · have := K3.out.size; omega)
  have K4 := hid (show Kept [] w w4 from K3.out.trans' k4 (fun x hx hm => by simp at hm; omega))
  have B4 := hid hB4s
  have L4 := hid hl4
  obtain ⟨en, hen⟩ : ∃ en, en = addE [] (Sha.sum abc) abc.length := ⟨_, rfl⟩
  have HEN := hid hen
  rw [← hen]
  have hen32 := hid (show en.id.length = 32 by rw [hen]; exact sum32 _)
  obtain ⟨ce, hce⟩ : ∃ ce, ce = en.cells := ⟨_, rfl⟩
  have HCE := hid hce
  rw [← hce]
  have lce := hid (show ce.length = 34 by rw [hce]; exact en_size hen32.out)
  have ice := hid (show (Tryd.prog.info? 38).map (·.size) = some ce.length by rw [lce.out]; exact en_info)
  have fce := hid (show 0 + ce.length ≤ zEnC.length by rw [lce.out, zEnC_len]; decide)
  have sce := hid (splice36 zEnC ce (by rw [lce.out, zEnC_len]))
  have oce := hid (show ∀ v ∈ ce, v.oneCell' = true by rw [hce]; exact en_one _)
  clear k4 hB4 hS4' hB4s hs4 hl4 hen hce ha3 e1
  go_wp2_with (refine wpList_store_at rfl 38 (.tmp 3) (.tmp 27) rfl w4.heap.size 0 ce rfl rfl 38 zEnC (heap_alloc_at rfl) ice.out fce.out oce.out ?_; refine halt ?_)
  rw [sce.out]
  refine Halt.mk ?_
  obtain ⟨W5, hW5⟩ : ∃ W5, W5 = (w4.alloc (.cells zEnC.toArray 38)).setRow w4.heap.size ce.toArray := ⟨_, rfl⟩
  have k5 := hid (show Kept [] w4 W5 from hW5 ▸ ((Kept.refl [] w4).alloc _).setRow (fun h => absurd h (Nat.lt_irrefl _)) _)
  have K5 := hid (K4.out.trans k5.out)
  have E5 := hid (show W5.heap[w4.heap.size]? = some (.cells ce.toArray 38 (0, 0)) from hW5 ▸ setRow_heap _ _ _ _ _ _ (heap_alloc_at rfl))
  have B5 := hid (B4.out.kept k5.out (by simp))
  rw [← hW5]
  obtain ⟨q3, hq3⟩ : ∃ q3, q3 = w4.heap.size := ⟨_, rfl⟩
  have hq3S := hid (show q3 ∉ S4 from fun h => by have := L4.out _ h; omega)
  rw [← hq3] at E5 ⊢
  clear hW5 hq3
  -- the second one
  obtain ⟨w6, hw6⟩ : ∃ w6, w6 = W5.alloc (.cells #[.int .u8 97, .int .u8 98, .int .u8 99] 5 (3, 4)) := ⟨_, rfl⟩
  have k6 := hid (show Kept [] W5 w6 from hw6 ▸ (Kept.refl [] W5).alloc _)
  have K6 := hid (K5.out.trans k6.out)
  have B6 := hid (B5.out.kept k6.out (by simp))
  have E6 := hid (k6.out.at E5.out (by simp))
  have s6 := hid (show SrcB w6 (.slice (some ⟨W5.heap.size, 0, none⟩) 3 3) abc from hw6 ▸ src_alloc W5 abc 3 (3, 4))
  have hW5S := hid (show W5.heap.size ∉ S4 from fun h => by have := L4.out _ h; have := k5.out.size; omega)
  have ha6 := hid (b_add S4 w.heap.size (ens [abc]) abc (some ⟨W5.heap.size, 0, none⟩) 3 abc w6 B6.out (fun w' hk => (Hts.out.kept K6.out (by simp) (by simp)).kept hk (fun h => by have := hwS.out _ h; have := Hts.out.pos0; omega) (fun h => by have := hwS.out _ h; have := Hts.out.pos; omega)) (fun w' hk => s6.out.kept hk (fun g hg => by simp [Value.ownBlock] at hg; subst hg; exact hW5S.out)) (by decide) (by decide) (by decide))
  have HW6 := hid hw6
  clear hw6
  go_wp2_with fail
  rw [← HW6.out]
  refine ha6.out.mono ?_
  rintro e w7 (⟨-, rfl, k7⟩ | ⟨hb, -⟩)
  rotate_left
  · exact absurd (hb.symm.trans abc_twice) (by decide)
  rw [show addErr (ens [abc]) (Sha.sum abc) abc.length = 5 from abc_twice]
  have K7 := hid (K6.out.trans k7)
  have B7 := hid (B6.out.kept k7 (by simp))
  have E7 := hid (k7.at E6.out (by simp))
  have izz := hid (show (Tryd.prog.info? 38).map (·.size) = some zEnC.length by rw [zEnC_len]; exact en_info)
  clear k7 ha6
  go_wp2_with (refine wpList_store_at rfl 38 (.tmp 5) (.tmp 33) rfl w7.heap.size 0 zEnC rfl rfl 38 zEnC (heap_alloc_at rfl) izz.out (by omega) zEnC_one ?_; refine halt ?_)
  rw [splice36 zEnC zEnC rfl]
  refine Halt.mk ?_
  obtain ⟨W8, hW8⟩ : ∃ W8, W8 = (w7.alloc (.cells zEnC.toArray 38)).setRow w7.heap.size zEnC.toArray := ⟨_, rfl⟩
  have k8 := hid (show Kept [] w7 W8 from hW8 ▸ ((Kept.refl [] w7).alloc _).setRow (fun h => absurd h (Nat.lt_irrefl _)) _)
  have K8 := hid (K7.out.trans k8.out)
  have B8 := hid (B7.out.kept k8.out (by simp))
  have E8 := hid (k8.out.at E7.out (by simp))
  rw [← hW8]
  clear hW8
  have hln := hid (b_len S4 w.heap.size _ _ W8 B8.out)
  rw [show (ens [abc]).length = 1 from ens_len _] at hln
  go_wp2_with fail
  refine hln.out.mono ?_
  rintro e w9 ⟨rfl, k9⟩
  have K9 := hid (K8.out.trans k9)
  have B9 := hid (B8.out.kept k9 (by simp))
  have E9 := hid (k9.at E8.out (by simp))
  have hd9 := hid (b_done _ _ _ _ w9 B9.out (Ht.out.kept K9.out (by simp)))
  clear k9 hln
  go_wp2_with fail
  refine hd9.out.mono ?_
  rintro e w10 ⟨a, c, rfl, k10, o10⟩
  change w10.ownsRow _ _ _ (.slice a pabc.length c) pabc.length (pabc.map B) at o10
  rw [show packB (ens [abc]) abc = pabc from rfl]
  have K10 := hid (K9.out.trans k10)
  have B10 := hid (B9.out.kept k10 (by simp))
  have E10 := hid (k10.at E9.out (by simp))
  have HO := hid (fun v (hv : Kept [] w10 v) => hv.owns o10 (by simp))
  have HS := hid (fun v (hv : Kept [] w10 v) => ownsRow_src (hv.owns o10 (by simp)))
  obtain ⟨hc1, hc2, hc3, -⟩ := owns_caps o10
  have HT := hid (fun v (hv : Kept [] w10 v) => Ht.out.kept (K10.out.trans hv) (by simp))
  have HTS := hid (fun v (hv : Kept [] w10 v) => Hts.out.kept (K10.out.trans hv) (by simp) (by simp))
  have hrd := hid (p_read_good a c pabc w10 (HT.out _ (Kept.refl _ _)) (HS.out _ (Kept.refl _ _)) hc1 hc3 (by rw [pabc_len]; decide) (ens [abc]) pabc_sh.1 pabc_sh.2 abc_good (by rw [ens_len]; decide))
  obtain ⟨sa, sc, hsl, hs1, hs2, hs3, hs4⟩ := slice_from a pabc c 1 (by rw [pabc_len]; decide) hc1 hc3
  have hrd1 := hid (fun v (hv : Kept [] w10 v) => p_read_good sa sc (pabc.drop 1) v (HT.out v hv) (hs4 v (HS.out v hv)) (by simpa using hs1) hs3 (by rw [List.length_drop, pabc_len]; decide) (ens [abc]) pabc1_sh.1 pabc1_sh.2 abc_good (by rw [ens_len]; decide))
  have hrd2 := hid (fun v (hv : Kept [] w10 v) => p_read_bad none 0 [] v (HT.out v hv) (Or.inl ⟨rfl, rfl, rfl⟩) (by decide) (fun _ => rfl) (by decide) (by rw [rd_nil]; decide))
  have hbl1 := hid (fun v (hv : Kept [] w10 v) => p_blob_near a c pabc (Sha.sum abc) 0 3 v (HTS.out v hv) (sum32 _) (by rw [pabc_len]; decide) (by rw [pabc_len]; decide) hc1 hc2 hc3 (fun u hu => HS.out u (hv.trans hu)))
  have hbl2 := hid (fun v (hv : Kept [] w10 v) => p_blob_near a c pabc z32 1 2 v (HTS.out v hv) (by simp [z32]) (by rw [pabc_len]; decide) (by rw [pabc_len]; decide) hc1 hc2 hc3 (fun u hu => HS.out u (hv.trans hu)))
  have hbl3 := hid (fun v (hv : Kept [] w10 v) => p_blob_far a c pabc z32 99 0 v (by simp [z32]) (by rw [pabc_len]; decide) (by decide) (by decide) (by rw [pabc_len]; decide))
  have hall := hid (fun v (hv : Kept [] w10 v) => all12 a c pabc 9 v (HT.out v hv) (HTS.out v hv) (HS.out v hv) (by rw [pabc_len]; decide) (ens [abc]) pabc_sh.1 pabc_sh.2 abc_good (by rw [ens_len]; decide) (by decide) (by rw [abc_size, pabc_len]) (fun e he => by
    rw [abc_ens] at he; simp at he; subst he; exact ⟨sum32 _, pabc_blob, by rw [pabc_len]; decide⟩))
  have hnm := hid (fun v (hv : Kept [] w10 v) => p_name a c pabc v (HTS.out v hv) (HS.out v hv) hc1 hc2 (by rw [pabc_len]; decide))
  have hsz := hid (fun v (hv : Kept [] w10 v) => b_size S4 w.heap.size _ _ v (B10.out.kept hv (by simp)))
  have hld := hid (fun v (hv : Kept [] w10 v) => ld_en (hv.at E10.out (by simp)))
  clear k10 o10 hc1 hc2 hc3 hd9 hs1 hs2 hs3 hs4
  have hl1 : (pabc.drop 1).length = 51 := by rw [List.length_drop, pabc_len]
  rw [hl1] at hrd1
  rw [pabc_len] at hrd hbl1 hbl2 hbl3 hall hnm hsl ⊢
  go_wp2_with fail
  refine hrd.out.mono ?_
  rintro e w11 ⟨k11, (⟨-, la, lc, rfl, o11⟩ | ⟨hb, -⟩)⟩
  rotate_left
  · exact absurd (abc_size.trans pabc_len.symm) hb
  rw [show (ens [abc]).length = 1 from ens_len _] at o11 ⊢
  have hsl' : ∀ W, (Instr.sliceAt 29 (.slice a 52 c) (some (.int .i64 1)) none none).run Tryd.prog W = .ok (.slice sa 51 sc) W := hsl
  have Q11 := hid k11
  have O11 := hid (fun v (hv : Kept [] w11 v) => hv.owns o11 (by simp))
  obtain ⟨g, rfl⟩ : ∃ g, la = some ⟨g, 0, none⟩ := by
    rcases o11.2 with ⟨h1, h2⟩ | ⟨g, cap, cur, h1, _⟩
    · cases h2
    · simp at h1; exact ⟨g, h1.1⟩
  have hlc := hid (show 1 ≤ lc from by
    rcases o11.2 with ⟨h1, h2⟩ | ⟨g, cap, cur, h1, _, _, h3, _⟩
    · cases h2
    · simp at h1; omega)
  clear k11 o11 hrd hsl
  go_wp2_with fail
  refine (hrd1.out w11 Q11.out).mono ?_
  rintro e w12 ⟨k12, (⟨hb, -⟩ | ⟨-, rfl⟩)⟩
  · exact absurd (abc_size.symm.trans (hb.trans hl1)) (by decide)
  have Q12 := hid (Q11.out.trans k12); have P12 := hid k12
  clear k12 hrd1
  go_wp2_with fail
  refine (hrd2.out w12 Q12.out).mono ?_
  rintro e w13 ⟨rfl, k13⟩
  rw [rd_nil]
  have Q13 := hid (Q12.out.trans k13); have P13 := hid (P12.out.trans k13)
  clear k13 hrd2
  have hld1 := hid (fun v (hv : Kept [] w13 v) => run_loadVar_cells v 38 ⟨g, 0, none⟩ ce _ Tryd.underlying38 rfl ice.out (fun j u hj => by
    have h := (O11.out v (P13.out.trans hv)).cells (g := g) rfl j u (by rw [abc_ens]; simp only [List.flatMap_cons, List.flatMap_nil, List.append_nil]; rw [show addE [] (Sha.sum abc) 3 = en from HEN.out.symm, c34_of hen32.out, ← HCE.out]; exact hj)
    exact h))
  have hld2 := hid (fun v (hv : Kept [] w13 v) => run_loadVar_cells v 38 ⟨q3, 0, none⟩ ce _ Tryd.underlying38 rfl ice.out (hld.out v (Q13.out.trans hv)))
  have hneq := hid (fun W => show (binOp .neq 38 (.agg en.cells.toArray) (.agg en.cells.toArray)).run Tryd.prog W = .ok (.bool false) W from (en_equal_neq en en hen32.out hen32.out W).trans (by simp))
  rw [← HCE.out] at hneq
  have hl1' := hlc.out
  go_wp2_with fail
  refine wp_region_held_drew (S := Kept [] w13) (by kernel_rfl) (Kept.refl _ _).drew (fun hH => ?_)
  refine takeH 0 (.slice (some ⟨g, 0, none⟩) 1 lc) rfl (by kernel_rfl) (by kernel_rfl) (by kernel_rfl) (fun _ _ _ h => h) (by rfl) (fun v hv => by go_simp) hH ?_
  simp only [Act.put, List.setIfInBounds_toArray, List.set_cons_succ, List.set_cons_zero]
  refine takeH 1 (.int .i64 1) rfl (by kernel_rfl) (by kernel_rfl) (by kernel_rfl) (fun _ _ _ h => h) (by rfl) (fun v hv => by go_simp) hH ?_
  simp only [Act.put, List.setIfInBounds_toArray, List.set_cons_succ, List.set_cons_zero]
  refine takeH 2 (.bool false) rfl (by kernel_rfl) (by kernel_rfl) (by kernel_rfl) (fun _ _ _ h => h) (by rfl) (fun v hv => by go_simp) hH ?_
  simp only [Act.put, List.setIfInBounds_toArray, List.set_cons_succ, List.set_cons_zero]
  refine takeH 3 (.bool false) rfl (by kernel_rfl) (by kernel_rfl) (by kernel_rfl) (fun _ _ _ h => h) (by rfl) (fun v hv => by go_simp) hH ?_
  simp only [Act.put, List.setIfInBounds_toArray, List.set_cons_succ, List.set_cons_zero]
  refine takeH 4 (.slice (some ⟨g, 0, none⟩) 1 lc) rfl (by kernel_rfl) (by kernel_rfl) (by kernel_rfl) (fun _ _ _ h => h) (by rfl) (fun v hv => by go_simp) hH ?_
  simp only [Act.put, List.setIfInBounds_toArray, List.set_cons_succ, List.set_cons_zero]
  refine takeH 5 (.pointer (some ⟨g, 0, none⟩)) rfl (by kernel_rfl) (by kernel_rfl) (by kernel_rfl) (fun _ _ _ h => h) (by rfl) (fun v hv => by go_simp) hH ?_
  simp only [Act.put, List.setIfInBounds_toArray, List.set_cons_succ, List.set_cons_zero]
  refine takeH 6 (.agg ce.toArray) rfl (by kernel_rfl) (by kernel_rfl) (by kernel_rfl) (fun _ _ _ h => h) (by rfl) (fun v hv => by have h := hld1.out v hv; unfold execOp; simp [Instr.loadAt, Instr.sureAddr, Sem.run_bind, Sem.run_pure, Result.andThen_ok, Act.eval, h]) hH ?_
  simp only [Act.put, List.setIfInBounds_toArray, List.set_cons_succ, List.set_cons_zero]
  refine takeH 7 (.agg ce.toArray) rfl (by kernel_rfl) (by kernel_rfl) (by kernel_rfl) (fun _ _ _ h => h) (by rfl) (fun v hv => by have h := hld2.out v hv; unfold execOp; simp [Instr.loadAt, Instr.sureAddr, Sem.run_bind, Sem.run_pure, Result.andThen_ok, Act.eval, h]) hH ?_
  simp only [Act.put, List.setIfInBounds_toArray, List.set_cons_succ, List.set_cons_zero]
  refine takeH 8 (.bool false) rfl (by kernel_rfl) (by kernel_rfl) (by kernel_rfl) (fun _ _ _ h => h) (by rfl) (fun v hv => by have h := hneq.out v; have h2 := en_grd .neq (.tmp 72) (.tmp 73) ce.toArray ce.toArray v; unfold execOp; simp [Sem.run_bind, Sem.run_pure, Result.andThen_ok, Act.eval, h, h2]) hH ?_
  simp only [Act.put, List.setIfInBounds_toArray, List.set_cons_succ, List.set_cons_zero]
  refine takeH 9 (.bool false) rfl (by kernel_rfl) (by kernel_rfl) (by kernel_rfl) (fun _ _ _ h => h) (by rfl) (fun v hv => by go_simp) hH ?_
  simp only [Act.put, List.setIfInBounds_toArray, List.set_cons_succ, List.set_cons_zero]
  refine takeH 10 (.bool false) rfl (by kernel_rfl) (by kernel_rfl) (by kernel_rfl) (fun _ _ _ h => h) (by rfl) (fun v hv => by go_simp) hH ?_
  simp only [Act.put, List.setIfInBounds_toArray, List.set_cons_succ, List.set_cons_zero]
  refine takeH 11 (.int .i64 0) rfl (by kernel_rfl) (by kernel_rfl) (by kernel_rfl) (fun _ _ _ h => h) (by rfl) (fun v hv => by go_simp) hH ?_
  simp only [Act.put, List.setIfInBounds_toArray, List.set_cons_succ, List.set_cons_zero]
  refine takeH 12 (.bool false) rfl (by kernel_rfl) (by kernel_rfl) (by kernel_rfl) (fun _ _ _ h => h) (by rfl) (fun v hv => by go_simp) hH ?_
  simp only [Act.put, List.setIfInBounds_toArray, List.set_cons_succ, List.set_cons_zero]
  refine takeH 13 (.bool false) rfl (by kernel_rfl) (by kernel_rfl) (by kernel_rfl) (fun _ _ _ h => h) (by rfl) (fun v hv => by go_simp) hH ?_
  simp only [Act.put, List.setIfInBounds_toArray, List.set_cons_succ, List.set_cons_zero]
  refine wpAnyH_done (by kernel_rfl) ?_ _
  obtain ⟨w14, hw14⟩ : ∃ w14, w14 = w13.drew := ⟨_, rfl⟩
  rw [← hw14]
  rw [← hw14] at hH
  have Q14 := hid (Q13.out.trans hH)
  have hr14 := hid (hld.out w14 Q14.out)
  have hce2 : (plC (Sha.sum abc) ((0 : Nat) : Int) ((3 : Nat) : Int)) = ce := by rw [HCE.out, HEN.out]; rfl
  rw [hce2] at hbl1
  clear hw14 hH hl1' hneq hld1 hld2 hsl'
  go_wp2_with (refine wpList_load_cells rfl 38 (.tmp 3) rfl ⟨q3, 0, none⟩ rfl ce _ Tryd.underlying38 rfl ice.out hr14.out ?_)
  refine (hbl1.out w14 Q14.out).mono ?_
  rintro e w15 ⟨k15, (⟨hb, -⟩ | ⟨-, ba, bc, rfl, o15⟩)⟩
  · exact absurd pabc_blob hb
  have hat : blobAt pabc ((0 : Nat) : Int) ((3 : Nat) : Int) = abc := pabc_at
  rw [hat] at o15 ⊢
  have O15 := hid o15
  have Q15 := hid (Q14.out.trans k15)
  clear k15 o15 hbl1 hat
  go_wp2_with fail
  rw [show ((zEnC.set 32 (.int .i64 1)).set 33 (.int .i64 2)) = plC z32 ((1 : Nat) : Int) ((2 : Nat) : Int) from rfl]
  refine (hbl2.out w15 Q15.out).mono ?_
  rintro e w16 ⟨k16, (⟨-, rfl⟩ | ⟨hb, -⟩)⟩
  rotate_left
  · exact absurd (pabc_blob2.symm.trans hb) (by decide)
  rw [pabc_blob2]
  have Q16 := hid (Q15.out.trans k16)
  have O16 := hid (k16.owns O15.out (by simp))
  clear k16 hbl2
  go_wp2_with fail
  rw [show (zEnC.set 32 (.int .i64 99)) = plC z32 99 0 from rfl]
  refine (hbl3.out w16 Q16.out).mono ?_
  rintro e w17 ⟨k17, (⟨-, rfl⟩ | ⟨hb, -⟩)⟩
  rotate_left
  · exact absurd (pabc_blob3.symm.trans hb) (by decide)
  rw [pabc_blob3]
  have Q17 := hid (Q16.out.trans k17)
  have O17 := hid (k17.owns O16.out (by simp))
  clear k17 hbl3
  go_wp2_with fail
  refine (hall.out w17 Q17.out).mono ?_
  rintro e w18 ⟨vx, vy, ps, rfl, k18, hz, hx, -, -⟩
  have hpl : ps.length = 1 := by have := congrArg List.length hz.1; rw [ens_len] at this; simpa using this
  obtain ⟨xa, xc, rfl⟩ := owns_slice hx
  rw [hpl]
  have Q18 := hid (Q17.out.trans k18)
  have htx := text_any w18 ba bc abc (ownsRow_src (k18.owns O17.out (by simp)))
  have hsz1 := hid (hsz.out w18 Q18.out)
  rw [abc_size] at hsz1
  clear hall hz hx k18 hpl
  go_wp2_with fail
  refine hsz1.out.mono ?_
  rintro e w19 ⟨rfl, k19⟩
  have Q19 := hid (Q18.out.trans k19)
  clear k19 hsz1 hsz
  go_wp2_with fail
  refine (hnm.out w19 Q19.out).mono ?_
  rintro e w20 ⟨rfl, k20⟩
  have Q20 := hid (Q19.out.trans k20)
  have hnl := packN_len pabc
  generalize packN pabc = nm at *
  have hns : (S nm).size = 69 := by show nm.toArray.size = 69; simpa using hnl
  clear k20 hnm
  go_wp2
  go_ret
  exact ⟨rfl, K10.out.trans Q20.out⟩
end Go.Proofs.YtembincggkpflaaDoor


/- coldstorelaw12.few; rows of bytes as an argument, with their capacities; a builder's Add within a law. -/
namespace Go.Proofs.YtembincggkpflaaDoor
open Go.ChangeShapes Go.WideShapes Go.ChangeAt Go.RowKit Go.Deep Go.Lib

section
variable {H : Type} {enc : TypeId × Value → H} {w : World} {base : Nat} {held : Bool}
theorem src_of_trodC {fuel : Nat} {v : Value} {y : DataW H × List MemPlace} (h : DataW.trod enc Tryd.prog w base (fun _ => true) held fuel 29 [v] = some y) :
    ∃ a c, ∃ bs : List UInt8, v = .slice a bs.length c ∧ SrcB w (.slice a bs.length c) bs ∧ bs.length ≤ c ∧ c ≤ 9223372036854775807 := by
  rcases open_ints Tryd.underlying29 Tryd.underlying5 (by kernel_rfl) h with ⟨hcs, _⟩ | ⟨x, l, c, zs, hcs, _, hl, hm, hz, _, hcell, hwz⟩
  · simp at hcs
    subst hcs
    exact ⟨none, 0, [], rfl, Or.inl ⟨rfl, rfl, rfl⟩, by simp, by simp⟩
  · simp at hcs
    subst hcs
    obtain ⟨bs, hbl, hs, _, h1, h2⟩ := src_of_row (Or.inr ⟨x, rfl, hl, hm, by simpa using hz, hcell, hwz⟩)
    subst hbl
    exact ⟨some x, c, bs, rfl, hs, hl, by unfold maxLen at hm; omega⟩
/-- Rows of bytes, each with its capacity. -/
def RowsC (w : World) (a : Option Addr) (rows : List (List UInt8)) : Prop :=
  (a = none → rows = []) ∧ ∀ x, a = some x → ∀ (i : Nat) (r : List UInt8), rows[i]? = some r → ∃ ar cr, w.cell? (x.add i) = some (.slice ar r.length cr) ∧ SrcB w (.slice ar r.length cr) r ∧ r.length ≤ cr ∧ cr ≤ 9223372036854775807
theorem RowsC.is {w : World} {a : Option Addr} {rows : List (List UInt8)} (h : RowsC w a rows) : IsRows w a rows :=
  ⟨h.1, fun x hx i r hr => by obtain ⟨ar, cr, h1, h2, _⟩ := h.2 x hx i r hr; exact ⟨ar, cr, h1, h2⟩⟩
theorem listC_of {p : Nat → List UInt8 → Prop} : ∀ n, (∀ i, i < n → ∃ o, p i o) → ∃ rows : List (List UInt8), rows.length = n ∧ ∀ i o, rows[i]? = some o → p i o
  | 0, _ => ⟨[], rfl, fun i o ho => by simp at ho⟩
  | n + 1, h => by
    obtain ⟨ops, hl, hp⟩ := listC_of n (fun i hi => h i (by omega))
    obtain ⟨o, ho⟩ := h n (by omega)
    refine ⟨ops ++ [o], by simp [hl], fun i o' hi => ?_⟩
    rcases Nat.lt_or_ge i ops.length with h1 | h1
    · rw [List.getElem?_append_left h1] at hi
      exact hp i o' hi
    · rw [List.getElem?_append_right h1] at hi
      have h2 : i - ops.length = 0 := by
        rcases Nat.eq_zero_or_pos (i - ops.length) with h2 | h2
        · exact h2
        · rw [List.getElem?_eq_none (by simp; omega)] at hi; simp at hi
      rw [h2] at hi
      simp at hi
      subst hi
      have : i = n := by omega
      exact this ▸ ho

theorem open_rowsC {fuel : Nat} {a : Option Addr} {len cap : Nat} {y : DataW H × List MemPlace} (h : DataW.trod enc Tryd.prog w base (fun _ => true) held fuel 22 [.slice a len cap] = some y) :
    ∃ rows : List (List UInt8), rows.length = len ∧ RowsC w a rows ∧ (∀ r ∈ rows, r.length ≤ 9223372036854775807) ∧ len ≤ cap ∧ cap ≤ maxLen ∧ (a = none → cap = 0) := by
  have hC : Tryd.prog.cellsOf 29 = 1 := by kernel_rfl
  rcases open_slice Tryd.underlying22 h with ⟨hcs, _⟩ | ⟨x, l, c, m, n, D, Pl, hcs, hb, hl, hm, hmm, _, hi⟩
  · simp at hcs
    obtain ⟨rfl, rfl, rfl⟩ := hcs
    exact ⟨[], rfl, ⟨fun _ => rfl, fun x hx => by simp at hx⟩, by simp, by omega, by unfold maxLen; omega, fun _ => rfl⟩
  · simp at hcs
    obtain ⟨rfl, rfl, rfl⟩ := hcs
    obtain ⟨rows, hol, hops⟩ := listC_of (p := fun i r => (∃ ar cr, w.cell? (x.add i) = some (.slice ar r.length cr) ∧ SrcB w (.slice ar r.length cr) r ∧ r.length ≤ cr ∧ cr ≤ 9223372036854775807) ∧ r.length ≤ 9223372036854775807) len (fun i hil => by
      obtain ⟨cs, hc, ht⟩ := hi i (by simp at hmm; omega)
      rw [hC] at hc
      obtain ⟨_, hcl, hat⟩ := World.cells?_some hc
      match cs, hcl with
      | [v0], _ =>
        have c0 := hat 0 (by omega)
        obtain ⟨ba, bc, bs, rfl, hs, hbl, hbc⟩ := src_of_trodC ht
        simp at c0
        rw [add_0] at c0
        exact ⟨bs, ⟨ba, bc, c0, hs, hbl, hbc⟩, by omega⟩)
    exact ⟨rows, hol, ⟨fun h => by simp at h, fun y hy i r hr => by simp at hy; subst hy; exact (hops i r hr).1⟩, fun r hr => by
      obtain ⟨i, hi', rfl⟩ := List.getElem_of_mem hr
      exact (hops i _ (by simp [hi'])).2, by omega, hm, fun h => by simp at h⟩
end
/-- Is a blob as short, or as long, as the laws ask? -/
def okB (r : List UInt8) : Prop := r.length ≤ 200 ∨ (65536 < r.length ∧ r.length ≤ 65600)
instance (r : List UInt8) : Decidable (okB r) := by unfold okB; exact inferInstance
def few12B (rows : List (List UInt8)) : Bool := decide ((∀ r ∈ rows, okB r) ∧ rows.length ≤ 20)
set_option maxHeartbeats 1000000 in
theorem few12 (a : Option Addr) (c : Nat) (rows : List (List UInt8)) (w : World) (h : IsRows w a rows) (hm : rows.length ≤ 9223372036854775807) (hl : ∀ r ∈ rows, r.length ≤ 9223372036854775807) :
    Calls Tryd.prog 5 #[.slice a rows.length c] w fun e w' => e = .returned (.bool (few12B rows)) ∧ w = w' := by
  have H := hid h; have HL := hid hl
  clear h hl
  go_enter Tryd.func5, Tryd.ntmps5
  go_wp2_with fail
  go_loop [7] (fun s => ∃ i : Nat, i ≤ rows.length ∧ s = .int .i64 i ∧ Hid (∀ (j : Nat) (r : List UInt8), j < i → rows[j]? = some r → okB r)) (fun s => rows.length - (intOf s).toNat)
  case atStart => exact ⟨0, Nat.zero_le _, rfl, hid (fun j r hj => absurd hj (by omega))⟩
  case round =>
    obtain ⟨i, hi, rfl, hall⟩ := hrel
    by_cases hlt : i < rows.length
    · cases a with
      | none => exact absurd (H.out.1 rfl) (fun e => by rw [e] at hlt; simp at hlt)
      | some x =>
        obtain ⟨ar, cr, g0, _⟩ := H.out.2 x rfl i rows[i] (by simp [hlt])
        have hrl := HL.out _ (List.getElem_mem hlt)
        have hget := hid (show rows[i]? = some rows[i] by simp [hlt])
        have hmem := hid (List.getElem_mem hlt)
        generalize rows[i] = r at *
        have hbad := hid (fun (h : ¬ okB r) => show few12B rows = false from by
          unfold few12B
          simp only [decide_eq_false_iff_not]
          exact fun h' => h (h'.1 _ hmem.out))
        have hok := hid (fun (h : okB r) => show (∀ (j : Nat) (r : List UInt8), j < i + 1 → rows[j]? = some r → okB r) from fun j r' hj ho => by
          rcases Nat.lt_or_ge j i with h1 | h1
          · exact hall.out j r' h1 ho
          · have : j = i := by omega
            subst this
            rw [hget.out] at ho
            simp at ho
            subst ho
            exact h)
        have hnx := hid (show i + 1 ≤ rows.length from hlt)
        by_cases h1 : r.length ≤ 200
        · have q1 : ¬ (200 : Int) < (r.length : Int) := by omega
          have q2 : ¬ (65600 : Int) < (r.length : Int) := by omega
          have hall2 := hid (hok.out (Or.inl h1))
          clear h1 hrl
          go_wp2
          go_round
          case rel => exact ⟨i + 1, hnx.out, by go_num, hall2⟩
          case measure => simp [intOf]; omega
        · have q1 : (200 : Int) < (r.length : Int) := by omega
          by_cases h2 : r.length ≤ 65536
          · have q2 : (r.length : Int) ≤ 65536 := by omega
            have HB := hid (hbad.out (fun h => by unfold okB at h; omega))
            clear h1 h2 hrl
            go_wp2
            go_ret
            exact ⟨by rw [HB.out]; rfl, rfl⟩
          · have q2 : ¬ (r.length : Int) ≤ 65536 := by omega
            by_cases h3 : r.length ≤ 65600
            · have q3 : ¬ (65600 : Int) < (r.length : Int) := by omega
              have hall2 := hid (hok.out (Or.inr ⟨by omega, h3⟩))
              clear h1 h2 h3 hrl
              go_wp2
              go_round
              case rel => exact ⟨i + 1, hnx.out, by go_num, hall2⟩
              case measure => simp [intOf]; omega
            · have q3 : (65600 : Int) < (r.length : Int) := by omega
              have HB := hid (hbad.out (fun h => by unfold okB at h; omega))
              clear h1 h2 h3 hrl
              go_wp2
              go_ret
              exact ⟨by rw [HB.out]; rfl, rfl⟩
    · have hin : i = rows.length := by omega
      subst hin
      have HB := hid (show few12B rows = decide (rows.length ≤ 20) from by
        unfold few12B
        congr 1
        simp only [eq_iff_iff, and_iff_right_iff_imp]
        intro _ r hr
        obtain ⟨j, hj, rfl⟩ := List.getElem_of_mem hr
        exact hall.out j _ hj (by simp [hj]))
      go_wp2
      go_ret
      exact ⟨by rw [HB.out]; simp; omega, rfl⟩
/-- What was there is as it was, whatever a builder of the call's own wrote. -/
theorem srcB_old {w w' : World} {a : Option Addr} {c : Nat} {ys : List UInt8} (h : SrcB w (.slice a ys.length c) ys) (hk : Kept [] w w') : SrcB w' (.slice a ys.length c) ys := h.kept hk (by simp)
/-- A builder of the call's own. -/
structure Bw (w wr : World) (S : List Nat) (p : Nat) (bl : List (List UInt8)) : Prop where
  bd : Bd wr S p (ens bl) bl.flatten
  low : ∀ x ∈ S, w.heap.size ≤ x ∧ x < wr.heap.size
  good : Good bl
theorem Bw.kept {w wr w' : World} {S U : List Nat} {p : Nat} {bl : List (List UInt8)} (h : Bw w wr S p bl) (hk : Kept U wr w') (hd : ∀ x ∈ S, x ∉ U) : Bw w w' S p bl :=
  ⟨h.bd.kept hk hd, fun x hx => ⟨(h.low x hx).1, Nat.lt_of_lt_of_le (h.low x hx).2 hk.size⟩, h.good⟩
theorem Bw.zero {w wr : World} {p : Nat} (hr : wr.heap[p]? = some (.cells zBd.toArray 31 (0, 0))) (hp : w.heap.size ≤ p) : Bw w wr [p] p [] :=
  ⟨Bd.zero hr, fun x hx => by simp at hx; subst hx; exact ⟨hp, lt_of_block hr⟩, good_nil⟩
def BwAdded (w wr : World) (S : List Nat) (p : Nat) (bl : List (List UInt8)) (ys : List UInt8) (e : Ending) (w' : World) : Prop :=
  ∃ S', Kept [] w w' ∧ Kept S wr w' ∧ Bw w w' S' p (more1 bl ys) ∧ (∀ x ∈ S', x ∈ S ∨ wr.heap.size ≤ x) ∧
    ((took bl ys = true ∧ e = .returned (.tuple #[.agg (addE (ens bl) (Sha.sum ys) ys.length).cells.toArray, .int .i64 0])) ∨ (took bl ys = false ∧ e = .returned (.tuple #[.agg zEnC.toArray, .int .i64 (addErr (ens bl) (Sha.sum ys) ys.length)])))
theorem l_add (w wr : World) (S : List Nat) (p : Nat) (bl : List (List UInt8)) (a : Option Addr) (c : Nat) (ys : List UInt8) (hk : Kept [] w wr) (hb : Bw w wr S p bl) (hts : Tabs w) (hs : SrcB w (.slice a ys.length c) ys) (hl : ys.length ≤ 1000000) (hc : ys.length ≤ c) (hc2 : c ≤ 9223372036854775807) :
    Calls Tryd.prog 6 #[.pointer (some ⟨p, 0, none⟩), .slice a ys.length c] wr (BwAdded w wr S p bl ys) := by
  have hkk : ∀ w', Kept S wr w' → Kept [] w w' := fun w' h => hk.trans' h (fun x hx hm => by have := (hb.low x hm).1; omega)
  refine (b_add S p (ens bl) bl.flatten a c ys wr hb.bd (fun w' h => hts.kept (hkk w' h) (by simp) (by simp)) (fun w' h => srcB_old hs (hkk w' h)) hl hc hc2).mono ?_
  rintro e w' (⟨h1, rfl, h2⟩ | ⟨h1, rfl, h2, S', h3, h4⟩)
  · have ht : took bl ys = false := by unfold took; exact decide_eq_false h1
    refine ⟨S, hk.trans h2, h2.wider (by simp), ?_, fun x hx => Or.inl hx, Or.inr ⟨ht, rfl⟩⟩
    unfold more1; rw [ht]
    exact hb.kept h2 (by simp)
  · have ht : took bl ys = true := by unfold took; exact decide_eq_true h1
    rw [← ens_snoc] at h3
    obtain ⟨S2, h5, h6, h7⟩ := h3.small
    have e1 : bl.flatten ++ ys = (bl ++ [ys]).flatten := by simp
    rw [e1] at h5
    refine ⟨S2, hkk w' h2, h2, ?_, fun x hx => h4 x (h6 x hx), Or.inl ⟨ht, rfl⟩⟩
    have em : more1 bl ys = bl ++ [ys] := by unfold more1; rw [ht]; rfl
    rw [em]
    refine ⟨h5, fun x hx => ⟨?_, h7 x hx⟩, hb.good.snoc ht⟩
    rcases h4 x (h6 x hx) with h | h
    · exact (hb.low x h).1
    · exact Nat.le_trans hk.size h
/-- A builder's bytes. -/
def packL (bl : List (List UInt8)) : List UInt8 := packB (ens bl) bl.flatten
theorem l_done (w wr : World) (S : List Nat) (p : Nat) (bl : List (List UInt8)) (hk : Kept [] w wr) (hb : Bw w wr S p bl) (ht : Tab w) :
    Calls Tryd.prog 11 #[.pointer (some ⟨p, 0, none⟩)] wr (Gives wr [] (packL bl)) := b_done S p (ens bl) bl.flatten wr hb.bd (ht.kept hk (by simp))
theorem ens_ids (bl : List (List UInt8)) : ∀ e ∈ ens bl, e.id.length = 32 := fun e he => by
  obtain ⟨i, hi⟩ := List.getElem?_of_mem he
  rw [ens_get] at hi
  obtain ⟨b, _, rfl⟩ := Option.map_eq_some_iff.1 hi
  exact sum32 b
theorem packL_len (bl : List (List UInt8)) : (packL bl).length = sizeP (ens bl) := packB_len _ _ (ens_ids bl) (ens_ends bl).symm
theorem Good.plen {bl : List (List UInt8)} (h : Good bl) : (packL bl).length ≤ 1048576 := by rw [packL_len]; exact h.size.1
end Go.Proofs.YtembincggkpflaaDoor


/- Places held against each other, as the reference has them. -/
namespace Go.Proofs.YtembincggkpflaaDoor
open Go.RowKit Go.Lib Go.Maps

theorem ren_equal_part_id {x : En} (h : x.id.length = 32) (W : World) : (part 36 x.cells.toArray 0).run Tryd.prog W = .ok (.agg (x.id.map B).toArray) W := by
  have e : List.take 32 (List.drop 0 x.cells) = x.id.map B := by
    unfold En.cells
    rw [List.drop_zero, List.take_left' (by simp [h])]
  rw [List.drop_zero] at e
  have hs : (Go.sizeOf 36).run Tryd.prog W = .ok 32 W := Tryd.sizeOf36 W
  have ha : (isAgg 36).run Tryd.prog W = .ok true W := Tryd.isAgg36 W
  simp only [part, Sem.run_bind, hs, ha, Result.andThen_ok, Sem.run_pure]
  simp [e]
set_option maxRecDepth 100000 in
theorem ren_equal' (D : Nat) (x y : En) (hx : x.id.length = 32) (hy : y.id.length = 32) (W : World) : (Op.equalIn (D + 3) 42 (.agg x.cells.toArray) (.agg y.cells.toArray)).run Tryd.prog W = .ok (decide (x.id = y.id ∧ x.off = y.off ∧ x.len = y.len)) W := by
  have hS : Tryd.prog.underlying 42 = some (.struct (Tryd.prog.fieldsOf 42)) := by kernel_rfl
  have hp : Tryd.prog.stoodInHeld 42 = false := by kernel_rfl
  rw [run_equalIn_agg W (D + 2) _ _ _ hS hp]
  have a0 := ren_equal_part_id hx W
  have a1 := part_one Tryd.underlying3 rfl x.cells.toArray 32 _ (by simpa using en_c32 hx) W
  have a2 := part_one Tryd.underlying3 rfl x.cells.toArray 33 _ (by simpa using en_c33 hx) W
  have b0 := ren_equal_part_id hy W
  have b1 := part_one Tryd.underlying3 rfl y.cells.toArray 32 _ (by simpa using en_c32 hy) W
  have b2 := part_one Tryd.underlying3 rfl y.cells.toArray 33 _ (by simpa using en_c33 hy) W
  have q0 := nid_equal' x.id y.id hx hy D W
  have q1 := run_equalIn_int (P := Tryd.prog) W (D + 1) 3 .i64 .i64 (x.off : Int) (y.off : Int) Tryd.underlying3
  have q2 := run_equalIn_int (P := Tryd.prog) W (D + 1) 3 .i64 .i64 (x.len : Int) (y.len : Int) Tryd.underlying3
  simp only [Program.fieldsOf, Tryd.underlying42, List.toList_toArray]
  generalize x.cells.toArray = cx at *
  generalize y.cells.toArray = cy at *
  clear hS hp hx hy
  by_cases h0 : x.id = y.id
  · rw [decide_eq_true h0] at q0
    by_cases h1 : x.off = y.off
    · have r1 : ((x.off : Int) == (y.off : Int)) = true := by simp [h1]
      rw [r1] at q1
      by_cases h2 : x.len = y.len
      · have r2 : ((x.len : Int) == (y.len : Int)) = true := by simp [h2]
        rw [r2] at q2
        rw [decide_eq_true ⟨h0, h1, h2⟩]
        clear h0 h1 h2 r1 r2
        refine Eq.trans (eqF_true (a := .agg (x.id.map B).toArray) (b := .agg (y.id.map B).toArray) ?h1 ?h2 ?h3 ?h4) ?_
        case h1 => decide
        case h2 => exact a0
        case h3 => exact b0
        case h4 => exact q0
        refine Eq.trans (eqF_true (a := .int .i64 (x.off : Int)) (b := .int .i64 (y.off : Int)) ?h1 ?h2 ?h3 ?h4) ?_
        case h1 => decide
        case h2 => exact a1
        case h3 => exact b1
        case h4 => exact q1
        refine Eq.trans (eqF_true (a := .int .i64 (x.len : Int)) (b := .int .i64 (y.len : Int)) ?h1 ?h2 ?h3 ?h4) ?_
        case h1 => decide
        case h2 => exact a2
        case h3 => exact b2
        case h4 => exact q2
        exact eqF_nil
      · have r2 : ((x.len : Int) == (y.len : Int)) = false := by simp; omega
        rw [r2] at q2
        rw [decide_eq_false (fun h => h2 h.2.2)]
        clear h0 h1 h2 r1 r2
        refine Eq.trans (eqF_true (a := .agg (x.id.map B).toArray) (b := .agg (y.id.map B).toArray) ?h1 ?h2 ?h3 ?h4) ?_
        case h1 => decide
        case h2 => exact a0
        case h3 => exact b0
        case h4 => exact q0
        refine Eq.trans (eqF_true (a := .int .i64 (x.off : Int)) (b := .int .i64 (y.off : Int)) ?h1 ?h2 ?h3 ?h4) ?_
        case h1 => decide
        case h2 => exact a1
        case h3 => exact b1
        case h4 => exact q1
        refine eqF_false (a := .int .i64 (x.len : Int)) (b := .int .i64 (y.len : Int)) ?h1 ?h2 ?h3 ?h4
        case h1 => decide
        case h2 => exact a2
        case h3 => exact b2
        case h4 => exact q2
    · have r1 : ((x.off : Int) == (y.off : Int)) = false := by simp; omega
      rw [r1] at q1
      rw [decide_eq_false (fun h => h1 h.2.1)]
      clear h0 h1 r1
      refine Eq.trans (eqF_true (a := .agg (x.id.map B).toArray) (b := .agg (y.id.map B).toArray) ?h1 ?h2 ?h3 ?h4) ?_
      case h1 => decide
      case h2 => exact a0
      case h3 => exact b0
      case h4 => exact q0
      refine eqF_false (a := .int .i64 (x.off : Int)) (b := .int .i64 (y.off : Int)) ?h1 ?h2 ?h3 ?h4
      case h1 => decide
      case h2 => exact a1
      case h3 => exact b1
      case h4 => exact q1
  · rw [decide_eq_false h0] at q0
    rw [decide_eq_false (fun h => h0 h.1)]
    clear h0
    refine eqF_false (a := .agg (x.id.map B).toArray) (b := .agg (y.id.map B).toArray) ?h1 ?h2 ?h3 ?h4
    case h1 => decide
    case h2 => exact a0
    case h3 => exact b0
    case h4 => exact q0
theorem ren_equal_neq (x y : En) (hx : x.id.length = 32) (hy : y.id.length = 32) (W : World) : (binOp .neq 42 (.agg x.cells.toArray) (.agg y.cells.toArray)).run Tryd.prog W = .ok (.bool (!decide (x.id = y.id ∧ x.off = y.off ∧ x.len = y.len))) W := by
  have h := ren_equal' 9997 x y hx hy W
  rw [run_neq_struct, show (10000 : Nat) = 9997 + 3 from rfl, h]; rfl
end Go.Proofs.YtembincggkpflaaDoor
