import Derived.Test.YtdojpioclojalaaDoorN24
import Derived.Test.YtdojpioclojalaaDoorN23

/- TreeErrors: a list with one thing turned, as mathematics; its closure. -/
namespace Go.Proofs.YtdojpioclojalaaDoor
open Go.RowKit Go.Lib

def lastName : Option (List UInt8) → List Nd → Option (List UInt8)
  | p, [] => p
  | _, n :: l => lastName (some n.name) l
theorem errFrom_append : ∀ (l r : List Nd) (p : Option (List UInt8)), errFrom p (l ++ r) = if errFrom p l = 0 then errFrom (lastName p l) r else errFrom p l
  | [], r, p => by simp [errFrom, lastName]
  | n :: l, r, p => by
    rw [List.cons_append, errFrom_cons, errFrom_cons]
    by_cases h : n.err p = 0
    · rw [if_pos h, if_pos h, errFrom_append l r]; rfl
    · rw [if_neg h, if_neg h, if_neg h]
theorem errL_parts {A C : List Nd} {n : Nd} (h : errL (A ++ n :: C) = 0) : (A ++ n :: C).length ≤ 512 ∧ errFrom none A = 0 ∧ n.err (lastName none A) = 0 ∧ errFrom (some n.name) C = 0 := by
  have h1 := ((errL_zero _).1 h).1
  unfold errL at h
  rw [if_neg (by omega), errFrom_append] at h
  by_cases hA : errFrom none A = 0
  · rw [if_pos hA, errFrom_cons] at h
    by_cases hn : n.err (lastName none A) = 0
    · rw [if_pos hn] at h; exact ⟨h1, hA, hn, h⟩
    · rw [if_neg hn] at h; exact absurd h hn
  · rw [if_neg hA] at h; exact absurd h hA
theorem errL_at {A C : List Nd} {n m : Nd} (h : errL (A ++ n :: C) = 0) (hm : m.err (lastName none A) ≠ 0) : errL (A ++ m :: C) = m.err (lastName none A) := by
  obtain ⟨h1, h2, _, _⟩ := errL_parts h
  unfold errL
  rw [if_neg (by simp at h1 ⊢; omega), errFrom_append, if_pos h2, errFrom_cons, if_neg hm]
theorem err_path {n : Nd} {q : Option (List UInt8)} (h : okPart n.name = false) : n.err q = 38 := by unfold Nd.err; rw [if_pos h]
theorem err_form {n m : Nd} {q : Option (List UInt8)} (h : n.err q = 0) (hn : m.name = n.name) (hf : m.formed = false) : m.err q = 21 := by
  obtain ⟨⟨h1, _, _⟩, h2⟩ := (err_zero q n).1 h
  unfold Nd.err
  rw [hn, if_neg (by rw [h1]; simp), if_neg (by rw [h2]; simp), if_pos hf]
theorem err_twice {A C : List Nd} {n : Nd} (h : errL (A ++ n :: C) = 0) (hl : (A ++ n :: C).length ≤ 30) : errL ((A ++ [n]) ++ (n :: C)) = 24 := by
  obtain ⟨h1, h2, h3, _⟩ := errL_parts h
  obtain ⟨⟨g1, _, _⟩, _⟩ := (err_zero _ n).1 h3
  unfold errL
  rw [if_neg (by simp at hl ⊢; omega), List.append_assoc, errFrom_append, if_pos h2]
  show errFrom _ (n :: n :: C) = 24
  rw [errFrom_cons, if_pos h3, errFrom_cons]
  have h24 : n.err (some n.name) = 24 := by
    unfold Nd.err
    rw [if_neg (by rw [g1]; simp), if_pos (by simp [late, List.lt_irrefl])]
  rw [if_neg (by rw [h24]; decide), h24]
theorem err_less {A C : List Nd} {n : Nd} (h : errL (A ++ n :: C) = 0) : errL (A ++ C) = 0 := by
  obtain ⟨h1, h2, h3⟩ := (errL_zero _).1 h
  have hs : (A ++ C).Sublist (A ++ n :: C) := (List.sublist_cons_self n C).append_left A
  exact (errL_zero _).2 ⟨Nat.le_trans hs.length_le h1, fun m hm => h2 m (hs.subset hm), h3.sublist hs⟩
theorem name_gone {A C : List Nd} {n : Nd} (h : errL (A ++ n :: C) = 0) : ∀ m ∈ A ++ C, m.name ≠ n.name := by
  obtain ⟨_, _, h3⟩ := (errL_zero _).1 h
  rw [List.pairwise_append, List.pairwise_cons] at h3
  intro m hm e
  rcases List.mem_append.1 hm with hm | hm
  · have := h3.2.2 m hm n (by simp); rw [e] at this; exact List.lt_irrefl _ this
  · have := h3.2.1.1 m hm; rw [e] at this; exact List.lt_irrefl _ this

theorem set_split {α : Type} (l : List α) (i : Nat) (h : i < l.length) (m : α) : l.set i m = l.take i ++ m :: l.drop (i + 1) := by
  rw [List.set_eq_take_append_cons_drop, if_pos h]
/-- One of the rows of a row is written over. -/
theorem splice_row (l : List NodeR) (i : Nat) (h : i < l.length) (m : NodeR) (spare : List Value) : splice (l.flatMap c36 ++ spare) (i * 36) (c36 m) = (l.set i m).flatMap c36 ++ spare := by
  have e1 : l = l.take i ++ l[i] :: l.drop (i + 1) := by rw [← List.drop_eq_getElem_cons h, List.take_append_drop]
  have hA : ((l.take i).flatMap c36).length = i * 36 := by rw [flat_len c36 36 c36_len, List.length_take, Nat.min_eq_left (by omega)]
  rw [set_split l i h m]
  generalize l[i] = n at *
  generalize l.take i = A at *
  generalize l.drop (i + 1) = C at *
  subst e1
  simp only [List.flatMap_append, List.flatMap_cons, List.append_assoc]
  unfold splice
  rw [← hA, List.take_left', c36_len, ← List.drop_drop, List.drop_left', List.drop_left' (c36_len n)]
  all_goals rfl
theorem own_store {w : World} {base g N c : Nat} {l : List NodeR} (ho : w.ownsRow base 42 36 (.slice (some ⟨g, 0, none⟩) N c) N (l.flatMap c36)) (hN : N = l.length) (i : Nat) (hi : i < l.length) (m : NodeR) :
    ∃ cur : List Value, w.heap[g]? = some (.cells cur.toArray 42 (0, 0)) ∧ i * 36 + 36 ≤ cur.length ∧ (w.setRow g (splice cur (i * 36) (c36 m)).toArray).ownsRow base 42 36 (.slice (some ⟨g, 0, none⟩) N c) N ((l.set i m).flatMap c36) := by
  rcases ho.2 with ⟨h1, _⟩ | ⟨g', cap, cur, h1, h2, h3, h4, h5, h6, h7⟩
  · simp at h1
  · simp at h1
    obtain ⟨rfl, rfl⟩ := h1
    have hlen : N * 36 ≤ cur.toList.length := by rw [Array.length_toList, h6]; omega
    have hsp : cur.toList = l.flatMap c36 ++ cur.toList.drop (N * 36) := by rw [← h7, List.take_append_drop]
    refine ⟨cur.toList, by simpa using h3, by omega, ?_⟩
    rw [hsp, splice_row l i hi m]
    refine ⟨by rw [flat_len c36 36 c36_len, List.length_set, hN], Or.inr ⟨g, c, _, rfl, h2, setRow_heap _ _ _ _ _ _ (by simpa using h3), h4, h5, ?_, ?_⟩⟩
    · simp only [List.size_toArray, List.length_append, flat_len c36 36 c36_len, List.length_set, List.length_drop, Array.length_toList, h6]; omega
    · simp only [List.toList_toArray]
      rw [List.take_left' (by rw [flat_len c36 36 c36_len, List.length_set, hN])]

set_option maxRecDepth 100000 in
set_option maxHeartbeats 4000000 in
theorem t_set (lb ib : Nat) (a : Option Addr) (c : Nat) (ns : List NodeR) (i : Nat) (m : NodeR) (w : World) (hb1 : w.heap[lb]? = some (.cells #[.slice a ns.length c] 22 (0, 0))) (hb2 : w.heap[ib]? = some (.cells #[.int .i64 (i : Int)] 3 (0, 0)))
    (h : ∀ wr, Kept [] w wr → Nodes wr a c ns) (hm : ∀ wr, Kept [] w wr → NodeOk wr m) (hil : i < ns.length) (hlen : ns.length ≤ 1000) :
    Calls Tryd.prog 17 #[.agg m.cells.toArray, .pointer (some ⟨lb, 0, none⟩), .pointer (some ⟨ib, 0, none⟩)] w fun e w' => e = .returned (.int .i64 (errL ((ns.set i m).map NodeR.nd))) ∧ Kept [] w w' := by
  obtain ⟨j0, hj0, hy0, hy1, hy2⟩ := info_parts node_zero'
  have H := hid h; have HM := hid hm
  have h32 := hid (hm w (Kept.refl _ _)).1
  obtain ⟨W0, hW0⟩ : ∃ W0, W0 = w.alloc (.cells m.cells.toArray 42) := ⟨_, rfl⟩
  obtain ⟨W1, hW1⟩ : ∃ W1, W1 = W0.alloc (.cells #[] 42) := ⟨_, rfl⟩
  have K0 := hid (show Kept [] w W0 by rw [hW0]; exact (Kept.refl [] w).alloc _)
  have K1 := hid (show Kept [] w W1 by rw [hW1]; exact K0.out.alloc _)
  have hq0 := hid (show NAt W1 w.heap.size m by rw [hW1, hW0]; exact heap_alloc_old (heap_alloc_at rfl))
  have hr0 := hid (show W1.ownsRow W0.heap.size 42 36 (.slice (some ⟨W0.heap.size, 0, none⟩) 0 0) 0 [] from row0 (by rw [hW1]; exact heap_alloc_at rfl) _ (Nat.le_refl _))
  have hlt0 := hid (show w.heap.size < W0.heap.size by rw [hW0]; simp)
  have L1 := hid (K1.out.at hb1 (by simp)); have I1 := hid (K1.out.at hb2 (by simp))
  have hlb := hid (lt_of_block hb1); have hib := hid (lt_of_block hb2)
  have c1 := cell_of_row _ _ 0 _ _ _ L1.out
  rw [show (#[Value.slice a ns.length c])[0]? = some (.slice a ns.length c) from rfl] at c1
  rw [hW1, hW0] at c1
  have HW0 := hid hW0; have HW1 := hid hW1
  clear h hm hb1 hb2 hW0 hW1
  go_enter Tryd.func17, Tryd.ntmps17
  go_wp2_with (at_builtin; refine halt ?_)
  rw [← HW0.out, ← HW1.out]
  rw [← HW0.out, ← HW1.out] at c1
  have hws := hid (show w.heap.size + 1 = W0.heap.size by rw [HW0.out]; simp)
  rw [hws.out]
  refine Halt.mk ?_
  refine wpList_append_nodes rfl _ _ _ rfl W0.heap.size 42 j0 _ 88 Tryd.underlying22 hj0 hy0 hy1 hy2 (by rw [Value.cells, List.size_toArray, zNode_len]) _ 0 [] rfl hr0.out a c ns (H.out _ K1.out) rfl (by unfold maxLen; omega) (by omega) (by rw [HW1.out]; simp) ?_
  intro v2 w2 hown hgrow _
  simp only [Nat.zero_add, List.nil_append] at hown
  obtain ⟨a2, c2, rfl⟩ := owns_slice hown
  have hk2 := hid (show Kept [] w w2 from K1.out.trans' (Kept.of_row hgrow) (fun y hy hm => by rw [Option.mem_toList] at hm; have := (own_block_lt hr0.out hm).1; have := hlt0.out; omega))
  have hne : ∀ k, (Value.slice (some ⟨W0.heap.size, 0, none⟩) 0 0).ownBlock = some k → W0.heap.size ≤ k := fun k hk => (own_block_lt hr0.out hk).1
  have hq2 := hid (show NAt w2 w.heap.size m from heap_grown hgrow hq0.out (fun e => by have := hne _ e; have := hlt0.out; omega))
  have I2 := hid (heap_grown hgrow I1.out (fun e => by have := hne _ e; have := hlt0.out; have := hib.out; omega))
  have ho2 := hid hown
  clear hown hgrow hne c1 hr0 hq0
  obtain ⟨g, rfl⟩ : ∃ g, a2 = some ⟨g, 0, none⟩ := by
    rcases ho2.out.2 with ⟨_, h0⟩ | ⟨g, _, _, hv, _⟩
    · omega
    · simp at hv; exact ⟨g, hv.1⟩
  have hgb := hid (own_block_lt ho2.out (g := g) rfl)
  obtain ⟨cur, hcur, hcl, hown3⟩ := own_store ho2.out rfl i hil m
  have c2' := cell_of_row _ _ 0 _ _ _ I2.out
  rw [show (#[Value.int .i64 (i : Int)])[0]? = some (.int .i64 (i : Int)) from rfl] at c2'
  have msz := hid (show (Tryd.prog.info? 42).map (·.size) = some m.cells.length by rw [node_size m h32.out]; exact node_info)
  have mone := hid (node_one m)
  have hcur2 := hid hcur; have hcl2 := hid hcl; have hown4 := hid hown3
  have hm36 := hid (c36_of h32.out)
  have hcap : ns.length ≤ c2 := by
    rcases ho2.out.2 with ⟨h1, _⟩ | ⟨_, _, _, hv, _, _, h4, _⟩
    · simp at h1
    · simp at hv; omega
  have hcm : c2 ≤ 9223372036854775807 := by
    rcases ho2.out.2 with ⟨h1, _⟩ | ⟨_, _, _, hv, _, _, _, h5, _⟩
    · simp at h1
    · simp at hv; unfold maxLen at h5; omega
  clear hcur hcl hown3
  go_wp2_with (first | (refine wpList_load_cells rfl 42 (.tmp 3) rfl ⟨w.heap.size, 0, none⟩ rfl m.cells _ Tryd.underlying42 rfl msz.out (NAt.reads hq2.out) ?_) | (refine wpList_store_at rfl 42 (.tmp 12) (.tmp 11) rfl g (i * 36) m.cells (by go_simp) rfl 42 cur hcur2.out msz.out (by rw [node_size m h32.out]; exact hcl2.out) mone.out ?_; refine halt ?_))
  rw [← hm36.out]
  obtain ⟨w3, hw3⟩ : ∃ w3 : World, w3 = w2.setRow g (splice cur (i * 36) (c36 m)).toArray := ⟨_, rfl⟩
  rw [← hw3] at hown4 ⊢
  refine Halt.mk ?_
  have hk3 := hid (show Kept [] w w3 by rw [hw3]; exact hk2.out.setRow (fun h => absurd h (by have := hgb.out.1; have := hlt0.out; omega)) _)
  have hL := hid (show ∀ wr, Kept [] w3 wr → Nodes wr (some ⟨g, 0, none⟩) c2 (ns.set i m) from fun wr hk => tnodes_of_row (ns := ns.set i m) (fun n hn => by
    rcases List.mem_or_eq_of_mem_set hn with hn | rfl
    · exact (H.out wr (hk3.out.trans hk)).ok n hn
    · exact HM.out wr (hk3.out.trans hk)) (by rw [List.length_set]; exact hk.owns hown4.out (by simp)))
  have hC := hid (t_check (some ⟨g, 0, none⟩) c2 (ns.set i m) w3 hL.out)
  rw [List.length_set] at hC
  clear hw3 hown4 hcur2 ho2
  go_wp2_with fail
  refine hC.out.mono ?_
  rintro e w4 ⟨rfl, k4⟩
  go_wp2
  go_ret
  exact ⟨by rw [List.map_set]; rfl, hk3.out.trans k4⟩
end Go.Proofs.YtdojpioclojalaaDoor
