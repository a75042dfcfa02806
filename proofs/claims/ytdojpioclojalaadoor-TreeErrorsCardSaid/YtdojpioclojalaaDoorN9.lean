import Derived.Test.YtdojpioclojalaaDoorN4
import Derived.Test.YtdojpioclojalaaDoorN6

/- coldstorelaw10.as. -/
namespace Go.Proofs.YtdojpioclojalaaDoor
open Go.RowKit Go.Lib

set_option maxRecDepth 100000 in
theorem build_node' (nm : ByteArray) (d : Bool) (z : Int) (pa : Option Addr) (pc : Nat) (k : Nat) (b0 b1 b2 b3 b4 b5 b6 b7 b8 b9 b10 b11 b12 b13 b14 b15 b16 b17 b18 b19 b20 b21 b22 b23 b24 b25 b26 b27 b28 b29 b30 b31 : UInt8) (W : World) :
    (Instr.buildSlice 33 1 #[(0, .agg ([Value.string nm, .bool d, .int .i64 z, .slice pa k pc] ++ [b0, b1, b2, b3, b4, b5, b6, b7, b8, b9, b10, b11, b12, b13, b14, b15, b16, b17, b18, b19, b20, b21, b22, b23, b24, b25, b26, b27, b28, b29, b30, b31].map B).toArray)]).run Tryd.prog W = .ok (.slice (some ⟨W.heap.size, 0, none⟩) 1 1) (W.alloc (.cells ([Value.string nm, .bool d, .int .i64 z, .slice pa k pc] ++ [b0, b1, b2, b3, b4, b5, b6, b7, b8, b9, b10, b11, b12, b13, b14, b15, b16, b17, b18, b19, b20, b21, b22, b23, b24, b25, b26, b27, b28, b29, b30, b31].map B).toArray 51)) := by kernel_rfl
theorem build_node (n : NodeR) (h : n.sub.length = 32) (W : World) : (Instr.buildSlice 33 1 #[(0, .agg n.cells.toArray)]).run Tryd.prog W = .ok (.slice (some ⟨W.heap.size, 0, none⟩) 1 1) (W.alloc (.cells n.cells.toArray 51)) := by
  obtain ⟨nm, d, z, pa, pc, ps, sub⟩ := n
  unfold NodeR.cells
  match sub, h with
  | [b0, b1, b2, b3, b4, b5, b6, b7, b8, b9, b10, b11, b12, b13, b14, b15, b16, b17, b18, b19, b20, b21, b22, b23, b24, b25, b26, b27, b28, b29, b30, b31], _ => exact build_node' nm d z pa pc ps.length b0 b1 b2 b3 b4 b5 b6 b7 b8 b9 b10 b11 b12 b13 b14 b15 b16 b17 b18 b19 b20 b21 b22 b23 b24 b25 b26 b27 b28 b29 b30 b31 W

theorem wpList_buildSlice1 {P : Program} {ops : Array Oper} {rest : List Oper} {o : Oper} {a : Act} {w : World} {Q : Exit → Act → World → Prop} (hgd : o.guard = none) (t n : Nat) (parts : Array (Nat × Operand)) (ho : o.op = .buildSlice t n parts) (v : Value) (w' : World)
    (hrun : (execOp a.eval o).run P w = .ok (.value v) w') (h : wpList P ops Q rest (a.put o.dst v) w') : wpList P ops Q (o :: rest) a w := by
  refine wpList_plain hgd fun K hK => ?_
  unfold Oper.wp
  rw [hrun]
  exact hK _ _ h

/-- A node's cells, thirty-six whatever it is. -/
def c36 (n : NodeR) : List Value := (n.cells ++ zNode).take 36
theorem c36_len (n : NodeR) : (c36 n).length = 36 := by unfold c36; rw [List.length_take, List.length_append, zNode_len]; omega
theorem c36_of {n : NodeR} (h : n.sub.length = 32) : c36 n = n.cells := by unfold c36; rw [List.take_left' (node_size n h)]
theorem c36_one (xs : List NodeR) : ∀ u ∈ xs.flatMap c36, u.oneCell' = true := by
  intro u hu
  obtain ⟨s, _, hs⟩ := List.mem_flatMap.1 hu
  unfold c36 at hs
  rcases List.mem_append.1 (List.mem_of_mem_take hs) with h | h
  · exact node_one s u h
  · exact node_one ⟨⟨#[]⟩, false, 0, none, 0, [], zid⟩ u h
theorem rnode_zero : (Tryd.prog.info? 51).map (fun i => (i.zero, i.size, i.bytes)) = some (some (.agg zNode.toArray), 36, 88) := by kernel_rfl
/-- A row of nodes, from its cells. -/
theorem nodes_of_row {W : World} {base : Nat} {a : Option Addr} {c : Nat} {ns : List NodeR} (hok : ∀ n ∈ ns, n.sub.length = 32 ∧ Ids W n.pa n.pc n.parts ∧ -9223372036854775808 ≤ n.size ∧ n.size ≤ 9223372036854775807)
    (ho : W.ownsRow base 51 36 (.slice a ns.length c) ns.length (ns.flatMap c36)) : Nodes W a c ns ∧ ∀ x, a = some x → base ≤ x.block ∧ x.spot = none := by
  rcases ho.2 with ⟨h1, h2⟩ | ⟨g, cap, cur, hv, hg, hh, hc, hm, hs, ht⟩
  · simp at h1
    obtain ⟨rfl, h1, rfl⟩ := h1
    have h3 : ns = [] := List.eq_nil_of_length_eq_zero h2
    subst h3
    exact ⟨⟨by simp, by omega, fun _ => rfl, fun x hx => by simp at hx⟩, fun x hx => by simp at hx⟩
  · simp at hv
    obtain ⟨rfl, rfl⟩ := hv
    refine ⟨⟨by omega, by unfold maxLen at hm; omega, fun h => by simp at h, fun x hx i n hn => ?_⟩, fun x hx => by simp at hx; subst hx; exact ⟨hg, rfl⟩⟩
    simp at hx
    subst hx
    obtain ⟨k32, kid, kz⟩ := hok n (List.mem_of_getElem? hn)
    have hcell : ∀ (j : Nat) v, n.cells[j]? = some v → W.cell? ((Addr.add ⟨g, 0, none⟩ (i * 36)).add j) = some v := by
      intro j v hj
      have hj36 : j < 36 := by have := (List.getElem?_eq_some_iff.1 hj).1; rw [node_size n k32] at this; exact this
      rw [n_add_add]
      refine ho.cells (g := g) rfl _ _ ?_
      rw [flat_get c36 36 c36_len ns i j n hn hj36, c36_of k32, hj]
    refine ⟨?_, hcell 1 _ n.c1, hcell 2 _ n.c2, hcell 3 _ n.c3, fun k b hk => hcell (4 + k) _ (n.c4 k b hk), k32, kid, kz⟩
    have h0 := hcell 0 _ n.c0
    have e : (Addr.add ⟨g, 0, none⟩ (i * 36)).add 0 = Addr.add ⟨g, 0, none⟩ (i * 36) := by simp [Addr.add]
    rw [e] at h0
    exact h0

set_option maxRecDepth 100000 in
set_option maxHeartbeats 4000000 in
theorem t_as (a : Option Addr) (c : Nat) (ns : List NodeR) (w : World) (h : ∀ wr, Kept [] w wr → Nodes wr a c ns) (hl : ns.length ≤ 1000000) :
    Calls Tryd.prog 14 #[.slice a ns.length c] w fun e w' => ∃ a2 c2, e = .returned (.slice a2 ns.length c2) ∧ Kept [] w w' ∧ w'.ownsRow w.heap.size 51 36 (.slice a2 ns.length c2) ns.length (ns.flatMap c36) := by
  obtain ⟨i0, hi0, hz0, hz1, hz2⟩ := info_parts rnode_zero
  have H := hid h
  have hmx := (h w (Kept.refl [] w)).max
  have hle := (h w (Kept.refl [] w)).le
  clear h
  have hzv := zero_node
  have hst := hid (show Kept [] w (w.alloc (.cells #[] 51)) ∧ (w.alloc (.cells #[] 51)).ownsRow w.heap.size 51 36 (.slice (some ⟨w.heap.size, 0, none⟩) 0 0) 0 [] from
    ⟨(Kept.refl [] w).alloc _, by simp, Or.inr ⟨w.heap.size, 0, #[], rfl, Nat.le_refl _, heap_alloc_at rfl, by simp, by unfold maxLen; omega, by simp, by simp⟩⟩)
  go_enter Tryd.func14, Tryd.ntmps14
  go_wp2_with fail
  go_loopw [3, 9] (fun v s wr => ∃ i : Nat, i ≤ ns.length ∧ s = .int .i64 i ∧ Kept [] w wr ∧ Hid (wr.ownsRow w.heap.size 51 36 v i ((ns.take i).flatMap c36))) (fun _ s _ => ns.length - (intOf s).toNat)
  case atStart => exact ⟨0, Nat.zero_le _, rfl, hst.out.1, hid (by simpa using hst.out.2)⟩
  case round =>
    obtain ⟨i, hi, rfl, hk, hown⟩ := hrel
    have HK := hid hk
    clear hk
    by_cases hlt : i < ns.length
    · cases a with
      | none => exact absurd ((H.out w (Kept.refl _ _)).nil rfl) (fun e => by rw [e] at hlt; simp at hlt)
      | some x =>
        have hnode := (H.out wr HK.out).at_ x rfl i ns[i] (by simp [hlt])
        have htk := hid (show (ns.take (i + 1)).flatMap c36 = (ns.take i).flatMap c36 ++ c36 ns[i] from by
          rw [List.take_succ_eq_append_getElem hlt, List.flatMap_append]; simp)
        have hlt2 := hid hlt
        generalize ns[i] = n at *
        have h32 := hid hnode.2.2.2.2.2.1
        have hreads := hid hnode.reads
        have hsz := hid (show (Tryd.prog.info? 42).map (·.size) = some n.cells.length by rw [node_size n h32.out]; exact node_info)
        have hfit := hid (show 0 + n.cells.length ≤ zNode.length by rw [node_size n h32.out, zNode_len]; decide)
        have hone := hid (node_one n)
        have hspl := hid (splice36 zNode n.cells (by rw [node_size n h32.out, zNode_len]))
        have hbn := hid (build_node n h32.out)
        have hc36 := hid (c36_of h32.out)
        clear hnode
        go_wp2_with (refine wpList_load_cells rfl 42 (.tmp 11) rfl (x.add (i * 36)) rfl n.cells _ Tryd.underlying42 rfl hsz.out hreads.out ?_; refine halt ?_)
        refine Halt.mk ?_
        go_wp2_with (refine wpList_store_at rfl 42 (.tmp 5) (.tmp 12) rfl wr.heap.size 0 n.cells rfl rfl 42 zNode (heap_alloc_at rfl) hsz.out hfit.out hone.out ?_; refine halt ?_)
        rw [hspl.out]
        obtain ⟨wb, hwb⟩ : ∃ wb : World, wb = (wr.alloc (.cells zNode.toArray 42)).setRow wr.heap.size n.cells.toArray := ⟨_, rfl⟩
        rw [← hwb]
        refine Halt.mk ?_
        have hkr := hid (show Kept [] wr wb by rw [hwb]; exact ((Kept.refl [] wr).alloc _).setRow (fun h => absurd h (Nat.lt_irrefl _)) _)
        have hqb : NAt wb wr.heap.size n := by rw [hwb]; exact setRow_heap _ _ _ _ _ _ (heap_alloc_at rfl)
        have HA := hid hqb
        clear hwb hreads hqb
        go_wp2_with (first | (refine wpList_load_cells rfl 42 (.tmp 5) rfl ⟨wr.heap.size, 0, none⟩ rfl n.cells _ Tryd.underlying42 rfl hsz.out HA.out.reads ?_) | (refine wpList_buildSlice1 rfl _ _ _ rfl (.slice (some ⟨wb.heap.size, 0, none⟩) 1 1) (wb.alloc (.cells n.cells.toArray 51)) (by have h := hbn.out wb; unfold execOp; simp [Act.eval, Act.put, h]) ?_; refine halt ?_))
        refine Halt.mk ?_
        obtain ⟨wc, hwc⟩ : ∃ wc : World, wc = wb.alloc (.cells n.cells.toArray 51) := ⟨_, rfl⟩
        rw [← hwc]
        have hkc := hid (show Kept [] wr wc from by rw [hwc]; exact hkr.out.alloc _)
        have hnew := hid (show ∀ (j : Nat) u, (c36 n)[j]? = some u → wc.cell? ((⟨wb.heap.size, 0, none⟩ : Addr).add j) = some u from by
          intro j u hj
          rw [hc36.out] at hj
          have e : (⟨wb.heap.size, 0, none⟩ : Addr).add j = ⟨wb.heap.size, j, none⟩ := by unfold Addr.add; split <;> simp_all
          rw [e, hwc, cell_of_row _ _ j _ _ _ (heap_alloc_at rfl)]; simpa using hj)
        have ho2 := hid (hkc.out.owns hown.out (by simp))
        have hsb := hid (show w.heap.size ≤ wc.heap.size by have h1 := HK.out.size; have h2 := hkc.out.size; omega)
        clear hwc
        go_wp2_with (at_builtin; refine halt ?_)
        refine Halt.mk ?_
        refine wpList_append_k _ rfl _ _ _ rfl w.heap.size 51 i0 _ 36 88 Tryd.underlying33 hi0 hz0 hz1 hz2 (by rw [Value.cells, List.size_toArray, zNode_len]) (by decide) u3 i _ rfl ho2.out (.slice (some ⟨wb.heap.size, 0, none⟩) 1 1) 1 (c36 n) rfl (Or.inr ⟨_, _, rfl, hnew.out⟩) (by rw [c36_len]) (by rw [hc36.out]; exact hone.out) (by unfold maxLen; omega) (by omega) hsb.out ?_
        intro v2 w2 hown2 hgrow2 _ hf2
        have hk2 := hid (show Kept [] w w2 from (HK.out.trans hkc.out).trans' (Kept.of_row hgrow2) (fun y hy hm => by
          rcases hown.out.2 with ⟨rfl, _⟩ | ⟨g, _, _, rfl, hb, _⟩
          · simp [Value.ownBlock] at hm
          · simp [Value.ownBlock] at hm; omega))
        rw [← htk.out] at hown2
        obtain ⟨a2, c2, rfl⟩ := owns_slice hown2
        have Ho := hid hown2
        have hin := hlt2.out
        clear hown2 hgrow2 hf2
        go_wp2
        go_roundw
        case rel => exact ⟨i + 1, hin, by go_num, hk2.out, Ho⟩
        case measure => simp [intOf]; omega
    · have hin : i = ns.length := by omega
      subst hin
      rw [List.take_length] at hown
      obtain ⟨a2, c2, rfl⟩ := owns_slice hown.out
      clear hlt hi hle
      go_wp2
      go_ret
      exact ⟨a2, c2, rfl, HK.out, hown.out⟩
end Go.Proofs.YtdojpioclojalaaDoor
