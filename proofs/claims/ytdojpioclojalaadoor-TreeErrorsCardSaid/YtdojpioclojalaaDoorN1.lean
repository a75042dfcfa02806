import Derived.Test.YtdojpioclojalaaDoorN0
import Derived.Test.YtdojpioclojalaaDoorH4

/- coldstorelaw10.few. -/
namespace Go.Proofs.YtdojpioclojalaaDoor
open Go.RowKit Go.Lib

/-- A node's cells. -/
def NodeR.cells (n : NodeR) : List Value := [.string n.name, .bool n.dir, .int .i64 n.size, .slice n.pa n.parts.length n.pc] ++ n.sub.map B
theorem node_size (n : NodeR) (h : n.sub.length = 32) : n.cells.length = 36 := by unfold NodeR.cells; simp [h]
theorem node_info : (Tryd.prog.info? 42).map (·.size) = some 36 := by kernel_rfl
theorem NodeAt.reads {w : World} {x : Addr} {n : NodeR} (h : NodeAt w x n) : ∀ (j : Nat) v, n.cells[j]? = some v → w.cell? (x.add j) = some v := by
  obtain ⟨h0, h1, h2, h3, h4, _⟩ := h
  intro j v hj
  unfold NodeR.cells at hj
  match j, hj with
  | 0, hj =>
    have e : x.add 0 = x := by unfold Addr.add; simp
    rw [e, h0]; simpa using hj
  | 1, hj => rw [h1]; simpa using hj
  | 2, hj => rw [h2]; simpa using hj
  | 3, hj => rw [h3]; simpa using hj
  | k + 4, hj =>
    have hj2 : (n.sub.map B)[k]? = some v := by simpa using hj
    rw [List.getElem?_map] at hj2
    obtain ⟨b, hb, rfl⟩ := Option.map_eq_some_iff.1 hj2
    rw [show k + 4 = 4 + k by omega]
    exact h4 k b hb
theorem node_one (n : NodeR) : ∀ v ∈ n.cells, v.oneCell' = true := by
  intro v hv
  unfold NodeR.cells at hv
  simp only [List.mem_append, List.mem_cons, List.mem_map, List.not_mem_nil, or_false] at hv
  rcases hv with (rfl | rfl | rfl | rfl) | ⟨b, _, rfl⟩ <;> rfl

def zNode : List Value := [.string ⟨#[]⟩, .bool false, .int .i64 0, .slice none 0 0] ++ List.replicate 32 (.int .u8 0)
theorem zNode_len : zNode.length = 36 := by unfold zNode; simp
theorem zero_node (W : World) : (zeroValue 42).run Tryd.prog W = .ok (.agg zNode.toArray) W := by kernel_rfl
theorem splice36 (cur vs : List Value) (h : vs.length = cur.length) : splice cur 0 vs = vs := by
  unfold splice; simp [h]

/-- What few asks of a node, and of a list. -/
def NodeR.few (n : NodeR) : Prop := ¬ ((10 < n.parts.length ∧ n.parts.length ≤ 4096) ∨ 4200 < n.parts.length ∨ 200 < n.name.size)
instance (n : NodeR) : Decidable n.few := by unfold NodeR.few; infer_instance
def Few (ns : List NodeR) : Prop := (∀ n ∈ ns, n.few) ∧ (ns.length ≤ 30 ∨ (512 < ns.length ∧ ns.length < 600))
instance (ns : List NodeR) : Decidable (Few ns) := by unfold Few; infer_instance

set_option maxRecDepth 100000 in
set_option maxHeartbeats 4000000 in
theorem few10_any (a : Option Addr) (c : Nat) (ns : List NodeR) (w : World) (h : ∀ wr, Kept [] w wr → Nodes wr a c ns) :
    Calls Tryd.prog 10 #[.slice a ns.length c] w fun e w' => e = .returned (.bool (decide (Few ns))) ∧ Kept [] w w' := by
  have H := hid h
  have hmx := (h w (Kept.refl [] w)).max
  have hle := (h w (Kept.refl [] w)).le
  clear h
  go_enter Tryd.func10, Tryd.ntmps10
  go_wp2_with fail
  go_loopw [7] (fun s wr => ∃ i : Nat, i ≤ ns.length ∧ s = .int .i64 i ∧ Kept [] w wr ∧ Hid (∀ n ∈ ns.take i, n.few)) (fun s _ => ns.length - (intOf s).toNat)
  case atStart => exact ⟨0, Nat.zero_le _, rfl, Kept.refl _ _, hid (by simp)⟩
  case round =>
    obtain ⟨i, hi, rfl, hk, hfew⟩ := hrel
    have HK := hid hk
    clear hk
    by_cases hlt : i < ns.length
    · cases a with
      | none => exact absurd ((H.out w (Kept.refl _ _)).nil rfl) (fun e => by rw [e] at hlt; simp at hlt)
      | some x =>
        have hnode := (H.out wr HK.out).at_ x rfl i ns[i] (by simp [hlt])
        have hmem := hid (show ns[i] ∈ ns from List.getElem_mem hlt)
        have htk := hid (show ns.take (i + 1) = ns.take i ++ [ns[i]] from List.take_succ_eq_append_getElem hlt)
        generalize ns[i] = n at *
        have h32 : n.sub.length = 32 := hnode.2.2.2.2.2.1
        have hreads := hid hnode.reads
        have hsz := hid (show (Tryd.prog.info? 42).map (·.size) = some n.cells.length by rw [node_size n h32]; exact node_info)
        have hfit := hid (show 0 + n.cells.length ≤ zNode.length by rw [node_size n h32, zNode_len]; decide)
        have hone := hid (node_one n)
        have hspl := hid (splice36 zNode n.cells (by rw [node_size n h32, zNode_len]))
        have hzv := zero_node
        clear hnode h32
        go_wp2_with (refine wpList_load_cells rfl 42 (.tmp 9) rfl (x.add (i * 36)) rfl n.cells _ Tryd.underlying42 rfl hsz.out hreads.out ?_; refine halt ?_)
        refine Halt.mk ?_
        go_wp2_with (refine wpList_store_at rfl 42 (.tmp 4) (.tmp 10) rfl wr.heap.size 0 n.cells rfl rfl 42 zNode (heap_alloc_at rfl) hsz.out hfit.out hone.out ?_; refine halt ?_)
        rw [hspl.out]
        obtain ⟨wb, hwb⟩ : ∃ wb : World, wb = (wr.alloc (.cells zNode.toArray 42)).setRow wr.heap.size n.cells.toArray := ⟨_, rfl⟩
        rw [← hwb]
        refine Halt.mk ?_
        have hkb := hid (show Kept [] w wb by rw [hwb]; exact (HK.out.alloc _).setRow (fun h => absurd h (by have := HK.out.size; omega)) _)
        have hqb := hid (show wb.heap[wr.heap.size]? = some (.cells n.cells.toArray 42 (0, 0)) by rw [hwb]; exact setRow_heap _ _ _ _ _ _ (heap_alloc_at rfl))
        have c0 := cell_of_row _ _ 0 _ _ _ hqb.out
        have c3 := cell_of_row _ _ 3 _ _ _ hqb.out
        rw [show n.cells.toArray[0]? = some (.string n.name) from rfl] at c0
        rw [show n.cells.toArray[3]? = some (.slice n.pa n.parts.length n.pc) from rfl] at c3
        clear hwb hreads hsz hfit hone hspl
        have hnf := hid (show n.few ↔ ¬ ((10 < n.parts.length ∧ n.parts.length ≤ 4096) ∨ 4200 < n.parts.length ∨ 200 < n.name.size) from Iff.rfl)
        generalize hpl : n.parts.length = pl at *
        generalize hsl : n.name.size = sl at *
        have hle1 := hid (show i + 1 ≤ ns.length by omega)
        have hno := hid (fun hx : ¬ n.few => show decide (Few ns) = false from decide_eq_false (fun hF => hx (hF.1 n hmem.out)))
        have hyes := hid (fun hx : n.few => show ∀ m ∈ ns.take (i + 1), m.few from fun m hm => by
          rw [htk.out] at hm
          simp only [List.mem_append, List.mem_singleton] at hm
          rcases hm with hm | rfl
          · exact hfew.out m hm
          · exact hx)
        go_wp2
        all_goals first
          | (go_ret
             exact ⟨by rw [hno.out (fun hx => absurd (hnf.out.1 hx) (by omega))]; rfl, hkb.out⟩)
          | (have hnn : n.few := hnf.out.2 (by omega)
             have hy := hid (hyes.out hnn)
             go_roundw
             case rel => exact ⟨i + 1, hle1.out, by go_num, hkb.out, hy⟩
             case measure => simp [intOf]; omega)
    · have hin : i = ns.length := by omega
      subst hin
      rw [List.take_length] at hfew
      have hF := hid (show decide (Few ns) = decide (ns.length ≤ 30 ∨ (512 < ns.length ∧ ns.length < 600)) from by
        apply decide_eq_decide.2
        exact ⟨fun h => h.2, fun h => ⟨hfew.out, h⟩⟩)
      clear hlt hi hle
      generalize ns.length = nl at *
      by_cases g1 : nl ≤ 30
      · have e1 : (nl : Int) ≤ 30 := by omega
        have eF := hF.out.trans (decide_eq_true (by omega))
        go_wp2
        go_ret
        exact ⟨by first | rfl | (rw [eF]; rfl), HK.out⟩
      have e1 : ¬ (nl : Int) ≤ 30 := by omega
      by_cases g2 : 512 < nl
      · have e2 : (512 : Int) < (nl : Int) := by omega
        by_cases g3 : nl < 600
        · have e3 : (nl : Int) < 600 := by omega
          have eF := hF.out.trans (decide_eq_true (by omega))
          go_wp2
          go_ret
          exact ⟨by first | rfl | (rw [eF]; rfl), HK.out⟩
        · have e3 : ¬ (nl : Int) < 600 := by omega
          have eF := hF.out.trans (decide_eq_false (by omega))
          go_wp2
          go_ret
          exact ⟨by first | rfl | (rw [eF]; rfl), HK.out⟩
      · have e2 : ¬ (512 : Int) < (nl : Int) := by omega
        have eF := hF.out.trans (decide_eq_false (by omega))
        go_wp2
        go_ret
        exact ⟨by first | rfl | (rw [eF]; rfl), HK.out⟩
end Go.Proofs.YtdojpioclojalaaDoor
