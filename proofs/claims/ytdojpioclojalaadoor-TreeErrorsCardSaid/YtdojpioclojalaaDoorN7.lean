import Derived.Test.YtdojpioclojalaaDoorN5
import Derived.Test.YtdojpioclojalaaDoorN6
import Derived.Test.YtdojpioclojalaaDoorJ3

/- tree.Find. -/
namespace Go.Proofs.YtdojpioclojalaaDoor
open Go.RowKit Go.Lib

theorem node_set {W : World} {p : Nat} {n : NodeR} (h : NAt W p n) (a2 : Option Addr) (c2 : Nat) : NAt (W.setCell ⟨p, 3, none⟩ (.slice a2 n.parts.length c2)) p { n with pa := a2, pc := c2 } := by
  unfold NAt at h ⊢
  rw [Go.heap_setCell_same W _ 3 _ _ _ h]; rfl
def zNd : NodeR := ⟨⟨#[]⟩, false, 0, none, 0, [], zid⟩
theorem zNd_cells : zNd.cells = zNode := rfl
theorem Ids.kept {L : List Nat} {w w' : World} {a : Option Addr} {c : Nat} {ids : List (List UInt8)} (h : Ids w a c ids) (hk : Kept L w w') (hL : ∀ x, a = some x → x.block ∉ L) : Ids w' a c ids :=
  ⟨h.le, h.max, h.nil, fun x hx i id hi => ⟨(h.at_ x hx i id hi).1, fun k b hb => by
    have h1 := (h.at_ x hx i id hi).2 k b hb
    have e : ((x.add (i * 32)).add k).block = x.block := by unfold Addr.add; split <;> split <;> rfl
    exact (hk.cell (World.block_lt_of_cell? w _ h1) (by rw [e]; exact hL x hx)).trans h1⟩⟩
theorem zNode_one : ∀ v ∈ zNode, v.oneCell' = true := by rw [← zNd_cells]; exact node_one _
theorem n_free_row {W : World} {p : Nat} {cs : Array Value} {t : TypeId} (h : W.heap[p]? = some (.cells cs t (0, 0))) (j : Nat) : W.frozen? ⟨p, j, none⟩ = false := by
  unfold World.frozen?
  simp [h]
theorem run_ld_node {w : World} {p : Nat} {cs : List Value} (h : w.heap[p]? = some (.cells cs.toArray 42 (0, 0))) (hl : cs.length = 36) : (loadVar 42 ⟨p, 0, none⟩).run Tryd.prog w = .ok (.agg cs.toArray) w := by
  refine run_loadVar_cells w 42 ⟨p, 0, none⟩ cs _ Tryd.underlying42 rfl (by rw [hl]; exact node_info) (fun j v hj => ?_)
  have e : (⟨p, 0, none⟩ : Addr).add j = ⟨p, j, none⟩ := by unfold Addr.add; split <;> simp_all
  rw [e, cell_of_row w _ j _ _ _ h]; simpa using hj

/-- What Find finds. -/
def findR (ns : List NodeR) (x : List UInt8) : Option NodeR := ns.find? (fun n => decide (n.nd.name = x))
def Found (w w' : World) (ns : List NodeR) (x : List UInt8) (e : Ending) : Prop :=
  (findR ns x = none ∧ e = .returned (.tuple #[.agg zNode.toArray, .bool false])) ∨
  ∃ n m : NodeR, findR ns x = some n ∧ m.nd = n.nd ∧ e = .returned (.tuple #[.agg m.cells.toArray, .bool true]) ∧ Ids w' m.pa m.pc m.parts ∧ m.sub.length = 32 ∧ ∀ y, m.pa = some y → w.heap.size ≤ y.block ∧ y.spot = none

set_option maxRecDepth 100000 in
set_option maxHeartbeats 4000000 in
theorem t_find (a : Option Addr) (c : Nat) (ns : List NodeR) (t : List UInt8) (w : World) (h : ∀ wr, Kept [] w wr → Nodes wr a c ns) (hpl : ∀ n ∈ ns, n.parts.length ≤ 1000000) :
    Calls Tryd.prog 18 #[.slice a ns.length c, .string (S t)] w fun e w' => Found w w' ns t e ∧ Kept [] w w' := by
  have H := hid h
  have hPL := hid hpl
  have hmx := (h w (Kept.refl [] w)).max
  have hle := (h w (Kept.refl [] w)).le
  clear h hpl
  have hzv := zero_node
  have HB0 := hid (show (w.alloc (.cells zNode.toArray 42)).heap[w.heap.size]? = some (.cells zNode.toArray 42 (0, 0)) from heap_alloc_at rfl)
  have HK0 := hid (show Kept [] w (w.alloc (.cells zNode.toArray 42)) from (Kept.refl [] w).alloc _)
  go_enter Tryd.func18, Tryd.ntmps18
  go_wp2_with fail
  go_loopw [10] (fun s wr => ∃ i : Nat, i ≤ ns.length ∧ s = .int .i64 i ∧ Kept [] w wr ∧ Hid (wr.heap[w.heap.size]? = some (.cells zNode.toArray 42 (0, 0))) ∧ Hid (∀ m ∈ ns.take i, m.nd.name ≠ t)) (fun s _ => ns.length - (intOf s).toNat)
  case atStart => exact ⟨0, Nat.zero_le _, rfl, HK0.out, HB0, hid (by simp)⟩
  case round =>
    obtain ⟨i, hi, rfl, hk, hbx, hno⟩ := hrel
    have HK := hid hk
    clear hk
    by_cases hlt : i < ns.length
    · cases a with
      | none => exact absurd ((H.out w (Kept.refl _ _)).nil rfl) (fun e => by rw [e] at hlt; simp at hlt)
      | some x =>
        have hnode := (H.out wr HK.out).at_ x rfl i ns[i] (by simp [hlt])
        have hnx := hid (fun h : (ns[i]).nd.name ≠ t => show ∀ m ∈ ns.take (i + 1), m.nd.name ≠ t from by
          rw [List.take_succ_eq_append_getElem hlt]
          intro m hm
          rcases List.mem_append.1 hm with hm | hm
          · exact hno.out m hm
          · rw [List.mem_singleton.1 hm]; exact h)
        have hyx := hid (fun h : (ns[i]).nd.name = t => show findR ns t = some ns[i] from by
          unfold findR
          have e1 : ns = ns.take i ++ ns[i] :: ns.drop (i + 1) := by rw [← List.drop_eq_getElem_cons hlt, List.take_append_drop]
          conv => lhs; rw [e1]
          rw [List.find?_append, List.find?_eq_none.2 (fun m hm => by simpa using hno.out m hm), List.find?_cons_of_pos (by simpa using h)]
          rfl)
        have hids := hid (fun (wv : World) (hv : Kept [] w wv) => ((H.out wv hv).at_ x rfl i ns[i] (by simp [hlt])).2.2.2.2.2.2.1)
        have hp1 := hid (hPL.out _ (List.getElem_mem hlt))
        have hlt2 := hid hlt
        generalize ns[i] = n at *
        have hin := hid (show i + 1 ≤ ns.length from hlt2.out)
        have h32 := hid hnode.2.2.2.2.2.1
        have hreads := hid hnode.reads
        have hsz := hid (show (Tryd.prog.info? 42).map (·.size) = some n.cells.length by rw [node_size n h32.out]; exact node_info)
        have hfit := hid (show 0 + n.cells.length ≤ zNode.length by rw [node_size n h32.out, zNode_len]; decide)
        have hone := hid (node_one n)
        have hspl := hid (splice36 zNode n.cells (by rw [node_size n h32.out, zNode_len]))
        clear hnode
        go_wp2_with (refine wpList_load_cells rfl 42 (.tmp 12) rfl (x.add (i * 36)) rfl n.cells _ Tryd.underlying42 rfl hsz.out hreads.out ?_; refine halt ?_)
        refine Halt.mk ?_
        go_wp2_with (refine wpList_store_at rfl 42 (.tmp 7) (.tmp 13) rfl wr.heap.size 0 n.cells rfl rfl 42 zNode (heap_alloc_at rfl) hsz.out hfit.out hone.out ?_; refine halt ?_)
        rw [hspl.out]
        have hbs := hid (show w.heap.size < wr.heap.size from (Array.getElem?_eq_some_iff.1 hbx.out).1)
        obtain ⟨wb, hwb⟩ : ∃ wb : World, wb = (wr.alloc (.cells zNode.toArray 42)).setRow wr.heap.size n.cells.toArray := ⟨_, rfl⟩
        rw [← hwb]
        refine Halt.mk ?_
        have hkr := hid (show Kept [] wr wb by rw [hwb]; exact ((Kept.refl [] wr).alloc _).setRow (fun h => absurd h (Nat.lt_irrefl _)) _)
        have hkb := hid (HK.out.trans hkr.out)
        have hqb : NAt wb wr.heap.size n := by rw [hwb]; exact setRow_heap _ _ _ _ _ _ (heap_alloc_at rfl)
        have HA := hid hqb
        have HBX := hid (hkr.out.at hbx.out (by simp))
        have c0 := hqb.cell 0 _ n.c0
        have c3 := hqb.cell 3 _ n.c3
        have hbe : (n.name.toList == (S t).toList) = decide (n.nd.name = t) := S_beq n.nd.name t
        clear hwb hreads hqb hbx
        by_cases hx : n.nd.name = t
        · have hf := hid (hyx.out hx)
          rw [decide_eq_true hx] at hbe
          clear hx hnx hyx
          have hcl := hid (clone_ids n.pa n.pc n.parts wb (hids.out wb hkb.out) hp1.out)
          have hws := hid (show wr.heap.size < wb.heap.size from (Array.getElem?_eq_some_iff.1 HA.out).1)
          go_wp2_with fail
          refine hcl.out.mono ?_
          rintro e w1 ⟨a2, c2, rfl, hk1, hi2, hf2⟩
          have HI2 := hid hi2; have HF2 := hid hf2; have hK1 := hid hk1
          clear hi2 hf2 hk1
          have HA1 := hid (HA.out.kept hK1.out (by simp))
          have HX1 := hid (hK1.out.at HBX.out (by simp))
          have g3 := HA1.out.cell 3 _ n.c3
          have gf := n_free_row HA1.out 3
          obtain ⟨m, hm⟩ : ∃ m : NodeR, m = { n with pa := a2, pc := c2 } := ⟨_, rfl⟩
          have hms := hid (node_set HA1.out a2 c2)
          rw [← hm] at hms
          have hm32 := hid (show m.sub.length = 32 by rw [hm]; exact h32.out)
          have hmnd := hid (show m.nd = n.nd by rw [hm]; rfl)
          have hmid := hid (show Ids w1 m.pa m.pc m.parts by rw [hm]; exact HI2.out)
          have hmi2 := hid (fun (wv : World) (hv : wv = w1.setCell ⟨wr.heap.size, 3, none⟩ (.slice a2 n.parts.length c2)) => show Ids wv m.pa m.pc m.parts from hmid.out.kept (L := [wr.heap.size]) (by rw [hv]; exact (Kept.refl [wr.heap.size] w1).setCell (fun _ => by simp) _) (fun y hy => by
            have h1 := (HF2.out y (by rw [hm] at hy; exact hy)).1
            have h2 := hws.out
            simp; omega))
          have hmfw := hid (show ∀ y, m.pa = some y → w.heap.size < y.block from fun y hy => by
            have h1 := (HF2.out y (by rw [hm] at hy; exact hy)).1
            have h2 := hws.out; have h3 := hbs.out
            omega)
          have hmfr := hid (show ∀ y, m.pa = some y → w.heap.size ≤ y.block ∧ y.spot = none by rw [hm]; exact fun y hy => ⟨Nat.le_trans (by have := hbs.out; have := hws.out; omega) (HF2.out y hy).1, (HF2.out y hy).2⟩)
          obtain ⟨w2, hw2⟩ : ∃ w2 : World, w2 = w1.setCell ⟨wr.heap.size, 3, none⟩ (.slice a2 n.parts.length c2) := ⟨_, rfl⟩
          rw [← hw2] at hms
          have hmsz := hid (show (Tryd.prog.info? 42).map (·.size) = some m.cells.length by rw [node_size m hm32.out]; exact node_info)
          clear hm
          go_wp2_with (refine wpList_load_cells rfl 42 (.tmp 7) rfl ⟨wr.heap.size, 0, none⟩ rfl m.cells _ Tryd.underlying42 rfl hmsz.out (by rw [← hw2]; exact hms.out.reads) ?_; refine halt ?_)
          rw [← hw2]
          refine Halt.mk ?_
          have hbm := hid (show w2.heap[w.heap.size]? = some (.cells zNode.toArray 42 (0, 0)) from by rw [hw2]; exact heap_setCell_other HX1.out (by have := hbs.out; show w.heap.size ≠ wr.heap.size; omega))
          have hk2 := hid (show Kept [] w w2 from by rw [hw2]; exact (hkb.out.trans hK1.out).setCell (fun h => absurd h (by have := hbs.out; show ¬ wr.heap.size < w.heap.size; omega)) _)
          have hi2 := hid (show Ids w2 m.pa m.pc m.parts from hmi2.out w2 hw2)
          have hmfit := hid (show 0 + m.cells.length ≤ zNode.length by rw [node_size m hm32.out, zNode_len]; decide)
          have hmone := hid (node_one m)
          clear hw2 g3 gf
          go_wp2_with (refine wpList_store_at rfl 42 (.tmp 4) (.tmp 22) rfl w.heap.size 0 m.cells rfl rfl 42 zNode hbm.out hmsz.out hmfit.out hmone.out ?_; refine halt ?_)
          rw [splice36 zNode m.cells (by rw [node_size m hm32.out, zNode_len])]
          refine Halt.mk ?_
          have hbz := hid (show (w2.setRow w.heap.size m.cells.toArray).heap[w.heap.size]? = some (.cells m.cells.toArray 42 (0, 0)) from setRow_heap _ _ _ _ _ _ hbm.out)
          have hkz := hid (show Kept [w.heap.size] w2 (w2.setRow w.heap.size m.cells.toArray) from (Kept.refl [w.heap.size] w2).setRow (fun _ => by simp) _)
          have hkw := hid (show Kept [] w (w2.setRow w.heap.size m.cells.toArray) from hk2.out.setRow (fun h => absurd h (Nat.lt_irrefl _)) _)
          generalize w2.setRow w.heap.size m.cells.toArray = wz at *
          go_wp2
          refine bodyPost_ret (v := .tuple #[.agg m.cells.toArray, .bool true]) (results_cell2 Tryd.results18 rfl rfl (run_ld_node hbz.out (node_size m hm32.out))) rfl ⟨Or.inr ⟨n, m, hf.out, hmnd.out, rfl, hi2.out.kept hkz.out (fun x hx => by have h1 := hmfw.out x hx; simp; omega), hm32.out, hmfr.out⟩, hkw.out⟩
        · have hf := hid (hnx.out hx)
          rw [decide_eq_false hx] at hbe
          clear hx hnx hyx
          have hin2 := hin.out
          go_wp2
          go_roundw
          case rel => exact ⟨i + 1, hin2, by go_num, hkb.out, HBX, hf⟩
          case measure => simp [intOf]; omega
    · have hin : i = ns.length := by omega
      subst hin
      rw [List.take_length] at hno
      have hnone := hid (show findR ns t = none from List.find?_eq_none.2 (fun m hm => by simpa using hno.out m hm))
      clear hlt hi hle
      generalize ns.length = nl at *
      have HBX := hbx
      clear hbx
      go_wp2_with (refine wpList_store_at rfl 42 (.tmp 4) (.tmp 24) rfl w.heap.size 0 zNode rfl rfl 42 zNode HBX.out (by rw [zNode_len]; exact node_info) (by simp) zNode_one ?_; refine halt ?_)
      rw [splice36 zNode zNode rfl]
      refine Halt.mk ?_
      have hbz := hid (show (wr.setRow w.heap.size zNode.toArray).heap[w.heap.size]? = some (.cells zNode.toArray 42 (0, 0)) from setRow_heap _ _ _ _ _ _ HBX.out)
      have hkw := hid (show Kept [] w (wr.setRow w.heap.size zNode.toArray) from HK.out.setRow (fun h => absurd h (Nat.lt_irrefl _)) _)
      generalize wr.setRow w.heap.size zNode.toArray = wz at *
      go_wp2
      refine bodyPost_ret (v := .tuple #[.agg zNode.toArray, .bool false]) (results_cell2 Tryd.results18 rfl rfl (run_ld_node hbz.out zNode_len)) rfl ⟨Or.inl ⟨hnone.out, rfl⟩, hkw.out⟩
end Go.Proofs.YtdojpioclojalaaDoor
