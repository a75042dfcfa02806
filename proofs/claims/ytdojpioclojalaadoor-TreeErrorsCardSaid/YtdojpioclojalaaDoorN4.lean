import Derived.Test.YtdojpioclojalaaDoorJ0
import Derived.Test.YtdojpioclojalaaDoorN1
import Derived.Test.YtdojpioclojalaaDoorNM

/- tree.isPart; (tree.Node).isFormed; a box that holds a node. -/
namespace Go.Proofs.YtdojpioclojalaaDoor
open Go.RowKit Go.Lib

theorem n_load_if {P : Program} {ops : Array Oper} {rest : List Oper} {o : Oper} {a : Act} {w : World} {Q : Exit → Act → World → Prop} (hw : Region.wanted o (yielded ops a.tmps) = true) (ty : TypeId) (x : Operand) (ho : o.op = .load ty x)
    (ad : Addr) (hx : a.eval x = .pointer (some ad)) (cs : List Value) (d : TypeDesc) (hu : P.underlying ty = some d) (hd : (match d with | .struct _ | .array _ _ => true | _ => false) = true)
    (hi : (P.info? ty).map (·.size) = some cs.length) (hc : ∀ (j : Nat) v, cs[j]? = some v → w.cell? (ad.add j) = some v)
    (h : wpList P ops Q rest (a.put o.dst (.agg cs.toArray)) w) : wpList P ops Q (o :: rest) a w := by
  unfold wpList
  rw [if_pos hw]
  refine Or.inl ?_
  unfold Oper.wp execOp
  simp only [ho, hx, Instr.loadAt, Instr.sureAddr, Sem.run_bind, Sem.run_pure, Result.andThen_ok, run_loadVar_cells w ty ad cs d hu hd hi hc]
  exact h

theorem t_part (a : List UInt8) (w : World) :
    Calls Tryd.prog 35 #[.string (S a)] w fun e w' => e = .returned (.bool (okPart a)) ∧ Kept [] w w' := by
  have hc := hid (j_check a w)
  by_cases hp : okPath a = true
  · have hl : a.length ≤ 1000000000 := by unfold okPath at hp; simp at hp; omega
    have hb := hid (fun w => base_any a hl w)
    have he := hid (pathErr_ok hp)
    have hq := S_beq (baseL a) a
    have hd := hid (show decide (baseL a = a) = okPart a from by
      rw [Bool.eq_iff_iff, decide_eq_true_eq, part_iff]; exact ⟨fun h => ⟨hp, h⟩, fun h => h.2⟩)
    clear hl
    go_enter Tryd.func35, Tryd.ntmps35
    go_wp2_with fail
    refine hc.out.mono ?_
    rintro e w1 ⟨rfl, hk⟩
    rw [he.out]
    have Hk := hid hk
    clear hk
    go_wp2_with fail
    refine (hb.out w1).mono ?_
    rintro e w2 ⟨rfl, rfl⟩
    go_wp2
    go_ret
    exact ⟨by rw [← hd.out]; rfl, Hk.out⟩
  · have hn : okPath a = false := by simpa using hp
    have he := hid (pathErr_no hn)
    have hd : okPart a = false := by
      cases h : okPart a with
      | false => rfl
      | true => rw [((part_iff a).1 h).1] at hn; cases hn
    rw [hd]
    clear hp hn hd
    go_enter Tryd.func35, Tryd.ntmps35
    go_wp2_with fail
    refine hc.out.mono ?_
    rintro e w1 ⟨rfl, hk⟩
    rw [he.out]
    go_wp2
    go_ret
    exact ⟨rfl, hk⟩

theorem S_of (b : ByteArray) : S b.data.toList = b := rfl
/-- A box that holds a node. -/
def NAt (w : World) (p : Nat) (n : NodeR) : Prop := w.heap[p]? = some (.cells n.cells.toArray 42 (0, 0))
theorem NAt.cell {w : World} {p : Nat} {n : NodeR} (h : NAt w p n) (j : Nat) (v : Value) (hj : n.cells[j]? = some v) : w.cell? ⟨p, j, none⟩ = some v := by
  rw [cell_of_row w _ j _ _ _ h]; simpa using hj
theorem NAt.reads {w : World} {p : Nat} {n : NodeR} (h : NAt w p n) : ∀ (j : Nat) v, n.cells[j]? = some v → w.cell? ((⟨p, 0, none⟩ : Addr).add j) = some v := by
  intro j v hj
  have e : (⟨p, 0, none⟩ : Addr).add j = ⟨p, j, none⟩ := by unfold Addr.add; split <;> simp_all
  rw [e]; exact h.cell j v hj
theorem NAt.kept {L : List Nat} {w w' : World} {p : Nat} {n : NodeR} (h : NAt w p n) (hk : Kept L w w') (hp : p ∉ L) : NAt w' p n := hk.at h hp
theorem NodeR.c0 (n : NodeR) : n.cells[0]? = some (.string n.name) := rfl
theorem NodeR.c1 (n : NodeR) : n.cells[1]? = some (.bool n.dir) := rfl
theorem NodeR.c2 (n : NodeR) : n.cells[2]? = some (.int .i64 n.size) := rfl
theorem NodeR.c3 (n : NodeR) : n.cells[3]? = some (.slice n.pa n.parts.length n.pc) := rfl
theorem NodeR.c4 (n : NodeR) (k : Nat) (b : UInt8) (h : n.sub[k]? = some b) : n.cells[4 + k]? = some (B b) := by
  unfold NodeR.cells
  rw [List.getElem?_append_right (by simp)]
  simp [h]
theorem NAt.sub {w : World} {p : Nat} {n : NodeR} (h : NAt w p n) (h32 : n.sub.length = 32) : IdAt w ⟨p, 4, none⟩ n.sub := by
  refine ⟨h32, fun k b hk => ?_⟩
  have e : (⟨p, 4, none⟩ : Addr).add k = ⟨p, 4 + k, none⟩ := by unfold Addr.add; split <;> simp_all
  rw [e]; exact h.cell _ _ (n.c4 k b hk)

theorem zid_cells : (zid.map B).toArray = #[.int .u8 0, .int .u8 0, .int .u8 0, .int .u8 0, .int .u8 0, .int .u8 0, .int .u8 0, .int .u8 0, .int .u8 0, .int .u8 0, .int .u8 0, .int .u8 0, .int .u8 0, .int .u8 0, .int .u8 0, .int .u8 0, .int .u8 0, .int .u8 0, .int .u8 0, .int .u8 0, .int .u8 0, .int .u8 0, .int .u8 0, .int .u8 0, .int .u8 0, .int .u8 0, .int .u8 0, .int .u8 0, .int .u8 0, .int .u8 0, .int .u8 0, .int .u8 0] := by kernel_rfl

set_option maxRecDepth 100000 in
set_option maxHeartbeats 2000000 in
theorem t_formed (n : NodeR) (h : n.sub.length = 32) (w : World) :
    Calls Tryd.prog 36 #[.agg n.cells.toArray] w fun e w' => e = .returned (.bool n.nd.formed) ∧ Kept [] w w' := by
  obtain ⟨cs, hcs⟩ : ∃ cs, cs = n.cells.toArray := ⟨_, rfl⟩
  have hA : NAt (w.alloc (.cells cs 42)) w.heap.size n := by rw [hcs]; exact heap_alloc_at rfl
  rw [← hcs]
  have g1 := hA.cell 1 _ n.c1
  have g2 := hA.cell 2 _ n.c2
  have g3 := hA.cell 3 _ n.c3
  have gs := hid (hA.sub h).reads
  have hsz := hid (show (Tryd.prog.info? 40).map (·.size) = some (n.sub.map B).length by rw [List.length_map, h]; exact ninfo32)
  have hk := hid (show Kept [] w (w.alloc (.cells cs 42)) from (Kept.refl [] w).alloc _)
  have heq := hid (fun W => nid_equal n.sub zid h (by simp [zid]) W)
  have hf := hid (show n.nd.formed = if n.dir = true then decide (n.size = 0) && n.parts.isEmpty else decide (0 ≤ n.size) && decide (n.sub = zid) from rfl)
  have hpe : n.parts.isEmpty = decide (n.parts.length = 0) := by cases n.parts <;> rfl
  rw [hpe] at hf
  clear hA hcs hpe
  generalize n.size = z at *
  generalize n.parts.length = pl at *
  generalize n.dir = d at *
  cases d
  · have hf2 := hf.out
    rw [if_neg (by simp)] at hf2
    have hg := hid hf2
    clear hf2 hf
    by_cases e1 : 0 ≤ z
    · have e2 := hid e1
      have heqq := heq.out
      rw [zid_cells] at heqq
      by_cases e3 : n.sub = zid
      · have hd : decide (n.sub = zid) = true := decide_eq_true e3
        have hD := hid hd
        rw [hd] at heqq
        clear e3 heq hd
        go_enter Tryd.func36, Tryd.ntmps36
        go_wp2_with (refine n_load_if (by rfl) 40 (.tmp 18) rfl ⟨w.heap.size, 4, none⟩ rfl (n.sub.map B) _ Tryd.underlying40 rfl hsz.out gs.out ?_)
        go_wp2
        go_ret
        exact ⟨by rw [hg.out, hD.out, decide_eq_true e2.out]; rfl, hk.out⟩
      · have hd : decide (n.sub = zid) = false := decide_eq_false e3
        have hD := hid hd
        rw [hd] at heqq
        clear e3 heq hd
        go_enter Tryd.func36, Tryd.ntmps36
        go_wp2_with (refine n_load_if (by rfl) 40 (.tmp 18) rfl ⟨w.heap.size, 4, none⟩ rfl (n.sub.map B) _ Tryd.underlying40 rfl hsz.out gs.out ?_)
        go_wp2
        go_ret
        exact ⟨by rw [hg.out, hD.out, decide_eq_true e2.out]; rfl, hk.out⟩
    · clear gs hsz heq
      go_enter Tryd.func36, Tryd.ntmps36
      go_wp2
      go_ret
      exact ⟨by rw [hg.out, decide_eq_false (by omega)]; rfl, hk.out⟩
  · have hf2 := hf.out
    rw [if_pos rfl] at hf2
    have hg := hid hf2
    clear hf2 hf gs hsz heq
    by_cases e1 : z = 0
    · have e2 := hid e1
      by_cases e3 : pl = 0
      · have e5 : ((pl : Int) == 0) = true := by simp; omega
        go_enter Tryd.func36, Tryd.ntmps36
        go_wp2
        go_ret
        exact ⟨by rw [hg.out, decide_eq_true e2.out, decide_eq_true e3]; rfl, hk.out⟩
      · have e5 : ((pl : Int) == 0) = false := by simp; omega
        go_enter Tryd.func36, Tryd.ntmps36
        go_wp2
        go_ret
        exact ⟨by rw [hg.out, decide_eq_true e2.out, decide_eq_false e3]; rfl, hk.out⟩
    · go_enter Tryd.func36, Tryd.ntmps36
      go_wp2
      go_ret
      exact ⟨by rw [hg.out, decide_eq_false e1]; rfl, hk.out⟩
end Go.Proofs.YtdojpioclojalaaDoor
