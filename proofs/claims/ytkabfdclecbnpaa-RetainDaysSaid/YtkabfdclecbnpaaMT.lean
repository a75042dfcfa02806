import Derived.Test.YtkabfdclecbnpaaMC
import Derived.Test.YtkabfdclecbnpaaHL
import Derived.Test.YtkabfdclecbnpaaN0
import Derived.Test.YtkabfdclecbnpaaH4
import Derived.Test.YtkabfdclecbnpaaJ0
import Derived.Test.YtkabfdclecbnpaaHW

/- A reader's fields, each as it may be read or not; a call of a drawn region that may throw. -/
namespace Go.Proofs.Ytkabfdclecbnpaa
open Go.RowKit Go.Lib

section
variable {P : Program} {md : Region.Mode} {Q : Exit → Act → World → Prop} {S : World → Prop} {l rest : List Oper} {oi : Oper} {fuel : Nat} {listed : Array Bool} {a : Act} {w : World}
theorem callX (i : Nat) (hi : l.drop i = oi :: rest) (hr : Region.ready md l.toArray listed = [i]) (hw : Region.wanted oi (yielded l.toArray a.tmps) = true) (f : FuncId) (args : Array Value)
    (hrun : (execOp a.eval oi).run P w = .ok (.enter f args) w)
    (hc : Calls P f args w fun e w' => (∃ val, e = .returned val ∧ S w' ∧ wpAnyH P md l.toArray Q S fuel (listed.setIfInBounds i true) (a.put oi.dst val) w') ∨ ∃ ch, e = .panicked ch ∧ Q (.panic ch) a w') :
    wpAnyH P md l.toArray Q S (fuel + 1) listed a w := by
  refine wpAnyH_ready hr (by simp) (AllReadyH.cons (getL_of_drop hi) (fun K hK => ?_) AllReadyH.nil)
  rw [if_pos hw]
  unfold Oper.wp
  rw [hrun]
  refine hc.mono ?_
  rintro e w' (⟨val, rfl, hS, h⟩ | ⟨ch, rfl, h⟩)
  · exact hK.out _ _ hS (fun _ => h)
  · exact h
end

theorem results_cell {P : Program} {fn : Func} {tmps : Array Value} {w : World} {k T : Nat} {x : Addr} {v : Value} (hr : fn.results = #[.cell k T]) (ht : tmps[k]?.getD undef = .pointer (some x)) (hl : (loadVar T x).run P w = .ok v w) : (results fn tmps).run P w = .ok v w := by
  unfold results
  rw [hr]
  simp [Sem.run_bind, ht, asAddr, hl]
theorem results_cell2 {P : Program} {fn : Func} {tmps : Array Value} {w : World} {k j T : Nat} {x : Addr} {v u : Value} (hr : fn.results = #[.cell k T, .tmp j]) (ht : tmps[k]?.getD undef = .pointer (some x)) (hu : tmps[j]?.getD undef = u) (hl : (loadVar T x).run P w = .ok v w) : (results fn tmps).run P w = .ok (.tuple #[v, u]) w := by
  unfold results
  rw [hr]
  simp [Sem.run_bind, ht, hu, asAddr, hl]

def rNum (k : Nat) (xs : List UInt8) : Option (Nat × List UInt8) := if k ≤ xs.length then some (numOf (xs.take k), xs.drop k) else none
def rTxt (most : Nat) (xs : List UInt8) : Option (List UInt8 × List UInt8) := if 4 + said xs ≤ xs.length ∧ said xs ≤ most then some ((xs.drop 4).take (said xs), xs.drop (4 + said xs)) else none
def rRaw (k : Nat) (xs : List UInt8) : Option (List UInt8 × List UInt8) := if k ≤ xs.length then some (xs.take k, xs.drop k) else none
end Go.Proofs.Ytkabfdclecbnpaa


/- coldstorelaw10.few. -/
namespace Go.Proofs.Ytkabfdclecbnpaa
open Go.RowKit Go.Lib

/-- A node's cells. -/
def NodeR.cells (n : NodeR) : List Value := [.string n.name, .bool n.dir, .int .i64 n.size, .slice n.pa n.parts.length n.pc] ++ n.sub.map B
theorem node_size (n : NodeR) (h : n.sub.length = 32) : n.cells.length = 36 := by unfold NodeR.cells; simp [h]
theorem NodeAt.reads {w : World} {x : Addr} {n : NodeR} (h : NodeAt w x n) : ∀ (j : Nat) v, n.cells[j]? = some v → w.cell? (x.add j) = some v := by
  obtain ⟨h0, h1, h2, h3, h4, _⟩ := h
  intro j v hj
  unfold NodeR.cells at hj
  match j, hj with
  | 0, hj =>
    have e : x.add 0 = x := by unfold Addr.add; simp
    rw [e, h0]; simpa using hj
  | 1, hj => rw [h1]; simpa using hj
  | 2, hj => rw [h2]; simpa using hj
  | 3, hj => rw [h3]; simpa using hj
  | k + 4, hj =>
    have hj2 : (n.sub.map B)[k]? = some v := by simpa using hj
    rw [List.getElem?_map] at hj2
    obtain ⟨b, hb, rfl⟩ := Option.map_eq_some_iff.1 hj2
    rw [show k + 4 = 4 + k by omega]
    exact h4 k b hb
theorem node_one (n : NodeR) : ∀ v ∈ n.cells, v.oneCell' = true := by
  intro v hv
  unfold NodeR.cells at hv
  simp only [List.mem_append, List.mem_cons, List.mem_map, List.not_mem_nil, or_false] at hv
  rcases hv with (rfl | rfl | rfl | rfl) | ⟨b, _, rfl⟩ <;> rfl

def zNode : List Value := [.string ⟨#[]⟩, .bool false, .int .i64 0, .slice none 0 0] ++ List.replicate 32 (.int .u8 0)
theorem zNode_len : zNode.length = 36 := by unfold zNode; simp
theorem splice36 (cur vs : List Value) (h : vs.length = cur.length) : splice cur 0 vs = vs := by
  unfold splice; simp [h]

/-- What few asks of a node, and of a list. -/
def NodeR.few (n : NodeR) : Prop := ¬ ((10 < n.parts.length ∧ n.parts.length ≤ 4096) ∨ 4200 < n.parts.length ∨ 200 < n.name.size)
instance (n : NodeR) : Decidable n.few := by unfold NodeR.few; infer_instance
def Few (ns : List NodeR) : Prop := (∀ n ∈ ns, n.few) ∧ (ns.length ≤ 30 ∨ (512 < ns.length ∧ ns.length < 600))
instance (ns : List NodeR) : Decidable (Few ns) := by unfold Few; infer_instance

end Go.Proofs.Ytkabfdclecbnpaa


/- snap.read. -/
namespace Go.Proofs.Ytkabfdclecbnpaa
open Go.RowKit Go.Lib

theorem i64_bounds (n : Int) : -9223372036854775808 ≤ IntKind.i64.wrap n ∧ IntKind.i64.wrap n ≤ 9223372036854775807 := by rw [IntKind.wrap_i64]; omega

/-- The snapshot that bytes begin with, and what is left of them. -/
def readS (xs : List UInt8) : Option (Sp × List UInt8) :=
  (rNum 8 xs).bind fun p1 => (rTxt 120 p1.2).bind fun p2 => (rTxt 120 p2.2).bind fun p3 => (rRaw 32 p3.2).bind fun p4 => (rNum 4 p4.2).bind fun p5 => (rNum 8 p5.2).bind fun p6 =>
    some (⟨IntKind.i64.wrap p1.1, p2.1, p3.1, p4.1, IntKind.i64.wrap p5.1, IntKind.i64.wrap p6.1⟩, p6.2)

set_option maxRecDepth 100000 in
theorem list32 : ∀ (r : List Value), r.length = 32 → ∃ x0 x1 x2 x3 x4 x5 x6 x7 x8 x9 y0 y1 y2 y3 y4 y5 y6 y7 y8 y9 z0 z1 z2 z3 z4 z5 z6 z7 z8 z9 v0 v1, r = [x0, x1, x2, x3, x4, x5, x6, x7, x8, x9, y0, y1, y2, y3, y4, y5, y6, y7, y8, y9, z0, z1, z2, z3, z4, z5, z6, z7, z8, z9, v0, v1] := by
  intro r h
  match r, h with
  | [x0, x1, x2, x3, x4, x5, x6, x7, x8, x9, y0, y1, y2, y3, y4, y5, y6, y7, y8, y9, z0, z1, z2, z3, z4, z5, z6, z7, z8, z9, v0, v1], _ => exact ⟨x0, x1, x2, x3, x4, x5, x6, x7, x8, x9, y0, y1, y2, y3, y4, y5, y6, y7, y8, y9, z0, z1, z2, z3, z4, z5, z6, z7, z8, z9, v0, v1, rfl⟩
def snapCells (t f b : Int) (h g : ByteArray) (r : List Value) : List Value := [Value.int .i64 t, Value.string h, Value.string g] ++ r ++ [Value.int .i64 f, Value.int .i64 b]
theorem built_snap (t f b : Int) (h g : ByteArray) (r : List Value) (hr : r.length = 32) :
    Try.prog.built 42 [(0, Value.int .i64 t), (1, Value.string h), (2, Value.string g), (3, Value.agg r.toArray), (4, Value.int .i64 f), (5, Value.int .i64 b)] = some (snapCells t f b h g r).toArray := by
  obtain ⟨x0, x1, x2, x3, x4, x5, x6, x7, x8, x9, y0, y1, y2, y3, y4, y5, y6, y7, y8, y9, z0, z1, z2, z3, z4, z5, z6, z7, z8, z9, v0, v1, rfl⟩ := list32 r hr
  kernel_rfl
theorem run_built_snap (w : World) (t f b : Int) (h g : ByteArray) (r : List Value) (hr : r.length = 32) :
    (Instr.build 42 #[(0, Value.int .i64 t), (1, Value.string h), (2, Value.string g), (3, Value.agg r.toArray), (4, Value.int .i64 f), (5, Value.int .i64 b)]).run Try.prog w = .ok (Value.agg (snapCells t f b h g r).toArray) w :=
  run_build w _ _ _ (built_snap t f b h g r hr)

def zSnap : List Value := [Value.int .i64 0, Value.string ⟨#[]⟩, Value.string ⟨#[]⟩] ++ List.replicate 32 (Value.int .u8 0) ++ [Value.int .i64 0, Value.int .i64 0]
theorem zSnap_len : zSnap.length = 37 := by unfold zSnap; simp
theorem zero_snap (W : World) : (zeroValue 42).run Try.prog W = .ok (.agg zSnap.toArray) W := by kernel_rfl

end Go.Proofs.Ytkabfdclecbnpaa
