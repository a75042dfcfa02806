import Derived.Test.YtkabfdclecbnpaaJB
import Derived.Test.YtkabfdclecbnpaaH9
import Derived.Test.YtkabfdclecbnpaaN2

/- Snapshots held against each other; snap.Name. -/
namespace Go.Proofs.Ytkabfdclecbnpaa
open Go.RowKit Go.Lib

theorem part_one {t : TypeId} {d : TypeDesc} (hu : Try.prog.underlying t = some d) (hd : (match d with | .struct _ | .array _ _ => true | _ => false) = false) (xs : Array Value) (k : Nat) (v : Value) (h : xs[k]? = some v) (W : World) : (part t xs k).run Try.prog W = .ok v W := by
  simp only [part, isAgg, Sem.run_bind, run_underlying hu, Result.andThen_ok, Sem.run_pure]
  cases d <;> simp_all
theorem cells_root {x : Sp} (hx : x.ok) : List.take 32 (List.drop 3 x.cells) = x.root.map B := by
  unfold Sp.cells
  have h : (x.root.map B).length = 32 := by rw [List.length_map, hx.root]
  rw [List.append_assoc, show List.drop 3 ([Value.int .i64 x.time, .string (S x.host), .string (S x.tag)] ++ (x.root.map B ++ [Value.int .i64 x.files, .int .i64 x.bytes])) = x.root.map B ++ [Value.int .i64 x.files, .int .i64 x.bytes] from rfl, List.take_left' h]
theorem part_root {x : Sp} (hx : x.ok) (W : World) : (part 40 x.cells.toArray 3).run Try.prog W = .ok (.agg (x.root.map B).toArray) W := by
  have e := cells_root hx
  have hs : (Go.sizeOf 40).run Try.prog W = .ok 32 W := Try.sizeOf40 W
  have ha : (isAgg 40).run Try.prog W = .ok true W := Try.isAgg40 W
  simp only [part, Sem.run_bind, hs, ha, Result.andThen_ok, Sem.run_pure]
  simp [e]
instance : DecidableEq Sp := fun a b => decidable_of_iff (a.key = b.key) ⟨Sp.key_inj, fun h => by rw [h]⟩
theorem jS_inj {a b : List UInt8} (h : S a = S b) : a = b := S_inj h

section
variable {P : Program} {d : Nat} {xs ys : Array Value} {f : Field} {fs : List Field} {W : World} {a b : Value}
theorem eqF_true (hn : f.name ≠ "_") (ha : (part f.type xs f.offset).run P W = .ok a W) (hb : (part f.type ys f.offset).run P W = .ok b W) (hq : (Op.equalIn d f.type a b).run P W = .ok true W) :
    (Op.eqFields d xs ys (f :: fs)).run P W = (Op.eqFields d xs ys fs).run P W := by
  conv => lhs; unfold Op.eqFields
  rw [if_pos hn]
  simp [Sem.run_bind, ha, hb, hq]
theorem eqF_nil : (Op.eqFields d xs ys []).run P W = .ok true W := rfl
theorem eqF_false (hn : f.name ≠ "_") (ha : (part f.type xs f.offset).run P W = .ok a W) (hb : (part f.type ys f.offset).run P W = .ok b W) (hq : (Op.equalIn d f.type a b).run P W = .ok false W) :
    (Op.eqFields d xs ys (f :: fs)).run P W = .ok false W := by
  unfold Op.eqFields
  rw [if_pos hn]
  simp [Sem.run_bind, ha, hb, hq]
end
set_option maxRecDepth 100000 in
theorem snap_equal' (D : Nat) (x y : Sp) (hx : x.ok) (hy : y.ok) (W : World) : (Op.equalIn (D + 3) 42 (.agg x.cells.toArray) (.agg y.cells.toArray)).run Try.prog W = .ok (decide (x = y)) W := by
  have hS : Try.prog.underlying 42 = some (.struct (Try.prog.fieldsOf 42)) := by kernel_rfl
  have hp : Try.prog.stoodInHeld 42 = false := by kernel_rfl
  rw [run_equalIn_agg W (D + 2) _ _ _ hS hp]
  have a0 := part_one Try.underlying2 rfl x.cells.toArray 0 _ (by simpa using x.c0) W
  have a1 := part_one Try.underlying9 rfl x.cells.toArray 1 _ (by simpa using x.c1) W
  have a2 := part_one Try.underlying9 rfl x.cells.toArray 2 _ (by simpa using x.c2) W
  have a3 := part_root hx W
  have a4 := part_one Try.underlying3 rfl x.cells.toArray 35 _ (by simpa using Sp.c35 hx) W
  have a5 := part_one Try.underlying2 rfl x.cells.toArray 36 _ (by simpa using Sp.c36 hx) W
  have b0 := part_one Try.underlying2 rfl y.cells.toArray 0 _ (by simpa using y.c0) W
  have b1 := part_one Try.underlying9 rfl y.cells.toArray 1 _ (by simpa using y.c1) W
  have b2 := part_one Try.underlying9 rfl y.cells.toArray 2 _ (by simpa using y.c2) W
  have b3 := part_root hy W
  have b4 := part_one Try.underlying3 rfl y.cells.toArray 35 _ (by simpa using Sp.c35 hy) W
  have b5 := part_one Try.underlying2 rfl y.cells.toArray 36 _ (by simpa using Sp.c36 hy) W
  have q0 := run_equalIn_int (P := Try.prog) W (D + 1) 2 .i64 .i64 x.time y.time Try.underlying2
  have q1 := run_equalIn_string (P := Try.prog) W (D + 1) 9 (S x.host) (S y.host) Try.underlying9
  have q2 := run_equalIn_string (P := Try.prog) W (D + 1) 9 (S x.tag) (S y.tag) Try.underlying9
  have q3 := nid_equal' x.root y.root hx.root hy.root D W
  have q4 := run_equalIn_int (P := Try.prog) W (D + 1) 3 .i64 .i64 x.files y.files Try.underlying3
  have q5 := run_equalIn_int (P := Try.prog) W (D + 1) 2 .i64 .i64 x.bytes y.bytes Try.underlying2
  rw [S_beq] at q1 q2
  have hxy : x = y ↔ x.time = y.time ∧ x.host = y.host ∧ x.tag = y.tag ∧ x.root = y.root ∧ x.files = y.files ∧ x.bytes = y.bytes := by
    constructor
    · rintro rfl; simp
    · rintro ⟨h1, h2, h3, h4, h5, h6⟩
      cases x; cases y; simp_all
  rw [show decide (x = y) = decide (x.time = y.time ∧ x.host = y.host ∧ x.tag = y.tag ∧ x.root = y.root ∧ x.files = y.files ∧ x.bytes = y.bytes) from decide_eq_decide.2 hxy]
  simp only [Program.fieldsOf, Try.underlying42, List.toList_toArray]
  generalize x.cells.toArray = cx at *
  generalize y.cells.toArray = cy at *
  clear hS hp hxy
  by_cases h0 : x.time = y.time
  · have r0 : (x.time == y.time) = true := by simpa using h0
    rw [r0] at q0
    by_cases h1 : x.host = y.host
    · rw [decide_eq_true h1] at q1
      by_cases h2 : x.tag = y.tag
      · rw [decide_eq_true h2] at q2
        by_cases h3 : x.root = y.root
        · rw [decide_eq_true h3] at q3
          by_cases h4 : x.files = y.files
          · have r4 : (x.files == y.files) = true := by simpa using h4
            rw [r4] at q4
            by_cases h5 : x.bytes = y.bytes
            · have r5 : (x.bytes == y.bytes) = true := by simpa using h5
              rw [r5] at q5
              rw [decide_eq_true ⟨h0, h1, h2, h3, h4, h5⟩]
              clear h0 h1 h2 h3 h4 h5 r0 r4 r5
              refine Eq.trans (eqF_true (a := .int .i64 x.time) (b := .int .i64 y.time) ?h1 ?h2 ?h3 ?h4) ?_
              case h1 => decide
              case h2 => exact a0
              case h3 => exact b0
              case h4 => exact q0
              refine Eq.trans (eqF_true (a := .string (S x.host)) (b := .string (S y.host)) ?h1 ?h2 ?h3 ?h4) ?_
              case h1 => decide
              case h2 => exact a1
              case h3 => exact b1
              case h4 => exact q1
              refine Eq.trans (eqF_true (a := .string (S x.tag)) (b := .string (S y.tag)) ?h1 ?h2 ?h3 ?h4) ?_
              case h1 => decide
              case h2 => exact a2
              case h3 => exact b2
              case h4 => exact q2
              refine Eq.trans (eqF_true (a := .agg (x.root.map B).toArray) (b := .agg (y.root.map B).toArray) ?h1 ?h2 ?h3 ?h4) ?_
              case h1 => decide
              case h2 => exact a3
              case h3 => exact b3
              case h4 => exact q3
              refine Eq.trans (eqF_true (a := .int .i64 x.files) (b := .int .i64 y.files) ?h1 ?h2 ?h3 ?h4) ?_
              case h1 => decide
              case h2 => exact a4
              case h3 => exact b4
              case h4 => exact q4
              refine Eq.trans (eqF_true (a := .int .i64 x.bytes) (b := .int .i64 y.bytes) ?h1 ?h2 ?h3 ?h4) ?_
              case h1 => decide
              case h2 => exact a5
              case h3 => exact b5
              case h4 => exact q5
              exact eqF_nil
            · have r5 : (x.bytes == y.bytes) = false := by simpa using h5
              rw [r5] at q5
              rw [decide_eq_false (fun h => h5 h.2.2.2.2.2)]
              clear h0 h1 h2 h3 h4 h5 r0 r4 r5
              refine Eq.trans (eqF_true (a := .int .i64 x.time) (b := .int .i64 y.time) ?h1 ?h2 ?h3 ?h4) ?_
              case h1 => decide
              case h2 => exact a0
              case h3 => exact b0
              case h4 => exact q0
              refine Eq.trans (eqF_true (a := .string (S x.host)) (b := .string (S y.host)) ?h1 ?h2 ?h3 ?h4) ?_
              case h1 => decide
              case h2 => exact a1
              case h3 => exact b1
              case h4 => exact q1
              refine Eq.trans (eqF_true (a := .string (S x.tag)) (b := .string (S y.tag)) ?h1 ?h2 ?h3 ?h4) ?_
              case h1 => decide
              case h2 => exact a2
              case h3 => exact b2
              case h4 => exact q2
              refine Eq.trans (eqF_true (a := .agg (x.root.map B).toArray) (b := .agg (y.root.map B).toArray) ?h1 ?h2 ?h3 ?h4) ?_
              case h1 => decide
              case h2 => exact a3
              case h3 => exact b3
              case h4 => exact q3
              refine Eq.trans (eqF_true (a := .int .i64 x.files) (b := .int .i64 y.files) ?h1 ?h2 ?h3 ?h4) ?_
              case h1 => decide
              case h2 => exact a4
              case h3 => exact b4
              case h4 => exact q4
              refine eqF_false (a := .int .i64 x.bytes) (b := .int .i64 y.bytes) ?h1 ?h2 ?h3 ?h4
              case h1 => decide
              case h2 => exact a5
              case h3 => exact b5
              case h4 => exact q5
          · have r4 : (x.files == y.files) = false := by simpa using h4
            rw [r4] at q4
            rw [decide_eq_false (fun h => h4 h.2.2.2.2.1)]
            clear h0 h1 h2 h3 h4 r0 r4
            refine Eq.trans (eqF_true (a := .int .i64 x.time) (b := .int .i64 y.time) ?h1 ?h2 ?h3 ?h4) ?_
            case h1 => decide
            case h2 => exact a0
            case h3 => exact b0
            case h4 => exact q0
            refine Eq.trans (eqF_true (a := .string (S x.host)) (b := .string (S y.host)) ?h1 ?h2 ?h3 ?h4) ?_
            case h1 => decide
            case h2 => exact a1
            case h3 => exact b1
            case h4 => exact q1
            refine Eq.trans (eqF_true (a := .string (S x.tag)) (b := .string (S y.tag)) ?h1 ?h2 ?h3 ?h4) ?_
            case h1 => decide
            case h2 => exact a2
            case h3 => exact b2
            case h4 => exact q2
            refine Eq.trans (eqF_true (a := .agg (x.root.map B).toArray) (b := .agg (y.root.map B).toArray) ?h1 ?h2 ?h3 ?h4) ?_
            case h1 => decide
            case h2 => exact a3
            case h3 => exact b3
            case h4 => exact q3
            refine eqF_false (a := .int .i64 x.files) (b := .int .i64 y.files) ?h1 ?h2 ?h3 ?h4
            case h1 => decide
            case h2 => exact a4
            case h3 => exact b4
            case h4 => exact q4
        · rw [decide_eq_false h3] at q3
          rw [decide_eq_false (fun h => h3 h.2.2.2.1)]
          clear h0 h1 h2 h3 r0
          refine Eq.trans (eqF_true (a := .int .i64 x.time) (b := .int .i64 y.time) ?h1 ?h2 ?h3 ?h4) ?_
          case h1 => decide
          case h2 => exact a0
          case h3 => exact b0
          case h4 => exact q0
          refine Eq.trans (eqF_true (a := .string (S x.host)) (b := .string (S y.host)) ?h1 ?h2 ?h3 ?h4) ?_
          case h1 => decide
          case h2 => exact a1
          case h3 => exact b1
          case h4 => exact q1
          refine Eq.trans (eqF_true (a := .string (S x.tag)) (b := .string (S y.tag)) ?h1 ?h2 ?h3 ?h4) ?_
          case h1 => decide
          case h2 => exact a2
          case h3 => exact b2
          case h4 => exact q2
          refine eqF_false (a := .agg (x.root.map B).toArray) (b := .agg (y.root.map B).toArray) ?h1 ?h2 ?h3 ?h4
          case h1 => decide
          case h2 => exact a3
          case h3 => exact b3
          case h4 => exact q3
      · rw [decide_eq_false h2] at q2
        rw [decide_eq_false (fun h => h2 h.2.2.1)]
        clear h0 h1 h2 r0
        refine Eq.trans (eqF_true (a := .int .i64 x.time) (b := .int .i64 y.time) ?h1 ?h2 ?h3 ?h4) ?_
        case h1 => decide
        case h2 => exact a0
        case h3 => exact b0
        case h4 => exact q0
        refine Eq.trans (eqF_true (a := .string (S x.host)) (b := .string (S y.host)) ?h1 ?h2 ?h3 ?h4) ?_
        case h1 => decide
        case h2 => exact a1
        case h3 => exact b1
        case h4 => exact q1
        refine eqF_false (a := .string (S x.tag)) (b := .string (S y.tag)) ?h1 ?h2 ?h3 ?h4
        case h1 => decide
        case h2 => exact a2
        case h3 => exact b2
        case h4 => exact q2
    · rw [decide_eq_false h1] at q1
      rw [decide_eq_false (fun h => h1 h.2.1)]
      clear h0 h1 r0
      refine Eq.trans (eqF_true (a := .int .i64 x.time) (b := .int .i64 y.time) ?h1 ?h2 ?h3 ?h4) ?_
      case h1 => decide
      case h2 => exact a0
      case h3 => exact b0
      case h4 => exact q0
      refine eqF_false (a := .string (S x.host)) (b := .string (S y.host)) ?h1 ?h2 ?h3 ?h4
      case h1 => decide
      case h2 => exact a1
      case h3 => exact b1
      case h4 => exact q1
  · have r0 : (x.time == y.time) = false := by simpa using h0
    rw [r0] at q0
    rw [decide_eq_false (fun h => h0 h.1)]
    clear h0 r0
    refine eqF_false (a := .int .i64 x.time) (b := .int .i64 y.time) ?h1 ?h2 ?h3 ?h4
    case h1 => decide
    case h2 => exact a0
    case h3 => exact b0
    case h4 => exact q0
theorem snap_equal (x y : Sp) (hx : x.ok) (hy : y.ok) (W : World) : (Op.equalIn 10000 42 (.agg x.cells.toArray) (.agg y.cells.toArray)).run Try.prog W = .ok (decide (x = y)) W := snap_equal' 9997 x y hx hy W
theorem snap_guard : Try.prog.eqGuardType Try.prog.depth 42 = false := by kernel_rfl
theorem snap_grd (op : BinOp) (x y : Operand) (xs ys : Array Value) (W : World) : (eqGuard op 42 x y (.agg xs) (.agg ys)).run Try.prog W = .ok () W := run_eqGuard_agg W op _ x y xs ys snap_guard
theorem snap_eql (x y : Sp) (hx : x.ok) (hy : y.ok) (W : World) : (binOp .eql 42 (.agg x.cells.toArray) (.agg y.cells.toArray)).run Try.prog W = .ok (.bool (decide (x = y))) W := by
  rw [run_eql_struct, snap_equal x y hx hy W]; rfl
theorem snap_neq (x y : Sp) (hx : x.ok) (hy : y.ok) (W : World) : (binOp .neq 42 (.agg x.cells.toArray) (.agg y.cells.toArray)).run Try.prog W = .ok (.bool (!decide (x = y))) W := by
  rw [run_neq_struct, snap_equal x y hx hy W]; rfl

/-- The name of bytes in a store. -/
def nameS (ys : List UInt8) : List UInt8 := [115, 110, 97, 112, 47] ++ hexOf (Sha.sum ys)
theorem nameS_len (ys : List UInt8) : (nameS ys).length = 69 := by unfold nameS; simp [hexOf_len, Sha.sum_len]
end Go.Proofs.Ytkabfdclecbnpaa
