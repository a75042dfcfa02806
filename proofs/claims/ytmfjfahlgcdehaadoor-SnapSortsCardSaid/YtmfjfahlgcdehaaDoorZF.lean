import Derived.Test.YtmfjfahlgcdehaaDoorJC

/- Snapshots of layer 11's own, held against each other. -/
namespace Go.Proofs.YtmfjfahlgcdehaaDoor
open Go.RowKit Go.Lib

set_option maxRecDepth 100000 in
theorem rsnap_equal' (D : Nat) (x y : Sp) (hx : x.ok) (hy : y.ok) (W : World) : (Op.equalIn (D + 3) 29 (.agg x.cells.toArray) (.agg y.cells.toArray)).run Tryd.prog W = .ok (decide (x = y)) W := by
  have hS : Tryd.prog.underlying 29 = some (.struct (Tryd.prog.fieldsOf 29)) := by kernel_rfl
  have hp : Tryd.prog.stoodInHeld 29 = false := by kernel_rfl
  rw [run_equalIn_agg W (D + 2) _ _ _ hS hp]
  have a0 := part_one Tryd.underlying2 rfl x.cells.toArray 0 _ (by simpa using x.c0) W
  have a1 := part_one Tryd.underlying9 rfl x.cells.toArray 1 _ (by simpa using x.c1) W
  have a2 := part_one Tryd.underlying9 rfl x.cells.toArray 2 _ (by simpa using x.c2) W
  have a3 := part_root hx W
  have a4 := part_one Tryd.underlying3 rfl x.cells.toArray 35 _ (by simpa using Sp.c35 hx) W
  have a5 := part_one Tryd.underlying2 rfl x.cells.toArray 36 _ (by simpa using Sp.c36 hx) W
  have b0 := part_one Tryd.underlying2 rfl y.cells.toArray 0 _ (by simpa using y.c0) W
  have b1 := part_one Tryd.underlying9 rfl y.cells.toArray 1 _ (by simpa using y.c1) W
  have b2 := part_one Tryd.underlying9 rfl y.cells.toArray 2 _ (by simpa using y.c2) W
  have b3 := part_root hy W
  have b4 := part_one Tryd.underlying3 rfl y.cells.toArray 35 _ (by simpa using Sp.c35 hy) W
  have b5 := part_one Tryd.underlying2 rfl y.cells.toArray 36 _ (by simpa using Sp.c36 hy) W
  have q0 := run_equalIn_int (P := Tryd.prog) W (D + 1) 2 .i64 .i64 x.time y.time Tryd.underlying2
  have q1 := run_equalIn_string (P := Tryd.prog) W (D + 1) 9 (S x.host) (S y.host) Tryd.underlying9
  have q2 := run_equalIn_string (P := Tryd.prog) W (D + 1) 9 (S x.tag) (S y.tag) Tryd.underlying9
  have q3 := nid_equal' x.root y.root hx.root hy.root D W
  have q4 := run_equalIn_int (P := Tryd.prog) W (D + 1) 3 .i64 .i64 x.files y.files Tryd.underlying3
  have q5 := run_equalIn_int (P := Tryd.prog) W (D + 1) 2 .i64 .i64 x.bytes y.bytes Tryd.underlying2
  rw [S_beq] at q1 q2
  have hxy : x = y ↔ x.time = y.time ∧ x.host = y.host ∧ x.tag = y.tag ∧ x.root = y.root ∧ x.files = y.files ∧ x.bytes = y.bytes := by
    constructor
    · rintro rfl; simp
    · rintro ⟨h1, h2, h3, h4, h5, h6⟩
      cases x; cases y; simp_all
  rw [show decide (x = y) = decide (x.time = y.time ∧ x.host = y.host ∧ x.tag = y.tag ∧ x.root = y.root ∧ x.files = y.files ∧ x.bytes = y.bytes) from decide_eq_decide.2 hxy]
  simp only [Program.fieldsOf, Tryd.underlying29, List.toList_toArray]
  generalize x.cells.toArray = cx at *
  generalize y.cells.toArray = cy at *
  clear hS hp hxy
  by_cases h0 : x.time = y.time
  · have r0 : (x.time == y.time) = true := by simpa using h0
    rw [r0] at q0
    by_cases h1 : x.host = y.host
    · rw [decide_eq_true h1] at q1
      by_cases h2 : x.tag = y.tag
      · rw [decide_eq_true h2] at q2
        by_cases h3 : x.root = y.root
        · rw [decide_eq_true h3] at q3
          by_cases h4 : x.files = y.files
          · have r4 : (x.files == y.files) = true := by simpa using h4
            rw [r4] at q4
            by_cases h5 : x.bytes = y.bytes
            · have r5 : (x.bytes == y.bytes) = true := by simpa using h5
              rw [r5] at q5
              rw [decide_eq_true ⟨h0, h1, h2, h3, h4, h5⟩]
              clear h0 h1 h2 h3 h4 h5 r0 r4 r5
              refine Eq.trans (eqF_true (a := .int .i64 x.time) (b := .int .i64 y.time) ?h1 ?h2 ?h3 ?h4) ?_
              case h1 => decide
              case h2 => exact a0
              case h3 => exact b0
              case h4 => exact q0
              refine Eq.trans (eqF_true (a := .string (S x.host)) (b := .string (S y.host)) ?h1 ?h2 ?h3 ?h4) ?_
              case h1 => decide
              case h2 => exact a1
              case h3 => exact b1
              case h4 => exact q1
              refine Eq.trans (eqF_true (a := .string (S x.tag)) (b := .string (S y.tag)) ?h1 ?h2 ?h3 ?h4) ?_
              case h1 => decide
              case h2 => exact a2
              case h3 => exact b2
              case h4 => exact q2
              refine Eq.trans (eqF_true (a := .agg (x.root.map B).toArray) (b := .agg (y.root.map B).toArray) ?h1 ?h2 ?h3 ?h4) ?_
              case h1 => decide
              case h2 => exact a3
              case h3 => exact b3
              case h4 => exact q3
              refine Eq.trans (eqF_true (a := .int .i64 x.files) (b := .int .i64 y.files) ?h1 ?h2 ?h3 ?h4) ?_
              case h1 => decide
              case h2 => exact a4
              case h3 => exact b4
              case h4 => exact q4
              refine Eq.trans (eqF_true (a := .int .i64 x.bytes) (b := .int .i64 y.bytes) ?h1 ?h2 ?h3 ?h4) ?_
              case h1 => decide
              case h2 => exact a5
              case h3 => exact b5
              case h4 => exact q5
              exact eqF_nil
            · have r5 : (x.bytes == y.bytes) = false := by simpa using h5
              rw [r5] at q5
              rw [decide_eq_false (fun h => h5 h.2.2.2.2.2)]
              clear h0 h1 h2 h3 h4 h5 r0 r4 r5
              refine Eq.trans (eqF_true (a := .int .i64 x.time) (b := .int .i64 y.time) ?h1 ?h2 ?h3 ?h4) ?_
              case h1 => decide
              case h2 => exact a0
              case h3 => exact b0
              case h4 => exact q0
              refine Eq.trans (eqF_true (a := .string (S x.host)) (b := .string (S y.host)) ?h1 ?h2 ?h3 ?h4) ?_
              case h1 => decide
              case h2 => exact a1
              case h3 => exact b1
              case h4 => exact q1
              refine Eq.trans (eqF_true (a := .string (S x.tag)) (b := .string (S y.tag)) ?h1 ?h2 ?h3 ?h4) ?_
              case h1 => decide
              case h2 => exact a2
              case h3 => exact b2
              case h4 => exact q2
              refine Eq.trans (eqF_true (a := .agg (x.root.map B).toArray) (b := .agg (y.root.map B).toArray) ?h1 ?h2 ?h3 ?h4) ?_
              case h1 => decide
              case h2 => exact a3
              case h3 => exact b3
              case h4 => exact q3
              refine Eq.trans (eqF_true (a := .int .i64 x.files) (b := .int .i64 y.files) ?h1 ?h2 ?h3 ?h4) ?_
              case h1 => decide
              case h2 => exact a4
              case h3 => exact b4
              case h4 => exact q4
              refine eqF_false (a := .int .i64 x.bytes) (b := .int .i64 y.bytes) ?h1 ?h2 ?h3 ?h4
              case h1 => decide
              case h2 => exact a5
              case h3 => exact b5
              case h4 => exact q5
          · have r4 : (x.files == y.files) = false := by simpa using h4
            rw [r4] at q4
            rw [decide_eq_false (fun h => h4 h.2.2.2.2.1)]
            clear h0 h1 h2 h3 h4 r0 r4
            refine Eq.trans (eqF_true (a := .int .i64 x.time) (b := .int .i64 y.time) ?h1 ?h2 ?h3 ?h4) ?_
            case h1 => decide
            case h2 => exact a0
            case h3 => exact b0
            case h4 => exact q0
            refine Eq.trans (eqF_true (a := .string (S x.host)) (b := .string (S y.host)) ?h1 ?h2 ?h3 ?h4) ?_
            case h1 => decide
            case h2 => exact a1
            case h3 => exact b1
            case h4 => exact q1
            refine Eq.trans (eqF_true (a := .string (S x.tag)) (b := .string (S y.tag)) ?h1 ?h2 ?h3 ?h4) ?_
            case h1 => decide
            case h2 => exact a2
            case h3 => exact b2
            case h4 => exact q2
            refine Eq.trans (eqF_true (a := .agg (x.root.map B).toArray) (b := .agg (y.root.map B).toArray) ?h1 ?h2 ?h3 ?h4) ?_
            case h1 => decide
            case h2 => exact a3
            case h3 => exact b3
            case h4 => exact q3
            refine eqF_false (a := .int .i64 x.files) (b := .int .i64 y.files) ?h1 ?h2 ?h3 ?h4
            case h1 => decide
            case h2 => exact a4
            case h3 => exact b4
            case h4 => exact q4
        · rw [decide_eq_false h3] at q3
          rw [decide_eq_false (fun h => h3 h.2.2.2.1)]
          clear h0 h1 h2 h3 r0
          refine Eq.trans (eqF_true (a := .int .i64 x.time) (b := .int .i64 y.time) ?h1 ?h2 ?h3 ?h4) ?_
          case h1 => decide
          case h2 => exact a0
          case h3 => exact b0
          case h4 => exact q0
          refine Eq.trans (eqF_true (a := .string (S x.host)) (b := .string (S y.host)) ?h1 ?h2 ?h3 ?h4) ?_
          case h1 => decide
          case h2 => exact a1
          case h3 => exact b1
          case h4 => exact q1
          refine Eq.trans (eqF_true (a := .string (S x.tag)) (b := .string (S y.tag)) ?h1 ?h2 ?h3 ?h4) ?_
          case h1 => decide
          case h2 => exact a2
          case h3 => exact b2
          case h4 => exact q2
          refine eqF_false (a := .agg (x.root.map B).toArray) (b := .agg (y.root.map B).toArray) ?h1 ?h2 ?h3 ?h4
          case h1 => decide
          case h2 => exact a3
          case h3 => exact b3
          case h4 => exact q3
      · rw [decide_eq_false h2] at q2
        rw [decide_eq_false (fun h => h2 h.2.2.1)]
        clear h0 h1 h2 r0
        refine Eq.trans (eqF_true (a := .int .i64 x.time) (b := .int .i64 y.time) ?h1 ?h2 ?h3 ?h4) ?_
        case h1 => decide
        case h2 => exact a0
        case h3 => exact b0
        case h4 => exact q0
        refine Eq.trans (eqF_true (a := .string (S x.host)) (b := .string (S y.host)) ?h1 ?h2 ?h3 ?h4) ?_
        case h1 => decide
        case h2 => exact a1
        case h3 => exact b1
        case h4 => exact q1
        refine eqF_false (a := .string (S x.tag)) (b := .string (S y.tag)) ?h1 ?h2 ?h3 ?h4
        case h1 => decide
        case h2 => exact a2
        case h3 => exact b2
        case h4 => exact q2
    · rw [decide_eq_false h1] at q1
      rw [decide_eq_false (fun h => h1 h.2.1)]
      clear h0 h1 r0
      refine Eq.trans (eqF_true (a := .int .i64 x.time) (b := .int .i64 y.time) ?h1 ?h2 ?h3 ?h4) ?_
      case h1 => decide
      case h2 => exact a0
      case h3 => exact b0
      case h4 => exact q0
      refine eqF_false (a := .string (S x.host)) (b := .string (S y.host)) ?h1 ?h2 ?h3 ?h4
      case h1 => decide
      case h2 => exact a1
      case h3 => exact b1
      case h4 => exact q1
  · have r0 : (x.time == y.time) = false := by simpa using h0
    rw [r0] at q0
    rw [decide_eq_false (fun h => h0 h.1)]
    clear h0 r0
    refine eqF_false (a := .int .i64 x.time) (b := .int .i64 y.time) ?h1 ?h2 ?h3 ?h4
    case h1 => decide
    case h2 => exact a0
    case h3 => exact b0
    case h4 => exact q0
theorem rsnap_equal (x y : Sp) (hx : x.ok) (hy : y.ok) (W : World) : (Op.equalIn 10000 29 (.agg x.cells.toArray) (.agg y.cells.toArray)).run Tryd.prog W = .ok (decide (x = y)) W := rsnap_equal' 9997 x y hx hy W
theorem rsnap_guard : Tryd.prog.eqGuardType Tryd.prog.depth 29 = false := by kernel_rfl
theorem rsnap_grd (op : BinOp) (x y : Operand) (xs ys : Array Value) (W : World) : (eqGuard op 29 x y (.agg xs) (.agg ys)).run Tryd.prog W = .ok () W := run_eqGuard_agg W op _ x y xs ys rsnap_guard
theorem rsnap_eql (x y : Sp) (hx : x.ok) (hy : y.ok) (W : World) : (binOp .eql 29 (.agg x.cells.toArray) (.agg y.cells.toArray)).run Tryd.prog W = .ok (.bool (decide (x = y))) W := by
  rw [run_eql_struct, rsnap_equal x y hx hy W]; rfl
theorem rsnap_neq (x y : Sp) (hx : x.ok) (hy : y.ok) (W : World) : (binOp .neq 29 (.agg x.cells.toArray) (.agg y.cells.toArray)).run Tryd.prog W = .ok (.bool (!decide (x = y))) W := by
  rw [run_neq_struct, rsnap_equal x y hx hy W]; rfl

end Go.Proofs.YtmfjfahlgcdehaaDoor
