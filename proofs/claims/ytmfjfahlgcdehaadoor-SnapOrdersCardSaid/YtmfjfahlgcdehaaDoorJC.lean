import Derived.Test.YtmfjfahlgcdehaaDoorJB
import Derived.Test.YtmfjfahlgcdehaaDoorMI
import Derived.Test.YtmfjfahlgcdehaaDoorN2

/- Snapshots held against each other; snap.Name. -/
namespace Go.Proofs.YtmfjfahlgcdehaaDoor
open Go.RowKit Go.Lib

theorem part_one {t : TypeId} {d : TypeDesc} (hu : Tryd.prog.underlying t = some d) (hd : (match d with | .struct _ | .array _ _ => true | _ => false) = false) (xs : Array Value) (k : Nat) (v : Value) (h : xs[k]? = some v) (W : World) : (part t xs k).run Tryd.prog W = .ok v W := by
  simp only [part, isAgg, Sem.run_bind, run_underlying hu, Result.andThen_ok, Sem.run_pure]
  cases d <;> simp_all
theorem cells_root {x : Sp} (hx : x.ok) : List.take 32 (List.drop 3 x.cells) = x.root.map B := by
  unfold Sp.cells
  have h : (x.root.map B).length = 32 := by rw [List.length_map, hx.root]
  rw [List.append_assoc, show List.drop 3 ([Value.int .i64 x.time, .string (S x.host), .string (S x.tag)] ++ (x.root.map B ++ [Value.int .i64 x.files, .int .i64 x.bytes])) = x.root.map B ++ [Value.int .i64 x.files, .int .i64 x.bytes] from rfl, List.take_left' h]
theorem part_root {x : Sp} (hx : x.ok) (W : World) : (part 26 x.cells.toArray 3).run Tryd.prog W = .ok (.agg (x.root.map B).toArray) W := by
  have e := cells_root hx
  have hs : (Go.sizeOf 26).run Tryd.prog W = .ok 32 W := Tryd.sizeOf26 W
  have ha : (isAgg 26).run Tryd.prog W = .ok true W := Tryd.isAgg26 W
  simp only [part, Sem.run_bind, hs, ha, Result.andThen_ok, Sem.run_pure]
  simp [e]
instance : DecidableEq Sp := fun a b => decidable_of_iff (a.key = b.key) ⟨Sp.key_inj, fun h => by rw [h]⟩
theorem jS_inj {a b : List UInt8} (h : S a = S b) : a = b := S_inj h

section
variable {P : Program} {d : Nat} {xs ys : Array Value} {f : Field} {fs : List Field} {W : World} {a b : Value}
theorem eqF_true (hn : f.name ≠ "_") (ha : (part f.type xs f.offset).run P W = .ok a W) (hb : (part f.type ys f.offset).run P W = .ok b W) (hq : (Op.equalIn d f.type a b).run P W = .ok true W) :
    (Op.eqFields d xs ys (f :: fs)).run P W = (Op.eqFields d xs ys fs).run P W := by
  conv => lhs; unfold Op.eqFields
  rw [if_pos hn]
  simp [Sem.run_bind, ha, hb, hq]
theorem eqF_nil : (Op.eqFields d xs ys []).run P W = .ok true W := rfl
theorem eqF_false (hn : f.name ≠ "_") (ha : (part f.type xs f.offset).run P W = .ok a W) (hb : (part f.type ys f.offset).run P W = .ok b W) (hq : (Op.equalIn d f.type a b).run P W = .ok false W) :
    (Op.eqFields d xs ys (f :: fs)).run P W = .ok false W := by
  unfold Op.eqFields
  rw [if_pos hn]
  simp [Sem.run_bind, ha, hb, hq]
end
set_option maxRecDepth 100000 in
theorem snap_equal' (D : Nat) (x y : Sp) (hx : x.ok) (hy : y.ok) (W : World) : (Op.equalIn (D + 3) 28 (.agg x.cells.toArray) (.agg y.cells.toArray)).run Tryd.prog W = .ok (decide (x = y)) W := by
  have hS : Tryd.prog.underlying 28 = some (.struct (Tryd.prog.fieldsOf 28)) := by kernel_rfl
  have hp : Tryd.prog.stoodInHeld 28 = false := by kernel_rfl
  rw [run_equalIn_agg W (D + 2) _ _ _ hS hp]
  have a0 := part_one Tryd.underlying2 rfl x.cells.toArray 0 _ (by simpa using x.c0) W
  have a1 := part_one Tryd.underlying9 rfl x.cells.toArray 1 _ (by simpa using x.c1) W
  have a2 := part_one Tryd.underlying9 rfl x.cells.toArray 2 _ (by simpa using x.c2) W
  have a3 := part_root hx W
  have a4 := part_one Tryd.underlying3 rfl x.cells.toArray 35 _ (by simpa using Sp.c35 hx) W
  have a5 := part_one Tryd.underlying2 rfl x.cells.toArray 36 _ (by simpa using Sp.c36 hx) W
  have b0 := part_one Tryd.underlying2 rfl y.cells.toArray 0 _ (by simpa using y.c0) W
  have b1 := part_one Tryd.underlying9 rfl y.cells.toArray 1 _ (by simpa using y.c1) W
  have b2 := part_one Tryd.underlying9 rfl y.cells.toArray 2 _ (by simpa using y.c2) W
  have b3 := part_root hy W
  have b4 := part_one Tryd.underlying3 rfl y.cells.toArray 35 _ (by simpa using Sp.c35 hy) W
  have b5 := part_one Tryd.underlying2 rfl y.cells.toArray 36 _ (by simpa using Sp.c36 hy) W
  have q0 := run_equalIn_int (P := Tryd.prog) W (D + 1) 2 .i64 .i64 x.time y.time Tryd.underlying2
  have q1 := run_equalIn_string (P := Tryd.prog) W (D + 1) 9 (S x.host) (S y.host) Tryd.underlying9
  have q2 := run_equalIn_string (P := Tryd.prog) W (D + 1) 9 (S x.tag) (S y.tag) Tryd.underlying9
  have q3 := nid_equal' x.root y.root hx.root hy.root D W
  have q4 := run_equalIn_int (P := Tryd.prog) W (D + 1) 3 .i64 .i64 x.files y.files Tryd.underlying3
  have q5 := run_equalIn_int (P := Tryd.prog) W (D + 1) 2 .i64 .i64 x.bytes y.bytes Tryd.underlying2
  rw [S_beq] at q1 q2
  have hxy : x = y ↔ x.time = y.time ∧ x.host = y.host ∧ x.tag = y.tag ∧ x.root = y.root ∧ x.files = y.files ∧ x.bytes = y.bytes := by
    constructor
    · rintro rfl; simp
    · rintro ⟨h1, h2, h3, h4, h5, h6⟩
      cases x; cases y; simp_all
  rw [show decide (x = y) = decide (x.time = y.time ∧ x.host = y.host ∧ x.tag = y.tag ∧ x.root = y.root ∧ x.files = y.files ∧ x.bytes = y.bytes) from decide_eq_decide.2 hxy]
  simp only [Program.fieldsOf, Tryd.underlying28, List.toList_toArray]
  generalize x.cells.toArray = cx at *
  generalize y.cells.toArray = cy at *
  clear hS hp hxy
  by_cases h0 : x.time = y.time
  · have r0 : (x.time == y.time) = true := by simpa using h0
    rw [r0] at q0
    by_cases h1 : x.host = y.host
    · rw [decide_eq_true h1] at q1
      by_cases h2 : x.tag = y.tag
      · rw [decide_eq_true h2] at q2
        by_cases h3 : x.root = y.root
        · rw [decide_eq_true h3] at q3
          by_cases h4 : x.files = y.files
          · have r4 : (x.files == y.files) = true := by simpa using h4
            rw [r4] at q4
            by_cases h5 : x.bytes = y.bytes
            · have r5 : (x.bytes == y.bytes) = true := by simpa using h5
              rw [r5] at q5
              rw [decide_eq_true ⟨h0, h1, h2, h3, h4, h5⟩]
              clear h0 h1 h2 h3 h4 h5 r0 r4 r5
              refine Eq.trans (eqF_true (a := .int .i64 x.time) (b := .int .i64 y.time) ?h1 ?h2 ?h3 ?h4) ?_
              case h1 => decide
              case h2 => exact a0
              case h3 => exact b0
              case h4 => exact q0
              refine Eq.trans (eqF_true (a := .string (S x.host)) (b := .string (S y.host)) ?h1 ?h2 ?h3 ?h4) ?_
              case h1 => decide
              case h2 => exact a1
              case h3 => exact b1
              case h4 => exact q1
              refine Eq.trans (eqF_true (a := .string (S x.tag)) (b := .string (S y.tag)) ?h1 ?h2 ?h3 ?h4) ?_
              case h1 => decide
              case h2 => exact a2
              case h3 => exact b2
              case h4 => exact q2
              refine Eq.trans (eqF_true (a := .agg (x.root.map B).toArray) (b := .agg (y.root.map B).toArray) ?h1 ?h2 ?h3 ?h4) ?_
              case h1 => decide
              case h2 => exact a3
              case h3 => exact b3
              case h4 => exact q3
              refine Eq.trans (eqF_true (a := .int .i64 x.files) (b := .int .i64 y.files) ?h1 ?h2 ?h3 ?h4) ?_
              case h1 => decide
              case h2 => exact a4
              case h3 => exact b4
              case h4 => exact q4
              refine Eq.trans (eqF_true (a := .int .i64 x.bytes) (b := .int .i64 y.bytes) ?h1 ?h2 ?h3 ?h4) ?_
              case h1 => decide
              case h2 => exact a5
              case h3 => exact b5
              case h4 => exact q5
              exact eqF_nil
            · have r5 : (x.bytes == y.bytes) = false := by simpa using h5
              rw [r5] at q5
              rw [decide_eq_false (fun h => h5 h.2.2.2.2.2)]
              clear h0 h1 h2 h3 h4 h5 r0 r4 r5
              refine Eq.trans (eqF_true (a := .int .i64 x.time) (b := .int .i64 y.time) ?h1 ?h2 ?h3 ?h4) ?_
              case h1 => decide
              case h2 => exact a0
              case h3 => exact b0
              case h4 => exact q0
              refine Eq.trans (eqF_true (a := .string (S x.host)) (b := .string (S y.host)) ?h1 ?h2 ?h3 ?h4) ?_
              case h1 => decide
              case h2 => exact a1
              case h3 => exact b1
              case h4 => exact q1
              refine Eq.trans (eqF_true (a := .string (S x.tag)) (b := .string (S y.tag)) ?h1 ?h2 ?h3 ?h4) ?_
              case h1 => decide
              case h2 => exact a2
              case h3 => exact b2
              case h4 => exact q2
              refine Eq.trans (eqF_true (a := .agg (x.root.map B).toArray) (b := .agg (y.root.map B).toArray) ?h1 ?h2 ?h3 ?h4) ?_
              case h1 => decide
              case h2 => exact a3
              case h3 => exact b3
              case h4 => exact q3
              refine Eq.trans (eqF_true (a := .int .i64 x.files) (b := .int .i64 y.files) ?h1 ?h2 ?h3 ?h4) ?_
              case h1 => decide
              case h2 => exact a4
              case h3 => exact b4
              case h4 => exact q4
              refine eqF_false (a := .int .i64 x.bytes) (b := .int .i64 y.bytes) ?h1 ?h2 ?h3 ?h4
              case h1 => decide
              case h2 => exact a5
              case h3 => exact b5
              case h4 => exact q5
          · have r4 : (x.files == y.files) = false := by simpa using h4
            rw [r4] at q4
            rw [decide_eq_false (fun h => h4 h.2.2.2.2.1)]
            clear h0 h1 h2 h3 h4 r0 r4
            refine Eq.trans (eqF_true (a := .int .i64 x.time) (b := .int .i64 y.time) ?h1 ?h2 ?h3 ?h4) ?_
            case h1 => decide
            case h2 => exact a0
            case h3 => exact b0
            case h4 => exact q0
            refine Eq.trans (eqF_true (a := .string (S x.host)) (b := .string (S y.host)) ?h1 ?h2 ?h3 ?h4) ?_
            case h1 => decide
            case h2 => exact a1
            case h3 => exact b1
            case h4 => exact q1
            refine Eq.trans (eqF_true (a := .string (S x.tag)) (b := .string (S y.tag)) ?h1 ?h2 ?h3 ?h4) ?_
            case h1 => decide
            case h2 => exact a2
            case h3 => exact b2
            case h4 => exact q2
            refine Eq.trans (eqF_true (a := .agg (x.root.map B).toArray) (b := .agg (y.root.map B).toArray) ?h1 ?h2 ?h3 ?h4) ?_
            case h1 => decide
            case h2 => exact a3
            case h3 => exact b3
            case h4 => exact q3
            refine eqF_false (a := .int .i64 x.files) (b := .int .i64 y.files) ?h1 ?h2 ?h3 ?h4
            case h1 => decide
            case h2 => exact a4
            case h3 => exact b4
            case h4 => exact q4
        · rw [decide_eq_false h3] at q3
          rw [decide_eq_false (fun h => h3 h.2.2.2.1)]
          clear h0 h1 h2 h3 r0
          refine Eq.trans (eqF_true (a := .int .i64 x.time) (b := .int .i64 y.time) ?h1 ?h2 ?h3 ?h4) ?_
          case h1 => decide
          case h2 => exact a0
          case h3 => exact b0
          case h4 => exact q0
          refine Eq.trans (eqF_true (a := .string (S x.host)) (b := .string (S y.host)) ?h1 ?h2 ?h3 ?h4) ?_
          case h1 => decide
          case h2 => exact a1
          case h3 => exact b1
          case h4 => exact q1
          refine Eq.trans (eqF_true (a := .string (S x.tag)) (b := .string (S y.tag)) ?h1 ?h2 ?h3 ?h4) ?_
          case h1 => decide
          case h2 => exact a2
          case h3 => exact b2
          case h4 => exact q2
          refine eqF_false (a := .agg (x.root.map B).toArray) (b := .agg (y.root.map B).toArray) ?h1 ?h2 ?h3 ?h4
          case h1 => decide
          case h2 => exact a3
          case h3 => exact b3
          case h4 => exact q3
      · rw [decide_eq_false h2] at q2
        rw [decide_eq_false (fun h => h2 h.2.2.1)]
        clear h0 h1 h2 r0
        refine Eq.trans (eqF_true (a := .int .i64 x.time) (b := .int .i64 y.time) ?h1 ?h2 ?h3 ?h4) ?_
        case h1 => decide
        case h2 => exact a0
        case h3 => exact b0
        case h4 => exact q0
        refine Eq.trans (eqF_true (a := .string (S x.host)) (b := .string (S y.host)) ?h1 ?h2 ?h3 ?h4) ?_
        case h1 => decide
        case h2 => exact a1
        case h3 => exact b1
        case h4 => exact q1
        refine eqF_false (a := .string (S x.tag)) (b := .string (S y.tag)) ?h1 ?h2 ?h3 ?h4
        case h1 => decide
        case h2 => exact a2
        case h3 => exact b2
        case h4 => exact q2
    · rw [decide_eq_false h1] at q1
      rw [decide_eq_false (fun h => h1 h.2.1)]
      clear h0 h1 r0
      refine Eq.trans (eqF_true (a := .int .i64 x.time) (b := .int .i64 y.time) ?h1 ?h2 ?h3 ?h4) ?_
      case h1 => decide
      case h2 => exact a0
      case h3 => exact b0
      case h4 => exact q0
      refine eqF_false (a := .string (S x.host)) (b := .string (S y.host)) ?h1 ?h2 ?h3 ?h4
      case h1 => decide
      case h2 => exact a1
      case h3 => exact b1
      case h4 => exact q1
  · have r0 : (x.time == y.time) = false := by simpa using h0
    rw [r0] at q0
    rw [decide_eq_false (fun h => h0 h.1)]
    clear h0 r0
    refine eqF_false (a := .int .i64 x.time) (b := .int .i64 y.time) ?h1 ?h2 ?h3 ?h4
    case h1 => decide
    case h2 => exact a0
    case h3 => exact b0
    case h4 => exact q0
theorem snap_equal (x y : Sp) (hx : x.ok) (hy : y.ok) (W : World) : (Op.equalIn 10000 28 (.agg x.cells.toArray) (.agg y.cells.toArray)).run Tryd.prog W = .ok (decide (x = y)) W := snap_equal' 9997 x y hx hy W
theorem snap_guard : Tryd.prog.eqGuardType Tryd.prog.depth 28 = false := by kernel_rfl
theorem snap_grd (op : BinOp) (x y : Operand) (xs ys : Array Value) (W : World) : (eqGuard op 28 x y (.agg xs) (.agg ys)).run Tryd.prog W = .ok () W := run_eqGuard_agg W op _ x y xs ys snap_guard
theorem snap_eql (x y : Sp) (hx : x.ok) (hy : y.ok) (W : World) : (binOp .eql 28 (.agg x.cells.toArray) (.agg y.cells.toArray)).run Tryd.prog W = .ok (.bool (decide (x = y))) W := by
  rw [run_eql_struct, snap_equal x y hx hy W]; rfl
theorem snap_neq (x y : Sp) (hx : x.ok) (hy : y.ok) (W : World) : (binOp .neq 28 (.agg x.cells.toArray) (.agg y.cells.toArray)).run Tryd.prog W = .ok (.bool (!decide (x = y))) W := by
  rw [run_neq_struct, snap_equal x y hx hy W]; rfl

/-- The name of bytes in a store. -/
def nameS (ys : List UInt8) : List UInt8 := [115, 110, 97, 112, 47] ++ hexOf (Sha.sum ys)
theorem nameS_len (ys : List UInt8) : (nameS ys).length = 69 := by unfold nameS; simp [hexOf_len, Sha.sum_len]
set_option maxRecDepth 100000 in
theorem j_snapname (a : Option Addr) (c : Nat) (ys : List UInt8) (w : World) (ht : Tabs w) (hy : SrcB w (.slice a ys.length c) ys) (hc : ys.length ≤ c) (hc2 : c ≤ 9223372036854775807) (hl : ys.length ≤ 500000000) :
    Calls Tryd.prog 34 #[.slice a ys.length c] w fun e w' => e = .returned (.string (S (nameS ys))) ∧ Kept [] w w' := by
  have hr : Reads w a ys := by
    rcases hy with ⟨h1, h2, h3⟩ | ⟨x, c', h1, h2⟩
    · have : ys = [] := List.eq_nil_of_length_eq_zero h2
      subst this
      exact ⟨fun _ => rfl, fun ad _ j u hu => by simp at hu⟩
    · simp at h1
      obtain ⟨rfl, rfl⟩ := h1
      exact ⟨fun h => by simp at h, fun ad had => by simp at had; subst had; exact h2⟩
  have ho := hid (of_any a c ys w ht hr hc hc2 hl)
  have hsl := Sha.sum_len ys
  have hadd : ∀ W : World, (Op.stringOp .add ⟨#[115, 110, 97, 112, 47]⟩ ⟨(hexOf (Sha.sum ys)).toArray⟩).run Tryd.prog W = .ok (.string (S (nameS ys))) W := fun W => by
    have h := run_string_add_lists (P := Tryd.prog) W [115, 110, 97, 112, 47] (hexOf (Sha.sum ys)) (by decide) (by rw [hexOf_len, hsl]; decide)
    exact h
  have htx := hid (fun W => sha_text_any (Sha.sum ys) hsl W)
  clear ht hy hr hsl
  generalize nameS ys = nm at *
  generalize Sha.sum ys = sm at *
  go_enter Tryd.func34, Tryd.ntmps34
  go_wp2_with fail
  refine ho.out.mono ?_
  rintro e w1 ⟨rfl, k1⟩
  go_wp2_with fail
  refine (htx.out w1).mono ?_
  rintro e w2 ⟨rfl, k2⟩
  have K2 := hid (k1.trans k2)
  clear k1 k2 ho htx
  go_wp2
  go_ret
  exact ⟨rfl, K2.out⟩
end Go.Proofs.YtmfjfahlgcdehaaDoor
