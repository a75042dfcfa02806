import Derived.Test.YtkabfdclecbnpaaN0
import Derived.Test.YtkabfdclecbnpaaH4
import Derived.ChangeKeysEq

/- Sums held against each other. For coldstoreref10.SameIDs. -/
namespace Go.Proofs.Ytkabfdclecbnpaa
open Go.RowKit Go.Lib

theorem ninfo8 : (Try.prog.info? 5).map (fun i => (i.zero, i.size, i.bytes)) = some (some (.int .u8 0), 1, 1) := by kernel_rfl
theorem ninfo32 : (Try.prog.info? 40).map (·.size) = some 32 := by kernel_rfl
set_option maxRecDepth 100000 in
theorem nEqItems (D : Nat) (x y : List UInt8) (hx : x.length = 32) (hy : y.length = 32) (W : World) : ∀ is : List Nat, (∀ j ∈ is, j < 32) →
    (Op.eqItems (D + 1) 5 1 (x.map B).toArray (y.map B).toArray is).run Try.prog W = .ok (is.all fun j => x.getD j 0 == y.getD j 0) W
  | [], _ => by simp [Op.eqItems]
  | j :: is, h => by
    have hj := h j (by simp)
    have p : ∀ l : List UInt8, l.length = 32 → (part 5 (l.map B).toArray (j * 1)).run Try.prog W = .ok (.int .u8 ((l.getD j 0).toNat : Int)) W := fun l hl => by
      have hg : (l.map B).toArray[j]? = some (.int .u8 ((l.getD j 0).toNat : Int)) := by simp [B, hl, hj]
      simp only [part, isAgg, Sem.run_bind, run_underlying Try.underlying5, Result.andThen_ok, Sem.run_pure, Nat.mul_one, hg]
      rfl
    have ih := nEqItems D x y hx hy W is (fun k hk => h k (by simp [hk]))
    have he := run_equalIn_int (P := Try.prog) W D 5 .u8 .u8 ((x.getD j 0).toNat : Int) ((y.getD j 0).toNat : Int) Try.underlying5
    have hb : (((x.getD j 0).toNat : Int) == ((y.getD j 0).toNat : Int)) = (x.getD j 0 == y.getD j 0) := by
      rw [Bool.eq_iff_iff]
      simp only [beq_iff_eq]
      constructor
      · intro h; exact UInt8.toNat_inj.1 (by omega)
      · intro h; rw [h]
    rw [hb] at he
    simp only [Op.eqItems, Sem.run_bind, p x hx, p y hy, Result.andThen_ok, he]
    cases hq : (x.getD j 0 == y.getD j 0)
    · have hq2 : ((x[j]?.getD 0) == (y[j]?.getD 0)) = false := by simpa using hq
      simp [hq2]
    · have hq2 : ((x[j]?.getD 0) == (y[j]?.getD 0)) = true := by simpa using hq
      simp [hq2, ih]

set_option maxRecDepth 100000 in
theorem nid_equal' (x y : List UInt8) (hx : x.length = 32) (hy : y.length = 32) (D : Nat) (W : World) :
    (Op.equalIn (D + 2) 40 (.agg (x.map B).toArray) (.agg (y.map B).toArray)).run Try.prog W = .ok (decide (x = y)) W := by
  obtain ⟨i0, hi0, hz0, hz1, hz2⟩ := info_parts ninfo8
  have h := run_equalIn_array (P := Try.prog) W (D + 1) (i := i0) (x.map B).toArray (y.map B).toArray Try.underlying40 hi0
  rw [h, show Try.prog.cellsOf 5 = 1 by kernel_rfl, nEqItems D x y hx hy W _ (fun j hj => List.mem_range.1 hj)]
  congr 1
  rw [Bool.eq_iff_iff, List.all_eq_true, decide_eq_true_eq]
  constructor
  · intro ha
    apply List.ext_getElem (by omega)
    intro j h1 h2
    have := ha j (List.mem_range.2 (by omega))
    simpa [h1, h2] using this
  · rintro rfl j _
    simp

theorem nid_equal (x y : List UInt8) (hx : x.length = 32) (hy : y.length = 32) (W : World) :
    (Op.equalIn 10000 40 (.agg (x.map B).toArray) (.agg (y.map B).toArray)).run Try.prog W = .ok (decide (x = y)) W := nid_equal' x y hx hy 9998 W

theorem IdAt.reads {w : World} {x : Addr} {id : List UInt8} (h : IdAt w x id) : ∀ (j : Nat) v, (id.map B)[j]? = some v → w.cell? (x.add j) = some v := by
  intro j v hj
  rw [List.getElem?_map] at hj
  obtain ⟨b, hb, rfl⟩ := Option.map_eq_some_iff.1 hj
  exact h.2 j b hb
end Go.Proofs.Ytkabfdclecbnpaa
