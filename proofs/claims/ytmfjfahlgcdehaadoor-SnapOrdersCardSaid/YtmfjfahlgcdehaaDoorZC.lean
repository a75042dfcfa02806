import Derived.Test.YtmfjfahlgcdehaaDoorZB0
import Derived.Test.YtmfjfahlgcdehaaDoorZB1
import Derived.Test.YtmfjfahlgcdehaaDoorZB2
import Derived.Test.YtmfjfahlgcdehaaDoorZB3

/- coldstorelaw11.SnapOrders: whatever the list and the snapshots. -/
namespace Go.Proofs.YtmfjfahlgcdehaaDoor
open Go.RowKit Go.Lib Go.Sort Go.Shelf

theorem snap_orders (x y z : Sp) (hx : x.ok) (hy : y.ok) (hz : z.ok) (a : Option Addr) (c : Nat) (xs : List Sq) (w : World) (ht : Tab w) (hts : Tabs w) (hs : Snaps w a c xs) :
    Calls Tryd.prog 4 #[.slice a xs.length c, .agg x.cells.toArray, .agg y.cells.toArray, .agg z.cells.toArray] w fun e w' => e = .returned (.bool true) ∧ Kept [] w w' := by
  have K0 : Kept [] w (((w.alloc (.cells x.cells.toArray 28)).alloc (.cells y.cells.toArray 28)).alloc (.cells z.cells.toArray 28)) := (((Kept.refl [] w).alloc _).alloc _).alloc _
  have e1 := (ltQ_two x y).1
  have e2 := (ltQ_two x y).2
  have e3 := ltQ_three x y z
  cases hp : decide (x.cmp y < 0)
  · cases hq : decide (y.cmp x < 0)
    · exact law_orders_k0 37 Tryd.sizeOf28 (hid rfl) x.cells y.cells z.cells (Sp.size hx) (Sp.size hy) (Sp.size hz) (decide (x.cmp y < 0)) (decide (y.cmp x < 0)) (decide (y.cmp z < 0)) (decide (x.cmp z < 0)) (!decide (x = y)) hp hq (by rw [← e2, hp, hq]; rfl) (less_grown x y hx hy) (less_grown y x hy hx) (less_grown y z hy hz) (less_grown x z hx hz) (fun W => snap_neq x y hx hy W) a c xs w _ hs rfl (alive11 _ (ht.kept K0 (by simp)) (hts.kept K0 (by simp) (by simp)))
    · exact law_orders_k1 37 Tryd.sizeOf28 (hid rfl) x.cells y.cells z.cells (Sp.size hx) (Sp.size hy) (Sp.size hz) (decide (x.cmp y < 0)) (decide (y.cmp x < 0)) (decide (y.cmp z < 0)) (decide (x.cmp z < 0)) (!decide (x = y)) hp hq (by rw [← e2, hp, hq]; rfl) (less_grown x y hx hy) (less_grown y x hy hx) (less_grown y z hy hz) (less_grown x z hx hz) (fun W => snap_neq x y hx hy W) a c xs w _ hs rfl (alive11 _ (ht.kept K0 (by simp)) (hts.kept K0 (by simp) (by simp)))
  · cases hq : decide (y.cmp x < 0)
    · cases hr : decide (y.cmp z < 0)
      · exact law_orders_k2 37 Tryd.sizeOf28 (hid rfl) x.cells y.cells z.cells (Sp.size hx) (Sp.size hy) (Sp.size hz) (decide (x.cmp y < 0)) (decide (y.cmp x < 0)) (decide (y.cmp z < 0)) (decide (x.cmp z < 0)) (!decide (x = y)) hp hq hr (by rw [← e2, hp, hq]; rfl) (less_grown x y hx hy) (less_grown y x hy hx) (less_grown y z hy hz) (less_grown x z hx hz) (fun W => snap_neq x y hx hy W) a c xs w _ hs rfl (alive11 _ (ht.kept K0 (by simp)) (hts.kept K0 (by simp) (by simp)))
      · cases hw : decide (x.cmp z < 0)
        · rw [hp, hr, hw] at e3; simp at e3
        · exact law_orders_k3 37 Tryd.sizeOf28 (hid rfl) x.cells y.cells z.cells (Sp.size hx) (Sp.size hy) (Sp.size hz) (decide (x.cmp y < 0)) (decide (y.cmp x < 0)) (decide (y.cmp z < 0)) (decide (x.cmp z < 0)) (!decide (x = y)) hp hq hr hw (by rw [← e2, hp, hq]; rfl) (less_grown x y hx hy) (less_grown y x hy hx) (less_grown y z hy hz) (less_grown x z hx hz) (fun W => snap_neq x y hx hy W) a c xs w _ hs rfl (alive11 _ (ht.kept K0 (by simp)) (hts.kept K0 (by simp) (by simp)))
    · rw [hp, hq] at e1; simp at e1
end Go.Proofs.YtmfjfahlgcdehaaDoor
