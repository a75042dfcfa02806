import Derived.Test.YtkabfdclecbnpaaML5
import Derived.Test.YtkabfdclecbnpaaZA

/- retain.order: the places of a list's snapshots, as they stand in the list that is sorted. -/
namespace Go.Proofs.Ytkabfdclecbnpaa
open Go.RowKit Go.Lib Go.Sort Go.Shelf

theorem Snaps.kept' {S : List Nat} {w w' : World} {a : Option Addr} {c : Nat} {xs : List Sq} (h : Snaps w a c xs) (hk : Kept S w w') (hx : ∀ x, a = some x → x.block ∉ S) : Snaps w' a c xs :=
  ⟨h.le, h.max, h.nil, fun x e i s hs j v hv => by
    have hc := h.at_ x e i s hs j v hv
    refine (hk.cell (World.block_lt_of_cell? w _ hc) ?_).trans hc
    rw [add_block]; exact hx x e⟩
theorem snaps_low {w : World} {x : Addr} {c : Nat} {xs : List Sq} (h : Snaps w (some x) c xs) (hne : xs ≠ []) : x.block < w.heap.size := by
  cases xs with
  | nil => exact absurd rfl hne
  | cons s t =>
    have hc := World.block_lt_of_cell? w _ (h.at_ x rfl 0 s rfl 0 _ (Sp.c0 s.1))
    rwa [add_block] at hc
theorem Snaps.kept0 {S : List Nat} {w w' : World} {a : Option Addr} {c : Nat} {xs : List Sq} (h : Snaps w a c xs) (hk : Kept S w w') (hx : ∀ x, a = some x → xs ≠ [] → x.block ∉ S) : Snaps w' a c xs :=
  ⟨h.le, h.max, h.nil, fun x e i s hs j v hv => by
    have hc := h.at_ x e i s hs j v hv
    refine (hk.cell (World.block_lt_of_cell? w _ hc) ?_).trans hc
    rw [add_block]; exact hx x e (fun e2 => by rw [e2] at hs; simp at hs)⟩
theorem Snaps.load {w : World} {x : Addr} {c : Nat} {xs : List Sq} (h : Snaps w (some x) c xs) (i : Nat) (s : Sq) (hs : xs[i]? = some s) (P : Program) : Sem.run P (loadCellsFrom (x.add (i * 37)) 0 37 #[]) w = .ok (encQ s).toArray w :=
  run_loadCellsFrom_list P _ _ _ 37 (encQ_len s) (fun j u hj => by
    have := h.at_ x rfl i s hs j u hj
    rwa [show (x.add (i * 37)).add j = x.add (i * 37 + j) from snap_add_add x (i * 37) j])
def tri (n : Int) : Int := if n < 0 then -1 else if 0 < n then 1 else 0
theorem tri_neg {n : Int} : tri n < 0 ↔ n < 0 := by unfold tri; split <;> (try split) <;> omega

section
attribute [-simp] Try.sizeOf42
set_option maxRecDepth 100000 in
set_option maxHeartbeats 4000000 in
theorem cmp_places_k (z : Nat) (zE : ∀ w, (Go.sizeOf 42).run Try.prog w = .ok z w) (hz37 : Hid (z = 37)) (a : Addr) (c Bx : Nat) (xs : List Sq) (i j : Nat) (x y : Sq) (W : World) (hb : W.cell? ⟨Bx, 0, none⟩ = some (.slice (some a) xs.length c)) (hs : Snaps W (some a) c xs) (hi : xs[i]? = some x) (hj : xs[j]? = some y) :
    Calls Try.prog 38 #[.int .i64 (i : Int), .int .i64 (j : Int), .pointer (some ⟨Bx, 0, none⟩)] W fun e w' => e = .returned (.int .i64 (tri (cmpQ x y))) ∧ Grown W w' := by
  have F1 := hid (fun V (hk : Grown W V) => (show V.cell? ⟨Bx, 0, none⟩ = some (.slice (some a) xs.length c) from (hk.kept.cell (World.block_lt_of_cell? W _ hb) (by simp)).trans hb))
  have F2 := hid (fun V (hk : Grown W V) => (show Sem.run Try.prog (loadCellsFrom (a.add (i * z)) 0 z #[]) V = .ok (encQ x).toArray V from by rw [hz37.out]; exact (hs.kept' hk.kept (by simp)).load i x hi Try.prog))
  have F3 := hid (fun V (hk : Grown W V) => (show Sem.run Try.prog (loadCellsFrom (a.add (j * z)) 0 z #[]) V = .ok (encQ y).toArray V from by rw [hz37.out]; exact (hs.kept' hk.kept (by simp)).load j y hj Try.prog))
  have hin : (i : Int) < (xs.length : Int) := by have := (List.getElem?_eq_some_iff.1 hi).1; omega
  have hjn : (j : Int) < (xs.length : Int) := by have := (List.getElem?_eq_some_iff.1 hj).1; omega
  have hneg : decide (cmpQ y x < 0) = decide (0 < cmpQ x y) := by rw [decide_eq_decide]; exact spC.neg y.1 x.1
  obtain ⟨cx, hcx⟩ : ∃ cx, cx = encQ x := ⟨_, rfl⟩
  obtain ⟨cy, hcy⟩ : ∃ cy, cy = encQ y := ⟨_, rfl⟩
  have C1 := hid (fun V => (show Calls Try.prog 39 #[.agg cx.toArray, .agg cy.toArray] V fun e w' => e = .returned (.bool (decide (cmpQ x y < 0))) ∧ ∃ q os, w' = grow (V.drewN q) os from by rw [hcx, hcy]; exact less_grown x.1 y.1 x.2 y.2 V))
  have C2 := hid (fun V => (show Calls Try.prog 39 #[.agg cy.toArray, .agg cx.toArray] V fun e w' => e = .returned (.bool (decide (cmpQ y x < 0))) ∧ ∃ q os, w' = grow (V.drewN q) os from by rw [hcx, hcy]; exact less_grown y.1 x.1 y.2 x.2 V))
  rw [← hcx] at F2
  rw [← hcy] at F3
  obtain ⟨n, hn⟩ : ∃ n, n = xs.length := ⟨_, rfl⟩
  rw [← hn] at F1 hin hjn
  obtain ⟨k, hk⟩ : ∃ k, k = cmpQ x y := ⟨_, rfl⟩
  rw [hneg] at C2
  rw [← hk] at C1 C2 ⊢
  clear hb hs hi hj hneg hcx hcy hn hk
  have l1 : ∀ q os, (grow (W.drewN q) os).cell? ⟨Bx, 0, none⟩ = some (.slice (some a) n c) := fun q os => F1.out _ ⟨q, os, rfl⟩
  have l2 : ∀ q os, Sem.run Try.prog (loadCellsFrom (a.add (i * z)) 0 z #[]) (grow (W.drewN q) os) = .ok cx.toArray (grow (W.drewN q) os) := fun q os => F2.out _ ⟨q, os, rfl⟩
  have l3 : ∀ q os, Sem.run Try.prog (loadCellsFrom (a.add (j * z)) 0 z #[]) (grow (W.drewN q) os) = .ok cy.toArray (grow (W.drewN q) os) := fun q os => F3.out _ ⟨q, os, rfl⟩
  have mixed : Try.prog.follows Departure.mixedOrders = true := by kernel_rfl
  by_cases h1 : k < 0
  · have hc := fun q os => C1.out (grow (W.drewN q) os)
    have hd : decide (k < 0) = true := decide_eq_true h1
    have ht : tri k = -1 := by simp [tri, h1]
    rw [ht]
    have H1 := hid h1
    clear h1 ht
    go_enter Try.func38, Try.ntmps38
    go_wp2_with fail
    go_quiet_grown (refine Calls.grown_of (hc _ _))
    go_wp2
    go_ret
    exact ⟨rfl, _, _, rfl⟩
  · have hc := fun q os => C1.out (grow (W.drewN q) os)
    have hd : decide (k < 0) = false := decide_eq_false h1
    by_cases h2 : 0 < k
    · have hd2 : decide (0 < k) = true := decide_eq_true h2
      have ht : tri k = 1 := by simp [tri, h1, h2]
      rw [ht]
      clear h1 h2 ht
      go_enter Try.func38, Try.ntmps38
      go_wp2_with fail
      go_quiet_grown (refine Calls.grown_of (hc _ _))
      have G1 := hid (show Grown W (grow (W.drewN nq) osq) from ⟨_, _, rfl⟩)
      generalize grow (W.drewN nq) osq = w1 at G1 ⊢
      clear l1 l2 l3 hc
      have l1 : ∀ q os, (grow (w1.drewN q) os).cell? ⟨Bx, 0, none⟩ = some (.slice (some a) n c) := fun q os => F1.out _ (G1.out.trans ⟨q, os, rfl⟩)
      have l2 : ∀ q os, Sem.run Try.prog (loadCellsFrom (a.add (i * z)) 0 z #[]) (grow (w1.drewN q) os) = .ok cx.toArray (grow (w1.drewN q) os) := fun q os => F2.out _ (G1.out.trans ⟨q, os, rfl⟩)
      have l3 : ∀ q os, Sem.run Try.prog (loadCellsFrom (a.add (j * z)) 0 z #[]) (grow (w1.drewN q) os) = .ok cy.toArray (grow (w1.drewN q) os) := fun q os => F3.out _ (G1.out.trans ⟨q, os, rfl⟩)
      have hc := fun q os => C2.out (grow (w1.drewN q) os)
      go_wp2_with fail
      go_quiet_grown (refine Calls.grown_of (hc _ _))
      go_wp2
      go_ret
      exact ⟨rfl, G1.out.trans ⟨_, _, rfl⟩⟩
    · have hd2 : decide (0 < k) = false := decide_eq_false h2
      have ht : tri k = 0 := by simp [tri, h1, h2]
      rw [ht]
      clear h1 h2 ht
      go_enter Try.func38, Try.ntmps38
      go_wp2_with fail
      go_quiet_grown (refine Calls.grown_of (hc _ _))
      have G1 := hid (show Grown W (grow (W.drewN nq) osq) from ⟨_, _, rfl⟩)
      generalize grow (W.drewN nq) osq = w1 at G1 ⊢
      clear l1 l2 l3 hc
      have l1 : ∀ q os, (grow (w1.drewN q) os).cell? ⟨Bx, 0, none⟩ = some (.slice (some a) n c) := fun q os => F1.out _ (G1.out.trans ⟨q, os, rfl⟩)
      have l2 : ∀ q os, Sem.run Try.prog (loadCellsFrom (a.add (i * z)) 0 z #[]) (grow (w1.drewN q) os) = .ok cx.toArray (grow (w1.drewN q) os) := fun q os => F2.out _ (G1.out.trans ⟨q, os, rfl⟩)
      have l3 : ∀ q os, Sem.run Try.prog (loadCellsFrom (a.add (j * z)) 0 z #[]) (grow (w1.drewN q) os) = .ok cy.toArray (grow (w1.drewN q) os) := fun q os => F3.out _ (G1.out.trans ⟨q, os, rfl⟩)
      have hc := fun q os => C2.out (grow (w1.drewN q) os)
      go_wp2_with fail
      go_quiet_grown (refine Calls.grown_of (hc _ _))
      go_wp2
      go_ret
      exact ⟨rfl, G1.out.trans ⟨_, _, rfl⟩⟩
end
theorem cmp_places (a : Addr) (c Bx : Nat) (xs : List Sq) (i j : Nat) (x y : Sq) (W : World) (hb : W.cell? ⟨Bx, 0, none⟩ = some (.slice (some a) xs.length c)) (hs : Snaps W (some a) c xs) (hi : xs[i]? = some x) (hj : xs[j]? = some y) :
    Calls Try.prog 38 #[.int .i64 (i : Int), .int .i64 (j : Int), .pointer (some ⟨Bx, 0, none⟩)] W fun e w' => e = .returned (.int .i64 (tri (cmpQ x y))) ∧ Grown W w' :=
  cmp_places_k 37 Try.sizeOf42 (hid rfl) a c Bx xs i j x y W hb hs hi hj
end Go.Proofs.Ytkabfdclecbnpaa


/- retain.order: what it answers. -/
namespace Go.Proofs.Ytkabfdclecbnpaa
open Go.RowKit Go.Lib Go.Sort Go.Shelf

section
variable {α : Type} [Inhabited α] {enc : α → Value}
theorem holds_row {w : World} {g n : Nat} {cur : Array Value} {e : TypeId} {d : Array α} (hd : d.size = n) (hb : w.heap[g]? = some (.cells cur e (0, 0))) (ht : cur.toList.take n = d.toList.map enc) : Holds enc w g 0 d := by
  intro j hj
  refine ⟨?_, by simp [World.frozen?, hb]⟩
  have h1 : (cur.toList.take n)[j]? = (d.toList.map enc)[j]? := by rw [ht]
  rw [List.getElem?_take_of_lt (by omega)] at h1
  simp only [World.cell?, hb, Nat.zero_add]
  simp only [Option.isSome_none, Bool.false_eq_true, if_false]
  rw [← Array.getElem?_toList, h1]
  simp [hj]
theorem heap_sort1 {w : World} {g n : Nat} {os : Array Obj} {cur : Array Value} {e : TypeId} {fr : Nat × Nat} (d : Array α) (hb : w.heap[g]? = some (.cells cur e fr)) :
    (sortWorld enc w g 0 n d os).heap[g]? = some (.cells (putCells enc 0 d cur) e fr) := by
  unfold sortWorld
  have hg : g < w.heap.size := (Array.getElem?_eq_some_iff.1 hb).1
  rw [heap_grow_old _ _ (by simpa using hg)]
  simp [putRow, mapBlock, Sort.ahead, Array.getElem?_modify, hb, onCells]
theorem kept_sort1 (w : World) (g n : Nat) (os : Array Obj) (d : Array α) : Kept [g] w (sortWorld enc w g 0 n d os) := by
  refine ⟨rfl, rfl, rfl, by unfold sortWorld; simp, fun k hk hne => ?_⟩
  unfold sortWorld
  rw [heap_grow_old _ _ (by simpa using hk)]
  have : g ≠ k := fun e => hne (by simp [e])
  simp [putRow, mapBlock, Sort.ahead, Array.getElem?_modify, this]
theorem take_put1 (cur : Array Value) (d : Array α) (h : d.size ≤ cur.size) : (putCells enc 0 d cur).toList.take d.size = d.toList.map enc := by
  apply List.ext_getElem?
  intro j
  by_cases hj : j < d.size
  · rw [List.getElem?_take_of_lt hj, Array.getElem?_toList]
    simp [putCells, hj, show j < cur.size by omega]
  · rw [List.getElem?_take_eq_none (by omega), List.getElem?_eq_none (by simp; omega)]
theorem owns_sort1 {w : World} {base g cap n : Nat} {e : TypeId} {m : Nat} {os : Array Obj} {cur : Array Value} {d : Array α} (hl : d.size = n) (hbase : base ≤ g) (hb : w.heap[g]? = some (.cells cur e (0, 0)))
    (h1 : n ≤ cap) (h2 : cap ≤ maxLen) (h3 : cur.size = cap * 1) :
    (sortWorld enc w g 0 m d os).ownsRow base e 1 (.slice (some ⟨g, 0, none⟩) n cap) n (d.toList.map enc) :=
  ⟨by simp [hl], .inr ⟨g, cap, _, rfl, hbase, heap_sort1 _ hb, h1, h2, by simp [putCells, h3], by rw [Nat.mul_one, ← hl]; exact take_put1 cur d (by omega)⟩⟩
end

/-- A place. -/
def pv (k : Nat) : Value := .int .i64 (k : Int)
/-- Of two places that ahead whose snapshot is; of the same ones the first. -/
def ahead (xs : List Sq) (i j : Nat) : Bool := match xs[i]?, xs[j]? with
  | some x, some y => decide (cmpQ x y < 0) || (decide (x = y) && decide (i < j))
  | _, _ => false
/-- The places of a list as they stand when it is sorted. -/
structure Ordered (xs : List Sq) (ps : List Nat) : Prop where
  perm : ps.Perm (List.range xs.length)
  up : ps.Pairwise (fun i j => ahead xs i j = true)

section
variable {m : Nat} (xs : List Sq) (hm : xs.length = m + 1)
def atP (i : Fin (m + 1)) : Sq := xs[i.val]'(by omega)
theorem atP_some (i : Fin (m + 1)) : xs[i.val]? = some (atP xs hm i) := List.getElem?_eq_getElem _
def ltP (i j : Fin (m + 1)) : Bool := decide (cmpQ (atP xs hm i) (atP xs hm j) < 0) || (decide (atP xs hm i = atP xs hm j) && decide (i.val < j.val))
def cfP (i j : Fin (m + 1)) : Int := tri (cmpQ (atP xs hm i) (atP xs hm j))
def encP (i : Fin (m + 1)) : Value := pv i.val
theorem oneP : OneCell (encP (m := m)) := fun _ => rfl
theorem fineP : Fine (ltP xs hm) (cfP xs hm) Fin.val := fun x y h => by
  unfold ltP cfP
  have : ¬ y.val < x.val := by omega
  simp [this, tri_neg]
theorem cmp_zero {x y : Sq} : cmpQ x y = 0 ↔ x = y := ⟨fun h => Subtype.ext ((spC.zero _ _).1 h), fun h => by subst h; exact (spC.zero _ _).2 rfl⟩
theorem cmp_tri (x y : Sq) : (cmpQ x y < 0 ∧ ¬ cmpQ y x < 0 ∧ x ≠ y) ∨ (¬ cmpQ x y < 0 ∧ cmpQ y x < 0 ∧ x ≠ y) ∨ (¬ cmpQ x y < 0 ∧ ¬ cmpQ y x < 0 ∧ x = y) := by
  have h1 : cmpQ x y < 0 ↔ 0 < cmpQ y x := spC.neg x.1 y.1
  have h2 : cmpQ y x < 0 ↔ 0 < cmpQ x y := spC.neg y.1 x.1
  have h3 := cmp_zero (x := x) (y := y)
  by_cases e : x = y
  · have := h3.2 e; right; right; exact ⟨by omega, by omega, e⟩
  · have : cmpQ x y ≠ 0 := fun h => e (h3.1 h)
    by_cases h : cmpQ x y < 0
    · left; exact ⟨h, by omega, e⟩
    · right; left; exact ⟨h, by omega, e⟩
theorem cmp_trans {x y z : Sq} (h1 : cmpQ x y < 0) (h2 : cmpQ y z < 0) : cmpQ x z < 0 := spC.trans _ _ _ h1 h2
theorem ltP_iff (i j : Fin (m + 1)) : ltP xs hm i j = true ↔ cmpQ (atP xs hm i) (atP xs hm j) < 0 ∨ (atP xs hm i = atP xs hm j ∧ i.val < j.val) := by
  unfold ltP; simp
theorem sub_eq {x y : Sq} (h : x.1 = y.1) : x = y := Subtype.ext h
theorem sWO_P : SWO (ltP xs hm) where
  irrefl i := by
    rw [← Bool.not_eq_true, ltP_iff]
    have := cmp_zero.2 (rfl : atP xs hm i = atP xs hm i)
    omega
  trans i j k := by
    rw [ltP_iff, ltP_iff, ltP_iff]
    rintro (h1 | ⟨h1, h1'⟩) (h2 | ⟨h2, h2'⟩)
    · exact Or.inl (cmp_trans h1 h2)
    · rw [← h2]; exact Or.inl h1
    · rw [h1]; exact Or.inl h2
    · exact Or.inr ⟨h1.trans h2, by omega⟩
  ntrans i j k := by
    rw [← Bool.not_eq_true, ← Bool.not_eq_true, ← Bool.not_eq_true, ltP_iff, ltP_iff, ltP_iff]
    intro h1 h2 h3
    have n1 : ¬ cmpQ (atP xs hm i) (atP xs hm j) < 0 := fun h => h1 (Or.inl h)
    have n2 : ¬ cmpQ (atP xs hm j) (atP xs hm k) < 0 := fun h => h2 (Or.inl h)
    rcases cmp_tri (atP xs hm i) (atP xs hm j) with ⟨c, _, _⟩ | ⟨_, c, _⟩ | ⟨_, _, c⟩
    · exact n1 c
    · rcases cmp_tri (atP xs hm j) (atP xs hm k) with ⟨d, _, _⟩ | ⟨_, d, _⟩ | ⟨_, _, d⟩
      · exact n2 d
      · rcases h3 with h3 | ⟨h3, _⟩
        · have e1 := cmp_trans d c
          have e2 := cmp_tri (atP xs hm i) (atP xs hm k)
          omega
        · have e1 := cmp_trans d c
          rw [h3] at e1
          have := cmp_zero.2 (rfl : atP xs hm k = atP xs hm k)
          omega
      · rw [← d] at h3
        rcases h3 with h3 | ⟨h3, _⟩
        · exact n1 h3
        · rw [h3] at c
          have := cmp_zero.2 (rfl : atP xs hm j = atP xs hm j)
          omega
    · rw [c] at h3
      rcases h3 with h3 | ⟨h3, h3'⟩
      · exact n2 h3
      · have a1 : ¬ i.val < j.val := fun h => h1 (Or.inr ⟨c, h⟩)
        have a2 : ¬ j.val < k.val := fun h => h2 (Or.inr ⟨h3, h⟩)
        omega
end
end Go.Proofs.Ytkabfdclecbnpaa


/- retain.order: the walk. -/
namespace Go.Proofs.Ytkabfdclecbnpaa
open Go.RowKit Go.Lib Go.Sort Go.Shelf

theorem info_sp {o : Option TypeInfo} {z : Value} {s b : Nat} (h : o.map (fun i => (i.zero, i.size, i.bytes)) = some (some z, s, b)) : ∃ i, o = some i ∧ i.zero = some z ∧ i.size = s ∧ i.bytes = b := by
  obtain ⟨i, hi, h2⟩ := Option.map_eq_some_iff.1 h
  simp at h2
  exact ⟨i, hi, h2.1, h2.2.1, h2.2.2⟩
theorem info_int_r : (Try.prog.info? 3).map (fun i => (i.zero, i.size, i.bytes)) = some (some (.int .i64 0), 1, 8) := by kernel_rfl
theorem build_int (x : Int) (W : World) : (Instr.buildSlice 32 1 #[(0, .int .i64 x)]).run Try.prog W = .ok (.slice (some ⟨W.heap.size, 0, none⟩) 1 1) (W.alloc (.cells #[.int .i64 x] 3)) := by kernel_rfl
theorem cell_src {v : World} {g : Nat} {cs : List Value} {t : TypeId} (h : v.heap[g]? = some (.cells cs.toArray t (0, 0))) : Src v (.slice (some ⟨g, 0, none⟩) 1 1) 1 cs := Or.inr ⟨_, _, rfl, fun j u hj => by
  have e : (⟨g, 0, none⟩ : Addr).add j = ⟨g, j, none⟩ := by unfold Addr.add; split <;> simp_all
  rw [e, cell_of_row v _ j _ _ _ h]; simpa using hj⟩
theorem order_enters : ∀ args w, (callFunc 38 args).run Try.prog w = .ok (.enter 38 args) w := enters_of Try.func38 (by kernel_rfl) rfl

set_option maxRecDepth 100000 in
theorem ins_nil1 (g : Nat) (cb : Array Value) (w : World) :
    Calls Try.prog 68 #[.slice none 0 0, .int .i64 0, .int .i64 0, .func (.func g) #[] cb] w fun e w' => e = .returned (.tuple #[]) ∧ w = w' := by
  go_enter Try.func68, Try.ntmps68
  go_wp2_with fail
  go_loopw [8] (fun a wr => a = .int .i64 1 ∧ wr = w) (fun _ _ => 0)
  case atStart => exact ⟨rfl, rfl⟩
  case round =>
    obtain ⟨rfl, rfl⟩ := hrel
    go_wp2
    go_end0
    exact ⟨rfl, rfl⟩
set_option maxRecDepth 100000 in
theorem stable_nil1 (g : Nat) (cb : Array Value) (w : World) :
    Calls Try.prog 51 #[.slice none 0 0, .int .i64 0, .func (.func g) #[] cb] w fun e w' => e = .returned (.tuple #[]) ∧ w = w' := by
  go_enter Try.func51, Try.ntmps51
  go_wp2_with fail
  go_loopw [7, 8] (fun a b wr => a = .int .i64 0 ∧ b = .int .i64 20 ∧ wr = w) (fun _ _ _ => 0)
  case atStart => exact ⟨rfl, rfl, rfl⟩
  case round =>
    obtain ⟨rfl, rfl, rfl⟩ := hrel
    go_wp2_with fail
    refine (ins_nil1 _ _ _).mono ?_
    rintro e w1 ⟨rfl, rfl⟩
    go_wp2_with fail
    go_loopw [6] (fun a wr2 => a = .int .i64 20 ∧ wr2 = wr) (fun _ _ => 0)
    case atStart => exact ⟨rfl, rfl⟩
    case round =>
      obtain ⟨rfl, rfl⟩ := hrel
      go_wp2
      go_end0
      exact ⟨rfl, rfl⟩
theorem sort_nil1 (g : Nat) (cb : Array Value) (w : World) :
    Calls Try.prog 37 #[.slice none 0 0, .func (.func g) #[] cb] w fun e w' => e = .returned (.tuple #[]) ∧ w = w' := by
  go_enter Try.func37, Try.ntmps37
  go_wp2_with fail
  refine (stable_nil1 _ _ _).mono ?_
  rintro e w1 ⟨rfl, rfl⟩
  go_wp2
  go_end0
  exact ⟨rfl, rfl⟩

theorem ext_all {β : Type} (d : Array β) (n : Nat) (h : d.size = n) : d.extract 0 n = d := by subst h; simp
/-- The library's sort over the places. -/
theorem places_sort (xs : List Sq) (m : Nat) (hm : xs.length = m + 1) (hsm : xs.length ≤ 1000000) (a : Addr) (c Bx g cap base : Nat) (w : World) (hb : w.cell? ⟨Bx, 0, none⟩ = some (.slice (some a) xs.length c)) (hs : Snaps w (some a) c xs) (hBg : Bx ≠ g) (hag : a.block ≠ g) (hgb : base ≤ g)
    (ho : w.ownsRow base 3 1 (.slice (some ⟨g, 0, none⟩) xs.length cap) xs.length ((List.range xs.length).map pv)) :
    Calls Try.prog 37 #[.slice (some ⟨g, 0, none⟩) xs.length cap, .func (.func 38) #[] #[.pointer (some ⟨Bx, 0, none⟩)]] w fun e w' =>
      e = .returned (.tuple #[]) ∧ Kept [g] w w' ∧ ∃ ps, Ordered xs ps ∧ w'.ownsRow base 3 1 (.slice (some ⟨g, 0, none⟩) xs.length cap) xs.length (ps.map pv) := by
  rcases ho.2 with ⟨h2, _⟩ | ⟨g', cap', cur, h2, hbg, hh, hc, hmx, hcs, htk⟩
  · exact absurd h2 (by simp)
  simp at h2
  obtain ⟨rfl, rfl⟩ := h2
  obtain ⟨d, hd⟩ : ∃ d : Array (Fin (m + 1)), d = Array.ofFn (n := m + 1) id := ⟨_, rfl⟩
  have hdz : d.size = m + 1 := by rw [hd]; simp
  have key : ∀ j (h : j < d.size), (d[j]'h).val = j := by subst hd; intro j h; simp
  clear hd
  have hdl : d.toList.map encP = (List.range (m + 1)).map pv := List.ext_getElem (by simp [hdz]) (fun j h1 h2 => by simp [encP, key])
  have hdl2 : d.toList.map Fin.val = List.range (m + 1) := List.ext_getElem (by simp [hdz]) (fun j h1 h2 => by simp [key])
  have hdn : d.toList.Nodup := by
    rw [List.nodup_iff_pairwise_ne, List.pairwise_iff_getElem]
    intro i j hi hj hij e
    have := congrArg Fin.val e
    simp [key] at this
    omega
  have hdp : ∀ x, x < m + 1 → (d[x]!).val = x := fun x hx => by
    rw [getElem!_pos d x (by omega)]
    exact key x (by omega)
  rw [hm] at htk hc ⊢
  have hH : Holds encP w g 0 d := holds_row hdz hh (by rw [hdl, Nat.mul_one] at *; exact htk)
  refine (sortstable1 (ltP xs hm) (cfP xs hm) Fin.val (fineP xs hm) (sWO_P xs hm) 38 #[.pointer (some ⟨Bx, 0, none⟩)] order_enters g 0 cap (m + 1) d w ?_ oneP hdp hH (lt_of_block hh) hdz (by omega)).mono ?_
  · intro mm os dk hdk x y
    have hk := kept_sort1 (enc := encP) w g mm os dk
    refine (cmp_places a c Bx xs x.val y.val (atP xs hm x) (atP xs hm y) _ ?_ (hs.kept' hk (fun z hz => by simp at hz; subst hz; simpa using hag)) (atP_some xs hm x) (atP_some xs hm y)).mono ?_
    · exact (hk.cell (World.block_lt_of_cell? w _ hb) (by simpa using hBg)).trans hb
    · rintro e w' ⟨he, q, os', hw⟩
      exact ⟨he, q, os', hw⟩
  · rintro e w' ⟨rfl, q, os, d', hp, hso, rfl⟩
    have hsz' : d'.size = m + 1 := by rw [hp.1, hdz]
    refine ⟨rfl, kept_sort1 _ _ _ _ _, d'.toList.map Fin.val, ⟨?_, ?_⟩, ?_⟩
    · have h3 := hp.2.2
      rw [ext_all d' _ hsz', ext_all d _ hdz] at h3
      have h4 := h3.map Fin.val
      rw [hdl2] at h4
      rw [hm]; exact h4
    · rw [List.pairwise_map, List.pairwise_iff_getElem]
      intro i j hi hj hij
      have hi' : i < d'.size := by simpa using hi
      have hj' : j < d'.size := by simpa using hj
      have h := hso i j (Nat.zero_le _) hij (by omega)
      rw [getElem!_pos d' i hi', getElem!_pos d' j hj'] at h
      simp only [Array.getElem_toList]
      have hne : d'[i].val ≠ d'[j].val := by
        have hnd : d'.toList.Nodup := by
          have h3 := hp.2.2
          rw [ext_all d' _ hsz', ext_all d _ hdz] at h3
          exact h3.nodup_iff.2 hdn
        intro e
        have := (List.nodup_iff_pairwise_ne.1 hnd)
        rw [List.pairwise_iff_getElem] at this
        exact this i j hi hj hij (by simp only [Array.getElem_toList]; exact Fin.ext e)
      unfold ahead
      rw [atP_some xs hm, atP_some xs hm]
      simp only [Bool.or_eq_true, decide_eq_true_eq, Bool.and_eq_true]
      rw [← Bool.not_eq_true, ltP_iff] at h
      rcases cmp_tri (atP xs hm d'[i]) (atP xs hm d'[j]) with ⟨c, _⟩ | ⟨_, c, _⟩ | ⟨_, _, c⟩
      · exact Or.inl c
      · exact absurd (Or.inl c) h
      · refine Or.inr ⟨c, ?_⟩
        have : ¬ d'[j].val < d'[i].val := fun hlt => h (Or.inr ⟨c.symm, hlt⟩)
        omega
    · have := owns_sort1 (enc := encP) (m := q) (os := os) hsz' hgb hh hc hmx hcs
      have e6 : d'.toList.map encP = (d'.toList.map Fin.val).map pv := by rw [List.map_map]; rfl
      rwa [e6] at this
end Go.Proofs.Ytkabfdclecbnpaa


/- retain.order, whole. -/
namespace Go.Proofs.Ytkabfdclecbnpaa
open Go.RowKit Go.Lib Go.Sort Go.Shelf

theorem ordered_nil : Ordered [] [] := ⟨by simp, List.Pairwise.nil⟩
theorem row_none {w : World} {base : Nat} {e : TypeId} : w.ownsRow base e 1 (.slice none 0 0) 0 [] := ⟨rfl, Or.inl ⟨rfl, rfl⟩⟩
set_option maxRecDepth 100000 in
set_option maxHeartbeats 4000000 in
theorem order_any (a : Option Addr) (c : Nat) (xs : List Sq) (w : World) (h : Snaps w a c xs) (hl : xs.length ≤ 1000) :
    Calls Try.prog 17 #[.slice a xs.length c] w fun e w' => ∃ v ps, e = .returned v ∧ Kept [] w w' ∧ Ordered xs ps ∧ w'.ownsRow w.heap.size 3 1 v xs.length (ps.map pv) ∧ (v = .slice none 0 0 ↔ xs = []) := by
  obtain ⟨i0, hi0, hz0, hz1, hz2⟩ := info_sp info_int_r
  have hmf : ∀ (fn : Fn) (first cap : Array Value) (w : World), (Instr.makeFunc fn first cap).run Try.prog w = .ok (.func fn first cap) w := fun _ _ _ _ => rfl
  have H := hid h
  obtain ⟨n, hn⟩ : ∃ n, n = xs.length := ⟨_, rfl⟩
  have HN := hid hn
  rw [← hn] at hl ⊢
  obtain ⟨W, hW⟩ : ∃ W, W = w.alloc (.cells #[.slice a n c] 22) := ⟨_, rfl⟩
  have KW := hid (show Kept [] w W from hW ▸ (Kept.refl [] w).alloc _)
  have qb : W.heap[w.heap.size]? = some (.cells #[.slice a n c] 22 (0, 0)) := by rw [hW]; exact heap_alloc_at rfl
  have QB := hid qb
  have HW := hid hW
  have hzW := hid (show W.heap.size = w.heap.size + 1 by rw [hW]; simp)
  have CB := hid (fun V (hk : Kept [] W V) => (show V.cell? ⟨w.heap.size, 0, none⟩ = some (.slice a n c) from by
    have := hk.at QB.out (by simp)
    rw [cell_of_row V w.heap.size 0 _ _ _ this]; rfl))
  have hst := hid (show W.ownsRow w.heap.size 3 1 (.slice none 0 0) 0 [] from row_none)
  clear h hW qb hn
  go_enter Try.func17, Try.ntmps17
  go_wp2_with fail
  rw [← HW.out]
  go_loopw [3, 7] (fun v s wr => ∃ i : Nat, i ≤ n ∧ s = .int .i64 i ∧ Hid (v = .slice none 0 0 ↔ i = 0) ∧ Hid (∀ g, v.ownBlock = some g → W.heap.size ≤ g) ∧ Hid (Kept [] W wr) ∧ Hid (wr.ownsRow w.heap.size 3 1 v i ((List.range i).map pv))) (fun _ s _ => n - (intOf s).toNat)
  case atStart => exact ⟨0, Nat.zero_le _, rfl, hid (by simp), hid (by simp [Value.ownBlock]), hid (Kept.refl _ _), hst⟩
  case round =>
    clear hst
    obtain ⟨i, hi, rfl, Hnil, Hg, HK, Ho⟩ := hrel
    by_cases hlt : i < n
    · have hltz : (i : Int) < (n : Int) := by omega
      have hbi := fun V => build_int (i : Int) V
      go_wp2_with (at_builtin; refine halt ?_)
      refine Halt.mk ?_
      have hown2 := hid ((Kept.refl [] wr |>.alloc (.cells #[.int .i64 (i : Int)] 3)).owns Ho.out (by simp))
      have hsz := HK.out.size
      refine wpList_append_src _ rfl _ _ _ rfl w.heap.size 3 i0 _ 8 Try.underlying32 hi0 hz0 hz1 hz2 rfl u3 i ((List.range i).map pv) rfl hown2.out (.slice (some ⟨wr.heap.size, 0, none⟩) 1 1) 1 [pv i] rfl (cell_src (heap_alloc_at rfl)) rfl (by simp [pv, Value.oneCell']) (by unfold maxLen; omega) (by omega) (by have := hzW.out; simp; omega) ?_
      intro v' w' ho' hgr hn' hg'
      have K' := hid (show Kept [] W w' from (HK.out.trans ((Kept.refl [] wr).alloc _)).trans' (Kept.of_row hgr) (fun y hy hm => by
        rw [Option.mem_toList] at hm
        have := Hg.out y hm; omega))
      have N' := hid (show v' = .slice none 0 0 ↔ i + 1 = 0 by rw [hn']; simp)
      have G' := hid (show ∀ g, v'.ownBlock = some g → W.heap.size ≤ g from fun g hgg => by
        rcases hg' g hgg with h1 | h1
        · exact Hg.out g h1
        · simp at h1; omega)
      have O' := hid (show w'.ownsRow w.heap.size 3 1 v' (i + 1) ((List.range (i + 1)).map pv) from by rw [List.range_succ, List.map_append]; exact ho')
      have HLT := hid hlt
      clear ho' hgr hn' hg' hown2 hbi hltz hlt hsz
      go_wp2
      go_roundw
      case rel => exact ⟨i + 1, HLT.out, by go_num, N', G', K', O'⟩
      case measure => have := HLT.out; simp [intOf]; omega
    · have hltz : ¬ (i : Int) < (n : Int) := by omega
      have e : i = n := by omega
      subst e
      have bx := CB.out _ HK.out
      cases xs with
      | nil =>
        have hn0 : i = 0 := HN.out
        subst hn0
        have hv : u3 = .slice none 0 0 := Hnil.out.2 rfl
        subst hv
        go_wp2_with fail
        refine (sort_nil1 _ _ _).mono ?_
        rintro e w1 ⟨rfl, rfl⟩
        go_wp2
        go_ret
        exact ⟨_, rfl, KW.out.trans HK.out, [], ordered_nil, row_none, by simp⟩
      | cons x0 xt =>
        have hm : (x0 :: xt).length = xt.length + 1 := by simp
        have hne : i ≠ 0 := by have := HN.out; rw [hm] at this; omega
        have hvn : u3 ≠ .slice none 0 0 := fun e => hne (Hnil.out.1 e)
        cases a with
        | none => exact absurd (H.out.nil rfl).1 (by simp)
        | some z =>
          rcases Ho.out.2 with ⟨h2, _⟩ | ⟨g, cap, cur, h2, hbg, hh, hc, hmx, hcs, htk⟩
          · exact absurd h2 hvn
          subst h2
          have hgW := Hg.out g rfl
          have hown := Ho.out
          rw [HN.out] at hown bx
          have hsort := hid (places_sort (x0 :: xt) xt.length hm (by rw [← HN.out]; omega) z c w.heap.size g cap w.heap.size wr bx (H.out.kept' (KW.out.trans HK.out) (by simp)) (by have := hzW.out; omega) (by have := snaps_low H.out (by simp); have := hzW.out; omega) hbg hown)
          rw [← HN.out] at hsort
          have HGW := hid hgW
          clear hbg hh hc hmx hcs htk hgW hown bx hvn hne
          go_wp2_with fail
          refine hsort.out.mono ?_
          rintro e w1 ⟨rfl, k1, ps, hps, hown⟩
          have K1 := hid k1; have HP := hid hps; have HO := hid hown
          clear k1 hps hown hsort
          go_wp2
          go_ret
          exact ⟨_, ps, rfl, KW.out.trans' (HK.out.trans' K1.out (fun y hy hm => by simp at hm; have := HGW.out; omega)) (fun y hy hm => by simp at hm), HP.out, HO.out, by simp⟩
end Go.Proofs.Ytkabfdclecbnpaa
