import Derived.Test.YtkabfdclecbnpaaLF
import Derived.Laws.MakeOwn

/- retain: tags, the last days, what Keep says. -/
namespace Go.Proofs.Ytkabfdclecbnpaa
open Go.RowKit Go.Lib Go.Sort Go.Shelf

/-- A policy. -/
structure Pol where
  last : Int
  days : Int
  day : Int
  within : Int
  tag : List UInt8
structure Pol.ok (p : Pol) : Prop where
  last : I64 p.last
  days : I64 p.days
  day : I64 p.day
  within : I64 p.within
def Pol.cells (p : Pol) : List Value := [.int .i64 p.last, .int .i64 p.days, .int .i64 p.day, .int .i64 p.within, .string (S p.tag)]
def tagged (p : Pol) (s : Sq) : Bool := decide (p.tag ≠ []) && decide (s.1.tag = p.tag)

set_option maxRecDepth 100000 in
set_option maxHeartbeats 2000000 in
theorem tagged_of (s : Sq) (tag : List UInt8) (w : World) :
    Calls Try.prog 22 #[.agg (encQ s).toArray, .string (S tag)] w fun e w' => e = .returned (.bool (decide (tag ≠ []) && decide (s.1.tag = tag))) ∧ Kept [] w w' := by
  obtain ⟨cs, hcs⟩ : ∃ cs, cs = encQ s := ⟨_, rfl⟩
  have h2 : cs[2]? = some (.string (S s.1.tag)) := by rw [hcs]; exact Sp.c2 s.1
  rw [← hcs]
  obtain ⟨W, hW⟩ : ∃ W, W = w.alloc (.cells cs.toArray 42) := ⟨_, rfl⟩
  have hg : W.heap[w.heap.size]? = some (.cells cs.toArray 42 (0, 0)) := by rw [hW]; exact heap_alloc_at rfl
  have c2 : W.cell? ⟨w.heap.size, 2, none⟩ = some (.string (S s.1.tag)) := by rw [cell_of_row W _ 2 _ _ _ hg]; simpa using h2
  have K := hid (show Kept [] w W by rw [hW]; exact (Kept.refl [] w).alloc _)
  rw [hW] at c2
  obtain ⟨st, hst⟩ : ∃ st, st = s.1.tag := ⟨_, rfl⟩
  rw [← hst] at c2 ⊢
  have HW := hid hW
  clear hcs h2 hg hW hst
  by_cases h : tag = []
  · have hb : (S tag).toList = [] := by rw [S_toList]; exact h
    have H := hid h
    clear h
    go_enter Try.func22, Try.ntmps22
    go_wp2
    go_ret
    exact ⟨by simp [H.out], HW.out ▸ K.out⟩
  · have hb : ¬ (S tag).toList = [] := by rw [S_toList]; exact h
    have H := hid h
    by_cases h3 : st = tag
    · have hq : ((S st).toList == (S tag).toList) = true := by rw [S_beq]; exact decide_eq_true h3
      have H3 := hid h3
      clear h h3
      go_enter Try.func22, Try.ntmps22
      go_wp2
      go_ret
      exact ⟨by simp [H.out, H3.out, hb], HW.out ▸ K.out⟩
    · have hq : ((S st).toList == (S tag).toList) = false := by rw [S_beq]; exact decide_eq_false h3
      have H3 := hid h3
      clear h h3
      go_enter Try.func22, Try.ntmps22
      go_wp2
      go_ret
      exact ⟨by simp [H.out, H3.out, hb], HW.out ▸ K.out⟩

/-- How many of the days are kept. -/
def kd (p : Pol) (n : Nat) : Nat := min p.days.toNat n
def LastAns (base : Nat) (xs : List Sq) (p : Pol) (w : World) (e : Ending) (w' : World) : Prop :=
  ∃ a c ds, e = .returned (.slice a (kd p ds.length) c) ∧ Kept [] w w' ∧ ds.length ≤ xs.length ∧ (if p.day < 1 then ds = [] else DaysOf xs p.day ds) ∧
    kd p ds.length ≤ c ∧ c ≤ 9223372036854775807 ∧ (a = none → ds = [] ∧ c = 0) ∧ ∀ x, a = some x → base ≤ x.block ∧ x.block < w'.heap.size ∧ x.spot = none ∧ x.off = 0 ∧ ∀ (j : Nat) k, ds[j]? = some k → w'.cell? (x.add j) = some (iv k)
set_option maxRecDepth 100000 in
set_option maxHeartbeats 4000000 in
theorem last_any (a : Option Addr) (c : Nat) (xs : List Sq) (p : Pol) (hp : p.ok) (w : World) (h : Snaps w a c xs) (hl : xs.length ≤ 1000) :
    Calls Try.prog 18 #[.slice a xs.length c, .agg p.cells.toArray] w (LastAns w.heap.size xs p w) := by
  obtain ⟨W, hW⟩ : ∃ W, W = w.alloc (.cells p.cells.toArray 24) := ⟨_, rfl⟩
  have K := hid (show Kept [] w W by rw [hW]; exact (Kept.refl [] w).alloc _)
  have hg := hid (show W.heap[w.heap.size]? = some (.cells p.cells.toArray 24 (0, 0)) by rw [hW]; exact heap_alloc_at rfl)
  have hd := hid (days_any a c xs p.day W (h.kept' K.out (by simp)) hl hp.day)
  have HW := hid hW
  obtain ⟨n, hn⟩ : ∃ n, n = xs.length := ⟨_, rfl⟩
  have HN := hid hn
  rw [← hn] at hd hl ⊢
  obtain ⟨cp, hcp⟩ : ∃ cp, cp = p.cells := ⟨_, rfl⟩
  have h1 : cp[1]? = some (.int .i64 p.days) := by rw [hcp]; rfl
  have h2 : cp[2]? = some (.int .i64 p.day) := by rw [hcp]; rfl
  rw [← hcp] at hW HW hg ⊢
  have c2 : W.cell? ⟨w.heap.size, 2, none⟩ = some (.int .i64 p.day) := by rw [cell_of_row W _ 2 _ _ _ hg.out]; simpa using h2
  have C1 := hid (show ∀ V, Kept [] W V → V.cell? ⟨w.heap.size, 1, none⟩ = some (.int .i64 p.days) from fun V hk => by rw [cell_of_row V _ 1 _ _ _ (hk.at hg.out (by simp))]; simpa using h1)
  rw [hW] at c2
  have hpd := hp.days
  clear hW hcp h1 h2 h hn hp
  go_enter Try.func18, Try.ntmps18
  go_wp2_with fail
  rw [← HW.out]
  refine hd.out.mono ?_
  rintro e w1 ⟨v, ds, rfl, k1, hdl, hown, hds⟩
  obtain ⟨la, lc, rfl⟩ : ∃ la lc, v = .slice la ds.length lc := by
    rcases hown.2 with ⟨h1, h2⟩ | ⟨g, cap, cur, h1, _⟩
    · exact ⟨none, 0, by rw [h1, h2]⟩
    · exact ⟨_, _, h1⟩
  have K1 := hid k1; have HDL := hid hdl; have HO := hid hown; have HDS := hid hds
  have c1 := C1.out w1 k1
  obtain ⟨m, hm⟩ : ∃ m, m = ds.length := ⟨_, rfl⟩
  have HM := hid hm
  rw [← hm]
  have hlc : m ≤ lc := by
    rcases hown.2 with ⟨h1, h2⟩ | ⟨g, cap, cur, h1, _, _, h3, _⟩
    · omega
    · simp at h1; omega
  obtain ⟨k, hk⟩ : ∃ k, k = kd p m := ⟨_, rfl⟩
  have hkm : k ≤ m := by rw [hk]; exact Nat.min_le_right _ _
  have hkz : min (max p.days 0) (m : Int) = (k : Int) := by rw [hk]; unfold kd; omega
  have HK := hid hk
  clear k1 hdl hown hds hm hd hk hpd
  go_wp2
  go_ret
  refine ⟨la, lc, ds, by rw [← HM.out, ← HK.out]; rfl, K.out.trans K1.out, HDL.out, HDS.out, by rw [← HM.out, ← HK.out]; omega, ?_⟩
  rcases HO.out.2 with ⟨h1, h2⟩ | ⟨g, cap, cur, h1, h2, h3, h4, h5, h6, h7⟩
  · simp at h1
    obtain ⟨rfl, h1, rfl⟩ := h1
    exact ⟨by omega, fun _ => ⟨List.eq_nil_of_length_eq_zero h2, rfl⟩, fun x hx => by simp at hx⟩
  · simp at h1
    obtain ⟨rfl, rfl⟩ := h1
    refine ⟨by unfold maxLen at h5; omega, fun h => by simp at h, fun x hx => ?_⟩
    simp at hx; subst hx
    refine ⟨Nat.le_trans K.out.size h2, lt_of_block h3, rfl, rfl, fun j q hj => ?_⟩
    exact HO.out.cells (g := g) rfl j (iv q) (by rw [List.getElem?_map, hj]; rfl)
end Go.Proofs.Ytkabfdclecbnpaa


/- retain.Keep: what it says of each place; the beginning of its walk. -/
namespace Go.Proofs.Ytkabfdclecbnpaa
open Go.RowKit Go.Lib Go.Sort Go.Shelf
attribute [local go_sem] Oper.semAt_some

/-- The snapshots of a row of places. -/
def snapsAt (xs : List Sq) (ps : List Nat) : List Sq := ps.filterMap (xs[·]?)
/-- Is one the last of the first of the days that are left? -/
def daily (day : Int) (ds : List Int) (s : Sq) : Bool := match ds with
  | [] => false
  | d :: _ => decide (s.1.time / day = d)
/-- The days that are left behind some snapshots. -/
def runD (day : Int) : List Int → List Sq → List Int
  | ds, [] => ds
  | ds, s :: r => runD day (if daily day ds s then ds.tail else ds) r
theorem runD_snoc (day : Int) : ∀ (ds : List Int) (r : List Sq) (s : Sq), runD day ds (r ++ [s]) = (if daily day (runD day ds r) s then (runD day ds r).tail else runD day ds r)
  | ds, [], s => rfl
  | ds, x :: r, s => runD_snoc day _ r s
theorem runD_drop (day : Int) : ∀ (ds : List Int) (r : List Sq), ∃ k, k ≤ ds.length ∧ runD day ds r = ds.drop k
  | ds, [] => ⟨0, Nat.zero_le _, rfl⟩
  | ds, s :: r => by
    obtain ⟨k, hk, e⟩ := runD_drop day (if daily day ds s then ds.tail else ds) r
    unfold runD
    rw [e]
    split at hk
    · rename_i h
      rw [if_pos h] at e ⊢
      cases ds with
      | nil => exact ⟨0, Nat.zero_le _, by simp⟩
      | cons d t => exact ⟨k + 1, by simp at hk ⊢; omega, by simp⟩
    · rename_i h
      rw [if_neg h]
      exact ⟨k, hk, rfl⟩
def near (p : Pol) (newest : Int) (s : Sq) : Bool := decide (0 < p.within ∧ newest - s.1.time < p.within)
/-- Is the k-th from the end kept? -/
def valK (p : Pol) (newest : Int) (ds : List Int) (ss : List Sq) (k : Nat) : Bool := match ss[k]? with
  | none => false
  | some s => decide (((k + 1 : Nat) : Int) ≤ p.last) || daily p.day (runD p.day ds (ss.take k)) s || near p newest s || tagged p s
/-- A truth. -/
def bv (b : Bool) : Value := .bool b
/-- What Keep says: of the places as they stand from the last one. -/
structure Kpt (xs : List Sq) (p : Pol) (ps : List Nat) (ds : List Int) (ks : List Bool) : Prop where
  ord : Ordered xs ps
  days : if p.day < 1 then ds = [] else DaysOf xs p.day ds
  len : ks.length = xs.length
  at_ : ∀ (k q : Nat) (s : Sq), ps.reverse[k]? = some q → xs[q]? = some s → ks[q]? = some (valK p (((snapsAt xs ps.reverse).head?.map (·.1.time)).getD 0) (ds.take (kd p ds.length)) (snapsAt xs ps.reverse) k)

section
variable {F : Fence} {n : Nat} {P : Program}
theorem wpListIn_load_k {ops : Array Oper} {rest : List Oper} {o : Oper} {a : Act} {w : World} {Q : Exit → Act → World → Prop} (hgd : o.guard = none) (ty : TypeId) (x : Operand) (ho : o.op = .load ty x)
    (ad : Addr) (hx : a.eval x = .pointer (some ad)) (cs : List Value) (d : TypeDesc) (hu : P.underlying ty = some d) (hd : (match d with | .struct _ | .array _ _ => true | _ => false) = true)
    (hi : (P.info? ty).map (·.size) = some cs.length) (hc : ∀ (j : Nat) v, cs[j]? = some v → w.cell? (ad.add j) = some v)
    (h : wpListIn F n P ops Q rest (a.put o.dst (.agg cs.toArray)) w) : wpListIn F n P ops Q (o :: rest) a w := by
  refine wpListIn_plain hgd fun K hK => ?_
  unfold Oper.wpIn
  constructor
  · simp [Oper.about, ho, resolve, Target.leads, Sem.run_pure]
  · rw [Oper.semAt_plain F _ _ (by rw [ho]; intro c hc; cases hc)]
    unfold execOp
    simp only [ho, hx, Instr.loadAt, Instr.sureAddr, Sem.run_bind, Sem.run_pure, Result.andThen_ok, run_loadVar_cells w ty ad cs d hu hd hi hc]
    exact hK _ _ h
end
theorem info_pol : (Try.prog.info? 24).map (·.size) = some 5 := by kernel_rfl
theorem info_bool_r : (Try.prog.info? 4).map (fun i => (i.zero, i.size, i.bytes)) = some (some (.bool false), 1, 1) := by kernel_rfl
theorem make_bools (n : Nat) (W : World) (hn : n ≤ 1000000) : (Instr.makeSlice 26 (.int .i64 (n : Int)) (.int .i64 (n : Int))).run Try.prog W = .ok (.slice (some ⟨W.heap.size, 0, none⟩) n n) (W.alloc (.cells (madeCells #[.bool false] n) 4)) := by
  obtain ⟨i0, hi0, hz0, hz1, hz2⟩ := info_sp info_bool_r
  have hr := run_make (P := Try.prog) W 26 4 i0 (.bool false) Try.underlying26 hi0 hz0 .i64 .i64 n n (by omega) (by omega) (by rw [hz2]; omega) (by omega)
  simp only [Int.toNat_natCast, hz1, Nat.mul_one] at hr
  exact hr
theorem made_bools (n : Nat) : madeCells #[.bool false] n = ((List.replicate n false).map bv).toArray := by
  apply Array.ext
  · simp [madeCells]
  · intro j h1 h2
    simp [madeCells, Nat.mod_one, bv]
/-- Days in memory. -/
structure DR (W : World) (dg : Nat) (a : Option Addr) (m c : Nat) (ds : List Int) : Prop where
  len : m = ds.length
  le : m ≤ c
  max : c ≤ 9223372036854775807
  nil : a = none → ds = []
  blk : ∀ x, a = some x → x.block = dg
  at_ : ∀ x, a = some x → ∀ (j : Nat) k, ds[j]? = some k → W.cell? (x.add j) = some (iv k)
theorem DR.kept {S : List Nat} {W W' : World} {dg : Nat} {a : Option Addr} {m c : Nat} {ds : List Int} (h : DR W dg a m c ds) (hk : Kept S W W') (hS : dg ∉ S) : DR W' dg a m c ds :=
  ⟨h.len, h.le, h.max, h.nil, h.blk, fun x hx j k hj => by
    have hc := h.at_ x hx j k hj
    refine (hk.cell (World.block_lt_of_cell? W _ hc) ?_).trans hc
    rw [add_block, h.blk x hx]; exact hS⟩
theorem Plc.kept {S : List Nat} {W W' : World} {a : Option Addr} {c : Nat} {ps : List Nat} (h : Plc W a c ps) (hk : Kept S W W') (hS : ∀ x, a = some x → x.block ∉ S) : Plc W' a c ps :=
  ⟨h.le, h.max, h.nil, fun x hx j k hj => by
    have hc := h.at_ x hx j k hj
    refine (hk.cell (World.block_lt_of_cell? W _ hc) ?_).trans hc
    rw [add_block]; exact hS x hx, fun x hx => by have := h.lt x hx; have := hk.size; omega⟩
/-- What the rounds don't touch. -/
structure KC (w3 : World) (g2 b1 b2 b5 b6 b7 dg : Nat) (a : Option Addr) (c n : Nat) (xs : List Sq) (cp : List Value) (la : Option Addr) (lc : Nat) (ps : List Nat) : Prop where
  c1 : ∀ W, Kept [g2, b7] w3 W → W.cell? ⟨b1, 0, none⟩ = some (.slice a n c)
  c5 : ∀ W, Kept [g2, b7] w3 W → W.cell? ⟨b5, 0, none⟩ = some (.slice (some ⟨g2, 0, none⟩) n n)
  c6 : ∀ W, Kept [g2, b7] w3 W → W.cell? ⟨b6, 0, none⟩ = some (.slice la n lc)
  pol : ∀ W, Kept [g2, b7] w3 W → ∀ (j : Nat) u, cp[j]? = some u → W.cell? ⟨b2, j, none⟩ = some u
  sn : ∀ W, Kept [g2, b7] w3 W → Snaps W a c xs
  pl : ∀ W, Kept [g2, b7] w3 W → Plc W la lc ps
  lt : g2 < w3.heap.size ∧ b7 < w3.heap.size ∧ dg < w3.heap.size
  ne : g2 ≠ b7 ∧ dg ≠ g2 ∧ dg ≠ b7
/-- Behind k rounds. -/
structure KSt (w3 : World) (g2 b7 dg n : Nat) (val : Nat → Bool) (dsk : Nat → List Int) (qs : List Nat) (k : Nat) (W : World) : Prop where
  kept : Kept [g2, b7] w3 W
  row : ∃ ks : List Bool, W.heap[g2]? = some (.cells (ks.map bv).toArray 4 (0, 0)) ∧ ks.length = n ∧ ∀ j q, j < k → qs[j]? = some q → ks[q]? = some (val j)
  days : ∃ da m dc, W.heap[b7]? = some (.cells #[.slice da m dc] 33 (0, 0)) ∧ DR W dg da m dc (dsk k)
theorem KSt.keep {w3 : World} {g2 b7 dg n : Nat} {val : Nat → Bool} {dsk : Nat → List Int} {qs : List Nat} {k : Nat} {S : List Nat} {A B : World} (h : KSt w3 g2 b7 dg n val dsk qs k A) (hk : Kept S A B) (hS : ∀ x ∈ S, w3.heap.size ≤ x) (hl : g2 < w3.heap.size ∧ b7 < w3.heap.size ∧ dg < w3.heap.size) : KSt w3 g2 b7 dg n val dsk qs k B :=
  ⟨h.kept.trans' hk (fun x hx hm => by have := hS x hm; omega), by
    obtain ⟨ks, h1, h2⟩ := h.row
    exact ⟨ks, hk.at h1 (fun hm => by have := hS _ hm; omega), h2⟩, by
    obtain ⟨da, m, dc, h1, h2⟩ := h.days
    exact ⟨da, m, dc, hk.at h1 (fun hm => by have := hS _ hm; omega), h2.kept hk (fun hm => by have := hS _ hm; omega)⟩⟩
end Go.Proofs.Ytkabfdclecbnpaa
