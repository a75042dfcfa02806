import Derived.Test.YtmkdjonlfkfnlaaDoorMU
import Derived.Test.YtmkdjonlfkfnlaaDoorMR

/- The reference's cache: its row, thirty-three cells a blob; slices of it. -/
namespace Go.Proofs.YtmkdjonlfkfnlaaDoor
open Go.RowKit Go.Lib Go.Maps

/-- A blob of the reference's row: its sum, its slice, its bytes. -/
structure KE where
  id : List UInt8
  v : Value
  b : List UInt8
def kE (e : KE) : List Value := e32 e.id ++ [e.v]
def kC (es : List KE) : List Value := es.flatMap kE
def datE (es : List KE) : List (List UInt8 × List UInt8) := es.map fun e => (e.id, e.b)
theorem kE_len (e : KE) : (kE e).length = 33 := by unfold kE; rw [List.length_append, e32_len]; rfl
theorem kC_len (es : List KE) : (kC es).length = es.length * 33 := flat_len kE 33 kE_len es
theorem kC_split (es : List KE) (n : Nat) : kC es = kC (es.take n) ++ kC (es.drop n) := by unfold kC; rw [← List.flatMap_append, List.take_append_drop]
theorem kC_take (es : List KE) (n : Nat) (h : n ≤ es.length) : kC (es.take n) = (kC es).take (n * 33) := by
  have l : (kC (es.take n)).length = n * 33 := by rw [kC_len, List.length_take]; omega
  rw [kC_split es n, ← l, List.take_left']
  rfl
theorem kC_drop (es : List KE) (n : Nat) (h : n ≤ es.length) : kC (es.drop n) = (kC es).drop (n * 33) := by
  have l : (kC (es.take n)).length = n * 33 := by rw [kC_len, List.length_take]; omega
  rw [kC_split es n, ← l, List.drop_left']
  rfl
theorem kC_one (es : List KE) (h : ∀ e ∈ es, ∃ a n c, e.v = .slice a n c) : ∀ u ∈ kC es, u.oneCell' = true := by
  intro u hu
  obtain ⟨e, he, hu⟩ := List.mem_flatMap.1 hu
  obtain ⟨a, n, c, hv⟩ := h e he
  unfold kE at hu
  rcases List.mem_append.1 hu with h1 | h1
  · exact e32_one [e.id] u (by simpa using h1)
  · simp at h1; subst h1; rw [hv]; rfl
theorem kC_id {es : List KE} {i : Nat} {e : KE} (he : es[i]? = some e) (h32 : e.id.length = 32) {j : Nat} {u : Value} (hj : (e.id.map B)[j]? = some u) : (kC es)[i * 33 + j]? = some u := by
  have hl : j < 32 := by have := (List.getElem?_eq_some_iff.1 hj).1; simpa [h32] using this
  unfold kC
  rw [flat_get kE 33 kE_len es i j e he (by omega)]
  unfold kE
  rw [List.getElem?_append_left (by rw [e32_len]; exact hl), e32_of h32]
  exact hj
theorem kC_v {es : List KE} {i : Nat} {e : KE} (he : es[i]? = some e) : (kC es)[i * 33 + 32]? = some e.v := by
  unfold kC
  rw [flat_get kE 33 kE_len es i 32 e he (by omega)]
  unfold kE
  rw [List.getElem?_append_right (by rw [e32_len]; exact Nat.le_refl _), e32_len]
  rfl
theorem info_kept : (Tryd.prog.info? 48).map (fun i => (i.zero, i.size, i.bytes)) = some (some (.agg (zid.map B ++ [Value.slice none 0 0]).toArray), 33, 56) := by kernel_rfl
theorem size_kept (W : World) : (sizeOf 48).run Tryd.prog W = .ok 33 W := by kernel_rfl
theorem elem_kept : Tryd.prog.elem 27 = 48 := by simp [Program.elem, Tryd.underlying27]
theorem k_plain (g j : Nat) : (⟨g, 0, none⟩ : Addr).add j = ⟨g, j, none⟩ := by unfold Addr.add; split <;> simp_all
/-- The first few blobs. -/
theorem ke_take (rv : Value) (es : List KE) (w : World) (base : Nat) (h : w.ownsRow base 48 33 rv es.length (kC es)) (n : Nat) (hn : n ≤ es.length) :
    ∃ a c, (∀ W, (Instr.sliceAt 27 rv none (some (.int .i64 (n : Int))) none).run Tryd.prog W = .ok (.slice a n c) W) ∧
      ∀ W, W.ownsRow base 48 33 rv es.length (kC es) → Src W (.slice a n c) n (kC (es.take n)) := by
  rcases h.2 with ⟨rfl, h0⟩ | ⟨g, cap, cur, rfl, h1, h2, h3, h4, _⟩
  · obtain rfl : n = 0 := by omega
    refine ⟨none, 0, fun W => ?_, fun W _ => Or.inl ⟨rfl, rfl, by simp [kC]⟩⟩
    rw [run_sliceAt_slice W 27 _ _ _ _ (by simp [Program.elem, Tryd.underlying27])]
    rw [run_slice_h W 27 _ _ _ (by simp [Program.elem, Tryd.underlying27]) .i64 (((0 : Nat) : Int)) (by simp) (by simp), elem_kept, size_kept]
    simp [Result.andThen, sliced]
  · refine ⟨some ⟨g, 0, none⟩, cap, fun W => ?_, fun W hW => Or.inr ⟨_, _, rfl, fun j u hj => ?_⟩⟩
    · rw [run_sliceAt_slice W 27 _ _ _ _ (by simp [Program.elem, Tryd.underlying27])]
      rw [run_slice_h W 27 _ _ _ (by simp [Program.elem, Tryd.underlying27]) .i64 ((n : Int)) (by omega) (by omega), elem_kept, size_kept]
      simp [Result.andThen, sliced, Addr.add]
    · rw [kC_take es n hn, List.getElem?_take] at hj
      split at hj
      · exact hW.cells (g := g) rfl j u hj
      · simp at hj
/-- All but the first few blobs. -/
theorem ke_drop (rv : Value) (es : List KE) (w : World) (base : Nat) (h : w.ownsRow base 48 33 rv es.length (kC es)) (n : Nat) (hn : n ≤ es.length) :
    ∃ a c, (∀ W, (Instr.sliceAt 27 rv (some (.int .i64 (n : Int))) none none).run Tryd.prog W = .ok (.slice a (es.length - n) c) W) ∧
      ∀ W, W.ownsRow base 48 33 rv es.length (kC es) → Src W (.slice a (es.length - n) c) (es.length - n) (kC (es.drop n)) := by
  rcases h.2 with ⟨rfl, h0⟩ | ⟨g, cap, cur, rfl, h1, h2, h3, h4, _⟩
  · obtain rfl : n = 0 := by omega
    refine ⟨none, 0, fun W => ?_, fun W _ => Or.inl ⟨by rw [h0], by omega, by rw [List.eq_nil_of_length_eq_zero h0]; rfl⟩⟩
    rw [run_sliceAt_slice W 27 _ _ _ _ (by simp [Program.elem, Tryd.underlying27])]
    rw [run_slice_l W 27 _ _ _ (by simp [Program.elem, Tryd.underlying27]) .i64 (((0 : Nat) : Int)) (by simp) (by simp), elem_kept, size_kept]
    simp [Result.andThen, sliced, h0]
  · refine ⟨some (if cap = n then ⟨g, 0, none⟩ else (⟨g, 0, none⟩ : Addr).add (n * 33)), cap - n, fun W => ?_, fun W hW => Or.inr ⟨_, _, rfl, fun j u hj => ?_⟩⟩
    · rw [run_sliceAt_slice W 27 _ _ _ _ (by simp [Program.elem, Tryd.underlying27])]
      rw [run_slice_l W 27 _ _ _ (by simp [Program.elem, Tryd.underlying27]) .i64 ((n : Int)) (by omega) (by omega), elem_kept, size_kept]
      simp [Result.andThen, sliced]
      split <;> simp_all <;> omega
    · rw [kC_drop es n hn, List.getElem?_drop] at hj
      have hlt := (List.getElem?_eq_some_iff.1 hj).1
      rw [kC_len] at hlt
      rw [if_neg (by omega), n_add_add]
      exact hW.cells (g := g) rfl _ u hj
/-- What the reference's cache has: its row, of its own; the blobs' bytes as they were handed. -/
structure Rk (w : World) (base : Nat) (rv : Value) (es : List KE) : Prop where
  row : w.ownsRow base 48 33 rv es.length (kC es)
  th : ∀ e ∈ es, e.id.length = 32 ∧ ∃ a c, e.v = .slice a e.b.length c ∧ SrcB w e.v e.b
  low : base ≤ w.heap.size
theorem k_src_kept {S : List Nat} {w w' : World} {v : Value} {n : Nat} {xs : List Value} (h : Src w v n xs) (hk : Kept S w w') (hS : xs ≠ [] → ∀ g, v.ownBlock = some g → g ∉ S) : Src w' v n xs := by
  rcases h with g | ⟨y, c, rfl, g2⟩
  · exact Or.inl g
  · exact Or.inr ⟨y, c, rfl, fun j u hj => (hk.cell (World.block_lt_of_cell? w _ (g2 j u hj)) (by rw [add_block]; exact hS (fun e => by rw [e] at hj; simp at hj) _ rfl)).trans (g2 j u hj)⟩
theorem Rk.kept {S : List Nat} {w w' : World} {base : Nat} {rv : Value} {es : List KE} (h : Rk w base rv es) (hk : Kept S w w') (hr : ∀ g, rv.ownBlock = some g → g ∉ S) (ht : ∀ e ∈ es, e.b ≠ [] → ∀ g, e.v.ownBlock = some g → g ∉ S) : Rk w' base rv es :=
  ⟨hk.owns h.row hr, fun e he => by obtain ⟨h0, a, c, h1, h2⟩ := h.th e he; exact ⟨h0, a, c, h1, k_src_kept h2 hk (fun hne => ht e he (fun h0 => hne (by rw [h0]; rfl)))⟩, Nat.le_trans h.low hk.size⟩
theorem src_lt {w : World} {v : Value} {ys : List UInt8} (h : SrcB w v ys) (hne : ys ≠ []) : ∀ g, v.ownBlock = some g → g < w.heap.size := by
  intro g hg
  rcases h with ⟨_, _, h⟩ | ⟨y, c, rfl, h⟩
  · exact absurd (List.map_eq_nil_iff.1 h) hne
  · cases ys with
    | nil => exact absurd rfl hne
    | cons b r =>
      have h1 := World.block_lt_of_cell? w _ (h 0 (B b) rfl)
      rw [add_block] at h1
      simp [Value.ownBlock] at hg
      omega
theorem Rk.keep {w w' : World} {base : Nat} {rv : Value} {es : List KE} (h : Rk w base rv es) (hk : Kept [] w w') : Rk w' base rv es := h.kept hk (by simp) (by simp)
theorem Rk.lt {w : World} {base : Nat} {rv : Value} {es : List KE} (h : Rk w base rv es) : ∀ e ∈ es, e.b ≠ [] → ∀ g, e.v.ownBlock = some g → g < w.heap.size := fun e he hne => by
  obtain ⟨_, a, c, h1, h2⟩ := h.th e he
  exact src_lt h2 hne
theorem Rk.slice {w : World} {base : Nat} {rv : Value} {es : List KE} (h : Rk w base rv es) : ∃ a c, rv = .slice a es.length c := owns_slice h.row
theorem Rk.one {w : World} {base : Nat} {rv : Value} {es : List KE} (h : Rk w base rv es) : ∀ e ∈ es, ∃ a n c, e.v = .slice a n c := fun e he => by
  obtain ⟨_, a, c, h1, _⟩ := h.th e he
  exact ⟨a, _, c, h1⟩
/-- What loops over the row ask. -/
theorem Rk.at {w : World} {base : Nat} {ra : Option Addr} {rc : Nat} {es : List KE} {n : Nat} (h : Rk w base (.slice ra n rc) es) (i : Nat) (e : KE) (he : es[i]? = some e) :
    ∃ x, ra = some x ∧ (∀ (j : Nat) u, (e.id.map B)[j]? = some u → w.cell? ((x.add (i * 33)).add j) = some u) ∧ w.cell? ⟨(x.add (i * 33)).block, (x.add (i * 33)).off + 32, none⟩ = some e.v ∧ e.id.length = 32 ∧ ∃ a c, e.v = .slice a e.b.length c ∧ SrcB w e.v e.b := by
  rcases h.row.2 with ⟨_, h0⟩ | ⟨g, cap, cur, hv, _⟩
  · have h1 := (List.getElem?_eq_some_iff.1 he).1; omega
  · simp at hv
    obtain ⟨rfl, rfl, rfl⟩ := hv
    obtain ⟨h32, r⟩ := h.th e (List.mem_of_getElem? he)
    refine ⟨_, rfl, fun j u hj => ?_, ?_, h32, r⟩
    · rw [n_add_add]
      exact h.row.cells (g := g) rfl _ _ (kC_id he h32 hj)
    · have h1 := h.row.cells (g := g) rfl _ _ (kC_v he)
      rw [k_plain] at h1 ⊢
      exact h1
/-- A reference's cache by value. -/
def rK (rv : Value) (lim : Int) : Value := .agg #[rv, .int .i64 lim]
theorem rk_ld (W : World) (p : Nat) (rv : Value) (lim : Int) (h : W.heap[p]? = some (.cells #[rv, .int .i64 lim] 29 (0, 0))) : (loadVar 29 ⟨p, 0, none⟩).run Tryd.prog W = .ok (rK rv lim) W :=
  run_loadVar_cells W _ _ [rv, .int .i64 lim] _ Tryd.underlying29 rfl (by kernel_rfl) (fun j v hj => by rw [k_plain, cell_of_row _ _ j _ _ _ h]; simpa using hj)
end Go.Proofs.YtmkdjonlfkfnlaaDoor


/- The reference's cache: Size, Find. -/
namespace Go.Proofs.YtmkdjonlfkfnlaaDoor
open Go.RowKit Go.Lib Go.Maps

theorem datE_take (es : List KE) (n : Nat) : datE (es.take n) = (datE es).take n := by unfold datE; rw [List.map_take]
theorem szE_split (es : List KE) (n : Nat) : szD (datE es) = szD (datE (es.take n)) + szD (datE (es.drop n)) := by
  rw [← szD_app]
  congr 1
  unfold datE
  rw [← List.map_append, List.take_append_drop]
set_option maxHeartbeats 1000000 in
theorem rk_size {w : World} {base : Nat} {ra : Option Addr} {rc : Nat} {es : List KE} (lim : Int) (h : Rk w base (.slice ra es.length rc) es) (hl : es.length ≤ 1000000) (hs : szD (datE es) ≤ 1000000000) :
    Calls Tryd.prog 21 #[rK (.slice ra es.length rc) lim] w fun e w' => e = .returned (.int .i64 (szD (datE es) : Int)) ∧ Kept [] w w' := by
  have H := hid h
  obtain ⟨n, hn⟩ : ∃ n, n = es.length := ⟨_, rfl⟩
  have HN := hid hn
  rw [← hn] at hl ⊢
  obtain ⟨W, hW⟩ : ∃ W, W = w.alloc (.cells #[.slice ra n rc, .int .i64 lim] 29) := ⟨_, rfl⟩
  have HW := hid hW
  have hk := hid (show Kept [] w W from hW ▸ (Kept.refl [] w).alloc _)
  have hb := hid (show W.heap[w.heap.size]? = some (.cells #[.slice ra n rc, .int .i64 lim] 29 (0, 0)) from hW ▸ heap_alloc_at rfl)
  have HS := hid hs
  clear h hn hW hs
  unfold rK
  go_enter Tryd.func21, Tryd.ntmps21
  go_wp2_with fail
  rw [← HW.out]
  go_loopw [3, 4] (fun s3 s4 wr => ∃ i : Nat, i ≤ n ∧ s4 = .int .i64 i ∧ s3 = .int .i64 (szD (datE (es.take i)) : Int) ∧ W = wr) (fun _ s4 _ => n - (intOf s4).toNat)
  case atStart => exact ⟨0, Nat.zero_le _, rfl, rfl, rfl⟩
  case round =>
    obtain ⟨i, hi, rfl, rfl, rfl⟩ := hrel
    have c0 : W.cell? ⟨w.heap.size, 0, none⟩ = some (.slice ra n rc) := by rw [cell_of_row _ _ 0 _ _ _ hb.out]; rfl
    by_cases hlt : i < n
    · have hlt' : i < es.length := by have := HN.out; omega
      obtain ⟨en, hen⟩ : ∃ e, es[i]? = some e := ⟨es[i], by simp⟩
      have HH := H.out
      rw [← HN.out] at HH
      obtain ⟨x, rfl, _, q1, _, a, c, hv, hsrc⟩ := HH.at i en hen
      rw [hv] at q1
      have g1 := (hk.out.cell (World.block_lt_of_cell? w _ q1) (by simp)).trans q1
      have hst := hid (show szD (datE (es.take (i + 1))) = szD (datE (es.take i)) + en.b.length from by rw [List.take_add_one, hen]; unfold datE szD; simp)
      have hle := hid (show szD (datE (es.take (i + 1))) ≤ szD (datE es) from by rw [szE_split es (i + 1)]; omega)
      obtain ⟨el, hel⟩ : ∃ el, el = en.b.length := ⟨_, rfl⟩
      rw [← hel] at g1 hst
      obtain ⟨sm, hsm⟩ : ∃ sm, sm = szD (datE (es.take i)) := ⟨_, rfl⟩
      rw [← hsm] at hst ⊢
      have hb1 : sm + el ≤ 1000000000 := by have := hst.out; have := hle.out; have := HS.out; omega
      have HLT := hid hlt
      clear q1 hv hsrc hen hlt' hel hsm HH
      go_wp2
      go_roundw
      case rel => exact ⟨i + 1, HLT.out, by go_num, by rw [hst.out]; go_num, trivial⟩
      case measure => simp [intOf]; omega
    · obtain rfl : i = n := by omega
      have hfin := hid (show szD (datE (es.take i)) = szD (datE es) from by rw [HN.out, List.take_length])
      rw [hfin.out]
      clear hlt
      go_wp2
      go_ret
      exact ⟨rfl, hk.out⟩
/-- The place of a sum, -1 of none. -/
def atK (id : List UInt8) : List KE → Int
  | [] => -1
  | e :: r => if e.id = id then 0 else if atK id r < 0 then -1 else atK id r + 1
theorem atK_some {id : List UInt8} {es : List KE} {i : Nat} {e : KE} (he : es[i]? = some e) (hid0 : e.id = id) (h : ∀ (j : Nat) (f : KE), j < i → es[j]? = some f → f.id ≠ id) : atK id es = i := by
  induction es generalizing i with
  | nil => simp at he
  | cons f r ih =>
    cases i with
    | zero => simp at he; subst he; unfold atK; rw [if_pos hid0]; rfl
    | succ i =>
      have h1 := ih (by simpa using he) (fun j g hj hg => h (j + 1) g (by omega) (by simpa using hg))
      unfold atK
      rw [if_neg (h 0 f (by omega) rfl), h1, if_neg (by omega)]
      rfl
theorem atK_none {id : List UInt8} {es : List KE} (h : ∀ (j : Nat) (f : KE), es[j]? = some f → f.id ≠ id) : atK id es = -1 := by
  induction es with
  | nil => rfl
  | cons f r ih =>
    have h1 := ih (fun j g hg => h (j + 1) g (by simpa using hg))
    unfold atK
    rw [if_neg (h 0 f rfl), h1]
    rfl
set_option maxRecDepth 100000 in
set_option maxHeartbeats 2000000 in
theorem rk_find {w : World} {base : Nat} {ra : Option Addr} {rc : Nat} {es : List KE} (lim : Int) (h : Rk w base (.slice ra es.length rc) es) (hl : es.length ≤ 1000000) (id : List UInt8) (h32 : id.length = 32) :
    Calls Tryd.prog 25 #[rK (.slice ra es.length rc) lim, .agg (id.map B).toArray] w fun e w' => e = .returned (.int .i64 (atK id es)) ∧ Kept [] w w' := by
  have H := hid h
  obtain ⟨n, hn⟩ : ∃ n, n = es.length := ⟨_, rfl⟩
  have HN := hid hn
  rw [← hn] at hl ⊢
  obtain ⟨iv, hiv⟩ : ∃ iv, iv = (id.map B).toArray := ⟨_, rfl⟩
  have hids : iv.size = 32 := by rw [hiv]; simp [h32]
  obtain ⟨W, hW⟩ : ∃ W, W = (w.alloc (.cells #[.slice ra n rc, .int .i64 lim] 29)).alloc (.cells iv 34) := ⟨_, rfl⟩
  have HW := hid hW
  have hk := hid (show Kept [] w W from hW ▸ ((Kept.refl [] w).alloc _).alloc _)
  have hb := hid (show W.heap[w.heap.size]? = some (.cells #[.slice ra n rc, .int .i64 lim] 29 (0, 0)) from hW ▸ heap_alloc_old (heap_alloc_at rfl))
  have hb1 := hid (show W.heap[w.heap.size + 1]? = some (.cells (id.map B).toArray 34 (0, 0)) from by rw [hW, hiv]; exact heap_alloc_at (by simp))
  have HIV := hid hiv
  have H32 := hid h32
  clear h hn hW h32
  rw [← hiv]
  clear hiv
  unfold rK
  go_enter Tryd.func25, Tryd.ntmps25
  go_wp2_with fail
  rw [← HW.out]
  go_loopw [5] (fun s wr => ∃ i : Nat, i ≤ n ∧ s = .int .i64 i ∧ Hid (∀ (j : Nat) (f : KE), j < i → es[j]? = some f → f.id ≠ id) ∧ Hid (Kept [] W wr)) (fun s _ => n - (intOf s).toNat)
  case atStart => exact ⟨0, Nat.zero_le _, rfl, hid (fun j e hj => by omega), hid (Kept.refl _ _)⟩
  case round =>
    obtain ⟨i, hi, rfl, hall, HK⟩ := hrel
    have c0 : wr.cell? ⟨w.heap.size, 0, none⟩ = some (.slice ra n rc) := by rw [cell_of_row _ _ 0 _ _ _ (HK.out.at hb.out (by simp))]; rfl
    by_cases hlt : i < n
    · have hlt' : i < es.length := by have := HN.out; omega
      obtain ⟨en, hen⟩ : ∃ e, es[i]? = some e := ⟨es[i], by simp⟩
      have HH := H.out
      rw [← HN.out] at HH
      obtain ⟨x, rfl, q0, _, e32', _⟩ := HH.at i en hen
      have hc0 := hid (fun v (hv : Kept [] wr v) => (hv.cell (World.block_lt_of_cell? wr _ c0) (by simp)).trans c0)
      obtain ⟨ev, hev⟩ : ∃ ev, ev = (en.id.map B).toArray := ⟨_, rfl⟩
      have hld := hid (fun v (hv : Kept [] wr v) => (show (loadVar 34 (x.add (i * 33))).run Tryd.prog v = .ok (.agg ev) v from by
        rw [hev]
        exact ld_idA v _ en.id e32' (fun j u hj => ((hk.out.trans (HK.out.trans hv)).cell (World.block_lt_of_cell? w _ (q0 j u hj)) (by simp)).trans (q0 j u hj))))
      have hld2 := hid (fun v (hv : Kept [] wr v) => (show (loadVar 34 ⟨w.heap.size + 1, 0, none⟩).run Tryd.prog v = .ok (.agg iv) v from by
        rw [HIV.out]
        exact ld_idB v _ id H32.out (hv.at (HK.out.at hb1.out (by simp)) (by simp))))
      obtain ⟨q, hq⟩ : ∃ q, q = decide (en.id = id) := ⟨_, rfl⟩
      have heq := hid (show ∀ v : World, (Op.equalIn 10000 34 (.agg ev) (.agg iv)).run Tryd.prog v = .ok q v from fun v => by rw [hev, HIV.out, hq]; exact id_equal _ _ e32' H32.out v)
      have HEN := hid hen; have HQ := hid hq
      have HLT := hid hlt
      clear q0 hen hlt' hev hq HH
      go_upto_region 4 with fail
      have hH0 : Kept [] wr wr.drew := (Kept.refl [] wr).drew
      refine wp_region_held_drew (S := fun v => Kept [] wr v) (by kernel_rfl) hH0 (fun hH => ?_)
      refine takeH 0 (.pointer (some ⟨w.heap.size, 0, none⟩)) rfl (by kernel_rfl) (by kernel_rfl) (by kernel_rfl) (fun _ _ _ h => h) (by rfl) (fun v hv => by go_simp) hH ?_
      simp only [Act.put, List.setIfInBounds_toArray, List.set_cons_succ, List.set_cons_zero]
      refine takeH 1 (.slice (some x) n rc) rfl (by kernel_rfl) (by kernel_rfl) (by kernel_rfl) (fun _ _ _ h => h) (by rfl) (fun v hv => by have h := hc0.out v hv; go_simp) hH ?_
      simp only [Act.put, List.setIfInBounds_toArray, List.set_cons_succ, List.set_cons_zero]
      refine takeH 2 (.int .i64 i) rfl (by kernel_rfl) (by kernel_rfl) (by kernel_rfl) (fun _ _ _ h => h) (by rfl) (fun v hv => by go_simp) hH ?_
      simp only [Act.put, List.setIfInBounds_toArray, List.set_cons_succ, List.set_cons_zero]
      refine takeH 3 (.pointer (some (x.add (i * 33)))) rfl (by kernel_rfl) (by kernel_rfl) (by kernel_rfl) (fun _ _ _ h => h) (by rfl) (fun v hv => by go_simp) hH ?_
      simp only [Act.put, List.setIfInBounds_toArray, List.set_cons_succ, List.set_cons_zero]
      refine takeH 4 (.pointer (some (x.add (i * 33)))) rfl (by kernel_rfl) (by kernel_rfl) (by kernel_rfl) (fun _ _ _ h => h) (by rfl) (fun v hv => by go_simp) hH ?_
      simp only [Act.put, List.setIfInBounds_toArray, List.set_cons_succ, List.set_cons_zero]
      refine takeH 5 (.agg ev) rfl (by kernel_rfl) (by kernel_rfl) (by kernel_rfl) (fun _ _ _ h => h) (by rfl) (fun v hv => by have h := hld.out v hv; unfold execOp; simp [Instr.loadAt, Instr.sureAddr, Sem.run_bind, Sem.run_pure, Result.andThen_ok, Act.eval, h]) hH ?_
      simp only [Act.put, List.setIfInBounds_toArray, List.set_cons_succ, List.set_cons_zero]
      refine takeH 6 (.agg iv) rfl (by kernel_rfl) (by kernel_rfl) (by kernel_rfl) (fun _ _ _ h => h) (by rfl) (fun v hv => by have h := hld2.out v hv; unfold execOp; simp [Instr.loadAt, Instr.sureAddr, Sem.run_bind, Sem.run_pure, Result.andThen_ok, Act.eval, h]) hH ?_
      simp only [Act.put, List.setIfInBounds_toArray, List.set_cons_succ, List.set_cons_zero]
      refine takeH 7 (.bool q) rfl (by kernel_rfl) (by kernel_rfl) (by kernel_rfl) (fun _ _ _ h => h) (by rfl) (fun v hv => by have h := heq.out v; go_simp) hH ?_
      simp only [Act.put, List.setIfInBounds_toArray, List.set_cons_succ, List.set_cons_zero]
      refine wpAnyH_done (by kernel_rfl) ?_ _
      have HK2 := hid (HK.out.trans hH0)
      clear hH0 hH hc0 hld hld2 heq c0
      by_cases hqq : q = true
      · subst hqq
        have hat := hid (show atK id es = i from atK_some HEN.out (by have := HQ.out; simpa using this.symm) hall.out)
        go_wp2
        go_ret
        exact ⟨by rw [hat.out]; rfl, hk.out.trans HK2.out⟩
      · have hqf : q = false := by simpa using hqq
        subst hqf
        have hnext := hid (show ∀ (j : Nat) (f : KE), j < i + 1 → es[j]? = some f → f.id ≠ id from fun j f hj hf => by
          rcases Nat.lt_or_ge j i with h | h
          · exact hall.out j f h hf
          · have : j = i := by omega
            subst this
            rw [HEN.out] at hf
            simp at hf
            subst hf
            have := HQ.out
            simpa using this.symm)
        clear hqq
        go_wp2
        go_roundw
        case rel => exact ⟨i + 1, HLT.out, by go_num, hnext, HK2⟩
        case measure => simp [intOf]; omega
    · obtain rfl : i = n := by omega
      have hat := hid (show atK id es = -1 from atK_none (fun j f hf => hall.out j f (by have h1 := (List.getElem?_eq_some_iff.1 hf).1; have := HN.out; omega) hf))
      clear hlt
      go_wp2
      go_ret
      exact ⟨by rw [hat.out]; rfl, hk.out.trans HK.out⟩
end Go.Proofs.YtmkdjonlfkfnlaaDoor


/- The reference's cache: Without. -/
namespace Go.Proofs.YtmkdjonlfkfnlaaDoor
open Go.RowKit Go.Lib Go.Maps

theorem k_cells_of {W : World} {b T : Nat} {cs : List Value} (h : W.heap[b]? = some (.cells cs.toArray T (0, 0))) : ∀ (j : Nat) v, cs[j]? = some v → W.cell? ((⟨b, 0, none⟩ : Addr).add j) = some v := fun j v hj => by rw [k_plain, cell_of_row _ _ j _ _ _ h]; simpa using hj
theorem k_two (a : Option Addr) (n c : Nat) (lim : Int) : ∀ v ∈ ([.slice a n c, .int .i64 lim] : List Value), v.oneCell' = true := by
  intro v hv
  simp at hv
  rcases hv with rfl | rfl <;> rfl
theorem k_free {W : World} {b T : Nat} {cs : Array Value} (h : W.heap[b]? = some (.cells cs T (0, 0))) (j : Nat) : W.frozen? ⟨b, j, none⟩ = false := by unfold World.frozen?; simp [h]
theorem k_split {o : Option TypeInfo} {z : Value} {s b : Nat} (h : o.map (fun i => (i.zero, i.size, i.bytes)) = some (some z, s, b)) : ∃ i, o = some i ∧ i.zero = some z ∧ i.size = s ∧ i.bytes = b := by
  obtain ⟨i, hi, h2⟩ := Option.map_eq_some_iff.1 h
  simp at h2
  exact ⟨i, hi, h2.1, h2.2.1, h2.2.2⟩
set_option maxRecDepth 100000 in
set_option maxHeartbeats 2000000 in
theorem rk_without_no (rv : Value) (lim : Int) (w : World) (hrv : ∃ a n c, rv = .slice a n c) (at0 : Int) (hat : at0 < 0) :
    Calls Tryd.prog 24 #[rK rv lim, .int .i64 at0] w fun e w' => e = .returned (rK rv lim) ∧ Kept [] w w' := by
  obtain ⟨a, n, c, rfl⟩ := hrv
  have hd : decide (at0 < 0) = true := decide_eq_true hat
  unfold rK
  obtain ⟨W, hW⟩ : ∃ W, W = (w.alloc (.cells #[.slice a n c, .int .i64 lim] 29)).alloc (.cells #[.slice a n c, .int .i64 lim] 29) := ⟨_, rfl⟩
  have HW := hid hW
  have hk := hid (show Kept [] w W from hW ▸ ((Kept.refl [] w).alloc _).alloc _)
  have hld := hid (rk_ld W (w.heap.size + 1) (.slice a n c) lim (hW ▸ heap_alloc_at (by simp)))
  clear hW
  go_enter Tryd.func24, Tryd.ntmps24
  go_wp2_with fail
  rw [← HW.out]
  refine bodyPost_ret (v := rK (.slice a n c) lim) (results_cell Tryd.results24 rfl hld.out) rfl ?_
  exact ⟨rfl, hk.out⟩
set_option maxRecDepth 100000 in
set_option maxHeartbeats 2000000 in
theorem rk_without (rv : Value) (es : List KE) (lim : Int) (base : Nat) (w : World) (h : Rk w base rv es) (at0 : Nat) (hat : at0 < es.length) (hm : es.length ≤ 5000) :
    Calls Tryd.prog 24 #[rK rv lim, .int .i64 (at0 : Int)] w fun e w' => ∃ rv', e = .returned (rK rv' lim) ∧ Kept [] w w' ∧ Rk w' w.heap.size rv' (es.take at0 ++ es.drop (at0 + 1)) := by
  obtain ⟨i0, hi0, hz0, hz1, hz2⟩ := k_split info_kept
  obtain ⟨a1, c1, hs1, hv1⟩ := ke_take rv es w base h.row at0 (by omega)
  obtain ⟨a2, c2, hs2, hv2⟩ := ke_drop rv es w base h.row (at0 + 1) (by omega)
  have H := hid h; have HV1 := hid hv1; have HV2 := hid hv2
  obtain ⟨ra, rc, rfl⟩ := h.slice
  obtain ⟨n, hn⟩ : ∃ n, n = es.length := ⟨_, rfl⟩
  have HN := hid hn
  rw [← hn] at hs1 hs2 HV1 HV2 hm hat H ⊢
  have hs2' : ∀ W, (Instr.sliceAt 27 (.slice ra n rc) (some (.int .i64 ((at0 : Int) + 1))) none none).run Tryd.prog W = .ok (.slice a2 (n - (at0 + 1)) c2) W := fun W => by have := hs2 W; push_cast at this; exact this
  have HAT := hid hat
  have hat5 : at0 ≤ 5000 := by omega
  have hrowH := hid (show w.ownsRow base 48 33 (.slice ra n rc) n (kC es) from by have := H.out.row; rw [← HN.out] at this; exact this)
  clear h hn hv1 hv2 hs2 hat
  unfold rK
  obtain ⟨W, hW⟩ : ∃ W, W = ((w.alloc (.cells #[.slice ra n rc, .int .i64 lim] 29)).alloc (.cells #[.slice none 0 0, .int .i64 0] 29)).alloc (.cells #[] 48) := ⟨_, rfl⟩
  have HW := hid hW
  have hk := hid (show Kept [] w W from hW ▸ (((Kept.refl [] w).alloc _).alloc _).alloc _)
  have hb0 := hid (show W.heap[w.heap.size]? = some (.cells #[.slice ra n rc, .int .i64 lim] 29 (0, 0)) from hW ▸ heap_alloc_old (heap_alloc_old (heap_alloc_at rfl)))
  have hb1 := hid (show W.heap[w.heap.size + 1]? = some (.cells #[.slice none 0 0, .int .i64 0] 29 (0, 0)) from hW ▸ heap_alloc_old (heap_alloc_at (by simp)))
  have hb2 := hid (show W.heap[w.heap.size + 2]? = some (.cells #[] 48 (0, 0)) from hW ▸ heap_alloc_at (by simp))
  have hsz := hid (show W.heap.size = w.heap.size + 3 from by rw [hW]; simp)
  clear hW
  go_enter Tryd.func24, Tryd.ntmps24
  go_wp2_with (at_builtin; refine halt ?_)
  refine Halt.mk ?_
  rw [← HW.out]
  have hown0 : W.ownsRow w.heap.size 48 33 (.slice (some ⟨w.heap.size + 1 + 1, 0, none⟩) 0 0) 0 [] := ⟨by simp, Or.inr ⟨w.heap.size + 2, 0, #[], rfl, by omega, hb2.out, by simp, by unfold maxLen; omega, by simp, by simp⟩⟩
  have hone1 := kC_one (es.take at0) (fun e he => H.out.one e (List.mem_of_mem_take he))
  have hone2 := kC_one (es.drop (at0 + 1)) (fun e he => H.out.one e (List.mem_of_mem_drop he))
  refine wpList_append_k _ rfl _ _ _ rfl w.heap.size 48 i0 _ 33 56 Tryd.underlying27 hi0 hz0 hz1 hz2 (by simp [Value.cells, zid]) (by decide) (.slice (some ⟨w.heap.size + 1 + 1, 0, none⟩) 0 0) 0 [] rfl hown0 (.slice a1 at0 c1) at0 (kC (es.take at0)) rfl (HV1.out W (hk.out.owns hrowH.out (by simp))) (by rw [kC_len, List.length_take]; have := HAT.out; have := HN.out; omega) hone1 (by unfold maxLen; have := HAT.out; omega) (by have := HAT.out; omega) (by have := hsz.out; omega) ?_
  intro v4 w4 hown4 hgr4 _ hf4
  obtain ⟨a4, c4, hv4⟩ := owns_slice hown4
  rw [Nat.zero_add] at hv4
  subst hv4
  have k4 := hid (show Kept [w.heap.size + 2] W w4 from Kept.of_row hgr4)
  have kw4 := hid (show Kept [] w w4 from hk.out.trans' k4.out (fun x hx hm => by simp at hm; omega))
  have hown4' := hid (show w4.ownsRow w.heap.size 48 33 (.slice a4 at0 c4) at0 (kC (es.take at0)) from by simpa using hown4)
  have hb04 := hid (k4.out.at hb0.out (by simp))
  have hb14 := hid (k4.out.at hb1.out (by simp))
  have hbl4 := hid (show ∀ g, (Value.slice a4 at0 c4).ownBlock = some g → g ≠ w.heap.size ∧ g ≠ w.heap.size + 1 from fun g hg => by
    rcases hf4 g hg with g1 | g1
    · simp [Value.ownBlock] at g1; omega
    · have := hsz.out; omega)
  have hr0 : w4.cell? ⟨w.heap.size, 0, none⟩ = some (.slice ra n rc) := by rw [cell_of_row _ _ 0 _ _ _ hb04.out]; rfl
  clear hown4 hgr4 hf4 hown0 hone1
  go_wp2_with (at_builtin; refine halt ?_)
  refine Halt.mk ?_
  refine wpList_append_k _ rfl _ _ _ rfl w.heap.size 48 i0 _ 33 56 Tryd.underlying27 hi0 hz0 hz1 hz2 (by simp [Value.cells, zid]) (by decide) (.slice a4 at0 c4) at0 (kC (es.take at0)) rfl hown4'.out (.slice a2 (n - (at0 + 1)) c2) (n - (at0 + 1)) (kC (es.drop (at0 + 1))) rfl (HV2.out w4 (kw4.out.owns hrowH.out (by simp))) (by rw [kC_len, List.length_drop, HN.out]) hone2 (by unfold maxLen; have := HAT.out; omega) (by have := HAT.out; omega) (by have := kw4.out.size; omega) ?_
  intro v5 w5 hown5 hgr5 _ hf5
  obtain ⟨m, hmm⟩ : ∃ m, m = at0 + (n - (at0 + 1)) := ⟨_, rfl⟩
  rw [← hmm] at hown5
  obtain ⟨a5, c5, hv5⟩ := owns_slice hown5
  subst hv5
  have HMM := hid hmm
  have k5 := hid (show Kept (Value.slice a4 at0 c4).ownBlock.toList w4 w5 from Kept.of_row hgr5)
  have hb05 := hid (k5.out.at hb04.out (by intro hm; exact (hbl4.out _ (by simpa using hm)).1 rfl))
  have hb15 := hid (k5.out.at hb14.out (by intro hm; exact (hbl4.out _ (by simpa using hm)).2 rfl))
  have hr05 : w5.cell? ⟨w.heap.size, 0, none⟩ = some (.slice ra n rc) := by rw [cell_of_row _ _ 0 _ _ _ hb05.out]; rfl
  have hf05 : w5.frozen? ⟨w.heap.size, 0, none⟩ = false := k_free hb05.out 0
  have OW5 := hid hown5
  have kw5 := hid (show Kept [] w w5 from kw4.out.trans' k5.out (fun x hx hm => by
    exfalso
    have hm' : (Value.slice a4 at0 c4).ownBlock = some x := by simpa using hm
    have := hown4'.out.lt x hm'
    omega))
  have hb5l := hid (show ∀ g, (Value.slice a5 m c5).ownBlock = some g → w.heap.size ≤ g ∧ g ≠ w.heap.size ∧ g ≠ w.heap.size + 1 from fun g hg => by
    have h1 := (hown5.lt g hg).1
    rcases hf5 g hg with g1 | g1
    · exact ⟨h1, hbl4.out g g1⟩
    · have := hsz.out; have := k4.out.size; omega)
  have hb06 := hid (show (w5.setCell ⟨w.heap.size, 0, none⟩ (.slice a5 m c5)).heap[w.heap.size]? = some (.cells [.slice a5 m c5, .int .i64 lim].toArray 29 (0, 0)) from by
    rw [Go.heap_setCell_same w5 w.heap.size 0 _ _ _ hb05.out]; rfl)
  have k6 := hid (show Kept [w.heap.size] w5 (w5.setCell ⟨w.heap.size, 0, none⟩ (.slice a5 m c5)) from (Kept.refl _ _).setCell (p := ⟨w.heap.size, 0, none⟩) (fun _ => by simp) _)
  have hb16 := hid (show (w5.setCell ⟨w.heap.size, 0, none⟩ (.slice a5 m c5)).heap[w.heap.size + 1]? = some (.cells [.slice none 0 0, .int .i64 0].toArray 29 (0, 0)) from k6.out.at hb15.out (by simp))
  have k7 := hid (show Kept [w.heap.size, w.heap.size + 1] w5 ((w5.setCell ⟨w.heap.size, 0, none⟩ (.slice a5 m c5)).setRow (w.heap.size + 1) (splice [.slice none 0 0, .int .i64 0] 0 [.slice a5 m c5, .int .i64 lim]).toArray) from (k6.out.wider (fun x _ hx => by simp at hx; simp [hx])).setRow (fun _ => by simp) _)
  have hld := hid (rk_ld ((w5.setCell ⟨w.heap.size, 0, none⟩ (.slice a5 m c5)).setRow (w.heap.size + 1) (splice [.slice none 0 0, .int .i64 0] 0 [.slice a5 m c5, .int .i64 lim]).toArray) (w.heap.size + 1) (.slice a5 m c5) lim (setRow_heap _ _ _ _ _ _ hb16.out))
  have hfin := hid (show Kept [] w ((w5.setCell ⟨w.heap.size, 0, none⟩ (.slice a5 m c5)).setRow (w.heap.size + 1) (splice [.slice none 0 0, .int .i64 0] 0 [.slice a5 m c5, .int .i64 lim]).toArray) from kw5.out.trans' k7.out (fun x hx hm => by simp at hm; omega))
  clear hown5 hgr5 hf5 hone2 hr0 hmm
  go_wp2_with (refine wpList_load_cells rfl 29 (.tmp 2) rfl ⟨w.heap.size, 0, none⟩ rfl [.slice a5 m c5, .int .i64 lim] _ Tryd.underlying29 rfl (by kernel_rfl) (k_cells_of hb06.out) ?_; refine halt ?_)
  refine Halt.mk ?_
  go_wp2_with (refine wpList_store_at rfl 29 (.tmp 4) (.tmp 23) rfl (w.heap.size + 1) 0 [.slice a5 m c5, .int .i64 lim] rfl rfl 29 [.slice none 0 0, .int .i64 0] hb16.out (by kernel_rfl) (by simp) (k_two _ _ _ _) ?_; refine halt ?_)
  refine Halt.mk ?_
  go_wp2_with fail
  refine bodyPost_ret (v := rK (.slice a5 m c5) lim) (results_cell Tryd.results24 rfl hld.out) rfl ?_
  refine ⟨_, rfl, hfin.out, ⟨?_, fun e he => ?_, hfin.out.size⟩⟩
  · have e1 : kC (es.take at0 ++ es.drop (at0 + 1)) = kC (es.take at0) ++ kC (es.drop (at0 + 1)) := by unfold kC; exact List.flatMap_append
    have e2 : (es.take at0 ++ es.drop (at0 + 1)).length = m := by rw [List.length_append, List.length_take, List.length_drop, HMM.out]; have := HAT.out; have := HN.out; omega
    rw [e1, e2]
    exact k7.out.owns OW5.out (fun g hg hm => by
      have := hb5l.out g hg
      simp at hm
      omega)
  · have he2 : e ∈ es := by
      rcases List.mem_append.1 he with g | g
      · exact List.mem_of_mem_take g
      · exact List.mem_of_mem_drop g
    obtain ⟨h32, a, c, h1, h2⟩ := H.out.th e he2
    exact ⟨h32, a, c, h1, h2.kept hfin.out (by simp)⟩
end Go.Proofs.YtmkdjonlfkfnlaaDoor


/- The reference's cache: without a sum; its mathematics against the cache's. -/
namespace Go.Proofs.YtmkdjonlfkfnlaaDoor
open Go.RowKit Go.Lib Go.Maps

/-- A row without the first one of a sum. -/
def outK (id : List UInt8) (es : List KE) : List KE := if atK id es < 0 then es else es.take (atK id es).toNat ++ es.drop ((atK id es).toNat + 1)
theorem atK_range (id : List UInt8) (es : List KE) : atK id es = -1 ∨ ∃ i : Nat, atK id es = i ∧ i < es.length ∧ ∃ e, es[i]? = some e ∧ e.id = id := by
  induction es with
  | nil => exact Or.inl rfl
  | cons e r ih =>
    unfold atK
    by_cases h : e.id = id
    · rw [if_pos h]
      exact Or.inr ⟨0, rfl, by simp, e, rfl, h⟩
    · rw [if_neg h]
      rcases ih with h1 | ⟨i, h1, h2, f, h3, h4⟩
      · rw [h1]; exact Or.inl rfl
      · rw [h1, if_neg (by omega)]
        exact Or.inr ⟨i + 1, by omega, by simpa using h2, f, by simpa using h3, h4⟩
theorem outK_cons (id : List UInt8) (e : KE) (r : List KE) : outK id (e :: r) = if e.id = id then r else e :: outK id r := by
  by_cases h : e.id = id
  · unfold outK
    have h1 : atK id (e :: r) = 0 := by unfold atK; rw [if_pos h]
    rw [h1, if_neg (by omega), if_pos h]
    rfl
  · rw [if_neg h]
    rcases atK_range id r with h1 | ⟨i, h1, _⟩
    · unfold outK
      have h2 : atK id (e :: r) = -1 := by unfold atK; rw [if_neg h, h1]; rfl
      rw [h1, h2]
      rfl
    · unfold outK
      have h2 : atK id (e :: r) = ((i + 1 : Nat) : Int) := by unfold atK; rw [if_neg h, h1, if_neg (by omega)]; rfl
      rw [h1, h2, if_neg (by omega), if_neg (by omega)]
      simp
theorem dat_out (id : List UInt8) (es : List KE) (hnd : (es.map (·.id)).Nodup) : datE (outK id es) = dropD id (datE es) := by
  induction es with
  | nil => rfl
  | cons e r ih =>
    rw [List.map_cons, List.nodup_cons] at hnd
    rw [outK_cons]
    have e1 : datE (e :: r) = (e.id, e.b) :: datE r := rfl
    have e2 : dropD id (datE (e :: r)) = if e.id = id then dropD id (datE r) else (e.id, e.b) :: dropD id (datE r) := by
      rw [e1]; unfold dropD; rw [List.filter_cons]
      by_cases h : e.id = id <;> simp [h]
    rw [e2]
    by_cases h : e.id = id
    · rw [if_pos h, if_pos h]
      unfold dropD
      refine (List.filter_eq_self.2 (fun x hx => ?_)).symm
      unfold datE at hx
      obtain ⟨y, hy, rfl⟩ := List.mem_map.1 hx
      have h2 : y.id ≠ id := fun e => hnd.1 (by rw [h, ← e]; exact List.mem_map_of_mem hy)
      simpa using h2
    · rw [if_neg h, if_neg h, ← ih hnd.2]
      rfl
theorem mem_out {id : List UInt8} {es : List KE} {e : KE} (h : e ∈ outK id es) : e ∈ es := by
  unfold outK at h
  split at h
  · exact h
  · rcases List.mem_append.1 h with h | h
    · exact List.mem_of_mem_take h
    · exact List.mem_of_mem_drop h
theorem len_out (id : List UInt8) (es : List KE) : (outK id es).length ≤ es.length := by
  unfold outK
  split
  · exact Nat.le_refl _
  · simp; omega
theorem find_dat (id : List UInt8) (es : List KE) : findD id (datE es) = if atK id es < 0 then none else (es[(atK id es).toNat]?).map (·.b) := by
  induction es with
  | nil => rfl
  | cons e r ih =>
    have e1 : findD id (datE (e :: r)) = if e.id = id then some e.b else findD id (datE r) := rfl
    rw [e1]
    by_cases h : e.id = id
    · have h1 : atK id (e :: r) = 0 := by unfold atK; rw [if_pos h]
      rw [if_pos h, h1, if_neg (by omega)]
      rfl
    · rw [if_neg h, ih]
      rcases atK_range id r with h1 | ⟨i, h1, _⟩
      · have h2 : atK id (e :: r) = -1 := by unfold atK; rw [if_neg h, h1]; rfl
        rw [h1, h2]
        rfl
      · have h2 : atK id (e :: r) = ((i + 1 : Nat) : Int) := by unfold atK; rw [if_neg h, h1, if_neg (by omega)]; rfl
        rw [h1, h2, if_neg (by omega), if_neg (by omega)]
        simp
/-- What a turn of the reference leaves, as to where it lies. -/
structure Nx (w w' : World) (rv rv' : Value) (es' : List KE) : Prop where
  kept : Kept [] w w'
  rk : ∃ base, Rk w' base rv' es'
  own : ∀ g, rv'.ownBlock = some g → rv.ownBlock = some g ∨ w.heap.size ≤ g
theorem Nx.refl {w : World} {base : Nat} {rv : Value} {es : List KE} (h : Rk w base rv es) : Nx w w rv rv es := ⟨Kept.refl _ _, ⟨base, h⟩, fun g hg => Or.inl hg⟩
theorem Nx.trans {w w' w'' : World} {rv rv' rv'' : Value} {es es' : List KE} (h : Nx w w' rv rv' es) (h2 : Nx w' w'' rv' rv'' es') : Nx w w'' rv rv'' es' :=
  ⟨h.kept.trans h2.kept, h2.rk, fun g hg => by
    rcases h2.own g hg with h3 | h3
    · exact h.own g h3
    · have := h.kept.size; right; omega⟩
theorem rk_out {w : World} {base : Nat} {rv : Value} {es : List KE} (lim : Int) (h : Rk w base rv es) (hm : es.length ≤ 5000) (id : List UInt8) :
    Calls Tryd.prog 24 #[rK rv lim, .int .i64 (atK id es)] w fun e w' => ∃ rv', e = .returned (rK rv' lim) ∧ Nx w w' rv rv' (outK id es) := by
  rcases atK_range id es with h1 | ⟨i, h1, h2, _⟩
  · obtain ⟨a, c, hv⟩ := h.slice
    refine (rk_without_no rv lim w ⟨a, _, c, hv⟩ (atK id es) (by omega)).mono ?_
    rintro e w' ⟨rfl, k⟩
    have e1 : outK id es = es := by unfold outK; rw [h1]; rfl
    exact ⟨rv, rfl, k, ⟨base, by rw [e1]; exact h.keep k⟩, fun g hg => Or.inl hg⟩
  · rw [h1]
    refine (rk_without rv es lim base w h i h2 hm).mono ?_
    rintro e w' ⟨rv', rfl, k, hr⟩
    have e1 : outK id es = es.take i ++ es.drop (i + 1) := by unfold outK; rw [h1, if_neg (by omega)]; simp
    exact ⟨rv', rfl, k, ⟨_, by rw [e1]; exact hr⟩, fun g hg => Or.inr (hr.row.lt g hg).1⟩
/-- The row's length, as a box of a cache has it. -/
def rowLen (p : Nat) (w : World) : Nat := match w.cell? ⟨p, 0, none⟩ with
  | some (.slice _ n _) => n
  | _ => 0
theorem rowLen_at {W : World} {p n c : Nat} {a : Option Addr} {lim : Value} (h : W.heap[p]? = some (.cells #[.slice a n c, lim] 29 (0, 0))) : rowLen p W = n := by
  unfold rowLen
  rw [show W.cell? ⟨p, 0, none⟩ = some (.slice a n c) from by rw [cell_of_row _ _ 0 _ _ _ h]; rfl]
end Go.Proofs.YtmkdjonlfkfnlaaDoor


/- The reference's cache: a row copied, and one more behind it, in whichever order both are made. -/
namespace Go.Proofs.YtmkdjonlfkfnlaaDoor
open Go.RowKit Go.Lib Go.Maps

set_option maxRecDepth 100000 in
theorem build_ke' (xa : Option Addr) (xn xc : Nat) (b0 b1 b2 b3 b4 b5 b6 b7 b8 b9 b10 b11 b12 b13 b14 b15 b16 b17 b18 b19 b20 b21 b22 b23 b24 b25 b26 b27 b28 b29 b30 b31 : UInt8) (W : World) : (Instr.build 48 #[(0, .agg ([b0, b1, b2, b3, b4, b5, b6, b7, b8, b9, b10, b11, b12, b13, b14, b15, b16, b17, b18, b19, b20, b21, b22, b23, b24, b25, b26, b27, b28, b29, b30, b31].map B).toArray), (1, .slice xa xn xc)]).run Tryd.prog W = .ok (.agg ([b0, b1, b2, b3, b4, b5, b6, b7, b8, b9, b10, b11, b12, b13, b14, b15, b16, b17, b18, b19, b20, b21, b22, b23, b24, b25, b26, b27, b28, b29, b30, b31].map B ++ [Value.slice xa xn xc]).toArray) W := run_build W _ _ _ (by kernel_rfl)
theorem build_ke (id : List UInt8) (h : id.length = 32) (xa : Option Addr) (xn xc : Nat) (W : World) : (Instr.build 48 #[(0, .agg (id.map B).toArray), (1, .slice xa xn xc)]).run Tryd.prog W = .ok (.agg (id.map B ++ [Value.slice xa xn xc]).toArray) W := by
  match id, h with
  | [b0, b1, b2, b3, b4, b5, b6, b7, b8, b9, b10, b11, b12, b13, b14, b15, b16, b17, b18, b19, b20, b21, b22, b23, b24, b25, b26, b27, b28, b29, b30, b31], _ => exact build_ke' xa xn xc b0 b1 b2 b3 b4 b5 b6 b7 b8 b9 b10 b11 b12 b13 b14 b15 b16 b17 b18 b19 b20 b21 b22 b23 b24 b25 b26 b27 b28 b29 b30 b31 W
set_option maxRecDepth 100000 in
theorem bs_ke' (xa : Option Addr) (xn xc : Nat) (b0 b1 b2 b3 b4 b5 b6 b7 b8 b9 b10 b11 b12 b13 b14 b15 b16 b17 b18 b19 b20 b21 b22 b23 b24 b25 b26 b27 b28 b29 b30 b31 : UInt8) (W : World) : (Instr.buildSlice 27 1 #[(0, .agg ([b0, b1, b2, b3, b4, b5, b6, b7, b8, b9, b10, b11, b12, b13, b14, b15, b16, b17, b18, b19, b20, b21, b22, b23, b24, b25, b26, b27, b28, b29, b30, b31].map B ++ [Value.slice xa xn xc]).toArray)]).run Tryd.prog W = .ok (.slice (some ⟨W.heap.size, 0, none⟩) 1 1) (W.alloc (.cells ([b0, b1, b2, b3, b4, b5, b6, b7, b8, b9, b10, b11, b12, b13, b14, b15, b16, b17, b18, b19, b20, b21, b22, b23, b24, b25, b26, b27, b28, b29, b30, b31].map B ++ [Value.slice xa xn xc]).toArray 48)) := by kernel_rfl
theorem bs_ke (e : KE) (h : e.id.length = 32) (hv : ∃ a n c, e.v = .slice a n c) (W : World) : (Instr.buildSlice 27 1 #[(0, .agg (kE e).toArray)]).run Tryd.prog W = .ok (.slice (some ⟨W.heap.size, 0, none⟩) 1 1) (W.alloc (.cells (kE e).toArray 48)) := by
  obtain ⟨id, v, bs⟩ := e
  obtain ⟨xa, xn, xc, rfl⟩ := hv
  unfold kE
  rw [e32_of h]
  match id, h with
  | [b0, b1, b2, b3, b4, b5, b6, b7, b8, b9, b10, b11, b12, b13, b14, b15, b16, b17, b18, b19, b20, b21, b22, b23, b24, b25, b26, b27, b28, b29, b30, b31], _ => exact bs_ke' xa xn xc b0 b1 b2 b3 b4 b5 b6 b7 b8 b9 b10 b11 b12 b13 b14 b15 b16 b17 b18 b19 b20 b21 b22 b23 b24 b25 b26 b27 b28 b29 b30 b31 W
theorem kE_of {e : KE} (h : e.id.length = 32) : kE e = e.id.map B ++ [e.v] := by unfold kE; rw [e32_of h]
theorem k_gset {L : List Bool} {i : Nat} (h : i < L.length) (j : Nat) : (L.set i true).getD j false = (decide (j = i) || L.getD j false) := by
  by_cases e : j = i
  · subst e; simp [h]
  · simp [List.getElem?_set, Ne.symm e, e]
theorem ke_src {W : World} {base : Nat} {a : Option Addr} {n c : Nat} {xs : List Value} (h : W.ownsRow base 48 33 (.slice a n c) n xs) (hx : xs.length = n * 33) : Src W (.slice a n c) n xs := by
  rcases h.2 with ⟨h1, h2⟩ | ⟨g, cap, cur, hv, _⟩
  · exact Or.inl ⟨h1, h2, List.eq_nil_of_length_eq_zero (by rw [hx, h2])⟩
  · simp at hv
    obtain ⟨rfl, rfl⟩ := hv
    exact Or.inr ⟨_, _, rfl, h.cells (g := g) rfl⟩
theorem ke_one_src {W : World} {g : Nat} {e : KE} (h : W.heap[g]? = some (.cells (kE e).toArray 48 (0, 0))) : Src W (.slice (some ⟨g, 0, none⟩) 1 1) 1 (kE e) :=
  Or.inr ⟨_, _, rfl, k_cells_of h⟩
/-- What holds as the parts of a longer row come up: b0 an empty row, b1 the copy, b2 the one more, b3 both. -/
def InvB (w : World) (es : List KE) (ne : KE) (b0 b1 b2 b3 : Bool) (vs : List Value) (v : World) : Prop :=
  ∃ v0 v1 v2 v3, vs = [v0, v1, v2, v3] ∧ Kept [] w v ∧
   (b0 = true → b1 = false → v.ownsRow w.heap.size 48 33 v0 0 []) ∧
   (b1 = true → b3 = false → v.ownsRow w.heap.size 48 33 v1 es.length (kC es)) ∧
   (b2 = true → b3 = false → ∃ g, v2 = .slice (some ⟨g, 0, none⟩) 1 1 ∧ w.heap.size ≤ g ∧ v.heap[g]? = some (.cells (kE ne).toArray 48 (0, 0)) ∧ (b0 = true → b1 = false → v0.ownBlock ≠ some g) ∧ (b1 = true → v1.ownBlock ≠ some g)) ∧
   (b3 = true → v.ownsRow w.heap.size 48 33 v3 (es.length + 1) (kC (es ++ [ne])))
theorem InvB.start (w : World) (es : List KE) (ne : KE) (v : World) (h : Kept [] w v) : InvB w es ne false false false false [undef, undef, undef, undef] v :=
  ⟨_, _, _, _, rfl, h, by simp, by simp, by simp, by simp⟩
theorem InvB.s0 {w v : World} {es : List KE} {ne : KE} {b2 : Bool} {v0 v1 v2 v3 : Value} (h : InvB w es ne false false b2 false [v0, v1, v2, v3] v) :
    InvB w es ne true false b2 false [.slice (some ⟨v.heap.size, 0, none⟩) 0 0, v1, v2, v3] (v.alloc (.cells #[] 48)) := by
  obtain ⟨u0, u1, u2, u3, he, hk, h0, h1, h2, h3⟩ := h
  simp at he
  obtain ⟨rfl, rfl, rfl, rfl⟩ := he
  refine ⟨_, _, _, _, rfl, hk.alloc _, fun _ _ => ⟨by simp, Or.inr ⟨v.heap.size, 0, #[], rfl, hk.size, heap_alloc_at rfl, by simp, by unfold maxLen; omega, by simp, by simp⟩⟩, by simp, fun q _ => ?_, by simp⟩
  obtain ⟨g, e, hg, hc, _, _⟩ := h2 q rfl
  refine ⟨g, e, hg, heap_alloc_old hc, fun _ _ hh => ?_, by simp⟩
  simp [Value.ownBlock] at hh
  have := lt_of_block hc
  omega
theorem InvB.s2 {w v : World} {es : List KE} {ne : KE} {b0 b1 : Bool} {v0 v1 v2 v3 : Value} (h : InvB w es ne b0 b1 false false [v0, v1, v2, v3] v) :
    InvB w es ne b0 b1 true false [v0, v1, .slice (some ⟨v.heap.size, 0, none⟩) 1 1, v3] (v.alloc (.cells (kE ne).toArray 48)) := by
  obtain ⟨u0, u1, u2, u3, he, hk, h0, h1, h2, h3⟩ := h
  simp at he
  obtain ⟨rfl, rfl, rfl, rfl⟩ := he
  have ka : Kept [] v (v.alloc (.cells (kE ne).toArray 48)) := (Kept.refl [] v).alloc _
  refine ⟨_, _, _, _, rfl, hk.alloc _, fun q r => ka.owns (h0 q r) (by simp), fun q r => ka.owns (h1 q r) (by simp), fun _ _ => ⟨_, rfl, hk.size, heap_alloc_at rfl, fun q r hh => ?_, fun q hh => ?_⟩, by simp⟩
  · have := ((h0 q r).lt _ hh).2; omega
  · have := ((h1 q rfl).lt _ hh).2; omega
theorem InvB.s1 {w v w' : World} {es : List KE} {ne : KE} {b2 : Bool} {v0 v1 v2 v3 v' : Value} (h : InvB w es ne true false b2 false [v0, v1, v2, v3] v)
    (ho : w'.ownsRow w.heap.size 48 33 v' es.length (kC es)) (hg : v.grownBy w' v0.ownBlock) (hf : ∀ g, v'.ownBlock = some g → v0.ownBlock = some g ∨ v.heap.size ≤ g) :
    InvB w es ne true true b2 false [v0, v', v2, v3] w' := by
  obtain ⟨u0, u1, u2, u3, he, hk, h0, h1, h2, h3⟩ := h
  simp at he
  obtain ⟨rfl, rfl, rfl, rfl⟩ := he
  have hr := h0 rfl rfl
  have kg : Kept v0.ownBlock.toList v w' := Kept.of_row hg
  refine ⟨_, _, _, _, rfl, hk.trans' kg (fun x hx hm => ?_), by simp, fun _ _ => ho, fun q _ => ?_, by simp⟩
  · exfalso
    have hm' : v0.ownBlock = some x := by simpa using hm
    have := (hr.lt x hm').1
    omega
  · obtain ⟨g, e, hg1, hc, hd, _⟩ := h2 q rfl
    refine ⟨g, e, hg1, kg.at hc (fun hm => hd rfl rfl (by simpa using hm)), by simp, fun _ hh => ?_⟩
    rcases hf g hh with h4 | h4
    · exact hd rfl rfl h4
    · have := lt_of_block hc; omega
theorem InvB.s3 {w v w' : World} {es : List KE} {ne : KE} {v0 v1 v2 v3 v' : Value} (h : InvB w es ne true true true false [v0, v1, v2, v3] v)
    (ho : w'.ownsRow w.heap.size 48 33 v' (es.length + 1) (kC es ++ kE ne)) (hg : v.grownBy w' v1.ownBlock) :
    InvB w es ne true true true true [v0, v1, v2, v'] w' := by
  obtain ⟨u0, u1, u2, u3, he, hk, h0, h1, h2, h3⟩ := h
  simp at he
  obtain ⟨rfl, rfl, rfl, rfl⟩ := he
  have hr := h1 rfl rfl
  have kg : Kept v1.ownBlock.toList v w' := Kept.of_row hg
  refine ⟨_, _, _, _, rfl, hk.trans' kg (fun x hx hm => ?_), by simp, by simp, by simp, fun _ => ?_⟩
  · exfalso
    have hm' : v1.ownBlock = some x := by simpa using hm
    have := (hr.lt x hm').1
    omega
  · have e : kC (es ++ [ne]) = kC es ++ kE ne := by unfold kC; rw [List.flatMap_append]; simp
    rw [e]; exact ho
theorem InvB.keptD {w v : World} {es : List KE} {ne : KE} {b0 b1 b2 b3 : Bool} {vs : List Value} (h : InvB w es ne b0 b1 b2 b3 vs v) : Kept [] w v := by
  obtain ⟨_, _, _, _, _, hk, _⟩ := h
  exact hk
theorem InvB.four {w v : World} {es : List KE} {ne : KE} {b0 b1 b2 b3 : Bool} {vs : List Value} (h : InvB w es ne b0 b1 b2 b3 vs v) : ∃ v0 v1 v2 v3, vs = [v0, v1, v2, v3] := by
  obtain ⟨v0, v1, v2, v3, e, _⟩ := h
  exact ⟨v0, v1, v2, v3, e⟩
theorem InvB.row0 {w v : World} {es : List KE} {ne : KE} {b2 b3 : Bool} {v0 v1 v2 v3 : Value} (h : InvB w es ne true false b2 b3 [v0, v1, v2, v3] v) : v.ownsRow w.heap.size 48 33 v0 0 [] := by
  obtain ⟨u0, u1, u2, u3, he, _, h0, _⟩ := h
  simp at he
  obtain ⟨rfl, rfl, rfl, rfl⟩ := he
  exact h0 rfl rfl
theorem InvB.row1 {w v : World} {es : List KE} {ne : KE} {b0 b2 : Bool} {v0 v1 v2 v3 : Value} (h : InvB w es ne b0 true b2 false [v0, v1, v2, v3] v) : v.ownsRow w.heap.size 48 33 v1 es.length (kC es) := by
  obtain ⟨u0, u1, u2, u3, he, _, _, h1, _⟩ := h
  simp at he
  obtain ⟨rfl, rfl, rfl, rfl⟩ := he
  exact h1 rfl rfl
theorem InvB.one2 {w v : World} {es : List KE} {ne : KE} {b0 b1 : Bool} {v0 v1 v2 v3 : Value} (h : InvB w es ne b0 b1 true false [v0, v1, v2, v3] v) : ∃ g, v2 = .slice (some ⟨g, 0, none⟩) 1 1 ∧ v.heap[g]? = some (.cells (kE ne).toArray 48 (0, 0)) := by
  obtain ⟨u0, u1, u2, u3, he, _, _, _, h2, _⟩ := h
  simp at he
  obtain ⟨rfl, rfl, rfl, rfl⟩ := he
  obtain ⟨g, e, _, hc, _⟩ := h2 rfl rfl
  exact ⟨g, e, hc⟩
theorem InvB.row3 {w v : World} {es : List KE} {ne : KE} {b0 b1 b2 : Bool} {v0 v1 v2 v3 : Value} (h : InvB w es ne b0 b1 b2 true [v0, v1, v2, v3] v) : v.ownsRow w.heap.size 48 33 v3 (es.length + 1) (kC (es ++ [ne])) := by
  obtain ⟨u0, u1, u2, u3, he, _, _, _, _, h3⟩ := h
  simp at he
  obtain ⟨rfl, rfl, rfl, rfl⟩ := he
  exact h3 rfl
end Go.Proofs.YtmkdjonlfkfnlaaDoor


/- The reference's cache: Put. -/
namespace Go.Proofs.YtmkdjonlfkfnlaaDoor
open Go.RowKit Go.Lib Go.Maps

/-- The reference's row without the first ones. -/
theorem evict_drop (lim : Int) (k : Nat) (es : List KE) (n : Nat) (h : evict lim k (datE (es.drop n)) = evict lim k (datE es)) (hn : n < es.length) (hc : lim - (k : Int) < (szD (datE (es.drop n)) : Int)) :
    evict lim k (datE (es.drop (n + 1))) = evict lim k (datE es) := by
  rw [← h]
  have e1 : es.drop n = es[n] :: es.drop (n + 1) := by rw [List.drop_eq_getElem_cons hn]
  rw [e1] at hc ⊢
  have e2 : datE (es[n] :: es.drop (n + 1)) = (es[n].id, es[n].b) :: datE (es.drop (n + 1)) := rfl
  rw [e2] at hc ⊢
  rw [show evict lim k ((es[n].id, es[n].b) :: datE (es.drop (n + 1))) = if lim - (k : Int) < (szD ((es[n].id, es[n].b) :: datE (es.drop (n + 1))) : Int) then evict lim k (datE (es.drop (n + 1))) else (es[n].id, es[n].b) :: datE (es.drop (n + 1)) from by rw [evict], if_pos hc]
theorem evict_stay (lim : Int) (k : Nat) (l : List (List UInt8 × List UInt8)) (hc : ¬ lim - (k : Int) < (szD l : Int)) : evict lim k l = l := by
  cases l with
  | nil => rfl
  | cons e r => rw [evict, if_neg hc]
theorem sz_drop_le (es : List KE) (n : Nat) : szD (datE (es.drop n)) ≤ szD (datE es) := by rw [szE_split es n]; omega
section
variable {P : Program} {md : Region.Mode} {Q : Exit → Act → World → Prop} {S : World → Prop} {l rest rest' : List Oper} {oi oj : Oper} {fuel : Nat} {listed : Array Bool} {a : Act} {w : World}
/-- A whole row stored, now. -/
theorem k_storeH (i : Nat) (hi : l.drop i = oi :: rest) (hr : Region.ready md l.toArray listed = [i]) (hg0 : oi.guard = none) (ty : TypeId) (x y : Operand) (ho : oi.op = .store ty x y)
    (g : Nat) (cells cur : List Value) (hx : a.eval x = .pointer (some ⟨g, 0, none⟩)) (hy : a.eval y = .agg cells.toArray) (t : TypeId) (hg : w.heap[g]? = some (.cells cur.toArray t (0, 0))) (hinf : (P.info? ty).map (·.size) = some cells.length)
    (hfit : cur.length = cells.length) (h1 : ∀ v ∈ cells, v.oneCell' = true) (hS : S (w.setRow g cells.toArray)) (h : wpAnyH P md l.toArray Q S fuel (listed.setIfInBounds i true) (a.put oi.dst undef) (w.setRow g cells.toArray)) : wpAnyH P md l.toArray Q S (fuel + 1) listed a w := by
  refine wpAnyH_ready hr (by simp) (AllReadyH.cons (getL_of_drop hi) (fun K hK => ?_) AllReadyH.nil)
  refine step_store_at hg0 ty x y ho g 0 cells hx hy t cur hg hinf (by omega) h1 ?_
  rw [splice_all cur cells hfit]
  exact hK.out _ _ hS (fun _ => h)
/-- Two rows stored, in whichever order. -/
theorem k_store2 (i j : Nat) (hij : i ≠ j) (hi : l.drop i = oi :: rest) (hj : l.drop j = oj :: rest') (hr : Region.ready md l.toArray listed = [i, j]) (hr1 : Region.ready md l.toArray (listed.setIfInBounds i true) = [j]) (hr2 : Region.ready md l.toArray (listed.setIfInBounds j true) = [i])
    (hgi : oi.guard = none) (ty : TypeId) (x y : Operand) (ho : oi.op = .store ty x y) (hgj : oj.guard = none) (ty' : TypeId) (x' y' : Operand) (ho' : oj.op = .store ty' x' y') (hdi : oi.dst = none) (hdj : oj.dst = none)
    (g : Nat) (cells cur : List Value) (hx : a.eval x = .pointer (some ⟨g, 0, none⟩)) (hy : a.eval y = .agg cells.toArray) (t : TypeId) (hg : w.heap[g]? = some (.cells cur.toArray t (0, 0))) (hinf : (P.info? ty).map (·.size) = some cells.length) (hfit : cur.length = cells.length) (h1 : ∀ v ∈ cells, v.oneCell' = true)
    (g' : Nat) (cells' cur' : List Value) (hx' : a.eval x' = .pointer (some ⟨g', 0, none⟩)) (hy' : a.eval y' = .agg cells'.toArray) (t' : TypeId) (hg' : w.heap[g']? = some (.cells cur'.toArray t' (0, 0))) (hinf' : (P.info? ty').map (·.size) = some cells'.length) (hfit' : cur'.length = cells'.length) (h1' : ∀ v ∈ cells', v.oneCell' = true)
    (hgg : g ≠ g') (hS : ∀ v, S v)
    (h : ∀ v, Kept [g, g'] w v → v.heap[g]? = some (.cells cells.toArray t (0, 0)) → v.heap[g']? = some (.cells cells'.toArray t' (0, 0)) → wpAnyH P md l.toArray Q S fuel ((listed.setIfInBounds i true).setIfInBounds j true) a v) : wpAnyH P md l.toArray Q S (fuel + 1 + 1) listed a w := by
  have hp : ∀ (v : Value), a.put none v = a := fun _ => rfl
  refine wpAnyH_ready hr (by simp) (AllReadyH.cons (getL_of_drop hi) (fun K hK => ?_) (AllReadyH.cons (getL_of_drop hj) (fun K hK => ?_) AllReadyH.nil))
  · refine step_store_at hgi ty x y ho g 0 cells hx hy t cur hg hinf (by omega) h1 ?_
    rw [splice_all cur cells hfit]
    refine hK.out _ _ (hS _) (fun _ => ?_)
    rw [hdi, hp]
    have k1 : Kept [g] w (w.setRow g cells.toArray) := (Kept.refl _ _).setRow (fun _ => by simp) _
    refine k_storeH j hj hr1 hgj ty' x' y' ho' g' cells' cur' hx' hy' t' (k1.at hg' (by simpa using hgg.symm)) hinf' hfit' h1' (hS _) ?_
    rw [hdj, hp]
    have k2 : Kept [g'] (w.setRow g cells.toArray) ((w.setRow g cells.toArray).setRow g' cells'.toArray) := (Kept.refl _ _).setRow (fun _ => by simp) _
    exact h _ ((k1.wider (fun x _ hx => by simp at hx; simp [hx])).trans (k2.wider (fun x _ hx => by simp at hx; simp [hx]))) (k2.at (setRow_heap _ _ _ _ _ _ hg) (by simpa using hgg)) (setRow_heap _ _ _ _ _ _ (k1.at hg' (by simpa using hgg.symm)))
  · refine step_store_at hgj ty' x' y' ho' g' 0 cells' hx' hy' t' cur' hg' hinf' (by omega) h1' ?_
    rw [splice_all cur' cells' hfit']
    refine hK.out _ _ (hS _) (fun _ => ?_)
    rw [hdj, hp]
    have k1 : Kept [g'] w (w.setRow g' cells'.toArray) := (Kept.refl _ _).setRow (fun _ => by simp) _
    refine k_storeH i hi hr2 hgi ty x y ho g cells cur hx hy t (k1.at hg (by simpa using hgg)) hinf hfit h1 (hS _) ?_
    rw [hdi, hp, Array.setIfInBounds_comm _ _ (Ne.symm hij)]
    have k2 : Kept [g] (w.setRow g' cells'.toArray) ((w.setRow g' cells'.toArray).setRow g cells.toArray) := (Kept.refl _ _).setRow (fun _ => by simp) _
    exact h _ ((k1.wider (fun x _ hx => by simp at hx; simp [hx])).trans (k2.wider (fun x _ hx => by simp at hx; simp [hx]))) (setRow_heap _ _ _ _ _ _ (k1.at hg (by simpa using hgg))) (k2.at (setRow_heap _ _ _ _ _ _ hg') (by simpa using hgg.symm))
end
theorem k_results2 {P : Program} {fn : Func} {tmps : Array Value} {w : World} {k l T U : Nat} {x y : Addr} {v z : Value} (hr : fn.results = #[.cell k T, .cell l U]) (ht : tmps[k]?.getD undef = .pointer (some x)) (hs : tmps[l]?.getD undef = .pointer (some y)) (hl : (loadVar T x).run P w = .ok v w) (hm : (loadVar U y).run P w = .ok z w) : (results fn tmps).run P w = .ok (.tuple #[v, z]) w := by
  unfold results
  rw [hr]
  simp [Sem.run_bind, ht, hs, asAddr, hl, hm]
theorem k_results3 {P : Program} {fn : Func} {tmps : Array Value} {w : World} {k i j T : Nat} {x : Addr} {v u t : Value} (hr : fn.results = #[.cell k T, .tmp i, .tmp j]) (ht : tmps[k]?.getD undef = .pointer (some x)) (hu : tmps[i]?.getD undef = u) (htj : tmps[j]?.getD undef = t) (hl : (loadVar T x).run P w = .ok v w) : (results fn tmps).run P w = .ok (.tuple #[v, u, t]) w := by
  unfold results
  rw [hr]
  simp [Sem.run_bind, ht, hu, htj, asAddr, hl]
/-- Where Put stands: its boxes, and the row. -/
structure PutS (w W : World) (q : Nat) (iv zv : Array Value) (lim : Int) (rv0 : Value) (es0 : List KE) (rv : Value) (es : List KE) : Prop where
  nx : Nx w W rv0 rv es
  bx : W.heap[w.heap.size]? = some (.cells [rv, .int .i64 lim].toArray 29 (0, 0))
  b1 : W.heap[w.heap.size + 1]? = some (.cells [.slice none 0 0, .int .i64 0].toArray 29 (0, 0))
  b2 : W.heap[w.heap.size + 2]? = some (.cells zv 34 (0, 0))
  bq : W.heap[q]? = some (.cells iv 34 (0, 0))
  qa : w.heap.size + 3 ≤ q
  rb : ∀ g, rv.ownBlock = some g → g ≠ w.heap.size ∧ g ≠ w.heap.size + 1 ∧ g ≠ w.heap.size + 2 ∧ g ≠ q
  ev : ∀ f ∈ es, f ∈ es0
  lo : ∀ f ∈ es0, f.b ≠ [] → ∀ g, f.v.ownBlock = some g → g < w.heap.size
theorem PutS.keep {w W W' : World} {q : Nat} {iv zv : Array Value} {lim : Int} {rv0 rv : Value} {es0 es : List KE} (h : PutS w W q iv zv lim rv0 es0 rv es) (hk : Kept [] W W') : PutS w W' q iv zv lim rv0 es0 rv es := by
  obtain ⟨⟨n1, ⟨b, n2⟩, n3⟩, h1, h2, h3, h4, h5, h6, h7, h8⟩ := h
  exact ⟨⟨n1.trans hk, ⟨b, n2.keep hk⟩, n3⟩, hk.at h1 (by simp), hk.at h2 (by simp), hk.at h3 (by simp), hk.at h4 (by simp), h5, h6, h7, h8⟩
/-- The row turned, and its box written. -/
theorem PutS.turn {w W W' V : World} {q : Nat} {iv zv : Array Value} {lim : Int} {rv0 rv rv' : Value} {es0 es es' : List KE} (h : PutS w W q iv zv lim rv0 es0 rv es) (hn : Nx W W' rv rv' es') (he : ∀ f ∈ es', f ∈ es0)
    (k1 : Kept [w.heap.size] W' V) (hv : V.heap[w.heap.size]? = some (.cells [rv', .int .i64 lim].toArray 29 (0, 0))) :
    PutS w V q iv zv lim rv0 es0 rv' es' := by
  have hs := lt_of_block h.bx
  have hsq := lt_of_block h.bq
  have hs2 := lt_of_block h.b2
  have h' := h.keep hn.kept
  have hrb : ∀ g, rv'.ownBlock = some g → g ≠ w.heap.size ∧ g ≠ w.heap.size + 1 ∧ g ≠ w.heap.size + 2 ∧ g ≠ q := fun g hg => by
    rcases hn.own g hg with h1 | h1
    · exact h.rb g h1
    · omega
  refine ⟨⟨h'.nx.kept.trans' k1 (fun x hx hm => by simp at hm; omega), ?_, fun g hg => ?_⟩, hv, k1.at h'.b1 (by simp), k1.at h'.b2 (by simp), k1.at h'.bq (by have := h.qa; simp; omega), h.qa, hrb, he, h.lo⟩
  · obtain ⟨b, hr⟩ := hn.rk
    exact ⟨b, hr.kept k1 (fun g hg hm => by simp at hm; exact (hrb g hg).1 hm) (fun f hf hne g hg hm => by simp at hm; have := h.lo f (he f hf) hne g hg; omega)⟩
  · rcases hn.own g hg with h1 | h1
    · exact h.nx.own g h1
    · have := h.nx.kept.size; right; omega
/-- Behind the stores of both results. -/
theorem PutS.fin {w W V : World} {q : Nat} {iv zv : Array Value} {lim : Int} {rv0 rv : Value} {es0 es : List KE} (h : PutS w W q iv zv lim rv0 es0 rv es) (hk : Kept [w.heap.size + 1, w.heap.size + 2] W V) : Nx w V rv0 rv es := by
  obtain ⟨b, hr⟩ := h.nx.rk
  exact ⟨h.nx.kept.trans' hk (fun x hx hm => by simp at hm; omega), ⟨b, hr.kept hk (fun g hg hm => by simp at hm; have := h.rb g hg; omega) (fun f hf hne g hg hm => by simp at hm; have := h.lo f (h.ev f hf) hne g hg; omega)⟩, h.nx.own⟩
/-- What holds as the parts of `without what is found` come up. -/
def Inv2 (w3 : World) (iv : Array Value) (lim : Int) (rv : Value) (id : List UInt8) (es : List KE) (b0 b1 b2 b3 b4 : Bool) (vs : List Value) (v : World) : Prop :=
  ∃ v9 v10 v11 v12 v13, vs = [v9, v10, v11, v12, v13] ∧ (b0 = true → v9 = rK rv lim) ∧ (b1 = true → v10 = rK rv lim) ∧ (b2 = true → v11 = .agg iv) ∧ (b3 = true → v12 = .int .i64 (atK id es)) ∧
    (b4 = false → Kept [] w3 v) ∧ (b4 = true → ∃ rv', v13 = rK rv' lim ∧ Nx w3 v rv rv' (outK id es))
def Inv2L (w3 : World) (iv : Array Value) (lim : Int) (rv : Value) (id : List UInt8) (es : List KE) (L : List Bool) (vs : List Value) (v : World) : Prop :=
  Inv2 w3 iv lim rv id es (L.getD 0 false) (L.getD 1 false) (L.getD 2 false) (L.getD 3 false) (L.getD 4 false) vs v
/-- What holds as a longer row's parts come up in Put. -/
def Inv7 (w : World) (es : List KE) (ne : KE) (row idv : Value) (L : List Bool) (vs : List Value) (v : World) : Prop :=
  ∃ v31 v33 v34 v35 v37 v38 v39, vs = [v31, v33, v34, v35, v37, v38, v39] ∧ InvB w es ne (L.getD 0 false) (L.getD 3 false) (L.getD 7 false) (L.getD 8 false) [v31, v34, v38, v39] v ∧ (L.getD 2 false = true → v33 = row) ∧ (L.getD 4 false = true → v35 = idv) ∧ (L.getD 6 false = true → v37 = .agg (kE ne).toArray)
set_option maxRecDepth 100000 in
set_option maxHeartbeats 8000000 in
theorem rk_put {w : World} {base : Nat} {rv : Value} {es : List KE} {lim : Int} (h : Rk w base rv es) (hnd : (es.map (·.id)).Nodup) (hm : es.length ≤ 1000) (hz : szD (datE es) ≤ 1000000) (hl0 : 0 ≤ lim) (hl1 : lim ≤ 9223372036854775807)
    (a : Option Addr) (c : Nat) (ys : List UInt8) (hs : SrcB w (.slice a ys.length c) ys) (hy : ys.length ≤ 1000000) :
    Calls Tryd.prog 9 #[rK rv lim, .slice a ys.length c] w fun e w' => ∃ rv' es', e = .returned (.tuple #[rK rv' lim, .agg ((Sha.sum ys).map B).toArray]) ∧ Nx w w' rv rv' es' ∧ datE es' = putD lim (datE es) ys ∧ ∀ f ∈ es', f ∈ es ∨ f.v = .slice a ys.length c := by
  obtain ⟨ra, rc, rfl⟩ := h.slice
  obtain ⟨hrd, hnc⟩ := reads_srcb hs
  obtain ⟨id, hid0⟩ : ∃ id, id = Sha.sum ys := ⟨_, rfl⟩
  have L32 := hid (show id.length = 32 from by rw [hid0]; exact Sha.sum_len _)
  have HID := hid hid0
  obtain ⟨iv, hiv⟩ : ∃ iv, iv = (id.map B).toArray := ⟨_, rfl⟩
  have HIV := hid hiv
  have hsz0 : iv.size = 32 := by rw [hiv]; simp [L32.out]
  have Hsz := hid (show (Tryd.prog.info? 34).map (·.size) = some iv.size by rw [hsz0]; kernel_rfl)
  have Hone := hid (show iv.all (·.oneCell') = true by rw [hiv]; exact id_one id)
  have Hol := hid (show ∀ v ∈ iv.toList, v.oneCell' = true by rw [hiv]; intro v hv; simp at hv; obtain ⟨b, _, rfl⟩ := hv; rfl)
  obtain ⟨zv, hzv⟩ : ∃ zv, zv = (idz.map B).toArray := ⟨_, rfl⟩
  have Hold := hid (show zv.size = iv.size by rw [hsz0, hzv]; simp [idz])
  have hzz : ∀ W, (zeroValue 34).run Tryd.prog W = .ok (.agg zv) W := by rw [hzv]; exact zero_idN
  obtain ⟨n, hn⟩ : ∃ n, n = es.length := ⟨_, rfl⟩
  obtain ⟨k, hk0⟩ : ∃ k, k = ys.length := ⟨_, rfl⟩
  have HN := hid hn; have HK0 := hid hk0
  obtain ⟨ne, hne⟩ : ∃ ne : KE, ne = ⟨id, .slice a ys.length c, ys⟩ := ⟨_, rfl⟩
  have HLO := hid (show ∀ f ∈ es ++ [ne], f.b ≠ [] → ∀ g, f.v.ownBlock = some g → g < w.heap.size from fun f hf hb g hg => by
    rcases List.mem_append.1 hf with h1 | h1
    · exact h.lt f h1 hb g hg
    · simp at h1
      subst h1
      rw [hne] at hb hg
      exact src_lt hs hb g hg)
  have H := hid h; have HS := hid hs; have HND := hid hnd; have HZ := hid hz; have HM := hid hm
  obtain ⟨W, hW⟩ : ∃ W, W = ((w.alloc (.cells #[.slice ra n rc, .int .i64 lim] 29)).alloc (.cells #[.slice none 0 0, .int .i64 0] 29)).alloc (.cells zv 34) := ⟨_, rfl⟩
  have HW := hid hW
  have hk := hid (show Kept [] w W from hW ▸ (((Kept.refl [] w).alloc _).alloc _).alloc _)
  have hb0 := hid (show W.heap[w.heap.size]? = some (.cells #[.slice ra n rc, .int .i64 lim] 29 (0, 0)) from hW ▸ heap_alloc_old (heap_alloc_old (heap_alloc_at rfl)))
  have hb1 := hid (show W.heap[w.heap.size + 1]? = some (.cells #[.slice none 0 0, .int .i64 0] 29 (0, 0)) from hW ▸ heap_alloc_old (heap_alloc_at (by simp)))
  have hb2 := hid (show W.heap[w.heap.size + 2]? = some (.cells zv 34 (0, 0)) from hW ▸ heap_alloc_at (by simp))
  have hsz := hid (show W.heap.size = w.heap.size + 3 from by rw [hW]; simp)
  have hof := hid (refof_sum a c ys W (hrd.kept hk.out (fun _ _ _ => by simp)) hnc hy)
  rw [← hid0, ← hiv, ← hk0] at hof
  rw [← hid0, ← hk0, ← hiv]
  rw [← hk0] at hne
  have HNE := hid hne
  have hkk : k ≤ 1000000 := by omega
  rw [← hn]
  clear hW hid0 hiv hrd hs h hn hk0 hzv hsz0 hnd hz hm hy hne
  unfold rK
  go_enter Tryd.func9, Tryd.ntmps9
  go_wp2_with fail
  rw [← HW.out]
  refine hof.out.mono ?_
  rintro e w2 ⟨rfl, k2⟩
  obtain ⟨q, hq⟩ : ∃ q, q = w2.heap.size := ⟨_, rfl⟩
  obtain ⟨wb, hwb⟩ : ∃ wb, wb = w2.alloc (.cells zv 34) := ⟨_, rfl⟩
  have HQB := hid (show wb.heap[q]? = some (.cells zv 34 (0, 0)) from by rw [hwb, hq]; exact heap_alloc_at rfl)
  obtain ⟨w3, hw3⟩ : ∃ w3, w3 = wb.setRow q iv := ⟨_, rfl⟩
  have k3 : Kept [] W w3 := by
    rw [hw3, hwb, hq]
    exact (k2.trans ((Kept.refl [] w2).alloc _)).setRow (fun h => absurd h (by have := k2.size; omega)) _
  have P3 := hid (show PutS w w3 q iv zv lim (.slice ra n rc) (es ++ [ne]) (.slice ra n rc) es from by
    have hkw := hk.out.trans k3
    refine ⟨⟨hkw, ⟨base, by rw [HN.out]; exact H.out.keep hkw⟩, fun g hg => Or.inl hg⟩, k3.at hb0.out (by simp), k3.at hb1.out (by simp), k3.at hb2.out (by simp), by rw [hw3]; exact setRow_heap _ _ _ _ _ _ HQB.out, by have := k2.size; have := hsz.out; omega, fun g hg => ?_, fun f hf => List.mem_append_left _ hf, HLO.out⟩
    have hrow := H.out.row
    rw [← HN.out] at hrow
    have h1 := (hrow.lt g hg).2
    have := k2.size; have := hsz.out
    omega)
  have HQ := hid hq; have HWB := hid hwb; have HW3 := hid hw3
  clear k2 k3 hof hq hwb hw3 hb0 hb1 hb2
  go_wp2_with (refine wpList_store_row rfl 34 (.tmp 6) (.tmp 8) rfl q iv (by rw [HQ.out]; rfl) rfl _ _ (by rw [← HWB.out]; exact HQB.out) Hsz.out Hold.out Hone.out ?_; refine halt ?_)
  refine Halt.mk ?_
  rw [← HWB.out, ← HW3.out, ← HQ.out]
  clear HWB HW3 HQB HW
  have hP := P3.out.keep (Kept.refl _ _).drew
  have hld := hid (fun v (hv : Kept [] w3 v) => rk_ld v w.heap.size (.slice ra n rc) lim (hv.at P3.out.bx (by simp)))
  have hlq := hid (fun v (hv : Kept [] w3 v) => (show (loadVar 34 ⟨q, 0, none⟩).run Tryd.prog v = .ok (.agg iv) v from by rw [HIV.out]; exact ld_idB v q id L32.out (by rw [← HIV.out]; exact hv.at P3.out.bq (by simp))))
  unfold rK at hld
  have hfd := hid (fun v (hv : Kept [] w3 v) => (show Calls Tryd.prog 25 #[.agg #[.slice ra n rc, .int .i64 lim], .agg iv] v fun e w' => e = .returned (.int .i64 (atK id es)) ∧ Kept [] v w' from by
    obtain ⟨b, hr⟩ := (P3.out.keep hv).nx.rk
    rw [HIV.out, HN.out]
    rw [HN.out] at hr
    exact rk_find lim hr (by have := HM.out; omega) id L32.out))
  have hot := hid (fun v (hv : Kept [] w3 v) => (show Calls Tryd.prog 24 #[.agg #[.slice ra n rc, .int .i64 lim], .int .i64 (atK id es)] v fun e w' => ∃ u, e = .returned u ∧ ∃ rv', u = rK rv' lim ∧ Nx v w' (.slice ra n rc) rv' (outK id es) from by
    obtain ⟨b, hr⟩ := (P3.out.keep hv).nx.rk
    refine (rk_out lim hr (by have := HM.out; omega) id).mono ?_
    rintro e w' ⟨rv', rfl, h⟩
    exact ⟨_, rfl, rv', rfl, h⟩))
  go_wp2_with fail
  refine wp_region_held_drew (S := fun _ => True) (by kernel_rfl) True.intro (fun _ => ?_)
  refine region_inv_at [true, true, true, true, true, false] [(0, [(4, false), (5, false)]), (1, [(3, false), (4, false), (5, false)]), (2, [(3, false), (4, false), (5, false)]), (3, [(1, true), (2, true), (4, false), (5, false)]), (4, [(0, true), (3, true), (4, false), (5, false)])] 8 [some 9, some 10, some 11, some 12, some 13] (Inv2L w3 iv lim (.slice ra n rc) id es) [false, false, false, false, false, false] [undef, undef, undef, undef, undef] rfl rfl rfl (by kernel_rfl) (by kernel_rfl) (fun L vs v hI => True.intro) (fun e he L hlen hdeps vs v hI => ?_) (fun vs v hI => ?_) ⟨_, _, _, _, _, rfl, by simp, by simp, by simp, by simp, fun _ => (Kept.refl _ _).drew, by simp⟩
  · obtain ⟨v9, v10, v11, v12, v13, rfl, i0, i1, i2, i3, iK, i4⟩ := hI
    simp only [putAll, Act.put, List.setIfInBounds_toArray, List.set_cons_succ, List.set_cons_zero]
    simp only [List.mem_cons, List.not_mem_nil, or_false] at he
    rcases he with rfl | rfl | rfl | rfl | rfl
    · have h4 : L.getD 4 false = false := hdeps (4, false) (by simp)
      have hv := iK h4
      have hl := hld.out v hv
      refine wpOp_run 0 rfl (by rfl) (.agg #[.slice ra n rc, .int .i64 lim]) v (by unfold execOp; simp [Instr.loadAt, Instr.sureAddr, Sem.run_bind, Sem.run_pure, Result.andThen_ok, Act.eval, hl]) ⟨[.agg #[.slice ra n rc, .int .i64 lim], v10, v11, v12, v13], by simp only [putAll, Act.put, List.setIfInBounds_toArray, List.set_cons_succ, List.set_cons_zero], ?_⟩
      unfold Inv2L
      simp only [k_gset hlen]
      exact ⟨_, _, _, _, _, rfl, fun _ => rfl, i1, i2, i3, fun _ => hv, i4⟩
    · have h4 : L.getD 4 false = false := hdeps (4, false) (by simp)
      have hv := iK h4
      have hl := hld.out v hv
      refine wpOp_run 1 rfl (by rfl) (.agg #[.slice ra n rc, .int .i64 lim]) v (by unfold execOp; simp [Instr.loadAt, Instr.sureAddr, Sem.run_bind, Sem.run_pure, Result.andThen_ok, Act.eval, hl]) ⟨[v9, .agg #[.slice ra n rc, .int .i64 lim], v11, v12, v13], by simp only [putAll, Act.put, List.setIfInBounds_toArray, List.set_cons_succ, List.set_cons_zero], ?_⟩
      unfold Inv2L
      simp only [k_gset hlen]
      exact ⟨_, _, _, _, _, rfl, i0, fun _ => rfl, i2, i3, fun _ => hv, i4⟩
    · have h4 : L.getD 4 false = false := hdeps (4, false) (by simp)
      have hv := iK h4
      have hl := hlq.out v hv
      refine wpOp_run 2 rfl (by rfl) (.agg iv) v (by unfold execOp; simp [Instr.loadAt, Instr.sureAddr, Sem.run_bind, Sem.run_pure, Result.andThen_ok, Act.eval, hl]) ⟨[v9, v10, .agg iv, v12, v13], by simp only [putAll, Act.put, List.setIfInBounds_toArray, List.set_cons_succ, List.set_cons_zero], ?_⟩
      unfold Inv2L
      simp only [k_gset hlen]
      exact ⟨_, _, _, _, _, rfl, i0, i1, fun _ => rfl, i3, fun _ => hv, i4⟩
    · have h4 : L.getD 4 false = false := hdeps (4, false) (by simp)
      have hv := iK h4
      obtain rfl := i1 (hdeps (1, true) (by simp))
      obtain rfl := i2 (hdeps (2, true) (by simp))
      refine wpOp_callE 3 rfl (by rfl) 25 #[.agg #[.slice ra n rc, .int .i64 lim], .agg iv] (by go_simp; rfl) (fun u w' => u = .int .i64 (atK id es) ∧ Kept [] v w') ((hfd.out v hv).mono fun e w' h => ⟨_, h.1, rfl, h.2⟩) ?_
      rintro u w' ⟨rfl, k⟩
      refine ⟨[v9, rK (.slice ra n rc) lim, .agg iv, .int .i64 (atK id es), v13], by simp only [putAll, Act.put, List.setIfInBounds_toArray, List.set_cons_succ, List.set_cons_zero], ?_⟩
      unfold Inv2L
      simp only [k_gset hlen]
      exact ⟨_, _, _, _, _, rfl, i0, fun _ => rfl, fun _ => rfl, fun _ => rfl, fun _ => hv.trans k, fun h => absurd h (by rw [show (decide (4 = 3) || L.getD 4 false) = L.getD 4 false from rfl, h4]; simp)⟩
    · have h4 : L.getD 4 false = false := hdeps (4, false) (by simp)
      have hv := iK h4
      obtain rfl := i0 (hdeps (0, true) (by simp))
      obtain rfl := i3 (hdeps (3, true) (by simp))
      refine wpOp_callE 4 rfl (by rfl) 24 #[.agg #[.slice ra n rc, .int .i64 lim], .int .i64 (atK id es)] (by go_simp; rfl) (fun u w' => ∃ rv', u = rK rv' lim ∧ Nx v w' (.slice ra n rc) rv' (outK id es)) (hot.out v hv) ?_
      rintro u w' ⟨rv', rfl, hn⟩
      refine ⟨[rK (.slice ra n rc) lim, v10, v11, .int .i64 (atK id es), rK rv' lim], by simp only [putAll, Act.put, List.setIfInBounds_toArray, List.set_cons_succ, List.set_cons_zero], ?_⟩
      unfold Inv2L
      simp only [k_gset hlen]
      exact ⟨_, _, _, _, _, rfl, fun _ => rfl, i1, i2, fun _ => rfl, fun h => absurd h (by simp), fun _ => ⟨rv', rfl, ⟨hv.trans hn.kept, hn.rk, fun g hg => by
        rcases hn.own g hg with h1 | h1
        · exact Or.inl h1
        · have := hv.size; right; omega⟩⟩⟩
  · obtain ⟨v9, v10, v11, v12, v13, rfl, i0, i1, i2, i3, iK, i4⟩ := hI
    obtain ⟨rv4, rfl, nx4⟩ := i4 rfl
    simp only [putAll, Act.put, List.setIfInBounds_toArray, List.set_cons_succ, List.set_cons_zero]
    obtain ⟨P5, hP5⟩ : ∃ V, V = v.setRow w.heap.size [rv4, .int .i64 lim].toArray := ⟨_, rfl⟩
    have PS5 := hid (show PutS w P5 q iv zv lim (.slice ra n rc) (es ++ [ne]) rv4 (outK id es) from by
      rw [hP5]
      exact P3.out.turn nx4 (fun f hf => List.mem_append_left _ (mem_out hf)) ((Kept.refl _ _).setRow (fun _ => by simp) _) (setRow_heap _ _ _ _ _ _ (nx4.kept.at P3.out.bx (by simp))))
    refine k_storeH 5 rfl (by kernel_rfl) rfl 29 (.tmp 2) (.tmp 13) rfl w.heap.size [rv4, .int .i64 lim] [.slice ra n rc, .int .i64 lim] rfl rfl 29 (nx4.kept.at P3.out.bx (by simp)) (by kernel_rfl) rfl (fun u hu => by
      obtain ⟨b, hr⟩ := nx4.rk
      obtain ⟨xa, xc, hx⟩ := hr.slice
      rw [hx] at hu
      exact k_two _ _ _ _ u hu) True.intro ?_
    simp only [Act.put, List.setIfInBounds_toArray, List.set_cons_succ, List.set_cons_zero]
    rw [← hP5]
    refine wpAnyH_done (by kernel_rfl) ?_ _
    clear hP5 nx4 i0 i1 i2 i3 iK i4 hP hld hlq hfd hot P3
    obtain ⟨n1, hn1⟩ : ∃ n1, n1 = (outK id es).length := ⟨_, rfl⟩
    obtain ⟨ra4, rc4, rfl⟩ : ∃ a c, rv4 = .slice a n1 c := by
      obtain ⟨b, hr⟩ := PS5.out.nx.rk
      obtain ⟨xa, xc, hx⟩ := hr.slice
      exact ⟨xa, xc, by rw [hx, hn1]⟩
    have HN1 := hid hn1
    clear hn1
    have hc1 : P5.cell? ⟨w.heap.size, 1, none⟩ = some (.int .i64 lim) := by rw [cell_of_row _ _ 1 _ _ _ PS5.out.bx]; rfl
    by_cases hbig : lim < (k : Int)
    · have hbd : decide (lim < (k : Int)) = true := decide_eq_true hbig
      go_upto_region 4 with fail
      have hld := hid (fun v (hv : Kept [w.heap.size + 1, w.heap.size + 2] P5 v) => rk_ld v w.heap.size (.slice ra4 n1 rc4) lim (hv.at PS5.out.bx (by simp)))
      have hlq := hid (fun v (hv : Kept [w.heap.size + 1, w.heap.size + 2] P5 v) => (show (loadVar 34 ⟨q, 0, none⟩).run Tryd.prog v = .ok (.agg iv) v from by rw [HIV.out]; exact ld_idB v q id L32.out (by rw [← HIV.out]; exact hv.at PS5.out.bq (by have := PS5.out.qa; simp; omega))))
      unfold rK at hld
      have hH0 : Kept [w.heap.size + 1, w.heap.size + 2] P5 P5.drew := (Kept.refl _ P5).drew
      refine wp_region_held_drew (S := fun v => Kept [w.heap.size + 1, w.heap.size + 2] P5 v) (by kernel_rfl) hH0 (fun hH => ?_)
      refine takeH 0 (.agg #[.slice ra4 n1 rc4, .int .i64 lim]) rfl (by kernel_rfl) (by kernel_rfl) (by kernel_rfl) (fun _ _ _ h => h) (by rfl) (fun v hv => by have h := hld.out v hv; unfold execOp; simp [Instr.loadAt, Instr.sureAddr, Sem.run_bind, Sem.run_pure, Result.andThen_ok, Act.eval, h]) hH ?_
      simp only [Act.put, List.setIfInBounds_toArray, List.set_cons_succ, List.set_cons_zero]
      refine takeH 1 (.agg iv) rfl (by kernel_rfl) (by kernel_rfl) (by kernel_rfl) (fun _ _ _ h => h) (by rfl) (fun v hv => by have h := hlq.out v hv; unfold execOp; simp [Instr.loadAt, Instr.sureAddr, Sem.run_bind, Sem.run_pure, Result.andThen_ok, Act.eval, h]) hH ?_
      simp only [Act.put, List.setIfInBounds_toArray, List.set_cons_succ, List.set_cons_zero]
      obtain ⟨w6, hw6⟩ : ∃ V, V = P5.drew.setRow (w.heap.size + 1) [.slice ra4 n1 rc4, .int .i64 lim].toArray := ⟨_, rfl⟩
      have k6 : Kept [w.heap.size + 1, w.heap.size + 2] P5 w6 := by rw [hw6]; exact hH0.setRow (fun _ => by simp) _
      have b6 : w6.heap[w.heap.size + 1]? = some (.cells [.slice ra4 n1 rc4, .int .i64 lim].toArray 29 (0, 0)) := by rw [hw6]; exact setRow_heap _ _ _ _ _ _ (show P5.drew.heap[w.heap.size + 1]? = _ from PS5.out.b1)
      have d6 : w6.heap[w.heap.size + 2]? = some (.cells zv 34 (0, 0)) := by rw [hw6]; exact ((Kept.refl [w.heap.size + 1] P5.drew).setRow (fun _ => by simp) _).at (show P5.drew.heap[w.heap.size + 2]? = _ from PS5.out.b2) (by simp)
      refine k_storeH 2 rfl (by kernel_rfl) rfl 29 (.tmp 4) (.tmp 19) rfl (w.heap.size + 1) [.slice ra4 n1 rc4, .int .i64 lim] [.slice none 0 0, .int .i64 0] rfl rfl 29 PS5.out.b1 (by kernel_rfl) rfl (k_two _ _ _ _) (by rw [← hw6]; exact k6) ?_
      simp only [Act.put, List.setIfInBounds_toArray, List.set_cons_succ, List.set_cons_zero]
      rw [← hw6]
      obtain ⟨w7, hw7⟩ : ∃ V, V = w6.setRow (w.heap.size + 2) iv.toList.toArray := ⟨_, rfl⟩
      have k7 : Kept [w.heap.size + 1, w.heap.size + 2] P5 w7 := by rw [hw7]; exact k6.setRow (fun _ => by simp) _
      have b7 : w7.heap[w.heap.size + 1]? = some (.cells #[.slice ra4 n1 rc4, .int .i64 lim] 29 (0, 0)) := by rw [hw7]; exact ((Kept.refl [w.heap.size + 2] w6).setRow (fun _ => by simp) _).at b6 (by simp)
      have d7 : w7.heap[w.heap.size + 2]? = some (.cells (id.map B).toArray 34 (0, 0)) := by rw [hw7, ← HIV.out]; exact setRow_heap _ _ _ _ _ _ d6
      refine k_storeH 3 rfl (by kernel_rfl) rfl 34 (.tmp 5) (.tmp 20) rfl (w.heap.size + 2) iv.toList zv.toList rfl rfl 34 d6 Hsz.out Hold.out Hol.out (by rw [← hw7]; exact k7) ?_
      simp only [Act.put, List.setIfInBounds_toArray, List.set_cons_succ, List.set_cons_zero]
      rw [← hw7]
      refine wpAnyH_done (by kernel_rfl) ?_ _
      have hl1 := hid (rk_ld w7 (w.heap.size + 1) (.slice ra4 n1 rc4) lim b7)
      have hl2 := hid (ld_idB w7 (w.heap.size + 2) id L32.out d7)
      have hnx := hid (PS5.out.fin k7)
      clear k6 b6 d6 k7 b7 d7 hw6 hw7 hld hlq hH0 hH
      go_wp2
      refine bodyPost_ret (v := .tuple #[rK (.slice ra4 n1 rc4) lim, .agg (id.map B).toArray]) (k_results2 Tryd.results9 rfl rfl hl1.out hl2.out) rfl ?_
      refine ⟨_, _, by rw [HIV.out]; rfl, hnx.out, ?_, fun f hf => Or.inl (mem_out hf)⟩
      rw [dat_out id es HND.out]
      unfold putD
      rw [← HID.out, ← HK0.out, if_pos hbig]
    · have hbd : decide (lim < (k : Int)) = false := decide_eq_false hbig
      obtain ⟨es1, hes1⟩ : ∃ es1, es1 = outK id es := ⟨_, rfl⟩
      have HE1 := hid hes1
      rw [← hes1] at PS5 HN1
      have hst := hid (show ∃ (j : Nat) (ra' : Option Addr) (rc' : Nat), j ≤ n1 ∧ PutS w P5 q iv zv lim (.slice ra n rc) (es ++ [ne]) (.slice ra' (n1 - j) rc') (es1.drop j) ∧ evict lim k (datE (es1.drop j)) = evict lim k (datE es1) from ⟨0, ra4, rc4, Nat.zero_le _, PS5.out, rfl⟩)
      have hz1 := hid (show szD (datE es1) ≤ 1000000 from by rw [hes1, dat_out id es HND.out]; have := szD_drop id (datE es); have := HZ.out; omega)
      have hm1 := hid (show n1 ≤ 1000 from by rw [HN1.out, hes1]; have := len_out id es; have := HM.out; omega)
      clear hes1 PS5
      go_wp2_with fail
      go_loopw [] (fun wr => Hid (∃ (j : Nat) (ra' : Option Addr) (rc' : Nat), j ≤ n1 ∧ PutS w wr q iv zv lim (.slice ra n rc) (es ++ [ne]) (.slice ra' (n1 - j) rc') (es1.drop j) ∧ evict lim k (datE (es1.drop j)) = evict lim k (datE es1))) (fun wr => rowLen w.heap.size wr)
      case atStart => exact hst
      case round =>
        clear hst hc1
        obtain ⟨j, raj, rcj, hj, psj, hev⟩ := hrel.out
        obtain ⟨V0, hV0⟩ : ∃ V, V = wr := ⟨_, rfl⟩
        rw [← hV0] at psj ⊢
        have HV0 := hid hV0
        obtain ⟨sz, hsz1⟩ : ∃ sz, sz = szD (datE (es1.drop j)) := ⟨_, rfl⟩
        obtain ⟨m, hm⟩ : ∃ m, m = n1 - j := ⟨_, rfl⟩
        have hml : m = (es1.drop j).length := by rw [hm, List.length_drop, HN1.out]
        rw [← hm] at psj
        have hszb : sz ≤ 1000000 := by rw [hsz1]; have := sz_drop_le es1 j; have := hz1.out; omega
        have PSJ := hid psj; have HEV := hid hev; have HSZ := hid hsz1; have HML := hid hml; have HMJ := hid hm
        have hcj := hid (fun v (hv : Kept [] V0 v) => (show v.cell? ⟨w.heap.size, 1, none⟩ = some (.int .i64 lim) from by rw [cell_of_row _ _ 1 _ _ _ (hv.at PSJ.out.bx (by simp))]; rfl))
        have hldj := hid (fun v (hv : Kept [] V0 v) => rk_ld v w.heap.size (.slice raj m rcj) lim (hv.at PSJ.out.bx (by simp)))
        unfold rK at hldj
        have hsj := hid (fun v (hv : Kept [] V0 v) => (show Calls Tryd.prog 21 #[.agg #[.slice raj m rcj, .int .i64 lim]] v fun e w' => e = .returned (.int .i64 (sz : Int)) ∧ Kept [] v w' from by
          obtain ⟨b, hr⟩ := (PSJ.out.keep hv).nx.rk
          rw [HML.out] at hr ⊢
          rw [HSZ.out]
          exact rk_size lim hr (by have := hm1.out; have := HML.out; have := HMJ.out; omega) (by rw [← HSZ.out]; omega)))
        clear psj hev hsz1 hml hm hrel hV0
        have hwp : IntKind.i64.wrap ((sz : Int) + (k : Int)) = (sz : Int) + (k : Int) := by rw [IntWalk.i64_in _ (by omega)]
        obtain ⟨tst, htst⟩ : ∃ t, t = decide (lim < (sz : Int) + (k : Int)) := ⟨_, rfl⟩
        have htst' := htst.symm
        have HTS := hid htst
        clear htst
        go_upto_region 5 with fail
        have hH0 : Kept [] V0 V0.drew := (Kept.refl _ V0).drew
        refine wp_region_held_drew (S := fun v => Kept [] V0 v) (by kernel_rfl) hH0 (fun hH => ?_)
        refine takeH 0 (.agg #[.slice raj m rcj, .int .i64 lim]) rfl (by kernel_rfl) (by kernel_rfl) (by kernel_rfl) (fun _ _ _ h => h) (by rfl) (fun v hv => by have h := hldj.out v hv; unfold execOp; simp [Instr.loadAt, Instr.sureAddr, Sem.run_bind, Sem.run_pure, Result.andThen_ok, Act.eval, h]) hH ?_
        simp only [Act.put, List.setIfInBounds_toArray, List.set_cons_succ, List.set_cons_zero]
        refine takeH 2 (.slice a k c) rfl (by kernel_rfl) (by kernel_rfl) (by kernel_rfl) (fun _ _ _ h => h) (by rfl) (fun v hv => by go_simp) hH ?_
        simp only [Act.put, List.setIfInBounds_toArray, List.set_cons_succ, List.set_cons_zero]
        refine takeH 3 (.int .i64 k) rfl (by kernel_rfl) (by kernel_rfl) (by kernel_rfl) (fun _ _ _ h => h) (by rfl) (fun v hv => by go_simp) hH ?_
        simp only [Act.put, List.setIfInBounds_toArray, List.set_cons_succ, List.set_cons_zero]
        refine takeH 5 (.pointer (some ⟨w.heap.size, 1, none⟩)) rfl (by kernel_rfl) (by kernel_rfl) (by kernel_rfl) (fun _ _ _ h => h) (by rfl) (fun v hv => by go_simp) hH ?_
        simp only [Act.put, List.setIfInBounds_toArray, List.set_cons_succ, List.set_cons_zero]
        refine takeH 6 (.int .i64 lim) rfl (by kernel_rfl) (by kernel_rfl) (by kernel_rfl) (fun _ _ _ h => h) (by rfl) (fun v hv => by have h := hcj.out v hv; go_simp) hH ?_
        simp only [Act.put, List.setIfInBounds_toArray, List.set_cons_succ, List.set_cons_zero]
        refine callR 1 rfl (by kernel_rfl) (by rfl) 21 #[.agg #[.slice raj m rcj, .int .i64 lim]] (by go_simp) (.int .i64 sz) (fun v => Kept [] V0.drew v) (fun v h => hH0.trans h) (hsj.out _ hH0) ?_
        rintro v6 k6
        simp only [Act.put, List.setIfInBounds_toArray, List.set_cons_succ, List.set_cons_zero]
        refine takeH 4 (.int .i64 ((sz : Int) + (k : Int))) rfl (by kernel_rfl) (by kernel_rfl) (by kernel_rfl) (fun _ _ _ h => h) (by rfl) (fun v hv => by have h := hwp; go_simp) (hH0.trans k6) ?_
        simp only [Act.put, List.setIfInBounds_toArray, List.set_cons_succ, List.set_cons_zero]
        refine takeH 7 (.bool tst) rfl (by kernel_rfl) (by kernel_rfl) (by kernel_rfl) (fun _ _ _ h => h) (by rfl) (fun v hv => by have h := htst'; go_simp) (hH0.trans k6) ?_
        simp only [Act.put, List.setIfInBounds_toArray, List.set_cons_succ, List.set_cons_zero]
        refine wpAnyH_done (by kernel_rfl) ?_ _
        have PS6 := hid (PSJ.out.keep (hH0.trans k6))
        have HK6 := hid (hH0.trans k6)
        clear hH0 k6 hH hldj hsj hcj
        by_cases htt : tst = true
        · subst htt
          have hgt : lim < (sz : Int) + (k : Int) := by have := HTS.out; simpa using this.symm
          have hne0 : 0 < m := by
            rcases Nat.eq_zero_or_pos m with h | h
            · exfalso
              have h1 : es1.drop j = [] := List.eq_nil_of_length_eq_zero (by rw [← HML.out]; exact h)
              have h2 := HSZ.out
              rw [h1] at h2
              simp [datE, szD] at h2
              omega
            · exact h
          have hwo := hid (show Calls Tryd.prog 24 #[.agg #[.slice raj m rcj, .int .i64 lim], .int .i64 0] v6 fun e w' => ∃ rv', e = .returned (rK rv' lim) ∧ Nx v6 w' (.slice raj m rcj) rv' (es1.drop (j + 1)) from by
            obtain ⟨b, hr⟩ := PS6.out.nx.rk
            refine (rk_without (.slice raj m rcj) (es1.drop j) lim b v6 hr 0 (by rw [← HML.out]; exact hne0) (by rw [← HML.out]; have := hm1.out; have := HMJ.out; omega)).mono ?_
            rintro e w' ⟨rv', rfl, k, hr'⟩
            have e1 : (es1.drop j).take 0 ++ (es1.drop j).drop (0 + 1) = es1.drop (j + 1) := by simp [List.drop_drop]
            rw [e1] at hr'
            exact ⟨rv', rfl, k, ⟨_, hr'⟩, fun g hg => Or.inr (hr'.row.lt g hg).1⟩)
          go_wp2_with (first | (refine wpList_load_cells rfl 29 (.tmp 2) rfl ⟨w.heap.size, 0, none⟩ rfl [.slice raj m rcj, .int .i64 lim] _ Tryd.underlying29 rfl (by kernel_rfl) (k_cells_of PS6.out.bx) ?_; refine halt ?_))
          refine Halt.mk ?_
          go_wp2_with fail
          refine hwo.out.mono ?_
          rintro e w8 ⟨rv8, rfl, nx8⟩
          obtain ⟨P9, hP9⟩ : ∃ V, V = w8.setRow w.heap.size [rv8, .int .i64 lim].toArray := ⟨_, rfl⟩
          have hbx8 := nx8.kept.at PS6.out.bx (by simp)
          have PS9 := PS6.out.turn nx8 (fun f hf => List.mem_append_left _ (mem_out (id := id) (by rw [← HE1.out]; exact List.mem_of_mem_drop hf))) ((Kept.refl [w.heap.size] w8).setRow (fun _ => by simp) [rv8, .int .i64 lim].toArray) (setRow_heap _ _ _ _ _ _ hbx8)
          rw [← hP9] at PS9
          obtain ⟨ra8, rc8, rfl⟩ : ∃ a c, rv8 = .slice a (n1 - (j + 1)) c := by
            obtain ⟨b, hr⟩ := nx8.rk
            obtain ⟨xa, xc, hx⟩ := hr.slice
            exact ⟨xa, xc, by rw [hx, List.length_drop, HN1.out]⟩
          have hrl : rowLen w.heap.size V0 = m := rowLen_at PSJ.out.bx
          have hrl9 : rowLen w.heap.size P9 = n1 - (j + 1) := rowLen_at PS9.bx
          have hnext := hid (show ∃ (j : Nat) (ra' : Option Addr) (rc' : Nat), j ≤ n1 ∧ PutS w P9 q iv zv lim (.slice ra n rc) (es ++ [ne]) (.slice ra' (n1 - j) rc') (es1.drop j) ∧ evict lim k (datE (es1.drop j)) = evict lim k (datE es1) from
            ⟨j + 1, ra8, rc8, by have := HMJ.out; omega, PS9, evict_drop lim k es1 j HEV.out (by have := HMJ.out; have := HN1.out; omega) (by rw [← HSZ.out]; omega)⟩)
          have HP9 := hid hP9; have HB8 := hid hbx8; have HRL := hid (And.intro hrl hrl9)
          clear PS9 hP9 hbx8 nx8 hwo hrl hrl9
          go_wp2_with (refine wpList_store_at rfl 29 (.tmp 2) (.tmp 30) rfl w.heap.size 0 [.slice ra8 (n1 - (j + 1)) rc8, .int .i64 lim] rfl rfl 29 [.slice raj m rcj, .int .i64 lim] HB8.out (by kernel_rfl) (by simp) (k_two _ _ _ _) ?_; refine halt ?_)
          refine Halt.mk ?_
          rw [show w8.setRow w.heap.size (splice [.slice raj m rcj, .int .i64 lim] 0 [.slice ra8 (n1 - (j + 1)) rc8, .int .i64 lim]).toArray = P9 from HP9.out.symm]
          go_wp2
          go_roundw
          case rel => exact hnext
          case measure => rw [HRL.out.1, HRL.out.2]; have := HMJ.out; omega
        · have htf : tst = false := by simpa using htt
          subst htf
          have hgt : ¬ lim < (sz : Int) + (k : Int) := by have := HTS.out; simpa using this.symm
          obtain ⟨es2, hes2⟩ : ∃ es2, es2 = es1.drop j := ⟨_, rfl⟩
          have HDT := hid (show datE es2 = evict lim k (datE es1) from by rw [← HEV.out, ← hes2, evict_stay]; rw [hes2, ← HSZ.out]; omega)
          have HSub := hid (show ∀ f ∈ es2, f ∈ es from fun f hf => mem_out (id := id) (by rw [← HE1.out]; rw [hes2] at hf; exact List.mem_of_mem_drop hf))
          have HL2 := hid (show m = es2.length from by rw [hes2]; exact HML.out)
          have hm2 : m ≤ 1000 := by have := hm1.out; have := HMJ.out; omega
          rw [← hes2] at PS6
          clear hes2 HEV PSJ HTS htt htst' HSZ HK6
          have hc0 := hid (fun v (hv : Kept [] v6 v) => (show v.cell? ⟨w.heap.size, 0, none⟩ = some (.slice raj m rcj) from by rw [cell_of_row _ _ 0 _ _ _ (hv.at PS6.out.bx (by simp))]; rfl))
          have hlq := hid (fun v (hv : Kept [] v6 v) => (show (loadVar 34 ⟨q, 0, none⟩).run Tryd.prog v = .ok (.agg iv) v from by rw [HIV.out]; exact ld_idB v q id L32.out (by rw [← HIV.out]; exact hv.at PS6.out.bq (by simp))))
          have hbk := hid (fun v => (show (Instr.build 48 #[(0, .agg iv), (1, .slice a k c)]).run Tryd.prog v = .ok (.agg (kE ne).toArray) v from by
            have h32 : ne.id.length = 32 := by rw [HNE.out]; exact L32.out
            rw [kE_of h32, HIV.out, HNE.out]
            exact build_ke id L32.out a k c v))
          have hbs := hid (fun v => bs_ke ne (by rw [HNE.out]; exact L32.out) ⟨a, k, c, by rw [HNE.out]⟩ v)
          obtain ⟨i0, hi0, hz0, hz1, hz2⟩ := k_split info_kept
          go_upto_region 7 with fail
          refine wp_region_held_drew (S := fun _ => True) (by kernel_rfl) True.intro (fun _ => ?_)
          refine takeH 1 (.pointer (some ⟨w.heap.size, 0, none⟩)) rfl (by kernel_rfl) (by kernel_rfl) (by kernel_rfl) (fun _ _ _ h => h) (by rfl) (fun v hv => by go_simp) True.intro ?_
          simp only [Act.put, List.setIfInBounds_toArray, List.set_cons_succ, List.set_cons_zero]
          refine takeH 5 (.slice a k c) rfl (by kernel_rfl) (by kernel_rfl) (by kernel_rfl) (fun _ _ _ h => h) (by rfl) (fun v hv => by go_simp) True.intro ?_
          simp only [Act.put, List.setIfInBounds_toArray, List.set_cons_succ, List.set_cons_zero]
          refine region_inv_at [true, true, true, true, true, true, true, true, true, false, false] [(0, [(0, false), (3, false), (8, false)]), (2, [(2, false), (3, false), (8, false)]), (3, [(0, true), (2, true), (3, false), (8, false)]), (4, [(6, false), (8, false)]), (6, [(4, true), (7, false), (8, false)]), (7, [(6, true), (7, false), (8, false)]), (8, [(0, true), (3, true), (7, true), (8, false)])] 12 [some 31, some 33, some 34, some 35, some 37, some 38, some 39] (Inv7 v6 es2 ne (.slice raj m rcj) (.agg iv)) [false, true, false, false, false, true, false, false, false, false, false] [undef, undef, undef, undef, undef, undef, undef] rfl rfl rfl (by kernel_rfl) (by kernel_rfl) (fun L vs v hI => True.intro) (fun e he L hlen hdeps vs v hI => ?_) (fun vs v hI => ?_) ⟨_, _, _, _, _, _, _, rfl, InvB.start _ _ _ _ (Kept.refl _ _).drew, by simp, by simp, by simp⟩
          · obtain ⟨v31, v33, v34, v35, v37, v38, v39, rfl, iB, i2, i4, i6⟩ := hI
            simp only [putAll, Act.put, List.setIfInBounds_toArray, List.set_cons_succ, List.set_cons_zero]
            simp only [List.mem_cons, List.not_mem_nil, or_false] at he
            have hv := iB.keptD
            rcases he with rfl | rfl | rfl | rfl | rfl | rfl | rfl
            · have d0 : L.getD 0 false = false := hdeps (0, false) (by simp)
              have d3 : L.getD 3 false = false := hdeps (3, false) (by simp)
              have d8 : L.getD 8 false = false := hdeps (8, false) (by simp)
              rw [d0, d3, d8] at iB
              refine wpOp_run 0 rfl (by rfl) (.slice (some ⟨v.heap.size, 0, none⟩) 0 0) (v.alloc (.cells #[] 48)) (by go_simp) ⟨[.slice (some ⟨v.heap.size, 0, none⟩) 0 0, v33, v34, v35, v37, v38, v39], by simp only [putAll, Act.put, List.setIfInBounds_toArray, List.set_cons_succ, List.set_cons_zero], ?_⟩
              unfold Inv7
              simp only [k_gset hlen]
              refine ⟨_, _, _, _, _, _, _, rfl, ?_, i2, i4, i6⟩
              rw [d3, d8]
              exact iB.s0
            · have d8 : L.getD 8 false = false := hdeps (8, false) (by simp)
              have d3 : L.getD 3 false = false := hdeps (3, false) (by simp)
              have hl := hc0.out v hv
              refine wpOp_run 2 rfl (by rfl) (.slice raj m rcj) v (by go_simp) ⟨[v31, .slice raj m rcj, v34, v35, v37, v38, v39], by simp only [putAll, Act.put, List.setIfInBounds_toArray, List.set_cons_succ, List.set_cons_zero], ?_⟩
              unfold Inv7
              simp only [k_gset hlen]
              exact ⟨_, _, _, _, _, _, _, rfl, iB, fun _ => rfl, i4, i6⟩
            · have d0 : L.getD 0 false = true := hdeps (0, true) (by simp)
              have d3 : L.getD 3 false = false := hdeps (3, false) (by simp)
              have d8 : L.getD 8 false = false := hdeps (8, false) (by simp)
              obtain rfl := i2 (hdeps (2, true) (by simp))
              rw [d0, d3, d8] at iB
              have hrow : v.ownsRow v.heap.size 48 33 (.slice none 0 0) 0 [] ∨ True := Or.inr True.intro
              obtain ⟨b, hr⟩ := (PS6.out.keep hv).nx.rk
              have hro := hr.row
              rw [← HL2.out] at hro
              refine wpOp_append_k 3 rfl rfl _ _ _ rfl v6.heap.size 48 i0 _ 33 56 Tryd.underlying27 hi0 hz0 hz1 hz2 (by simp [Value.cells, zid]) (by decide) v31 0 [] rfl iB.row0 (.slice raj m rcj) m (kC es2) rfl (ke_src hro (by rw [kC_len, HL2.out])) (by rw [kC_len, HL2.out]) (kC_one es2 hr.one) (by unfold maxLen; omega) (by omega) hv.size ?_
              intro v' w' hown hgr hf
              refine ⟨[v31, .slice raj m rcj, v', v35, v37, v38, v39], by simp only [putAll, Act.put, List.setIfInBounds_toArray, List.set_cons_succ, List.set_cons_zero], ?_⟩
              unfold Inv7
              simp only [k_gset hlen]
              refine ⟨_, _, _, _, _, _, _, rfl, ?_, fun _ => rfl, i4, i6⟩
              rw [d0, d8]
              rw [Nat.zero_add, List.nil_append, HL2.out] at hown
              exact iB.s1 hown hgr hf
            · have hl := hlq.out v hv
              refine wpOp_run 4 rfl (by rfl) (.agg iv) v (by unfold execOp; simp [Instr.loadAt, Instr.sureAddr, Sem.run_bind, Sem.run_pure, Result.andThen_ok, Act.eval, hl]) ⟨[v31, v33, v34, .agg iv, v37, v38, v39], by simp only [putAll, Act.put, List.setIfInBounds_toArray, List.set_cons_succ, List.set_cons_zero], ?_⟩
              unfold Inv7
              simp only [k_gset hlen]
              exact ⟨_, _, _, _, _, _, _, rfl, iB, i2, fun _ => rfl, i6⟩
            · obtain rfl := i4 (hdeps (4, true) (by simp))
              have hb := hbk.out v
              refine wpOp_run 6 rfl (by rfl) (.agg (kE ne).toArray) v (by unfold execOp; simp [Act.eval, Sem.run_bind, Sem.run_pure, Result.andThen_ok, hb]) ⟨[v31, v33, v34, .agg iv, .agg (kE ne).toArray, v38, v39], by simp only [putAll, Act.put, List.setIfInBounds_toArray, List.set_cons_succ, List.set_cons_zero], ?_⟩
              unfold Inv7
              simp only [k_gset hlen]
              exact ⟨_, _, _, _, _, _, _, rfl, iB, i2, fun _ => rfl, fun _ => rfl⟩
            · obtain rfl := i6 (hdeps (6, true) (by simp))
              have d7 : L.getD 7 false = false := hdeps (7, false) (by simp)
              have d8 : L.getD 8 false = false := hdeps (8, false) (by simp)
              rw [d7, d8] at iB
              have hb := hbs.out v
              refine wpOp_run 7 rfl (by rfl) (.slice (some ⟨v.heap.size, 0, none⟩) 1 1) (v.alloc (.cells (kE ne).toArray 48)) (by unfold execOp; simp [Act.eval, Sem.run_bind, Sem.run_pure, Result.andThen_ok, hb]) ⟨[v31, v33, v34, v35, .agg (kE ne).toArray, .slice (some ⟨v.heap.size, 0, none⟩) 1 1, v39], by simp only [putAll, Act.put, List.setIfInBounds_toArray, List.set_cons_succ, List.set_cons_zero], ?_⟩
              unfold Inv7
              simp only [k_gset hlen]
              refine ⟨_, _, _, _, _, _, _, rfl, ?_, i2, i4, fun _ => rfl⟩
              rw [d8]
              exact iB.s2
            · have d0 : L.getD 0 false = true := hdeps (0, true) (by simp)
              have d3 : L.getD 3 false = true := hdeps (3, true) (by simp)
              have d7 : L.getD 7 false = true := hdeps (7, true) (by simp)
              have d8 : L.getD 8 false = false := hdeps (8, false) (by simp)
              rw [d0, d3, d7, d8] at iB
              obtain ⟨g, rfl, hg⟩ := iB.one2
              have hr1 := iB.row1
              rw [← HL2.out] at hr1
              have hone : ∀ u ∈ kE ne, u.oneCell' = true := fun u hu => kC_one [ne] (fun e he => by simp at he; subst he; exact ⟨a, k, c, by rw [HNE.out]⟩) u (by simpa [kC] using hu)
              refine wpOp_append_k 8 rfl rfl _ _ _ rfl v6.heap.size 48 i0 _ 33 56 Tryd.underlying27 hi0 hz0 hz1 hz2 (by simp [Value.cells, zid]) (by decide) v34 m (kC es2) rfl hr1 (.slice (some ⟨g, 0, none⟩) 1 1) 1 (kE ne) rfl (ke_one_src hg) (kE_len ne) hone (by unfold maxLen; omega) (by omega) hv.size ?_
              intro v' w' hown hgr hf
              refine ⟨[v31, v33, v34, v35, v37, .slice (some ⟨g, 0, none⟩) 1 1, v'], by simp only [putAll, Act.put, List.setIfInBounds_toArray, List.set_cons_succ, List.set_cons_zero], ?_⟩
              unfold Inv7
              simp only [k_gset hlen]
              refine ⟨_, _, _, _, _, _, _, rfl, ?_, i2, i4, i6⟩
              rw [d0, d3, d7]
              rw [HL2.out] at hown
              exact iB.s3 hown hgr
          · obtain ⟨v31, v33, v34, v35, v37, v38, v39, rfl, iB, i2, i4, i6⟩ := hI
            have hv := iB.keptD
            have hrow : v.ownsRow v6.heap.size 48 33 v39 (es2.length + 1) (kC (es2 ++ [ne])) := InvB.row3 iB
            rw [← HL2.out] at hrow
            obtain ⟨a39, c39, rfl⟩ := owns_slice hrow
            simp only [putAll, Act.put, List.setIfInBounds_toArray, List.set_cons_succ, List.set_cons_zero]
            have hbv := hv.at PS6.out.bx (by simp)
            have hr0 := hc0.out v hv
            have hf0 := k_free hbv 0
            obtain ⟨PA, hPA⟩ : ∃ V, V = v.setCell ⟨w.heap.size, 0, none⟩ (.slice a39 (m + 1) c39) := ⟨_, rfl⟩
            have PSA := hid (show PutS w PA q iv zv lim (.slice ra n rc) (es ++ [ne]) (.slice a39 (m + 1) c39) (es2 ++ [ne]) from by
              have hlow : v6.heap.size ≤ v.heap.size := hv.size
              rw [hPA]
              refine PS6.out.turn (rv' := .slice a39 (m + 1) c39) ⟨hv, ⟨v6.heap.size, by simpa [HL2.out] using hrow, fun f hf => ?_, hlow⟩, fun g hg => Or.inr (hrow.lt g hg).1⟩ (fun f hf => ?_) ((Kept.refl [w.heap.size] v).setCell (p := ⟨w.heap.size, 0, none⟩) (fun _ => by simp) _) (by rw [Go.heap_setCell_same v w.heap.size 0 _ _ _ hbv]; rfl)
              · rcases List.mem_append.1 hf with h1 | h1
                · obtain ⟨b, hr⟩ := (PS6.out.keep hv).nx.rk
                  exact hr.th f h1
                · simp at h1
                  subst h1
                  rw [HNE.out]
                  exact ⟨L32.out, a, c, by rw [HK0.out], by have h2 := HS.out.kept ((PS6.out.keep hv).nx.kept) (by simp); rw [← HK0.out] at h2; exact h2⟩
              · rcases List.mem_append.1 hf with h1 | h1
                · exact List.mem_append_left _ (HSub.out f h1)
                · exact List.mem_append_right _ h1)
            refine takeH 9 (.pointer (some ⟨w.heap.size, 0, none⟩)) rfl (by kernel_rfl) (by kernel_rfl) (by kernel_rfl) (fun _ _ _ h => h) (by rfl) (fun v hv => by go_simp) True.intro ?_
            simp only [Act.put, List.setIfInBounds_toArray, List.set_cons_succ, List.set_cons_zero]
            refine writeH 10 rfl (by kernel_rfl) (by rfl) PA (by rw [hPA]; go_simp) True.intro ?_
            simp only [Act.put, List.setIfInBounds_toArray, List.set_cons_succ, List.set_cons_zero]
            refine wpAnyH_done (by kernel_rfl) ?_ _
            clear hPA hr0 hf0 hbv hrow iB i2 i4 i6 hv hc0 hlq hbk hbs PS6
            go_upto_region 8 with fail
            have hld := hid (fun v (hv : Kept [w.heap.size + 1, w.heap.size + 2] PA v) => rk_ld v w.heap.size (.slice a39 (m + 1) c39) lim (hv.at PSA.out.bx (by simp)))
            have hlq := hid (fun v (hv : Kept [w.heap.size + 1, w.heap.size + 2] PA v) => (show (loadVar 34 ⟨q, 0, none⟩).run Tryd.prog v = .ok (.agg iv) v from by rw [HIV.out]; exact ld_idB v q id L32.out (by rw [← HIV.out]; exact hv.at PSA.out.bq (by have := PSA.out.qa; simp; omega))))
            unfold rK at hld
            have hH0 : Kept [w.heap.size + 1, w.heap.size + 2] PA PA.drew := (Kept.refl _ PA).drew
            refine wp_region_held_drew (S := fun v => Kept [w.heap.size + 1, w.heap.size + 2] PA v) (by kernel_rfl) hH0 (fun hH => ?_)
            refine takeH 0 (.agg #[.slice a39 (m + 1) c39, .int .i64 lim]) rfl (by kernel_rfl) (by kernel_rfl) (by kernel_rfl) (fun _ _ _ h => h) (by rfl) (fun v hv => by have h := hld.out v hv; unfold execOp; simp [Instr.loadAt, Instr.sureAddr, Sem.run_bind, Sem.run_pure, Result.andThen_ok, Act.eval, h]) hH ?_
            simp only [Act.put, List.setIfInBounds_toArray, List.set_cons_succ, List.set_cons_zero]
            refine takeH 1 (.agg iv) rfl (by kernel_rfl) (by kernel_rfl) (by kernel_rfl) (fun _ _ _ h => h) (by rfl) (fun v hv => by have h := hlq.out v hv; unfold execOp; simp [Instr.loadAt, Instr.sureAddr, Sem.run_bind, Sem.run_pure, Result.andThen_ok, Act.eval, h]) hH ?_
            simp only [Act.put, List.setIfInBounds_toArray, List.set_cons_succ, List.set_cons_zero]
            obtain ⟨w6, hw6⟩ : ∃ V, V = PA.drew.setRow (w.heap.size + 1) [.slice a39 (m + 1) c39, .int .i64 lim].toArray := ⟨_, rfl⟩
            have k6 : Kept [w.heap.size + 1, w.heap.size + 2] PA w6 := by rw [hw6]; exact hH0.setRow (fun _ => by simp) _
            have b6 : w6.heap[w.heap.size + 1]? = some (.cells [.slice a39 (m + 1) c39, .int .i64 lim].toArray 29 (0, 0)) := by rw [hw6]; exact setRow_heap _ _ _ _ _ _ (show PA.drew.heap[w.heap.size + 1]? = _ from PSA.out.b1)
            have d6 : w6.heap[w.heap.size + 2]? = some (.cells zv 34 (0, 0)) := by rw [hw6]; exact ((Kept.refl [w.heap.size + 1] PA.drew).setRow (fun _ => by simp) _).at (show PA.drew.heap[w.heap.size + 2]? = _ from PSA.out.b2) (by simp)
            refine k_storeH 2 rfl (by kernel_rfl) rfl 29 (.tmp 4) (.tmp 41) rfl (w.heap.size + 1) [.slice a39 (m + 1) c39, .int .i64 lim] [.slice none 0 0, .int .i64 0] rfl rfl 29 PSA.out.b1 (by kernel_rfl) rfl (k_two _ _ _ _) (by rw [← hw6]; exact k6) ?_
            simp only [Act.put, List.setIfInBounds_toArray, List.set_cons_succ, List.set_cons_zero]
            rw [← hw6]
            obtain ⟨w7, hw7⟩ : ∃ V, V = w6.setRow (w.heap.size + 2) iv.toList.toArray := ⟨_, rfl⟩
            have k7 : Kept [w.heap.size + 1, w.heap.size + 2] PA w7 := by rw [hw7]; exact k6.setRow (fun _ => by simp) _
            have b7 : w7.heap[w.heap.size + 1]? = some (.cells #[.slice a39 (m + 1) c39, .int .i64 lim] 29 (0, 0)) := by rw [hw7]; exact ((Kept.refl [w.heap.size + 2] w6).setRow (fun _ => by simp) _).at b6 (by simp)
            have d7 : w7.heap[w.heap.size + 2]? = some (.cells (id.map B).toArray 34 (0, 0)) := by rw [hw7, ← HIV.out]; exact setRow_heap _ _ _ _ _ _ d6
            refine k_storeH 3 rfl (by kernel_rfl) rfl 34 (.tmp 5) (.tmp 42) rfl (w.heap.size + 2) iv.toList zv.toList rfl rfl 34 d6 Hsz.out Hold.out Hol.out (by rw [← hw7]; exact k7) ?_
            simp only [Act.put, List.setIfInBounds_toArray, List.set_cons_succ, List.set_cons_zero]
            rw [← hw7]
            refine wpAnyH_done (by kernel_rfl) ?_ _
            have hl1 := hid (rk_ld w7 (w.heap.size + 1) (.slice a39 (m + 1) c39) lim b7)
            have hl2 := hid (ld_idB w7 (w.heap.size + 2) id L32.out d7)
            have hnx := hid (PSA.out.fin k7)
            clear k6 b6 d6 k7 b7 d7 hw6 hw7 hld hlq hH0 hH
            go_wp2
            refine bodyPost_ret (v := .tuple #[rK (.slice a39 (m + 1) c39) lim, .agg (id.map B).toArray]) (k_results2 Tryd.results9 rfl rfl hl1.out hl2.out) rfl ?_
            refine ⟨.slice a39 (m + 1) c39, by rw [HIV.out]; rfl, es2 ++ [ne], hnx.out, ?_, fun f hf => ?_⟩
            · unfold putD
              rw [← HID.out, ← HK0.out, if_neg (by omega), ← dat_out id es HND.out, ← HE1.out, ← HDT.out]
              unfold datE
              rw [List.map_append, HNE.out]
              rfl
            · rcases List.mem_append.1 hf with h1 | h1
              · exact Or.inl (HSub.out f h1)
              · simp at h1
                subst h1
                right
                rw [HNE.out]
end Go.Proofs.YtmkdjonlfkfnlaaDoor
