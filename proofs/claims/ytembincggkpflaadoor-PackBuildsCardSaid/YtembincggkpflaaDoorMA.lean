import Derived.Test.YtembincggkpflaaDoorC0
import Derived.Test.YtembincggkpflaaDoorN2
import Derived.DeepKeys5
import Derived.Maps.OwnSet
import Derived.Test.YtembincggkpflaaDoorWK
import Derived.Test.YtembincggkpflaaDoorMC
import Derived.Test.YtembincggkpflaaDoorHW
import Derived.Deep.QuietTactic
import Derived.Test.YtembincggkpflaaDoorMJ
import Derived.Test.YtembincggkpflaaDoorHY
import Derived.Test.YtembincggkpflaaDoorN1
import Derived.Deep.DeepCutAuto

/- Sums as a map's keys; a set of sums. -/
namespace Go.Proofs.YtembincggkpflaaDoor
open Go.RowKit Go.Lib Go.Maps

theorem mapM_some {α β : Type} {f : α → Option β} : ∀ (l : List α), (∀ x ∈ l, ∃ y, f x = some y) → ∃ ys, l.mapM f = some ys
  | [], _ => ⟨[], rfl⟩
  | x :: l, h => by
    obtain ⟨y, hy⟩ := h x (by simp)
    obtain ⟨ys, hys⟩ := mapM_some l (fun z hz => h z (by simp [hz]))
    exact ⟨y :: ys, by simp [List.mapM_cons, hy, hys]⟩
theorem a_laid : laidOutB Tryd.prog = true := by kernel_rfl
theorem a_keyed : Keyed Tryd.prog 36 := Keyed.of_law (deep_law_gate a_laid (of_decide_eq_true (by kernel_rfl)) (of_decide_eq_true (by kernel_rfl)) (by kernel_rfl) (by kernel_rfl))
theorem id_lits (id : List UInt8) (h : id.length = 32) (d : Nat) : ∃ ls, Tryd.prog.keyLits (d + 2) 36 (id.map B) = some ls := by
  have c1 : Tryd.prog.cellsOf 5 = 1 := by kernel_rfl
  have c32 : Tryd.prog.cellsOf 36 = 32 := by kernel_rfl
  unfold Program.keyLits
  simp only [Tryd.underlying36, c32, c1, List.length_map, h, if_true]
  obtain ⟨ys, hy⟩ := mapM_some (f := fun i => Tryd.prog.keyLits (d + 1) 5 (((id.map B).drop (i * 1)).take 1)) (List.range 32) (fun i hi => by
    have hi' : i < 32 := List.mem_range.1 hi
    have e : ((id.map B).drop (i * 1)).take 1 = [B (id[i]'(by omega))] := by
      rw [Nat.mul_one, List.drop_eq_getElem_cons (by simpa using by omega)]
      simp
    rw [e]
    have hb := (id[i]'(by omega)).toNat_lt
    unfold Program.keyLits
    refine ⟨[.int .u8 ((id[i]'(by omega)).toNat : Int)], ?_⟩
    simp only [Tryd.underlying5, B]
    rw [if_pos ⟨trivial, WalkArith.wf_u8 ⟨by omega, by omega⟩⟩])
  exact ⟨ys.flatten, by rw [hy]; rfl⟩
theorem id_key (id : List UInt8) (h : id.length = 32) : ∃ kl, keyOf Tryd.prog 36 (.agg (id.map B).toArray) = some kl := by
  unfold keyOf
  simp only [Tryd.underlying36]
  have h1 : Tryd.prog.keyType 36 = true := by kernel_rfl
  have h2 : (Value.agg (id.map B).toArray).formed Tryd.prog 36 = true := by
    have c32 : Tryd.prog.cellsOf 36 = 32 := by kernel_rfl
    unfold Value.formed
    simp [Tryd.underlying36, c32, h]
  rw [h1, h2]
  obtain ⟨ls, hl⟩ := id_lits id h (Tryd.prog.types.size - 1)
  have e : Tryd.prog.types.size - 1 + 2 = Tryd.prog.types.size + 1 := by
    have : 1 ≤ Tryd.prog.types.size := of_decide_eq_true (by kernel_rfl)
    omega
  rw [e] at hl
  refine ⟨.string (keyBytes ls), ?_⟩
  have e2 : (Value.agg (id.map B).toArray).cells.toList = id.map B := rfl
  rw [e2, hl]; rfl

/-- A map that is a set of sums. -/
def Set32 (w : World) (v : Value) (ids : List (List UInt8)) : Prop :=
  (v = .map none ∧ ids = []) ∨ ∃ b n, ∃ D : DataW Unit, v = .map (some b) ∧ n ≤ ids.length ∧ w.ownsMap Tryd.prog 36 unitElem b n D ∧ ∀ id kl, id.length = 32 → keyOf Tryd.prog 36 (.agg (id.map B).toArray) = some kl → Maps.has D kl = decide (id ∈ ids)
def mapBlock : Value → Option Nat
  | .map b => b
  | _ => none
theorem Kept.ownsMap {S : List Nat} {w w' : World} (hk : Kept S w w') {H : Type} {P : Program} {k : TypeId} {R : Value → Option (DataW H × List MemPlace)} {b n : Nat} {D : DataW H} (h : w.ownsMap P k R b n D) (hb : b ∉ S) : w'.ownsMap P k R b n D := by
  obtain ⟨es, clock, h1, r⟩ := h
  exact ⟨es, clock, hk.at h1 hb, r⟩
theorem Set32.kept {S : List Nat} {w w' : World} {v : Value} {ids : List (List UInt8)} (h : Set32 w v ids) (hk : Kept S w w') (hb : ∀ b, mapBlock v = some b → b ∉ S) : Set32 w' v ids := by
  rcases h with h | ⟨b, n, D, rfl, hn, ho, hh⟩
  · exact Or.inl h
  · exact Or.inr ⟨b, n, D, rfl, hn, hk.ownsMap ho (hb b rfl), hh⟩
theorem set32_new (w : World) : Set32 (w.alloc (.map #[] 0)) (.map (some w.heap.size)) [] :=
  Or.inr ⟨_, 0, _, rfl, Nat.le_refl _, World.ownsMap_made w _ _ _, fun id kl _ _ => by simp [Maps.has]⟩
theorem bytesV_inj {x y : List UInt8} (h : Value.agg (x.map B).toArray = Value.agg (y.map B).toArray) : x = y := by
  have h1 : x.map B = y.map B := by simpa using h
  exact List.map_inj_right (fun a b h => by
    unfold B at h
    have : (a.toNat : Int) = b.toNat := by simpa using h
    exact UInt8.toNat_inj.1 (by omega)) |>.1 h1
/-- A sum more in the set. -/
theorem has_put_ids {D : DataW Unit} (hD : IsMap D) {id : List UInt8} {kl : Lit} (h32 : id.length = 32) (hk : keyOf Tryd.prog 36 (.agg (id.map B).toArray) = some kl) {ids : List (List UInt8)} (d : DataW Unit)
    (hh : ∀ id kl, id.length = 32 → keyOf Tryd.prog 36 (.agg (id.map B).toArray) = some kl → Maps.has D kl = decide (id ∈ ids)) :
    ∀ id2 kl2, id2.length = 32 → keyOf Tryd.prog 36 (.agg (id2.map B).toArray) = some kl2 → Maps.has (D.put kl d) kl2 = decide (id2 ∈ ids ++ [id]) := by
  intro id2 kl2 h2 hk2
  by_cases e : kl2 = kl
  · subst e
    have e2 : id2 = id := bytesV_inj (a_keyed.inj hk2 hk)
    subst e2
    rw [has_put_same hD (a_keyed.key hk2)]; simp
  · rw [has_put_other e, hh id2 kl2 h2 hk2]
    have e2 : id2 ≠ id := fun h => by subst h; rw [hk2] at hk; exact e (Option.some.inj hk)
    simp [e2]
end Go.Proofs.YtembincggkpflaaDoor


/- A pack's head as mathematics and in memory; how long its pack is. -/
namespace Go.Proofs.YtembincggkpflaaDoor
open Go.RowKit Go.Lib Go.Maps

/-- A blob's place. -/
structure En where
  id : List UInt8
  off : Nat
  len : Nat
def zEnC : List Value := List.replicate 32 (B 0) ++ [.int .i64 0, .int .i64 0]
def En.cells (e : En) : List Value := e.id.map B ++ [.int .i64 (e.off : Int), .int .i64 (e.len : Int)]
theorem zEnC_len : zEnC.length = 34 := by simp [zEnC]
theorem en_size {e : En} (h : e.id.length = 32) : e.cells.length = 34 := by simp [En.cells, h]
def c34 (e : En) : List Value := (e.cells ++ zEnC).take 34
theorem c34_len (e : En) : (c34 e).length = 34 := by unfold c34; rw [List.length_take, List.length_append, zEnC_len]; omega
theorem c34_of {e : En} (h : e.id.length = 32) : c34 e = e.cells := by unfold c34; rw [List.take_left' (en_size h)]
theorem en_one (e : En) : ∀ u ∈ e.cells, u.oneCell' = true := by
  intro u hu
  unfold En.cells at hu
  rcases List.mem_append.1 hu with h | h
  · obtain ⟨b, _, rfl⟩ := List.mem_map.1 h; rfl
  · simp at h; rcases h with rfl | rfl <;> rfl
theorem zEnC_one : ∀ u ∈ zEnC, u.oneCell' = true := by
  intro u hu
  unfold zEnC at hu
  rcases List.mem_append.1 hu with h | h
  · obtain ⟨_, rfl⟩ := List.mem_replicate.1 h; rfl
  · simp at h; subst h; rfl
theorem c34_one (xs : List En) : ∀ u ∈ xs.flatMap c34, u.oneCell' = true := by
  intro u hu
  obtain ⟨s, _, hs⟩ := List.mem_flatMap.1 hu
  unfold c34 at hs
  rcases List.mem_append.1 (List.mem_of_mem_take hs) with h | h
  · exact en_one s u h
  · exact zEnC_one u h
theorem en_zero : (Tryd.prog.info? 38).map (fun i => (i.zero, i.size, i.bytes)) = some (some (.agg zEnC.toArray), 34, 48) := by kernel_rfl
theorem en_info : (Tryd.prog.info? 38).map (·.size) = some 34 := by kernel_rfl
theorem zero_en (W : World) : (zeroValue 38).run Tryd.prog W = .ok (.agg zEnC.toArray) W := by kernel_rfl
theorem build_en0 (W : World) : (Instr.build 38 #[]).run Tryd.prog W = .ok (.agg zEnC.toArray) W := run_build W _ _ _ (by kernel_rfl)

/-- How many bytes blobs have together; how many their pack has. -/
def ends (es : List En) : Nat := (es.map En.len).sum
def sizeP (es : List En) : Nat := ends es + es.length * 36 + 13
theorem ends_snoc (es : List En) (e : En) : ends (es ++ [e]) = ends es + e.len := by simp [ends]
theorem sizeP_snoc (es : List En) (e : En) : sizeP (es ++ [e]) = sizeP es + e.len + 36 := by unfold sizeP; rw [ends_snoc]; simp; omega
/-- What is told of one more blob; its place. -/
def addErr (es : List En) (id : List UInt8) (n : Nat) : Int := if 65536 < n then 2 else if es.length = 4096 then 3 else if id ∈ es.map En.id then 5 else if 1048576 < sizeP es + n + 36 then 6 else 0
def addE (es : List En) (id : List UInt8) (n : Nat) : En := ⟨id, ends es, n⟩
/-- Each stands behind those ahead. -/
def Rt (es : List En) : Prop := ∀ i e, es[i]? = some e → e.id.length = 32 ∧ e.off = ends (es.take i) ∧ e.len ≤ 65536
theorem Rt.snoc {es : List En} (h : Rt es) {id : List UInt8} {n : Nat} (h32 : id.length = 32) (hn : n ≤ 65536) : Rt (es ++ [addE es id n]) := by
  intro i e hi
  rcases Nat.lt_trichotomy i es.length with hl | hl | hl
  · rw [List.getElem?_append_left hl] at hi
    rw [List.take_append_of_le_length (by omega)]
    exact h i e hi
  · subst hl
    rw [List.getElem?_append_right (Nat.le_refl _)] at hi
    simp at hi
    subst hi
    rw [List.take_append_of_le_length (Nat.le_refl _), List.take_length]
    exact ⟨h32, rfl, hn⟩
  · rw [List.getElem?_eq_none (by simp; omega)] at hi; cases hi
theorem Rt.ids {es : List En} (h : Rt es) : ∀ e ∈ es, e.id.length = 32 := fun e he => by
  obtain ⟨i, hi⟩ := List.mem_iff_getElem?.1 he
  exact (h i e hi).1

/-- A head that begins block p (what stands behind it there: more); the blocks that it has: S. -/
structure Hd (w : World) (S : List Nat) (p T : Nat) (more : List Value) (es : List En) (lv mv : Value) : Prop where
  row : w.heap[p]? = some (.cells ([lv, mv, .int .i64 (ends es : Int)] ++ more).toArray T (0, 0))
  list : w.ownsRow 0 38 34 lv es.length (es.flatMap c34)
  set : Set32 w mv (es.map En.id)
  hp : p ∈ S
  hl : ∀ g, lv.ownBlock = some g → g ∈ S ∧ g ≠ p
  hm : ∀ b, mapBlock mv = some b → b ∈ S ∧ b ≠ p ∧ lv.ownBlock ≠ some b
  rt : Rt es
  many : es.length ≤ 4096
  size : sizeP es ≤ 1048576
  bound : ∀ x ∈ S, x < w.heap.size
theorem Hd.c0 {w : World} {S : List Nat} {p T : Nat} {more : List Value} {es : List En} {lv mv : Value} (h : Hd w S p T more es lv mv) : w.cell? ⟨p, 0, none⟩ = some lv := by rw [cell_of_row w _ 0 _ _ _ h.row]; rfl
theorem Hd.c1 {w : World} {S : List Nat} {p T : Nat} {more : List Value} {es : List En} {lv mv : Value} (h : Hd w S p T more es lv mv) : w.cell? ⟨p, 1, none⟩ = some mv := by rw [cell_of_row w _ 1 _ _ _ h.row]; rfl
theorem Hd.c2 {w : World} {S : List Nat} {p T : Nat} {more : List Value} {es : List En} {lv mv : Value} (h : Hd w S p T more es lv mv) : w.cell? ⟨p, 2, none⟩ = some (.int .i64 (ends es : Int)) := by rw [cell_of_row w _ 2 _ _ _ h.row]; rfl
theorem Hd.kept {w w' : World} {S U : List Nat} {p T : Nat} {more : List Value} {es : List En} {lv mv : Value} (h : Hd w S p T more es lv mv) (hk : Kept U w w') (hd : ∀ x ∈ S, x ∉ U) : Hd w' S p T more es lv mv :=
  ⟨hk.at h.row (hd _ h.hp), hk.owns h.list (fun g hg => hd _ (h.hl g hg).1), h.set.kept hk (fun b hb => hd _ (h.hm b hb).1), h.hp, h.hl, h.hm, h.rt, h.many, h.size, fun x hx => Nat.lt_of_lt_of_le (h.bound x hx) hk.size⟩

set_option maxRecDepth 100000 in
set_option maxHeartbeats 2000000 in
theorem h_size (S : List Nat) (p T : Nat) (more : List Value) (es : List En) (lv mv : Value) (w : World) (h : Hd w S p T more es lv mv) :
    Calls Tryd.prog 24 #[.pointer (some ⟨p, 0, none⟩)] w fun e w' => e = .returned (.int .i64 (sizeP es : Int)) ∧ Kept [] w w' := by
  have g0 := h.c0; have g2 := h.c2
  obtain ⟨a, c, rfl⟩ := owns_slice h.list
  have hm := h.many; have hz := h.size
  obtain ⟨z, hzz⟩ : ∃ z, z = sizeP es := ⟨_, rfl⟩
  have hz2 : z = ends es + es.length * 36 + 13 := hzz
  rw [← hzz] at hz ⊢
  generalize ends es = en at *
  generalize es.length = n at *
  have w1 : IntKind.i64.wrap ((n : Int) * 36) = (n : Int) * 36 := by rw [IntKind.wrap_i64]; omega
  have w2 : IntKind.i64.wrap ((en : Int) + (n : Int) * 36) = (en : Int) + (n : Int) * 36 := by rw [IntKind.wrap_i64]; omega
  have w3 : IntKind.i64.wrap ((en : Int) + (n : Int) * 36 + 13) = (z : Int) := by rw [IntKind.wrap_i64]; omega
  clear hzz hz2 hz hm h
  go_enter Tryd.func24, Tryd.ntmps24
  go_wp2_with fail
  go_quiet (fail)
  go_wp2
  go_ret
  exact ⟨rfl, (Kept.refl [] w).drewN _⟩
end Go.Proofs.YtembincggkpflaaDoor


/- A head's add: the set of sums asked, and one more put in; the errors. -/
namespace Go.Proofs.YtembincggkpflaaDoor
open Go.RowKit Go.Lib Go.Maps

theorem zero_unit (W : World) : (zeroValue 80).run Tryd.prog W = .ok (.agg #[]) W := by kernel_rfl
theorem look_set {w : World} {mv : Value} {ids : List (List UInt8)} (h : Set32 w mv ids) (id : List UInt8) (h32 : id.length = 32) : (Instr.lookup 26 mv (.agg (id.map B).toArray) true).run Tryd.prog w = .ok (.tuple #[.agg #[], .bool (decide (id ∈ ids))]) w := by
  obtain ⟨kl, hk⟩ := id_key id h32
  rcases h with ⟨rfl, rfl⟩ | ⟨b, n, D, rfl, hn, ho, hh⟩
  · have h1 := Maps.look_nil (w := w) true a_keyed Tryd.underlying26 (zero_unit w) hk
    simpa using h1
  · obtain ⟨v, ps, h1, h2⟩ := ho.look_ok a_keyed Tryd.underlying26 (zero_unit w) unitElem_mk hk
    obtain ⟨rfl, _⟩ := unitElem_inv h2
    rw [h1, hh id kl h32 hk]
theorem plain_add' (g j : Nat) : (⟨g, 0, none⟩ : Addr).add j = ⟨g, j, none⟩ := by unfold Addr.add; split <;> simp_all
theorem run_ld_en {w : World} {p : Nat} {cs : List Value} (h : w.heap[p]? = some (.cells cs.toArray 38 (0, 0))) (hl : cs.length = 34) : (loadVar 38 ⟨p, 0, none⟩).run Tryd.prog w = .ok (.agg cs.toArray) w :=
  run_loadVar_cells w _ _ cs _ Tryd.underlying38 rfl (by rw [hl]; exact en_info) (fun j v hj => by rw [plain_add', cell_of_row w _ j _ _ _ h]; simpa using hj)

/-- What add does. -/
def Added (w : World) (S : List Nat) (p T : Nat) (more : List Value) (es : List En) (id : List UInt8) (n : Nat) (e : Ending) (w' : World) : Prop :=
  (addErr es id n ≠ 0 ∧ e = .returned (.tuple #[.agg zEnC.toArray, .int .i64 (addErr es id n)]) ∧ Kept [] w w') ∨
  (addErr es id n = 0 ∧ e = .returned (.tuple #[.agg (addE es id n).cells.toArray, .int .i64 0]) ∧ Kept S w w' ∧ ∃ S' lv' mv', Hd w' S' p T more (es ++ [addE es id n]) lv' mv' ∧ ∀ x ∈ S', x ∈ S ∨ w.heap.size ≤ x)

set_option maxRecDepth 100000 in
set_option maxHeartbeats 8000000 in
theorem h_add_err (S : List Nat) (p T : Nat) (more : List Value) (es : List En) (lv mv : Value) (id : List UInt8) (n : Nat) (w : World) (h : Hd w S p T more es lv mv) (h32 : id.length = 32) (hn : n ≤ 4294967296) (hbad : addErr es id n ≠ 0) :
    Calls Tryd.prog 19 #[.pointer (some ⟨p, 0, none⟩), .agg (id.map B).toArray, .int .i64 (n : Int)] w (Added w S p T more es id n) := by
  have hS := h.bound
  obtain ⟨ci, hci⟩ : ∃ ci, ci = id.map B := ⟨_, rfl⟩
  obtain ⟨W, hW⟩ : ∃ W, W = (w.alloc (.cells ci.toArray 36)).alloc (.cells zEnC.toArray 38) := ⟨_, rfl⟩
  have KW := hid (show Kept [] w W by rw [hW]; exact ((Kept.refl [] w).alloc _).alloc _)
  have hbox := hid (show W.heap[w.heap.size]? = some (.cells ci.toArray 36 (0, 0)) by rw [hW]; exact heap_alloc_old (heap_alloc_at rfl))
  obtain ⟨r0, hr0'⟩ : ∃ r0, r0 = w.heap.size + 1 := ⟨_, rfl⟩
  have hr0 := hid hr0'
  have hres := hid (show W.heap[r0]? = some (.cells zEnC.toArray 38 (0, 0)) by rw [hW, hr0']; exact heap_alloc_at (by simp))
  have HD := hid (h.kept KW.out (by simp))
  obtain ⟨tw, htw⟩ : ∃ tw, tw = decide (id ∈ es.map En.id) := ⟨_, rfl⟩
  have lm := hid (fun v (hv : Kept [] W v) => (HD.out.kept hv (by simp)).c1)
  have lb := hid (show ∀ v, Kept [] W v → (loadVar 36 ⟨w.heap.size, 0, none⟩).run Tryd.prog v = .ok (.agg ci.toArray) v from fun v hv =>
    run_loadVar_cells v _ _ ci _ Tryd.underlying36 rfl (by rw [hci, List.length_map, h32]; exact ninfo32) (fun j u hj => by rw [plain_add', cell_of_row v _ j _ _ _ (hv.at hbox.out (by simp))]; simpa using hj))
  have lk := hid (show ∀ v, Kept [] W v → (Instr.lookup 26 mv (.agg ci.toArray) true).run Tryd.prog v = .ok (.tuple #[.agg #[], .bool tw]) v from fun v hv => by
    rw [hci, htw]; exact look_set ((HD.out.kept hv (by simp)).set) id h32)
  have zi := hid (show (Tryd.prog.info? 38).map (·.size) = some zEnC.length by rw [zEnC_len]; exact en_info)
  have zf := hid (show 0 + zEnC.length ≤ zEnC.length by omega)
  have zsp := hid (splice36 zEnC zEnC rfl)
  have hzv := zero_en; have zu := zero_unit; have hb0 := build_en0
  have hmany := h.many; have hsize := h.size
  obtain ⟨a, c, rfl⟩ := owns_slice h.list
  have HB := hid hbad; have HT := hid htw; have HW := hid hW
  have hsz := hid (fun v (hv : Kept [] W v) => h_size S p T more es _ mv v (HD.out.kept hv (by simp)))
  have l0 := hid (fun v (hv : Kept [] W v) => (HD.out.kept hv (by simp)).c0)
  have haE := hid (show addErr es id n = if 65536 < n then 2 else if es.length = 4096 then 3 else if id ∈ es.map En.id then 5 else if 1048576 < sizeP es + n + 36 then 6 else 0 from rfl)
  rw [← hci]
  clear h hci hW hbad hr0' htw
  generalize hel : es.length = m at *
  generalize hzl : sizeP es = z at *
  have HEL := hid hel
  clear hel hzl
  go_enter Tryd.func19, Tryd.ntmps19
  go_wp2_with fail
  rw [← HW.out]
  go_upto_region 1 with fail
  go_cut [9] (fun s wx => s = .bool tw ∧ Hid (Kept [] W wx))
  case first =>
    refine wp_region_held_drew (S := Kept [] W) (by kernel_rfl) (Kept.refl [] W).drew (fun hH => ?_)
    refine takeH 0 (.pointer (some ⟨p, 0, none⟩)) rfl (by kernel_rfl) (by kernel_rfl) (by kernel_rfl) (fun _ _ _ h => h) (by rfl) (fun v hv => by go_simp) hH ?_
    simp only [Act.put, List.setIfInBounds_toArray, List.set_cons_succ, List.set_cons_zero]
    refine takeH 1 (.pointer (some ⟨p, 0, none⟩)) rfl (by kernel_rfl) (by kernel_rfl) (by kernel_rfl) (fun _ _ _ h => h) (by rfl) (fun v hv => by go_simp) hH ?_
    simp only [Act.put, List.setIfInBounds_toArray, List.set_cons_succ, List.set_cons_zero]
    refine takeH 2 (.pointer (some ⟨p, 1, none⟩)) rfl (by kernel_rfl) (by kernel_rfl) (by kernel_rfl) (fun _ _ _ h => h) (by rfl) (fun v hv => by go_simp) hH ?_
    simp only [Act.put, List.setIfInBounds_toArray, List.set_cons_succ, List.set_cons_zero]
    refine takeH 3 (mv) rfl (by kernel_rfl) (by kernel_rfl) (by kernel_rfl) (fun _ _ _ h => h) (by rfl) (fun v hv => by have h := lm.out v hv; go_simp) hH ?_
    simp only [Act.put, List.setIfInBounds_toArray, List.set_cons_succ, List.set_cons_zero]
    refine takeH 4 (.agg ci.toArray) rfl (by kernel_rfl) (by kernel_rfl) (by kernel_rfl) (fun _ _ _ h => h) (by rfl) (fun v hv => by have h := lb.out v hv; unfold execOp; simp [Instr.loadAt, Instr.sureAddr, Sem.run_bind, Sem.run_pure, Result.andThen_ok, Act.eval, h]) hH ?_
    simp only [Act.put, List.setIfInBounds_toArray, List.set_cons_succ, List.set_cons_zero]
    refine takeH 5 (.tuple #[.agg #[], .bool tw]) rfl (by kernel_rfl) (by kernel_rfl) (by kernel_rfl) (fun _ _ _ h => h) (by rfl) (fun v hv => by have h := lk.out v hv; unfold execOp; simp [Sem.run_bind, Sem.run_pure, Result.andThen_ok, Act.eval, h]) hH ?_
    simp only [Act.put, List.setIfInBounds_toArray, List.set_cons_succ, List.set_cons_zero]
    refine takeH 6 (.tuple #[.agg #[], .bool tw]) rfl (by kernel_rfl) (by kernel_rfl) (by kernel_rfl) (fun _ _ _ h => h) (by rfl) (fun v hv => by go_simp) hH ?_
    simp only [Act.put, List.setIfInBounds_toArray, List.set_cons_succ, List.set_cons_zero]
    refine takeH 7 (.agg #[]) rfl (by kernel_rfl) (by kernel_rfl) (by kernel_rfl) (fun _ _ _ h => h) (by rfl) (fun v hv => by go_simp) hH ?_
    simp only [Act.put, List.setIfInBounds_toArray, List.set_cons_succ, List.set_cons_zero]
    refine takeH 8 (.bool tw) rfl (by kernel_rfl) (by kernel_rfl) (by kernel_rfl) (fun _ _ _ h => h) (by rfl) (fun v hv => by go_simp) hH ?_
    simp only [Act.put, List.setIfInBounds_toArray, List.set_cons_succ, List.set_cons_zero]
    refine runH 9 rfl (by kernel_rfl) (by rfl) (.pointer (some ⟨W.heap.size, 0, none⟩)) (W.drew.alloc (.cells #[] 80)) (by have h := zu; go_simp) (hH.alloc _) ?_
    simp only [Act.put, List.setIfInBounds_toArray, List.set_cons_succ, List.set_cons_zero]
    refine writeH 10 rfl (by kernel_rfl) (by rfl) (W.drew.alloc (.cells #[] 80)) (by go_simp) (hH.alloc _) ?_
    simp only [Act.put, List.setIfInBounds_toArray, List.set_cons_succ, List.set_cons_zero]
    refine takeH 11 (.bool tw) rfl (by kernel_rfl) (by kernel_rfl) (by kernel_rfl) (fun _ _ _ h => h) (by rfl) (fun v hv => by go_simp) (hH.alloc _) ?_
    simp only [Act.put, List.setIfInBounds_toArray, List.set_cons_succ, List.set_cons_zero]
    refine wpAnyH_done (by kernel_rfl) ?_ _
    go_wp2_with fail
    go_meet
    exact ⟨rfl, hid (hH.alloc _)⟩

  case rest =>
    obtain ⟨rfl, hk1⟩ := hcut
    have KX := hid (KW.out.trans hk1.out)
    have hrx := hid (show wc.heap[w.heap.size + 1]? = some (.cells zEnC.toArray 38 (0, 0)) from hk1.out.at (hr0.out ▸ hres.out) (by simp))
    have c0 := l0.out wc hk1.out
    by_cases q1 : 65536 < n
    · have q1z : (65536 : Int) < (n : Int) := by omega
      rw [if_pos q1] at haE
      clear q1
      go_wp2_with (refine wpList_store_at rfl 38 (.tmp 6) (.tmp 23) rfl (w.heap.size + 1) 0 zEnC rfl rfl 38 zEnC hrx.out zi.out zf.out zEnC_one ?_; refine halt ?_)
      rw [zsp.out]
      refine Halt.mk ?_
      have hb := hid (show (wc.setRow (w.heap.size + 1) zEnC.toArray).heap[w.heap.size + 1]? = some (.cells zEnC.toArray 38 (0, 0)) from setRow_heap _ _ _ _ _ _ hrx.out)
      have hkz := hid (show Kept [] w (wc.setRow (w.heap.size + 1) zEnC.toArray) from KX.out.setRow (fun h => absurd h (by omega)) _)
      generalize wc.setRow (w.heap.size + 1) zEnC.toArray = wz at *
      go_wp2
      refine bodyPost_ret (v := .tuple #[.agg zEnC.toArray, .int .i64 2]) (results_cell2 Tryd.results19 rfl rfl (run_ld_en hb.out zEnC_len)) rfl (Or.inl ⟨?_, ?_, hkz.out⟩)
      · rw [haE.out]; decide
      · rw [haE.out]

    · have q1z : ¬ (65536 : Int) < (n : Int) := by omega
      rw [if_neg q1] at haE
      by_cases q2 : m = 4096
      · have q2z : ((m : Int) == 4096) = true := by simp; omega
        rw [if_pos q2] at haE
        clear q1 q2
        go_wp2_with (refine wpList_store_at rfl 38 (.tmp 6) (.tmp 31) rfl (w.heap.size + 1) 0 zEnC rfl rfl 38 zEnC hrx.out zi.out zf.out zEnC_one ?_; refine halt ?_)
        rw [zsp.out]
        refine Halt.mk ?_
        have hb := hid (show (wc.setRow (w.heap.size + 1) zEnC.toArray).heap[w.heap.size + 1]? = some (.cells zEnC.toArray 38 (0, 0)) from setRow_heap _ _ _ _ _ _ hrx.out)
        have hkz := hid (show Kept [] w (wc.setRow (w.heap.size + 1) zEnC.toArray) from KX.out.setRow (fun h => absurd h (by omega)) _)
        generalize wc.setRow (w.heap.size + 1) zEnC.toArray = wz at *
        go_wp2
        refine bodyPost_ret (v := .tuple #[.agg zEnC.toArray, .int .i64 3]) (results_cell2 Tryd.results19 rfl rfl (run_ld_en hb.out zEnC_len)) rfl (Or.inl ⟨?_, ?_, hkz.out⟩)
        · rw [haE.out]; decide
        · rw [haE.out]

      · have q2z : ((m : Int) == 4096) = false := by simp; omega
        rw [if_neg q2] at haE
        clear q2
        cases tw
        · rw [if_neg (of_decide_eq_false HT.out.symm)] at haE
          have hz := hid (hsz.out wc hk1.out)
          have q4 : 1048576 < z + n + 36 := by
            by_cases q : 1048576 < z + n + 36
            · exact q
            · rw [if_neg q] at haE; exact absurd haE.out HB.out
          rw [if_pos q4] at haE
          have w1 : IntKind.i64.wrap ((z : Int) + (n : Int)) = ((z + n : Nat) : Int) := by rw [IntKind.wrap_i64]; omega
          have w1b : IntKind.i64.wrap ((z : Int) + (n : Int)) = (z : Int) + (n : Int) := by rw [IntKind.wrap_i64]; omega
          have w2 : IntKind.i64.wrap ((z : Int) + (n : Int) + 36) = (z : Int) + (n : Int) + 36 := by rw [IntKind.wrap_i64]; omega
          have q4z : (1048576 : Int) < (z : Int) + (n : Int) + 36 := by omega
          clear w1 q1 q4
          go_wp2_with fail
          refine hz.out.mono ?_
          rintro e w3 ⟨rfl, k3⟩
          have KX := hid (KX.out.trans k3)
          have hrx := hid (k3.at hrx.out (by simp))
          clear k3 hz
          go_wp2_with (refine wpList_store_at rfl 38 (.tmp 6) (.tmp 42) rfl (w.heap.size + 1) 0 zEnC rfl rfl 38 zEnC hrx.out zi.out zf.out zEnC_one ?_; refine halt ?_)
          rw [zsp.out]
          refine Halt.mk ?_
          have hb := hid (show (w3.setRow (w.heap.size + 1) zEnC.toArray).heap[w.heap.size + 1]? = some (.cells zEnC.toArray 38 (0, 0)) from setRow_heap _ _ _ _ _ _ hrx.out)
          have hkz := hid (show Kept [] w (w3.setRow (w.heap.size + 1) zEnC.toArray) from KX.out.setRow (fun h => absurd h (by omega)) _)
          generalize w3.setRow (w.heap.size + 1) zEnC.toArray = wz at *
          go_wp2
          refine bodyPost_ret (v := .tuple #[.agg zEnC.toArray, .int .i64 6]) (results_cell2 Tryd.results19 rfl rfl (run_ld_en hb.out zEnC_len)) rfl (Or.inl ⟨?_, ?_, hkz.out⟩)
          · rw [haE.out]; decide
          · rw [haE.out]

        · rw [if_pos (of_decide_eq_true HT.out.symm)] at haE
          clear q1
          go_wp2_with (refine wpList_store_at rfl 38 (.tmp 6) (.tmp 34) rfl (w.heap.size + 1) 0 zEnC rfl rfl 38 zEnC hrx.out zi.out zf.out zEnC_one ?_; refine halt ?_)
          rw [zsp.out]
          refine Halt.mk ?_
          have hb := hid (show (wc.setRow (w.heap.size + 1) zEnC.toArray).heap[w.heap.size + 1]? = some (.cells zEnC.toArray 38 (0, 0)) from setRow_heap _ _ _ _ _ _ hrx.out)
          have hkz := hid (show Kept [] w (wc.setRow (w.heap.size + 1) zEnC.toArray) from KX.out.setRow (fun h => absurd h (by omega)) _)
          generalize wc.setRow (w.heap.size + 1) zEnC.toArray = wz at *
          go_wp2
          refine bodyPost_ret (v := .tuple #[.agg zEnC.toArray, .int .i64 5]) (results_cell2 Tryd.results19 rfl rfl (run_ld_en hb.out zEnC_len)) rfl (Or.inl ⟨?_, ?_, hkz.out⟩)
          · rw [haE.out]; decide
          · rw [haE.out]

end Go.Proofs.YtembincggkpflaaDoor


/- A head's add: one more, where nothing is wrong. -/
namespace Go.Proofs.YtembincggkpflaaDoor
open Go.RowKit Go.Lib Go.Maps

set_option maxRecDepth 100000 in
theorem build_en' (x y : Int) (b0 b1 b2 b3 b4 b5 b6 b7 b8 b9 b10 b11 b12 b13 b14 b15 b16 b17 b18 b19 b20 b21 b22 b23 b24 b25 b26 b27 b28 b29 b30 b31 : UInt8) (W : World) : (Instr.build 38 #[(0, .agg ([b0, b1, b2, b3, b4, b5, b6, b7, b8, b9, b10, b11, b12, b13, b14, b15, b16, b17, b18, b19, b20, b21, b22, b23, b24, b25, b26, b27, b28, b29, b30, b31].map B).toArray), (1, .int .i64 x), (2, .int .i64 y)]).run Tryd.prog W = .ok (.agg ([b0, b1, b2, b3, b4, b5, b6, b7, b8, b9, b10, b11, b12, b13, b14, b15, b16, b17, b18, b19, b20, b21, b22, b23, b24, b25, b26, b27, b28, b29, b30, b31].map B ++ [Value.int .i64 x, Value.int .i64 y]).toArray) W := run_build W _ _ _ (by kernel_rfl)
theorem build_en (id : List UInt8) (h : id.length = 32) (x y : Int) (W : World) : (Instr.build 38 #[(0, .agg (id.map B).toArray), (1, .int .i64 x), (2, .int .i64 y)]).run Tryd.prog W = .ok (.agg (id.map B ++ [Value.int .i64 x, .int .i64 y]).toArray) W := by
  match id, h with
  | [b0, b1, b2, b3, b4, b5, b6, b7, b8, b9, b10, b11, b12, b13, b14, b15, b16, b17, b18, b19, b20, b21, b22, b23, b24, b25, b26, b27, b28, b29, b30, b31], _ => exact build_en' x y b0 b1 b2 b3 b4 b5 b6 b7 b8 b9 b10 b11 b12 b13 b14 b15 b16 b17 b18 b19 b20 b21 b22 b23 b24 b25 b26 b27 b28 b29 b30 b31 W
set_option maxRecDepth 100000 in
theorem build_ens' (x y : Int) (b0 b1 b2 b3 b4 b5 b6 b7 b8 b9 b10 b11 b12 b13 b14 b15 b16 b17 b18 b19 b20 b21 b22 b23 b24 b25 b26 b27 b28 b29 b30 b31 : UInt8) (W : World) : (Instr.buildSlice 25 1 #[(0, .agg ([b0, b1, b2, b3, b4, b5, b6, b7, b8, b9, b10, b11, b12, b13, b14, b15, b16, b17, b18, b19, b20, b21, b22, b23, b24, b25, b26, b27, b28, b29, b30, b31].map B ++ [Value.int .i64 x, Value.int .i64 y]).toArray)]).run Tryd.prog W = .ok (.slice (some ⟨W.heap.size, 0, none⟩) 1 1) (W.alloc (.cells ([b0, b1, b2, b3, b4, b5, b6, b7, b8, b9, b10, b11, b12, b13, b14, b15, b16, b17, b18, b19, b20, b21, b22, b23, b24, b25, b26, b27, b28, b29, b30, b31].map B ++ [Value.int .i64 x, Value.int .i64 y]).toArray 38)) := by kernel_rfl
theorem build_ens (e : En) (h : e.id.length = 32) (W : World) : (Instr.buildSlice 25 1 #[(0, .agg e.cells.toArray)]).run Tryd.prog W = .ok (.slice (some ⟨W.heap.size, 0, none⟩) 1 1) (W.alloc (.cells e.cells.toArray 38)) := by
  obtain ⟨id, off, len⟩ := e
  unfold En.cells
  match id, h with
  | [b0, b1, b2, b3, b4, b5, b6, b7, b8, b9, b10, b11, b12, b13, b14, b15, b16, b17, b18, b19, b20, b21, b22, b23, b24, b25, b26, b27, b28, b29, b30, b31], _ => exact build_ens' off len b0 b1 b2 b3 b4 b5 b6 b7 b8 b9 b10 b11 b12 b13 b14 b15 b16 b17 b18 b19 b20 b21 b22 b23 b24 b25 b26 b27 b28 b29 b30 b31 W
theorem st_en {W : World} {p : Nat} {cs : List Value} (h : W.heap[p]? = some (.cells zEnC.toArray 38 (0, 0))) (hl : cs.length = 34) (ho : ∀ v ∈ cs, v.oneCell' = true) : (storeVar 38 ⟨p, 0, none⟩ (.agg cs.toArray)).run Tryd.prog W = .ok () (W.setRow p cs.toArray) := by
  have h2 := run_storeVar_at (P := Tryd.prog) W p 0 38 38 zEnC cs h (by rw [hl]; exact en_info) (by have := zEnC_len; omega) ho
  rwa [splice36 zEnC cs (hl.trans zEnC_len.symm)] at h2
theorem ld_en {w : World} {p : Nat} {cs : List Value} (h : w.heap[p]? = some (.cells cs.toArray 38 (0, 0))) : ∀ (j : Nat) v, cs[j]? = some v → w.cell? ((⟨p, 0, none⟩ : Addr).add j) = some v := fun j v hj => by rw [plain_add', cell_of_row w _ j _ _ _ h]; simpa using hj
theorem wpList_val {P : Program} {ops : Array Oper} {rest : List Oper} {o : Oper} {a : Act} {w : World} {Q : Exit → Act → World → Prop} (hgd : o.guard = none) (v : Value) (w' : World) (hr : (execOp a.eval o).run P w = .ok (.value v) w') (h : wpList P ops Q rest (a.put o.dst v) w') : wpList P ops Q (o :: rest) a w := by
  refine wpList_plain hgd fun K hK => ?_
  unfold Oper.wp
  rw [hr]
  exact hK _ _ h
theorem ownsA_lt {w : World} {base : Nat} {e : TypeId} {size : Nat} {v : Value} {n : Nat} {xs : List Value} (h : w.ownsRow base e size v n xs) {g : Nat} (hg : v.ownBlock = some g) : g < w.heap.size := by
  rcases h.2 with ⟨rfl, _⟩ | ⟨g', _, _, rfl, hb, hh, _⟩
  · simp [Value.ownBlock] at hg
  · simp [Value.ownBlock] at hg; subst hg; exact lt_of_block hh
theorem map_nil (W : World) : (binOp .eql 26 (.map none) (.map none)).run Tryd.prog W = .ok (.bool true) W := by kernel_rfl
theorem map_nnil (b : Nat) (W : World) : (binOp .eql 26 (.map (some b)) (.map none)).run Tryd.prog W = .ok (.bool false) W := by kernel_rfl
theorem free_of_row {w : World} {p j : Nat} {cs : Array Value} {t : TypeId} (h : w.heap[p]? = some (.cells cs t (0, 0))) : w.frozen? ⟨p, j, none⟩ = false := by unfold World.frozen?; simp [h]

set_option maxRecDepth 100000 in
set_option maxHeartbeats 16000000 in
theorem h_add_ok (S : List Nat) (p T : Nat) (more : List Value) (es : List En) (lv mv : Value) (id : List UInt8) (n : Nat) (w : World) (h : Hd w S p T more es lv mv) (h32 : id.length = 32) (hgood : addErr es id n = 0) :
    Calls Tryd.prog 19 #[.pointer (some ⟨p, 0, none⟩), .agg (id.map B).toArray, .int .i64 (n : Int)] w (Added w S p T more es id n) := by
  have hS := h.bound
  obtain ⟨i0, hi0, hz0, hz1, hz2⟩ := info_parts en_zero
  obtain ⟨ci, hci⟩ : ∃ ci, ci = id.map B := ⟨_, rfl⟩
  have hci_ := hid hci
  obtain ⟨ce, hce'⟩ : ∃ ce, ce = (addE es id n).cells := ⟨_, rfl⟩
  have hce := hid hce'
  have lce := hid (show ce.length = 34 by rw [hce']; exact en_size h32)
  have ice := hid (show (Tryd.prog.info? 38).map (·.size) = some ce.length by rw [lce.out]; exact en_info)
  have fce := hid (show 0 + ce.length ≤ zEnC.length by rw [lce.out, zEnC_len]; decide)
  have sce := hid (splice36 zEnC ce (by rw [lce.out, zEnC_len]))
  have oce := hid (show ∀ v ∈ ce, v.oneCell' = true by rw [hce']; exact en_one _)
  obtain ⟨en, hen'⟩ : ∃ en, en = ends es := ⟨_, rfl⟩
  have hen := hid hen'
  have hbe := hid (show ∀ W, (Instr.build 38 #[(0, .agg ci.toArray), (1, .int .i64 (en : Int)), (2, .int .i64 (n : Int))]).run Tryd.prog W = .ok (.agg ce.toArray) W from fun W => by rw [hci, hce', hen']; exact build_en id h32 _ _ W)
  have hbs := hid (show ∀ W : World, (Instr.buildSlice 25 1 #[(0, .agg ce.toArray)]).run Tryd.prog W = .ok (.slice (some ⟨W.heap.size, 0, none⟩) 1 1) (W.alloc (.cells ce.toArray 38)) from fun W => by rw [hce']; exact build_ens _ h32 W)
  obtain ⟨W, hW⟩ : ∃ W, W = (w.alloc (.cells ci.toArray 36)).alloc (.cells zEnC.toArray 38) := ⟨_, rfl⟩
  have KW := hid (show Kept [] w W by rw [hW]; exact ((Kept.refl [] w).alloc _).alloc _)
  have hbox := hid (show W.heap[w.heap.size]? = some (.cells ci.toArray 36 (0, 0)) by rw [hW]; exact heap_alloc_old (heap_alloc_at rfl))
  have hres := hid (show W.heap[w.heap.size + 1]? = some (.cells zEnC.toArray 38 (0, 0)) by rw [hW]; exact heap_alloc_at (by simp))
  have HD := hid (h.kept KW.out (by simp))
  have htw : false = decide (id ∈ es.map En.id) := by
    unfold addErr at hgood
    by_cases q : id ∈ es.map En.id
    · rw [if_pos q] at hgood
      split at hgood
      · cases hgood
      · split at hgood <;> cases hgood
    · exact (decide_eq_false q).symm
  have lm := hid (fun v (hv : Kept [] W v) => (HD.out.kept hv (by simp)).c1)
  have hld := hid (show ∀ v : World, v.heap[w.heap.size]? = some (.cells ci.toArray 36 (0, 0)) → (loadVar 36 ⟨w.heap.size, 0, none⟩).run Tryd.prog v = .ok (.agg ci.toArray) v from fun v hv =>
    run_loadVar_cells v _ _ ci _ Tryd.underlying36 rfl (by rw [hci, List.length_map, h32]; exact ninfo32) (fun j u hj => by rw [plain_add', cell_of_row v _ j _ _ _ hv]; simpa using hj))
  have lb := hid (show ∀ v, Kept [] W v → (loadVar 36 ⟨w.heap.size, 0, none⟩).run Tryd.prog v = .ok (.agg ci.toArray) v from fun v hv => hld.out v (hv.at hbox.out (by simp)))
  obtain ⟨tw, htw2⟩ : ∃ tw, tw = false := ⟨_, rfl⟩
  have lk := hid (show ∀ v, Kept [] W v → (Instr.lookup 26 mv (.agg ci.toArray) true).run Tryd.prog v = .ok (.tuple #[.agg #[], .bool tw]) v from fun v hv => by
    rw [hci, htw2, htw]; exact look_set ((HD.out.kept hv (by simp)).set) id h32)
  have hzv := zero_en; have zu := zero_unit; have hb0 := build_en0
  have hpS := hid h.hp
  have hpw := hid (show p < w.heap.size from hS p h.hp)
  have hrt := hid h.rt
  obtain ⟨a, c, hlv⟩ := owns_slice h.list
  obtain ⟨m, hm'⟩ : ∃ m, es.length = m := ⟨_, rfl⟩
  obtain ⟨z, hz'⟩ : ∃ z, z = sizeP es := ⟨_, rfl⟩
  obtain ⟨fl, hfl'⟩ : ∃ fl, fl = es.flatMap c34 := ⟨_, rfl⟩
  have hm_ := hid hm'; have hz_ := hid hz'; have hfl := hid hfl'
  rw [hm'] at hlv
  subst hlv
  have vown := hid h.hl
  have vownw := hid (show ∀ g, (Value.slice a m c).ownBlock = some g → g < w.heap.size from fun g hg => hS g (h.hl g hg).1)
  have hmb := hid h.hm
  have HW := hid hW
  have hsz := hid (show ∀ v, Kept [] W v → Calls Tryd.prog 24 #[.pointer (some ⟨p, 0, none⟩)] v fun e w' => e = .returned (.int .i64 (z : Int)) ∧ Kept [] v w' from fun v hv => by rw [hz']; exact h_size S p T more es _ mv v (HD.out.kept hv (by simp)))
  have l0 := hid (fun v (hv : Kept [] W v) => (HD.out.kept hv (by simp)).c0)
  have hzero := hid hgood
  have hset := hid (HD.out.set)
  have hrowW := hid (show W.heap[p]? = some (.cells ([Value.slice a m c, mv, .int .i64 (en : Int)] ++ more).toArray T (0, 0)) by rw [hen']; exact HD.out.row)
  have hlistW := hid (show W.ownsRow 0 38 34 (.slice a m c) m fl by have := HD.out.list; rw [hm', ← hfl'] at this; exact this)
  obtain ⟨kl, hkl'⟩ := id_key id h32
  have hkl := hid (show keyOf Tryd.prog 36 (.agg ci.toArray) = some kl by rw [hci]; exact hkl')
  have hq : n ≤ 65536 ∧ es.length ≠ 4096 ∧ sizeP es + n + 36 ≤ 1048576 := by
    unfold addErr at hgood
    split at hgood
    · cases hgood
    · split at hgood
      · cases hgood
      · split at hgood
        · cases hgood
        · split at hgood
          · cases hgood
          · rename_i h1 h2 h3 h4; exact ⟨by omega, h2, by omega⟩
  obtain ⟨hq1, hq2, hq3⟩ := hq
  have hmany : m < 4096 := by have := h.many; omega
  rw [← hz'] at hq3
  have enle : en ≤ 1048576 := by rw [hen']; have := h.size; unfold sizeP at this; omega
  rw [← hci]
  clear h hci hW hgood htw hce' hen' hfl' hkl' hm' hz' hq2
  go_enter Tryd.func19, Tryd.ntmps19
  go_wp2_with fail
  rw [← HW.out]
  go_upto_region 1 with fail
  go_cut [9] (fun s wx => s = .bool tw ∧ Hid (Kept [] W wx))
  case first =>
    refine wp_region_held_drew (S := Kept [] W) (by kernel_rfl) (Kept.refl [] W).drew (fun hH => ?_)
    refine takeH 0 (.pointer (some ⟨p, 0, none⟩)) rfl (by kernel_rfl) (by kernel_rfl) (by kernel_rfl) (fun _ _ _ h => h) (by rfl) (fun v hv => by go_simp) hH ?_
    simp only [Act.put, List.setIfInBounds_toArray, List.set_cons_succ, List.set_cons_zero]
    refine takeH 1 (.pointer (some ⟨p, 0, none⟩)) rfl (by kernel_rfl) (by kernel_rfl) (by kernel_rfl) (fun _ _ _ h => h) (by rfl) (fun v hv => by go_simp) hH ?_
    simp only [Act.put, List.setIfInBounds_toArray, List.set_cons_succ, List.set_cons_zero]
    refine takeH 2 (.pointer (some ⟨p, 1, none⟩)) rfl (by kernel_rfl) (by kernel_rfl) (by kernel_rfl) (fun _ _ _ h => h) (by rfl) (fun v hv => by go_simp) hH ?_
    simp only [Act.put, List.setIfInBounds_toArray, List.set_cons_succ, List.set_cons_zero]
    refine takeH 3 (mv) rfl (by kernel_rfl) (by kernel_rfl) (by kernel_rfl) (fun _ _ _ h => h) (by rfl) (fun v hv => by have h := lm.out v hv; go_simp) hH ?_
    simp only [Act.put, List.setIfInBounds_toArray, List.set_cons_succ, List.set_cons_zero]
    refine takeH 4 (.agg ci.toArray) rfl (by kernel_rfl) (by kernel_rfl) (by kernel_rfl) (fun _ _ _ h => h) (by rfl) (fun v hv => by have h := lb.out v hv; unfold execOp; simp [Instr.loadAt, Instr.sureAddr, Sem.run_bind, Sem.run_pure, Result.andThen_ok, Act.eval, h]) hH ?_
    simp only [Act.put, List.setIfInBounds_toArray, List.set_cons_succ, List.set_cons_zero]
    refine takeH 5 (.tuple #[.agg #[], .bool tw]) rfl (by kernel_rfl) (by kernel_rfl) (by kernel_rfl) (fun _ _ _ h => h) (by rfl) (fun v hv => by have h := lk.out v hv; unfold execOp; simp [Sem.run_bind, Sem.run_pure, Result.andThen_ok, Act.eval, h]) hH ?_
    simp only [Act.put, List.setIfInBounds_toArray, List.set_cons_succ, List.set_cons_zero]
    refine takeH 6 (.tuple #[.agg #[], .bool tw]) rfl (by kernel_rfl) (by kernel_rfl) (by kernel_rfl) (fun _ _ _ h => h) (by rfl) (fun v hv => by go_simp) hH ?_
    simp only [Act.put, List.setIfInBounds_toArray, List.set_cons_succ, List.set_cons_zero]
    refine takeH 7 (.agg #[]) rfl (by kernel_rfl) (by kernel_rfl) (by kernel_rfl) (fun _ _ _ h => h) (by rfl) (fun v hv => by go_simp) hH ?_
    simp only [Act.put, List.setIfInBounds_toArray, List.set_cons_succ, List.set_cons_zero]
    refine takeH 8 (.bool tw) rfl (by kernel_rfl) (by kernel_rfl) (by kernel_rfl) (fun _ _ _ h => h) (by rfl) (fun v hv => by go_simp) hH ?_
    simp only [Act.put, List.setIfInBounds_toArray, List.set_cons_succ, List.set_cons_zero]
    refine runH 9 rfl (by kernel_rfl) (by rfl) (.pointer (some ⟨W.heap.size, 0, none⟩)) (W.drew.alloc (.cells #[] 80)) (by have h := zu; go_simp) (hH.alloc _) ?_
    simp only [Act.put, List.setIfInBounds_toArray, List.set_cons_succ, List.set_cons_zero]
    refine writeH 10 rfl (by kernel_rfl) (by rfl) (W.drew.alloc (.cells #[] 80)) (by go_simp) (hH.alloc _) ?_
    simp only [Act.put, List.setIfInBounds_toArray, List.set_cons_succ, List.set_cons_zero]
    refine takeH 11 (.bool tw) rfl (by kernel_rfl) (by kernel_rfl) (by kernel_rfl) (fun _ _ _ h => h) (by rfl) (fun v hv => by go_simp) (hH.alloc _) ?_
    simp only [Act.put, List.setIfInBounds_toArray, List.set_cons_succ, List.set_cons_zero]
    refine wpAnyH_done (by kernel_rfl) ?_ _
    go_wp2_with fail
    go_meet
    exact ⟨rfl, hid (hH.alloc _)⟩

  case rest =>
    obtain ⟨rfl, hk1⟩ := hcut
    subst htw2
    have c0 := l0.out wc hk1.out
    have q1z : ¬ (65536 : Int) < (n : Int) := by omega
    have q2z : ((m : Int) == 4096) = false := by simp; omega
    have hz := hid (hsz.out wc hk1.out)
    have w1b : IntKind.i64.wrap ((z : Int) + (n : Int)) = (z : Int) + (n : Int) := by rw [IntKind.wrap_i64]; omega
    obtain ⟨y36, hy36⟩ : ∃ y : Int, y = (z : Int) + (n : Int) + 36 := ⟨_, rfl⟩
    have w2 : IntKind.i64.wrap ((z : Int) + (n : Int) + 36) = y36 := by rw [IntKind.wrap_i64]; omega
    have q4z : ¬ (1048576 : Int) < y36 := by omega
    clear hy36
    have wen : IntKind.i64.wrap ((en : Int) + (n : Int)) = (en : Int) + (n : Int) := by rw [IntKind.wrap_i64]; omega
    go_wp2_with fail
    refine hz.out.mono ?_
    rintro e w3 ⟨rfl, k3⟩
    have kW3 := hid (hk1.out.trans k3)
    have KX := hid (KW.out.trans kW3.out)
    have c1 := lm.out w3 kW3.out
    clear k3 hz c0
    rcases hset.out with ⟨hmv, hids⟩ | ⟨b, kn, D, hmv, hkn, hown, hhas⟩
    · subst hmv
      have hne := map_nil
      have hrow3 := kW3.out.at hrowW.out (by simp)
      obtain ⟨V, hV⟩ : ∃ V, V = (w3.alloc (.map #[] 0)).setCell ⟨p, 1, none⟩ (.map (some w3.heap.size)) := ⟨_, rfl⟩
      have hrA : (w3.alloc (.map #[] 0)).heap[p]? = _ := heap_alloc_old hrow3
      have g1 : (w3.alloc (.map #[] 0)).cell? ⟨p, 1, none⟩ = some (.map none) := by rw [cell_of_row _ _ 1 _ _ _ hrA]; rfl
      have f1 : (w3.alloc (.map #[] 0)).frozen? ⟨p, 1, none⟩ = false := free_of_row hrA
      have hk4 : Kept [p] w3 V := by rw [hV]; exact ((Kept.refl [p] w3).alloc _).setCell (fun _ => by simp) _
      have KV := hid (show Kept S w V from (KX.out.wider (by simp)).trans' hk4 (fun x hx hm => by simp at hm; subst hm; exact hpS.out))
      have hb' : w.heap.size + 2 ≤ w3.heap.size := by have h1 := kW3.out.size; have h2 : W.heap.size = w.heap.size + 2 := by rw [HW.out]; simp
                                                      omega
      obtain ⟨b, hb⟩ : ∃ b, b = w3.heap.size := ⟨_, rfl⟩
      have vrow := hid (show V.heap[p]? = some (.cells ([Value.slice a m c, .map (some b), .int .i64 (en : Int)] ++ more).toArray T (0, 0)) from by
        have := Go.heap_setCell_same (w3.alloc (.map #[] 0)) p 1 _ _ (.map (some w3.heap.size)) hrA
        rw [hV, hb]; simpa using this)
      have hVs3 : V.heap.size = w3.heap.size + 1 := by rw [hV]; simp [World.setCell]
      have vmap := hid (show V.ownsMap Tryd.prog 36 unitElem b 0 (.map [] : DataW Unit) from by
        rw [hV, hb]; exact (World.ownsMap_made w3 _ _ _).setCell (by have := hpw.out; show w3.heap.size ≠ p; omega) _)
      obtain ⟨kn, hkn'⟩ : ∃ kn, kn = 0 := ⟨_, rfl⟩
      obtain ⟨D, hD'⟩ : ∃ D : DataW Unit, D = .map [] := ⟨_, rfl⟩
      rw [← hkn', ← hD'] at vmap
      have vkn := hid (show kn ≤ m by omega)
      have vhas := hid (show ∀ id kl, id.length = 32 → keyOf Tryd.prog 36 (.agg (id.map B).toArray) = some kl → Maps.has D kl = decide (id ∈ es.map En.id) from fun id kl _ _ => by rw [hids, hD']; simp [Maps.has])
      have vlist := hid (show V.ownsRow 0 38 34 (.slice a m c) m fl from hk4.owns (kW3.out.owns hlistW.out (by simp)) (fun g hg => by simp; exact (vown.out g hg).2))
      have vbox := hid (show V.heap[w.heap.size]? = some (.cells ci.toArray 36 (0, 0)) from hk4.at (kW3.out.at hbox.out (by simp)) (by have := hpw.out; simp; omega))
      have vres := hid (show V.heap[w.heap.size + 1]? = some (.cells zEnC.toArray 38 (0, 0)) from hk4.at (kW3.out.at hres.out (by simp)) (by have := hpw.out; simp; omega))
      have vownlt := hid (show ∀ g, (Value.slice a m c).ownBlock = some g → g < V.heap.size from fun g hg => by have := vownw.out g hg; omega)
      have vb := hid (show (b ∈ S ∨ w.heap.size ≤ b) ∧ b ≠ p ∧ (Value.slice a m c).ownBlock ≠ some b ∧ b ≠ w.heap.size ∧ (b < V.heap.size ∧ b ≠ w.heap.size + 1 ∧ w.heap.size + 2 ≤ V.heap.size) from ⟨Or.inr (by omega), by have := hpw.out; omega, fun e => by have := vownw.out b e; omega, by omega, by omega, by omega, by omega⟩)
      have HV := hid hV
      clear hV hkn' hD' hVs3 hk4 hrA hrow3
      have HB := hid hb
      clear hb
      go_wp2_with (refine wpList_val rfl (.map (some w3.heap.size)) (w3.alloc (.map #[] 0)) (by rfl) ?_)
      rw [← HV.out]
      clear g1 f1 hb' c1 hne

      have vl2 := hid (show ∀ v, Kept [] V v → v.cell? ⟨p, 2, none⟩ = some (.int .i64 (en : Int)) from fun v hv => by rw [cell_of_row v _ 2 _ _ _ (hv.at vrow.out (by simp))]; rfl)
      have vlb := hid (show ∀ v, Kept [] V v → (loadVar 36 ⟨w.heap.size, 0, none⟩).run Tryd.prog v = .ok (.agg ci.toArray) v from fun v hv => hld.out v (hv.at vbox.out (by simp)))
      go_upto_region 12 with fail
      go_cut [10] (fun s wx => s = .pointer (some ⟨V.heap.size, 0, none⟩) ∧ Hid (Kept [] V wx) ∧ Hid (wx.heap[V.heap.size]? = some (.cells ce.toArray 38 (0, 0))))
      case first =>
        refine wp_region_held_drew (S := Kept [] V) (by kernel_rfl) (Kept.refl [] V).drew (fun hH => ?_)
        refine takeH 0 (.agg ci.toArray) rfl (by kernel_rfl) (by kernel_rfl) (by kernel_rfl) (fun _ _ _ h => h) (by rfl) (fun v hv => by have h := vlb.out v hv; unfold execOp; simp [Instr.loadAt, Instr.sureAddr, Sem.run_bind, Sem.run_pure, Result.andThen_ok, Act.eval, h]) hH ?_
        simp only [Act.put, List.setIfInBounds_toArray, List.set_cons_succ, List.set_cons_zero]
        refine takeH 1 (.pointer (some ⟨p, 0, none⟩)) rfl (by kernel_rfl) (by kernel_rfl) (by kernel_rfl) (fun _ _ _ h => h) (by rfl) (fun v hv => by go_simp) hH ?_
        simp only [Act.put, List.setIfInBounds_toArray, List.set_cons_succ, List.set_cons_zero]
        refine takeH 2 (.pointer (some ⟨p, 0, none⟩)) rfl (by kernel_rfl) (by kernel_rfl) (by kernel_rfl) (fun _ _ _ h => h) (by rfl) (fun v hv => by go_simp) hH ?_
        simp only [Act.put, List.setIfInBounds_toArray, List.set_cons_succ, List.set_cons_zero]
        refine takeH 3 (.pointer (some ⟨p, 2, none⟩)) rfl (by kernel_rfl) (by kernel_rfl) (by kernel_rfl) (fun _ _ _ h => h) (by rfl) (fun v hv => by go_simp) hH ?_
        simp only [Act.put, List.setIfInBounds_toArray, List.set_cons_succ, List.set_cons_zero]
        refine takeH 4 (.int .i64 (en : Int)) rfl (by kernel_rfl) (by kernel_rfl) (by kernel_rfl) (fun _ _ _ h => h) (by rfl) (fun v hv => by have h := vl2.out v hv; go_simp) hH ?_
        simp only [Act.put, List.setIfInBounds_toArray, List.set_cons_succ, List.set_cons_zero]
        refine takeH 5 (.int .i64 (n : Int)) rfl (by kernel_rfl) (by kernel_rfl) (by kernel_rfl) (fun _ _ _ h => h) (by rfl) (fun v hv => by go_simp) hH ?_
        simp only [Act.put, List.setIfInBounds_toArray, List.set_cons_succ, List.set_cons_zero]
        refine takeH 6 (.agg ce.toArray) rfl (by kernel_rfl) (by kernel_rfl) (by kernel_rfl) (fun _ _ _ h => h) (by rfl) (fun v hv => by have h := hbe.out v; unfold execOp; simp [Act.eval, Act.put, h]) hH ?_
        simp only [Act.put, List.setIfInBounds_toArray, List.set_cons_succ, List.set_cons_zero]
        refine runH 7 rfl (by kernel_rfl) (by rfl) (.pointer (some ⟨V.heap.size, 0, none⟩)) (V.drew.alloc (.cells zEnC.toArray 38)) (by have h := hzv; go_simp) (hH.alloc _) ?_
        simp only [Act.put, List.setIfInBounds_toArray, List.set_cons_succ, List.set_cons_zero]
        have hs8 := hid (show (storeVar 38 ⟨V.heap.size, 0, none⟩ (.agg ce.toArray)).run Tryd.prog (V.drew.alloc (.cells zEnC.toArray 38)) = .ok () ((V.drew.alloc (.cells zEnC.toArray 38)).setRow V.heap.size ce.toArray) from st_en (heap_alloc_at rfl) lce.out oce.out)
        refine writeH 8 rfl (by kernel_rfl) (by rfl) ((V.drew.alloc (.cells zEnC.toArray 38)).setRow V.heap.size ce.toArray) (by have h := hs8.out; unfold execOp; simp [Act.eval, Instr.storeAt, Instr.sureAddr, Sem.run_bind, Sem.run_pure, Result.andThen_ok, h]) ((hH.alloc _).setRow (fun h => absurd h (Nat.lt_irrefl _)) _) ?_
        simp only [Act.put, List.setIfInBounds_toArray, List.set_cons_succ, List.set_cons_zero]
        refine wpAnyH_done (by kernel_rfl) ?_ _
        go_wp2_with fail
        go_meet
        exact ⟨rfl, hid ((hH.alloc _).setRow (fun h => absurd h (Nat.lt_irrefl _)) _), hid (setRow_heap _ _ _ _ _ _ (heap_alloc_at rfl))⟩
      case rest =>
        obtain ⟨rfl, hk12, he12⟩ := hcut
        rename World => V2
        have ul1 := hid (show ∀ v, Kept [b] V2 v → v.cell? ⟨p, 1, none⟩ = some (.map (some b)) from fun v hv => by rw [cell_of_row v _ 1 _ _ _ (hv.at (hk12.out.at vrow.out (by simp)) (by have := vb.out.2.1; simpa using fun e => this e.symm))]; rfl)
        have ulb := hid (show ∀ v, Kept [b] V2 v → (loadVar 36 ⟨w.heap.size, 0, none⟩).run Tryd.prog v = .ok (.agg ci.toArray) v from fun v hv => hld.out v (hv.at (hk12.out.at vbox.out (by simp)) (by have := vb.out.2.2.2.1; simpa using fun e => this e.symm)))
        have umap := hid (show V2.drew.ownsMap Tryd.prog 36 unitElem b kn D from hk12.out.ownsMap vmap.out (by simp))
        go_upto_region 13 with fail
        go_cut [] (fun wx => Hid (Kept [b] V2 wx) ∧ Hid (wx.ownsMap Tryd.prog 36 unitElem b (kn + 1) (D.put kl (.agg []))))
        case first =>
          refine wp_region_held_drew (S := Kept [b] V2) (by kernel_rfl) (Kept.refl [b] V2).drew (fun hH => ?_)
          refine takeH 0 (.pointer (some ⟨p, 0, none⟩)) rfl (by kernel_rfl) (by kernel_rfl) (by kernel_rfl) (fun _ _ _ h => h) (by rfl) (fun v hv => by go_simp) hH ?_
          simp only [Act.put, List.setIfInBounds_toArray, List.set_cons_succ, List.set_cons_zero]
          refine takeH 1 (.pointer (some ⟨p, 0, none⟩)) rfl (by kernel_rfl) (by kernel_rfl) (by kernel_rfl) (fun _ _ _ h => h) (by rfl) (fun v hv => by go_simp) hH ?_
          simp only [Act.put, List.setIfInBounds_toArray, List.set_cons_succ, List.set_cons_zero]
          refine takeH 2 (.pointer (some ⟨p, 1, none⟩)) rfl (by kernel_rfl) (by kernel_rfl) (by kernel_rfl) (fun _ _ _ h => h) (by rfl) (fun v hv => by go_simp) hH ?_
          simp only [Act.put, List.setIfInBounds_toArray, List.set_cons_succ, List.set_cons_zero]
          refine takeH 3 (.map (some b)) rfl (by kernel_rfl) (by kernel_rfl) (by kernel_rfl) (fun _ _ _ h => h) (by rfl) (fun v hv => by have h := ul1.out v hv; go_simp) hH ?_
          simp only [Act.put, List.setIfInBounds_toArray, List.set_cons_succ, List.set_cons_zero]
          refine takeH 4 (.agg ci.toArray) rfl (by kernel_rfl) (by kernel_rfl) (by kernel_rfl) (fun _ _ _ h => h) (by rfl) (fun v hv => by have h := ulb.out v hv; unfold execOp; simp [Instr.loadAt, Instr.sureAddr, Sem.run_bind, Sem.run_pure, Result.andThen_ok, Act.eval, h]) hH ?_
          simp only [Act.put, List.setIfInBounds_toArray, List.set_cons_succ, List.set_cons_zero]
          refine takeH 5 (.agg #[]) rfl (by kernel_rfl) (by kernel_rfl) (by kernel_rfl) (fun _ _ _ h => h) (by rfl) (fun v hv => by go_simp) hH ?_
          simp only [Act.put, List.setIfInBounds_toArray, List.set_cons_succ, List.set_cons_zero]
          obtain ⟨wu, hu1, hu2, hu3⟩ := World.ownsMap.store (w := V2.drew) (t := 26) (val := .agg #[]) umap.out a_keyed Tryd.underlying26 (by have := vkn.out; have := hmany; unfold maxLen; omega) hkl.out unitElem_mk
          have hku : Kept [b] V2 wu := (Kept.refl [b] V2).drew.trans (Kept.of_grown hu3.grown (fun k hk _ => by simp at hk; simp [hk]))
          refine writeH 6 rfl (by kernel_rfl) (by rfl) wu (by have h := hu1; unfold execOp; simp [Act.eval, Sem.run_bind, Sem.run_pure, Result.andThen_ok, h]) hku ?_
          simp only [Act.put, List.setIfInBounds_toArray, List.set_cons_succ, List.set_cons_zero]
          refine wpAnyH_done (by kernel_rfl) ?_ _
          go_wp2_with fail
          go_meet
          exact ⟨hid hku, hid hu2⟩
        case rest =>
          obtain ⟨hk13, hm13⟩ := hcut
          rename World => V3
          have hVs := hid (lt_of_block vrow.out)
          have vr3 := hid (show V3.heap[p]? = some (.cells ([Value.slice a m c, .map (some b), .int .i64 (en : Int)] ++ more).toArray T (0, 0)) from hk13.out.at (hk12.out.at vrow.out (by simp)) (by have := vb.out.2.1; simpa using fun e => this e.symm))
          have vl3 := hid (show V3.ownsRow 0 38 34 (.slice a m c) m fl from hk13.out.owns (hk12.out.owns vlist.out (by simp)) (fun g hg => by have := vb.out.2.2.1; simp; rintro rfl; exact this hg))
          have he3 := hid (show V3.heap[V.heap.size]? = some (.cells ce.toArray 38 (0, 0)) from hk13.out.at he12.out (by have := vb.out.2.2.2.2; simp; omega))
          have wlb := hid (show ∀ v, Kept (p :: (Value.slice a m c).ownBlock.toList) V3 v → (loadVar 38 ⟨V.heap.size, 0, none⟩).run Tryd.prog v = .ok (.agg ce.toArray) v from fun v hv => run_ld_en (hv.at he3.out (by
            have h1 := hVs.out
            simp only [List.mem_cons, Option.mem_toList, not_or]
            exact ⟨by omega, fun hg => by have := vownlt.out _ hg; omega⟩)) lce.out)
          go_upto_region 14 with fail
          go_cut [] (fun wx => ∃ a7 c7, Hid (Kept (p :: (Value.slice a m c).ownBlock.toList) V3 wx) ∧ Hid (wx.heap[p]? = some (.cells ([Value.slice a7 (m + 1) c7, .map (some b), .int .i64 (en : Int)] ++ more).toArray T (0, 0))) ∧ Hid (wx.ownsRow 0 38 34 (.slice a7 (m + 1) c7) (m + 1) (fl ++ ce)) ∧ Hid (∀ g, (Value.slice a7 (m + 1) c7).ownBlock = some g → (Value.slice a m c).ownBlock = some g ∨ V3.heap.size ≤ g))
          case first =>
            refine wp_region_held_drew (S := Kept (p :: (Value.slice a m c).ownBlock.toList) V3) (by kernel_rfl) (Kept.refl _ V3).drew (fun hH => ?_)
            refine takeH 0 (.pointer (some ⟨p, 0, none⟩)) rfl (by kernel_rfl) (by kernel_rfl) (by kernel_rfl) (fun _ _ _ h => h) (by rfl) (fun v hv => by go_simp) hH ?_
            simp only [Act.put, List.setIfInBounds_toArray, List.set_cons_succ, List.set_cons_zero]
            refine takeH 1 (.pointer (some ⟨p, 0, none⟩)) rfl (by kernel_rfl) (by kernel_rfl) (by kernel_rfl) (fun _ _ _ h => h) (by rfl) (fun v hv => by go_simp) hH ?_
            simp only [Act.put, List.setIfInBounds_toArray, List.set_cons_succ, List.set_cons_zero]
            refine takeH 2 (.pointer (some ⟨p, 0, none⟩)) rfl (by kernel_rfl) (by kernel_rfl) (by kernel_rfl) (fun _ _ _ h => h) (by rfl) (fun v hv => by go_simp) hH ?_
            simp only [Act.put, List.setIfInBounds_toArray, List.set_cons_succ, List.set_cons_zero]
            refine takeH 3 (.pointer (some ⟨p, 0, none⟩)) rfl (by kernel_rfl) (by kernel_rfl) (by kernel_rfl) (fun _ _ _ h => h) (by rfl) (fun v hv => by go_simp) hH ?_
            simp only [Act.put, List.setIfInBounds_toArray, List.set_cons_succ, List.set_cons_zero]
            refine takeH 5 (.agg ce.toArray) rfl (by kernel_rfl) (by kernel_rfl) (by kernel_rfl) (fun _ _ _ h => h) (by rfl) (fun v hv => by have h := wlb.out v hv; unfold execOp; simp [Instr.loadAt, Instr.sureAddr, Sem.run_bind, Sem.run_pure, Result.andThen_ok, Act.eval, h]) hH ?_
            simp only [Act.put, List.setIfInBounds_toArray, List.set_cons_succ, List.set_cons_zero]
            obtain ⟨X6, hX6'⟩ : ∃ X6, X6 = V3.drew.alloc (.cells ce.toArray 38) := ⟨_, rfl⟩
            have hX6 := hid (show Kept [] V3 X6 by rw [hX6']; exact (Kept.refl [] V3).drew.alloc _)
            have hX6S := hid (show Kept (p :: (Value.slice a m c).ownBlock.toList) V3 X6 from hX6.out.wider (by simp))
            have hb6 := hid (show X6.heap[V3.heap.size]? = some (.cells ce.toArray 38 (0, 0)) by rw [hX6']; exact heap_alloc_at rfl)
            have HX6' := hid hX6'
            clear hX6'
            have gl := hid (show V3.drew.cell? ⟨p, 0, none⟩ = some (.slice a m c) by rw [cell_of_row V3.drew _ 0 _ _ _ vr3.out]; rfl)
            have gl6 := hid (show X6.cell? ⟨p, 0, none⟩ = some (.slice a m c) by rw [cell_of_row X6 _ 0 _ _ _ (hX6.out.at vr3.out (by simp))]; rfl)
            refine bothH 4 6 rfl rfl (by kernel_rfl) (by rfl) (by rfl) (.slice a m c) V3.drew (by have h := gl.out; go_simp) hH (.slice (some ⟨V3.heap.size, 0, none⟩) 1 1) X6 (by have h := hbs.out V3.drew; rw [HX6'.out]; unfold execOp; simp [Act.eval, Act.put, h]) hX6S.out ?_ ?_
            · simp only [Act.put, List.setIfInBounds_toArray, List.set_cons_succ, List.set_cons_zero]
              refine runH 6 rfl (by kernel_rfl) (by rfl) (.slice (some ⟨V3.heap.size, 0, none⟩) 1 1) X6 (by have h := hbs.out V3.drew; rw [HX6'.out]; unfold execOp; simp [Act.eval, Act.put, h]) hX6S.out ?_
              simp only [Act.put, List.setIfInBounds_toArray, List.set_cons_succ, List.set_cons_zero]
              have ho6 := hid (hX6.out.owns vl3.out (by simp))
              have hn6 := hid (show ∀ (j : Nat) u, ce[j]? = some u → X6.cell? ((⟨V3.heap.size, 0, none⟩ : Addr).add j) = some u from fun j u hu => by rw [plain_add', cell_of_row X6 _ j _ _ _ hb6.out]; simpa using hu)
              refine appendKH 7 rfl (by kernel_rfl) rfl (.tmp 69) (.tmp 71) 25 rfl 0 38 i0 _ 34 48 Tryd.underlying25 hi0 hz0 hz1 hz2 (by rw [Value.cells, List.size_toArray, zEnC_len]) (by decide) (.slice a m c) m _ rfl ho6.out (.slice (some ⟨V3.heap.size, 0, none⟩) 1 1) 1 ce rfl (Or.inr ⟨_, _, rfl, hn6.out⟩) (by rw [lce.out]) oce.out (by unfold maxLen; omega) (by omega) (Nat.zero_le _) ?_
              intro a7 c7 w7 ho7 hg7 _ hf7
              have hk7 : Kept (p :: (Value.slice a m c).ownBlock.toList) V3 w7 := (hX6.out.wider (by simp)).trans' (Kept.of_row hg7) (fun y hy hm => by simp [hm])
              have hrow7 : w7.heap[p]? = some (.cells ([Value.slice a m c, .map (some b), .int .i64 (en : Int)] ++ more).toArray T (0, 0)) := heap_grown hg7 (hX6.out.at vr3.out (by simp)) (fun e => (vown.out p e).2 rfl)
              refine ⟨hk7, ?_⟩
              simp only [Act.put, List.setIfInBounds_toArray, List.set_cons_succ, List.set_cons_zero]
              refine takeH 8 (.pointer (some ⟨p, 0, none⟩)) rfl (by kernel_rfl) (by kernel_rfl) (by kernel_rfl) (fun _ _ _ h => h) (by rfl) (fun v hv => by go_simp) hk7 ?_
              simp only [Act.put, List.setIfInBounds_toArray, List.set_cons_succ, List.set_cons_zero]
              refine takeH 9 (.pointer (some ⟨p, 0, none⟩)) rfl (by kernel_rfl) (by kernel_rfl) (by kernel_rfl) (fun _ _ _ h => h) (by rfl) (fun v hv => by go_simp) hk7 ?_
              simp only [Act.put, List.setIfInBounds_toArray, List.set_cons_succ, List.set_cons_zero]
              have gc : w7.cell? ⟨p, 0, none⟩ = some (.slice a m c) := by rw [cell_of_row w7 _ 0 _ _ _ hrow7]; rfl
              have gf : w7.frozen? ⟨p, 0, none⟩ = false := free_of_row hrow7
              refine writeH 10 rfl (by kernel_rfl) (by rfl) (w7.setCell ⟨p, 0, none⟩ (.slice a7 (m + 1) c7)) (by go_simp) (hk7.setCell (fun _ => by simp) _) ?_
              simp only [Act.put, List.setIfInBounds_toArray, List.set_cons_succ, List.set_cons_zero]
              refine wpAnyH_done (by kernel_rfl) ?_ _
              go_wp2_with fail
              go_meet
              refine ⟨a7, c7, hid (hk7.setCell (fun _ => by simp) _), hid ?_, hid ?_, hid ?_⟩
              · have := Go.heap_setCell_same w7 p 0 _ _ (.slice a7 (m + 1) c7) hrow7
                simpa using this
              · exact ((Kept.refl [p] w7).setCell (fun _ => by simp) _).owns ho7 (fun g hg => by
                  simp
                  rintro rfl
                  rcases hf7 _ hg with h | h
                  · exact (vown.out _ h).2 rfl
                  · have h1 := lt_of_block vr3.out; have h2 := hX6.out.size; omega)
              · intro g hg
                rcases hf7 g hg with h | h
                · exact Or.inl h
                · exact Or.inr (by have h2 := hX6.out.size; omega)
            · simp only [Act.put, List.setIfInBounds_toArray, List.set_cons_succ, List.set_cons_zero]
              refine runH 4 rfl (by kernel_rfl) (by rfl) (.slice a m c) X6 (by have h := gl6.out; go_simp) hX6S.out ?_
              simp only [Act.put, List.setIfInBounds_toArray, List.set_cons_succ, List.set_cons_zero]
              have ho6 := hid (hX6.out.owns vl3.out (by simp))
              have hn6 := hid (show ∀ (j : Nat) u, ce[j]? = some u → X6.cell? ((⟨V3.heap.size, 0, none⟩ : Addr).add j) = some u from fun j u hu => by rw [plain_add', cell_of_row X6 _ j _ _ _ hb6.out]; simpa using hu)
              refine appendKH 7 rfl (by kernel_rfl) rfl (.tmp 69) (.tmp 71) 25 rfl 0 38 i0 _ 34 48 Tryd.underlying25 hi0 hz0 hz1 hz2 (by rw [Value.cells, List.size_toArray, zEnC_len]) (by decide) (.slice a m c) m _ rfl ho6.out (.slice (some ⟨V3.heap.size, 0, none⟩) 1 1) 1 ce rfl (Or.inr ⟨_, _, rfl, hn6.out⟩) (by rw [lce.out]) oce.out (by unfold maxLen; omega) (by omega) (Nat.zero_le _) ?_
              intro a7 c7 w7 ho7 hg7 _ hf7
              have hk7 : Kept (p :: (Value.slice a m c).ownBlock.toList) V3 w7 := (hX6.out.wider (by simp)).trans' (Kept.of_row hg7) (fun y hy hm => by simp [hm])
              have hrow7 : w7.heap[p]? = some (.cells ([Value.slice a m c, .map (some b), .int .i64 (en : Int)] ++ more).toArray T (0, 0)) := heap_grown hg7 (hX6.out.at vr3.out (by simp)) (fun e => (vown.out p e).2 rfl)
              refine ⟨hk7, ?_⟩
              simp only [Act.put, List.setIfInBounds_toArray, List.set_cons_succ, List.set_cons_zero]
              refine takeH 8 (.pointer (some ⟨p, 0, none⟩)) rfl (by kernel_rfl) (by kernel_rfl) (by kernel_rfl) (fun _ _ _ h => h) (by rfl) (fun v hv => by go_simp) hk7 ?_
              simp only [Act.put, List.setIfInBounds_toArray, List.set_cons_succ, List.set_cons_zero]
              refine takeH 9 (.pointer (some ⟨p, 0, none⟩)) rfl (by kernel_rfl) (by kernel_rfl) (by kernel_rfl) (fun _ _ _ h => h) (by rfl) (fun v hv => by go_simp) hk7 ?_
              simp only [Act.put, List.setIfInBounds_toArray, List.set_cons_succ, List.set_cons_zero]
              have gc : w7.cell? ⟨p, 0, none⟩ = some (.slice a m c) := by rw [cell_of_row w7 _ 0 _ _ _ hrow7]; rfl
              have gf : w7.frozen? ⟨p, 0, none⟩ = false := free_of_row hrow7
              refine writeH 10 rfl (by kernel_rfl) (by rfl) (w7.setCell ⟨p, 0, none⟩ (.slice a7 (m + 1) c7)) (by go_simp) (hk7.setCell (fun _ => by simp) _) ?_
              simp only [Act.put, List.setIfInBounds_toArray, List.set_cons_succ, List.set_cons_zero]
              refine wpAnyH_done (by kernel_rfl) ?_ _
              go_wp2_with fail
              go_meet
              refine ⟨a7, c7, hid (hk7.setCell (fun _ => by simp) _), hid ?_, hid ?_, hid ?_⟩
              · have := Go.heap_setCell_same w7 p 0 _ _ (.slice a7 (m + 1) c7) hrow7
                simpa using this
              · exact ((Kept.refl [p] w7).setCell (fun _ => by simp) _).owns ho7 (fun g hg => by
                  simp
                  rintro rfl
                  rcases hf7 _ hg with h | h
                  · exact (vown.out _ h).2 rfl
                  · have h1 := lt_of_block vr3.out; have h2 := hX6.out.size; omega)
              · intro g hg
                rcases hf7 g hg with h | h
                · exact Or.inl h
                · exact Or.inr (by have h2 := hX6.out.size; omega)
          case rest =>
            obtain ⟨a7, c7, hk14, hr14, hl14, hf14⟩ := hcut
            rename World => w5
            have g2 : w5.cell? ⟨p, 2, none⟩ = some (.int .i64 (en : Int)) := by rw [cell_of_row w5 _ 2 _ _ _ hr14.out]; rfl
            have f2 : w5.frozen? ⟨p, 2, none⟩ = false := free_of_row hr14.out
            have he5 := hid (show w5.heap[V.heap.size]? = some (.cells ce.toArray 38 (0, 0)) from hk14.out.at he3.out (by
              have h1 := hVs.out
              simp only [List.mem_cons, Option.mem_toList, not_or]
              exact ⟨by omega, fun hg => by have := vownlt.out _ hg; omega⟩))
            have hs5 := hid (show V.heap.size ≤ V3.heap.size from Nat.le_trans hk12.out.size hk13.out.size)
            have hres5 := hid (show w5.heap[w.heap.size + 1]? = some (.cells zEnC.toArray 38 (0, 0)) from hk14.out.at (hk13.out.at (hk12.out.at vres.out (by simp)) (by have := vb.out.2.2.2.2; have := vb.out; simp; omega)) (by
              simp only [List.mem_cons, Option.mem_toList, not_or]
              exact ⟨by have := hpw.out; omega, fun hg => by have := vownw.out _ hg; omega⟩))
            obtain ⟨w6, hw6⟩ : ∃ w6, w6 = w5.setCell ⟨p, 2, none⟩ (.int .i64 ((en : Int) + (n : Int))) := ⟨_, rfl⟩
            have HW6 := hid hw6
            have hk6 := hid (show Kept [p] w5 w6 from hw6 ▸ (Kept.refl [p] w5).setCell (fun _ => by simp) _)
            have hr6 := hid (show w6.heap[p]? = some (.cells ([Value.slice a7 (m + 1) c7, .map (some b), .int .i64 ((en : Int) + (n : Int))] ++ more).toArray T (0, 0)) from by
              have := Go.heap_setCell_same w5 p 2 _ _ (.int .i64 ((en : Int) + (n : Int))) hr14.out
              rw [hw6]; simpa using this)
            have he6 := hid (ld_en (hk6.out.at he5.out (by have := hVs.out; simp; omega)))
            have hres6 := hid (hk6.out.at hres5.out (by have := hpw.out; simp; omega))
            clear hw6
            go_wp2_with (first | (rw [← HW6.out]; refine wpList_load_cells rfl 38 (.tmp 10) rfl ⟨V.heap.size, 0, none⟩ rfl ce _ Tryd.underlying38 rfl ice.out he6.out ?_) | (refine wpList_store_at rfl 38 (.tmp 6) (.tmp 83) rfl (w.heap.size + 1) 0 ce rfl rfl 38 zEnC hres6.out ice.out fce.out oce.out ?_; refine halt ?_))
            rw [sce.out]
            refine Halt.mk ?_
            have hb := hid (show (w6.setRow (w.heap.size + 1) ce.toArray).heap[w.heap.size + 1]? = some (.cells ce.toArray 38 (0, 0)) from setRow_heap _ _ _ _ _ _ hres6.out)
            have hk7 := hid (show Kept [w.heap.size + 1] w6 (w6.setRow (w.heap.size + 1) ce.toArray) from (Kept.refl _ _).setRow (fun _ => by simp) _)
            generalize w6.setRow (w.heap.size + 1) ce.toArray = wz at *
            clear g2 f2
            go_wp2
            refine bodyPost_ret (v := .tuple #[.agg ce.toArray, .int .i64 0]) (results_cell2 Tryd.results19 rfl rfl (run_ld_en hb.out lce.out)) rfl (Or.inr ⟨hzero.out, by rw [hce.out], ?_, p :: (Value.slice a7 (m + 1) c7).ownBlock.toList ++ [b], .slice a7 (m + 1) c7, .map (some b), ⟨?_, ?_, ?_, by simp, ?_, ?_, ?_, ?_, ?_, ?_⟩, ?_⟩)
            · refine ((((KV.out.trans' hk12.out (by simp)).trans' hk13.out (fun x hx hm => ?_)).trans' hk14.out (fun x hx hm => ?_)).trans' hk6.out (fun x hx hm => ?_)).trans' hk7.out (fun x hx hm => ?_)
              · simp at hm; subst hm; rcases vb.out.1 with h | h
                · exact h
                · omega
              · simp only [List.mem_cons, Option.mem_toList] at hm
                rcases hm with rfl | hm
                · exact hpS.out
                · exact (vown.out _ hm).1
              · simp at hm; subst hm; exact hpS.out
              · simp at hm; omega
            · have h1 := hk7.out.at hr6.out (by have := hpw.out; simp; omega)
              rw [show ((ends (es ++ [addE es id n]) : Nat) : Int) = (en : Int) + (n : Int) from by rw [ends_snoc, ← hen.out]; rfl]
              exact h1
            · have h1 := hk7.out.owns (hk6.out.owns hl14.out (fun g hg => by
                simp; rintro rfl
                rcases hf14.out _ hg with h | h
                · exact (vown.out _ h).2 rfl
                · have := hVs.out; have := hs5.out; omega)) (fun g hg => by
                simp; rintro rfl
                rcases hf14.out _ hg with h | h
                · have := vownw.out _ h; omega
                · have := hs5.out; have := vb.out.2.2.2.2; omega)
              rw [List.length_append, List.length_singleton, hm_.out, List.flatMap_append, ← hfl.out]
              have e : [addE es id n].flatMap c34 = ce := by rw [hce.out]; simp; exact c34_of h32
              rw [e]; exact h1
            · refine Or.inr ⟨b, kn + 1, D.put kl (.agg []), rfl, by have := vkn.out; rw [List.map_append, List.length_append, List.length_map, hm_.out]; simp; exact this, ?_, ?_⟩
              · refine hk7.out.ownsMap (hk6.out.ownsMap (hk14.out.ownsMap hm13.out ?_) (by have := vb.out.2.1; simpa using fun e => this e)) (by have := vb.out.2.2.2.2; simp; omega)
                simp only [List.mem_cons, Option.mem_toList, not_or]
                exact ⟨vb.out.2.1, fun hg => vb.out.2.2.1 hg⟩
              · intro id2 kl2 h2 hk2
                have hci' := hci_.out
                have := has_put_ids vmap.out.isMap h32 (hci' ▸ hkl.out) (ids := es.map En.id) (.agg []) vhas.out id2 kl2 h2 hk2
                rw [this, List.map_append]; rfl
            · intro g hg
              refine ⟨by simp [hg], ?_⟩
              rintro rfl
              rcases hf14.out _ hg with h | h
              · exact (vown.out _ h).2 rfl
              · have := hVs.out; have := hs5.out; omega
            · intro b2 hb2
              simp [mapBlock] at hb2
              subst hb2
              refine ⟨by simp, vb.out.2.1, fun hg => ?_⟩
              rcases hf14.out _ hg with h | h
              · exact vb.out.2.2.1 h
              · have := hs5.out; have := vb.out.2.2.2.2; omega
            · exact hrt.out.snoc h32 (by omega)
            · rw [List.length_append, List.length_singleton, hm_.out]; omega
            · rw [sizeP_snoc, ← hz_.out]; show z + n + 36 ≤ _; omega
            · intro x hx
              simp only [List.cons_append, List.mem_cons, List.mem_append, Option.mem_toList, List.not_mem_nil, or_false] at hx
              have hk57 : w5.heap.size ≤ wz.heap.size := Nat.le_trans hk6.out.size hk7.out.size
              rcases hx with rfl | hx | rfl
              · have := lt_of_block hr14.out; omega
              · have := ownsA_lt hl14.out hx; omega
              · have h1 := vmap.out.lt; have h2 := hk12.out.size; have h3 := hk13.out.size; have h4 := hk14.out.size; omega
            · intro x hx
              simp only [List.cons_append, List.mem_cons, List.mem_append, Option.mem_toList, List.not_mem_nil, or_false] at hx
              rcases hx with rfl | hx | rfl
              · exact Or.inl hpS.out
              · rcases hf14.out _ hx with h | h
                · exact Or.inl (vown.out _ h).1
                · exact Or.inr (by have := hs5.out; have := vb.out.2.2.2.2; omega)
              · exact vb.out.1

    · subst hmv
      have hne := map_nnil b
      have hrow3 := kW3.out.at hrowW.out (by simp)
      obtain ⟨hbS, hbp, hbl⟩ := hmb.out b rfl
      have KV := hid (show Kept S w w3 from KX.out.wider (by simp))
      have hb' : w.heap.size + 2 ≤ w3.heap.size := by have h1 := kW3.out.size; have h2 : W.heap.size = w.heap.size + 2 := by rw [HW.out]; simp
                                                      omega
      have hbw : b < w.heap.size := hS b hbS
      have vrow := hid (show w3.heap[p]? = some (.cells ([Value.slice a m c, .map (some b), .int .i64 (en : Int)] ++ more).toArray T (0, 0)) from hrow3)
      have vmap := hid (show w3.ownsMap Tryd.prog 36 unitElem b kn D from kW3.out.ownsMap hown (by simp))
      have vkn := hid (show kn ≤ m by have := hkn; rw [List.length_map, hm_.out] at this; exact this)
      have vhas := hid hhas
      have vlist := hid (show w3.ownsRow 0 38 34 (.slice a m c) m fl from kW3.out.owns hlistW.out (by simp))
      have vbox := hid (show w3.heap[w.heap.size]? = some (.cells ci.toArray 36 (0, 0)) from kW3.out.at hbox.out (by simp))
      have vres := hid (show w3.heap[w.heap.size + 1]? = some (.cells zEnC.toArray 38 (0, 0)) from kW3.out.at hres.out (by simp))
      have vownlt := hid (show ∀ g, (Value.slice a m c).ownBlock = some g → g < w3.heap.size from fun g hg => by have := vownw.out g hg; omega)
      have vb := hid (show (b ∈ S ∨ w.heap.size ≤ b) ∧ b ≠ p ∧ (Value.slice a m c).ownBlock ≠ some b ∧ b ≠ w.heap.size ∧ (b < w3.heap.size ∧ b ≠ w.heap.size + 1 ∧ w.heap.size + 2 ≤ w3.heap.size) from ⟨Or.inl hbS, hbp, hbl, by omega, by omega, by omega, by omega⟩)
      clear hrow3 hown hhas hkn hbS hbp hbl hb' hbw
      go_wp2_with fail
      clear hne c1
      rename World => V

      have vl2 := hid (show ∀ v, Kept [] V v → v.cell? ⟨p, 2, none⟩ = some (.int .i64 (en : Int)) from fun v hv => by rw [cell_of_row v _ 2 _ _ _ (hv.at vrow.out (by simp))]; rfl)
      have vlb := hid (show ∀ v, Kept [] V v → (loadVar 36 ⟨w.heap.size, 0, none⟩).run Tryd.prog v = .ok (.agg ci.toArray) v from fun v hv => hld.out v (hv.at vbox.out (by simp)))
      go_upto_region 12 with fail
      go_cut [10] (fun s wx => s = .pointer (some ⟨V.heap.size, 0, none⟩) ∧ Hid (Kept [] V wx) ∧ Hid (wx.heap[V.heap.size]? = some (.cells ce.toArray 38 (0, 0))))
      case first =>
        refine wp_region_held_drew (S := Kept [] V) (by kernel_rfl) (Kept.refl [] V).drew (fun hH => ?_)
        refine takeH 0 (.agg ci.toArray) rfl (by kernel_rfl) (by kernel_rfl) (by kernel_rfl) (fun _ _ _ h => h) (by rfl) (fun v hv => by have h := vlb.out v hv; unfold execOp; simp [Instr.loadAt, Instr.sureAddr, Sem.run_bind, Sem.run_pure, Result.andThen_ok, Act.eval, h]) hH ?_
        simp only [Act.put, List.setIfInBounds_toArray, List.set_cons_succ, List.set_cons_zero]
        refine takeH 1 (.pointer (some ⟨p, 0, none⟩)) rfl (by kernel_rfl) (by kernel_rfl) (by kernel_rfl) (fun _ _ _ h => h) (by rfl) (fun v hv => by go_simp) hH ?_
        simp only [Act.put, List.setIfInBounds_toArray, List.set_cons_succ, List.set_cons_zero]
        refine takeH 2 (.pointer (some ⟨p, 0, none⟩)) rfl (by kernel_rfl) (by kernel_rfl) (by kernel_rfl) (fun _ _ _ h => h) (by rfl) (fun v hv => by go_simp) hH ?_
        simp only [Act.put, List.setIfInBounds_toArray, List.set_cons_succ, List.set_cons_zero]
        refine takeH 3 (.pointer (some ⟨p, 2, none⟩)) rfl (by kernel_rfl) (by kernel_rfl) (by kernel_rfl) (fun _ _ _ h => h) (by rfl) (fun v hv => by go_simp) hH ?_
        simp only [Act.put, List.setIfInBounds_toArray, List.set_cons_succ, List.set_cons_zero]
        refine takeH 4 (.int .i64 (en : Int)) rfl (by kernel_rfl) (by kernel_rfl) (by kernel_rfl) (fun _ _ _ h => h) (by rfl) (fun v hv => by have h := vl2.out v hv; go_simp) hH ?_
        simp only [Act.put, List.setIfInBounds_toArray, List.set_cons_succ, List.set_cons_zero]
        refine takeH 5 (.int .i64 (n : Int)) rfl (by kernel_rfl) (by kernel_rfl) (by kernel_rfl) (fun _ _ _ h => h) (by rfl) (fun v hv => by go_simp) hH ?_
        simp only [Act.put, List.setIfInBounds_toArray, List.set_cons_succ, List.set_cons_zero]
        refine takeH 6 (.agg ce.toArray) rfl (by kernel_rfl) (by kernel_rfl) (by kernel_rfl) (fun _ _ _ h => h) (by rfl) (fun v hv => by have h := hbe.out v; unfold execOp; simp [Act.eval, Act.put, h]) hH ?_
        simp only [Act.put, List.setIfInBounds_toArray, List.set_cons_succ, List.set_cons_zero]
        refine runH 7 rfl (by kernel_rfl) (by rfl) (.pointer (some ⟨V.heap.size, 0, none⟩)) (V.drew.alloc (.cells zEnC.toArray 38)) (by have h := hzv; go_simp) (hH.alloc _) ?_
        simp only [Act.put, List.setIfInBounds_toArray, List.set_cons_succ, List.set_cons_zero]
        have hs8 := hid (show (storeVar 38 ⟨V.heap.size, 0, none⟩ (.agg ce.toArray)).run Tryd.prog (V.drew.alloc (.cells zEnC.toArray 38)) = .ok () ((V.drew.alloc (.cells zEnC.toArray 38)).setRow V.heap.size ce.toArray) from st_en (heap_alloc_at rfl) lce.out oce.out)
        refine writeH 8 rfl (by kernel_rfl) (by rfl) ((V.drew.alloc (.cells zEnC.toArray 38)).setRow V.heap.size ce.toArray) (by have h := hs8.out; unfold execOp; simp [Act.eval, Instr.storeAt, Instr.sureAddr, Sem.run_bind, Sem.run_pure, Result.andThen_ok, h]) ((hH.alloc _).setRow (fun h => absurd h (Nat.lt_irrefl _)) _) ?_
        simp only [Act.put, List.setIfInBounds_toArray, List.set_cons_succ, List.set_cons_zero]
        refine wpAnyH_done (by kernel_rfl) ?_ _
        go_wp2_with fail
        go_meet
        exact ⟨rfl, hid ((hH.alloc _).setRow (fun h => absurd h (Nat.lt_irrefl _)) _), hid (setRow_heap _ _ _ _ _ _ (heap_alloc_at rfl))⟩
      case rest =>
        obtain ⟨rfl, hk12, he12⟩ := hcut
        rename World => V2
        have ul1 := hid (show ∀ v, Kept [b] V2 v → v.cell? ⟨p, 1, none⟩ = some (.map (some b)) from fun v hv => by rw [cell_of_row v _ 1 _ _ _ (hv.at (hk12.out.at vrow.out (by simp)) (by have := vb.out.2.1; simpa using fun e => this e.symm))]; rfl)
        have ulb := hid (show ∀ v, Kept [b] V2 v → (loadVar 36 ⟨w.heap.size, 0, none⟩).run Tryd.prog v = .ok (.agg ci.toArray) v from fun v hv => hld.out v (hv.at (hk12.out.at vbox.out (by simp)) (by have := vb.out.2.2.2.1; simpa using fun e => this e.symm)))
        have umap := hid (show V2.drew.ownsMap Tryd.prog 36 unitElem b kn D from hk12.out.ownsMap vmap.out (by simp))
        go_upto_region 13 with fail
        go_cut [] (fun wx => Hid (Kept [b] V2 wx) ∧ Hid (wx.ownsMap Tryd.prog 36 unitElem b (kn + 1) (D.put kl (.agg []))))
        case first =>
          refine wp_region_held_drew (S := Kept [b] V2) (by kernel_rfl) (Kept.refl [b] V2).drew (fun hH => ?_)
          refine takeH 0 (.pointer (some ⟨p, 0, none⟩)) rfl (by kernel_rfl) (by kernel_rfl) (by kernel_rfl) (fun _ _ _ h => h) (by rfl) (fun v hv => by go_simp) hH ?_
          simp only [Act.put, List.setIfInBounds_toArray, List.set_cons_succ, List.set_cons_zero]
          refine takeH 1 (.pointer (some ⟨p, 0, none⟩)) rfl (by kernel_rfl) (by kernel_rfl) (by kernel_rfl) (fun _ _ _ h => h) (by rfl) (fun v hv => by go_simp) hH ?_
          simp only [Act.put, List.setIfInBounds_toArray, List.set_cons_succ, List.set_cons_zero]
          refine takeH 2 (.pointer (some ⟨p, 1, none⟩)) rfl (by kernel_rfl) (by kernel_rfl) (by kernel_rfl) (fun _ _ _ h => h) (by rfl) (fun v hv => by go_simp) hH ?_
          simp only [Act.put, List.setIfInBounds_toArray, List.set_cons_succ, List.set_cons_zero]
          refine takeH 3 (.map (some b)) rfl (by kernel_rfl) (by kernel_rfl) (by kernel_rfl) (fun _ _ _ h => h) (by rfl) (fun v hv => by have h := ul1.out v hv; go_simp) hH ?_
          simp only [Act.put, List.setIfInBounds_toArray, List.set_cons_succ, List.set_cons_zero]
          refine takeH 4 (.agg ci.toArray) rfl (by kernel_rfl) (by kernel_rfl) (by kernel_rfl) (fun _ _ _ h => h) (by rfl) (fun v hv => by have h := ulb.out v hv; unfold execOp; simp [Instr.loadAt, Instr.sureAddr, Sem.run_bind, Sem.run_pure, Result.andThen_ok, Act.eval, h]) hH ?_
          simp only [Act.put, List.setIfInBounds_toArray, List.set_cons_succ, List.set_cons_zero]
          refine takeH 5 (.agg #[]) rfl (by kernel_rfl) (by kernel_rfl) (by kernel_rfl) (fun _ _ _ h => h) (by rfl) (fun v hv => by go_simp) hH ?_
          simp only [Act.put, List.setIfInBounds_toArray, List.set_cons_succ, List.set_cons_zero]
          obtain ⟨wu, hu1, hu2, hu3⟩ := World.ownsMap.store (w := V2.drew) (t := 26) (val := .agg #[]) umap.out a_keyed Tryd.underlying26 (by have := vkn.out; have := hmany; unfold maxLen; omega) hkl.out unitElem_mk
          have hku : Kept [b] V2 wu := (Kept.refl [b] V2).drew.trans (Kept.of_grown hu3.grown (fun k hk _ => by simp at hk; simp [hk]))
          refine writeH 6 rfl (by kernel_rfl) (by rfl) wu (by have h := hu1; unfold execOp; simp [Act.eval, Sem.run_bind, Sem.run_pure, Result.andThen_ok, h]) hku ?_
          simp only [Act.put, List.setIfInBounds_toArray, List.set_cons_succ, List.set_cons_zero]
          refine wpAnyH_done (by kernel_rfl) ?_ _
          go_wp2_with fail
          go_meet
          exact ⟨hid hku, hid hu2⟩
        case rest =>
          obtain ⟨hk13, hm13⟩ := hcut
          rename World => V3
          have hVs := hid (lt_of_block vrow.out)
          have vr3 := hid (show V3.heap[p]? = some (.cells ([Value.slice a m c, .map (some b), .int .i64 (en : Int)] ++ more).toArray T (0, 0)) from hk13.out.at (hk12.out.at vrow.out (by simp)) (by have := vb.out.2.1; simpa using fun e => this e.symm))
          have vl3 := hid (show V3.ownsRow 0 38 34 (.slice a m c) m fl from hk13.out.owns (hk12.out.owns vlist.out (by simp)) (fun g hg => by have := vb.out.2.2.1; simp; rintro rfl; exact this hg))
          have he3 := hid (show V3.heap[V.heap.size]? = some (.cells ce.toArray 38 (0, 0)) from hk13.out.at he12.out (by have := vb.out.2.2.2.2; simp; omega))
          have wlb := hid (show ∀ v, Kept (p :: (Value.slice a m c).ownBlock.toList) V3 v → (loadVar 38 ⟨V.heap.size, 0, none⟩).run Tryd.prog v = .ok (.agg ce.toArray) v from fun v hv => run_ld_en (hv.at he3.out (by
            have h1 := hVs.out
            simp only [List.mem_cons, Option.mem_toList, not_or]
            exact ⟨by omega, fun hg => by have := vownlt.out _ hg; omega⟩)) lce.out)
          go_upto_region 14 with fail
          go_cut [] (fun wx => ∃ a7 c7, Hid (Kept (p :: (Value.slice a m c).ownBlock.toList) V3 wx) ∧ Hid (wx.heap[p]? = some (.cells ([Value.slice a7 (m + 1) c7, .map (some b), .int .i64 (en : Int)] ++ more).toArray T (0, 0))) ∧ Hid (wx.ownsRow 0 38 34 (.slice a7 (m + 1) c7) (m + 1) (fl ++ ce)) ∧ Hid (∀ g, (Value.slice a7 (m + 1) c7).ownBlock = some g → (Value.slice a m c).ownBlock = some g ∨ V3.heap.size ≤ g))
          case first =>
            refine wp_region_held_drew (S := Kept (p :: (Value.slice a m c).ownBlock.toList) V3) (by kernel_rfl) (Kept.refl _ V3).drew (fun hH => ?_)
            refine takeH 0 (.pointer (some ⟨p, 0, none⟩)) rfl (by kernel_rfl) (by kernel_rfl) (by kernel_rfl) (fun _ _ _ h => h) (by rfl) (fun v hv => by go_simp) hH ?_
            simp only [Act.put, List.setIfInBounds_toArray, List.set_cons_succ, List.set_cons_zero]
            refine takeH 1 (.pointer (some ⟨p, 0, none⟩)) rfl (by kernel_rfl) (by kernel_rfl) (by kernel_rfl) (fun _ _ _ h => h) (by rfl) (fun v hv => by go_simp) hH ?_
            simp only [Act.put, List.setIfInBounds_toArray, List.set_cons_succ, List.set_cons_zero]
            refine takeH 2 (.pointer (some ⟨p, 0, none⟩)) rfl (by kernel_rfl) (by kernel_rfl) (by kernel_rfl) (fun _ _ _ h => h) (by rfl) (fun v hv => by go_simp) hH ?_
            simp only [Act.put, List.setIfInBounds_toArray, List.set_cons_succ, List.set_cons_zero]
            refine takeH 3 (.pointer (some ⟨p, 0, none⟩)) rfl (by kernel_rfl) (by kernel_rfl) (by kernel_rfl) (fun _ _ _ h => h) (by rfl) (fun v hv => by go_simp) hH ?_
            simp only [Act.put, List.setIfInBounds_toArray, List.set_cons_succ, List.set_cons_zero]
            refine takeH 5 (.agg ce.toArray) rfl (by kernel_rfl) (by kernel_rfl) (by kernel_rfl) (fun _ _ _ h => h) (by rfl) (fun v hv => by have h := wlb.out v hv; unfold execOp; simp [Instr.loadAt, Instr.sureAddr, Sem.run_bind, Sem.run_pure, Result.andThen_ok, Act.eval, h]) hH ?_
            simp only [Act.put, List.setIfInBounds_toArray, List.set_cons_succ, List.set_cons_zero]
            obtain ⟨X6, hX6'⟩ : ∃ X6, X6 = V3.drew.alloc (.cells ce.toArray 38) := ⟨_, rfl⟩
            have hX6 := hid (show Kept [] V3 X6 by rw [hX6']; exact (Kept.refl [] V3).drew.alloc _)
            have hX6S := hid (show Kept (p :: (Value.slice a m c).ownBlock.toList) V3 X6 from hX6.out.wider (by simp))
            have hb6 := hid (show X6.heap[V3.heap.size]? = some (.cells ce.toArray 38 (0, 0)) by rw [hX6']; exact heap_alloc_at rfl)
            have HX6' := hid hX6'
            clear hX6'
            have gl := hid (show V3.drew.cell? ⟨p, 0, none⟩ = some (.slice a m c) by rw [cell_of_row V3.drew _ 0 _ _ _ vr3.out]; rfl)
            have gl6 := hid (show X6.cell? ⟨p, 0, none⟩ = some (.slice a m c) by rw [cell_of_row X6 _ 0 _ _ _ (hX6.out.at vr3.out (by simp))]; rfl)
            refine bothH 4 6 rfl rfl (by kernel_rfl) (by rfl) (by rfl) (.slice a m c) V3.drew (by have h := gl.out; go_simp) hH (.slice (some ⟨V3.heap.size, 0, none⟩) 1 1) X6 (by have h := hbs.out V3.drew; rw [HX6'.out]; unfold execOp; simp [Act.eval, Act.put, h]) hX6S.out ?_ ?_
            · simp only [Act.put, List.setIfInBounds_toArray, List.set_cons_succ, List.set_cons_zero]
              refine runH 6 rfl (by kernel_rfl) (by rfl) (.slice (some ⟨V3.heap.size, 0, none⟩) 1 1) X6 (by have h := hbs.out V3.drew; rw [HX6'.out]; unfold execOp; simp [Act.eval, Act.put, h]) hX6S.out ?_
              simp only [Act.put, List.setIfInBounds_toArray, List.set_cons_succ, List.set_cons_zero]
              have ho6 := hid (hX6.out.owns vl3.out (by simp))
              have hn6 := hid (show ∀ (j : Nat) u, ce[j]? = some u → X6.cell? ((⟨V3.heap.size, 0, none⟩ : Addr).add j) = some u from fun j u hu => by rw [plain_add', cell_of_row X6 _ j _ _ _ hb6.out]; simpa using hu)
              refine appendKH 7 rfl (by kernel_rfl) rfl (.tmp 69) (.tmp 71) 25 rfl 0 38 i0 _ 34 48 Tryd.underlying25 hi0 hz0 hz1 hz2 (by rw [Value.cells, List.size_toArray, zEnC_len]) (by decide) (.slice a m c) m _ rfl ho6.out (.slice (some ⟨V3.heap.size, 0, none⟩) 1 1) 1 ce rfl (Or.inr ⟨_, _, rfl, hn6.out⟩) (by rw [lce.out]) oce.out (by unfold maxLen; omega) (by omega) (Nat.zero_le _) ?_
              intro a7 c7 w7 ho7 hg7 _ hf7
              have hk7 : Kept (p :: (Value.slice a m c).ownBlock.toList) V3 w7 := (hX6.out.wider (by simp)).trans' (Kept.of_row hg7) (fun y hy hm => by simp [hm])
              have hrow7 : w7.heap[p]? = some (.cells ([Value.slice a m c, .map (some b), .int .i64 (en : Int)] ++ more).toArray T (0, 0)) := heap_grown hg7 (hX6.out.at vr3.out (by simp)) (fun e => (vown.out p e).2 rfl)
              refine ⟨hk7, ?_⟩
              simp only [Act.put, List.setIfInBounds_toArray, List.set_cons_succ, List.set_cons_zero]
              refine takeH 8 (.pointer (some ⟨p, 0, none⟩)) rfl (by kernel_rfl) (by kernel_rfl) (by kernel_rfl) (fun _ _ _ h => h) (by rfl) (fun v hv => by go_simp) hk7 ?_
              simp only [Act.put, List.setIfInBounds_toArray, List.set_cons_succ, List.set_cons_zero]
              refine takeH 9 (.pointer (some ⟨p, 0, none⟩)) rfl (by kernel_rfl) (by kernel_rfl) (by kernel_rfl) (fun _ _ _ h => h) (by rfl) (fun v hv => by go_simp) hk7 ?_
              simp only [Act.put, List.setIfInBounds_toArray, List.set_cons_succ, List.set_cons_zero]
              have gc : w7.cell? ⟨p, 0, none⟩ = some (.slice a m c) := by rw [cell_of_row w7 _ 0 _ _ _ hrow7]; rfl
              have gf : w7.frozen? ⟨p, 0, none⟩ = false := free_of_row hrow7
              refine writeH 10 rfl (by kernel_rfl) (by rfl) (w7.setCell ⟨p, 0, none⟩ (.slice a7 (m + 1) c7)) (by go_simp) (hk7.setCell (fun _ => by simp) _) ?_
              simp only [Act.put, List.setIfInBounds_toArray, List.set_cons_succ, List.set_cons_zero]
              refine wpAnyH_done (by kernel_rfl) ?_ _
              go_wp2_with fail
              go_meet
              refine ⟨a7, c7, hid (hk7.setCell (fun _ => by simp) _), hid ?_, hid ?_, hid ?_⟩
              · have := Go.heap_setCell_same w7 p 0 _ _ (.slice a7 (m + 1) c7) hrow7
                simpa using this
              · exact ((Kept.refl [p] w7).setCell (fun _ => by simp) _).owns ho7 (fun g hg => by
                  simp
                  rintro rfl
                  rcases hf7 _ hg with h | h
                  · exact (vown.out _ h).2 rfl
                  · have h1 := lt_of_block vr3.out; have h2 := hX6.out.size; omega)
              · intro g hg
                rcases hf7 g hg with h | h
                · exact Or.inl h
                · exact Or.inr (by have h2 := hX6.out.size; omega)
            · simp only [Act.put, List.setIfInBounds_toArray, List.set_cons_succ, List.set_cons_zero]
              refine runH 4 rfl (by kernel_rfl) (by rfl) (.slice a m c) X6 (by have h := gl6.out; go_simp) hX6S.out ?_
              simp only [Act.put, List.setIfInBounds_toArray, List.set_cons_succ, List.set_cons_zero]
              have ho6 := hid (hX6.out.owns vl3.out (by simp))
              have hn6 := hid (show ∀ (j : Nat) u, ce[j]? = some u → X6.cell? ((⟨V3.heap.size, 0, none⟩ : Addr).add j) = some u from fun j u hu => by rw [plain_add', cell_of_row X6 _ j _ _ _ hb6.out]; simpa using hu)
              refine appendKH 7 rfl (by kernel_rfl) rfl (.tmp 69) (.tmp 71) 25 rfl 0 38 i0 _ 34 48 Tryd.underlying25 hi0 hz0 hz1 hz2 (by rw [Value.cells, List.size_toArray, zEnC_len]) (by decide) (.slice a m c) m _ rfl ho6.out (.slice (some ⟨V3.heap.size, 0, none⟩) 1 1) 1 ce rfl (Or.inr ⟨_, _, rfl, hn6.out⟩) (by rw [lce.out]) oce.out (by unfold maxLen; omega) (by omega) (Nat.zero_le _) ?_
              intro a7 c7 w7 ho7 hg7 _ hf7
              have hk7 : Kept (p :: (Value.slice a m c).ownBlock.toList) V3 w7 := (hX6.out.wider (by simp)).trans' (Kept.of_row hg7) (fun y hy hm => by simp [hm])
              have hrow7 : w7.heap[p]? = some (.cells ([Value.slice a m c, .map (some b), .int .i64 (en : Int)] ++ more).toArray T (0, 0)) := heap_grown hg7 (hX6.out.at vr3.out (by simp)) (fun e => (vown.out p e).2 rfl)
              refine ⟨hk7, ?_⟩
              simp only [Act.put, List.setIfInBounds_toArray, List.set_cons_succ, List.set_cons_zero]
              refine takeH 8 (.pointer (some ⟨p, 0, none⟩)) rfl (by kernel_rfl) (by kernel_rfl) (by kernel_rfl) (fun _ _ _ h => h) (by rfl) (fun v hv => by go_simp) hk7 ?_
              simp only [Act.put, List.setIfInBounds_toArray, List.set_cons_succ, List.set_cons_zero]
              refine takeH 9 (.pointer (some ⟨p, 0, none⟩)) rfl (by kernel_rfl) (by kernel_rfl) (by kernel_rfl) (fun _ _ _ h => h) (by rfl) (fun v hv => by go_simp) hk7 ?_
              simp only [Act.put, List.setIfInBounds_toArray, List.set_cons_succ, List.set_cons_zero]
              have gc : w7.cell? ⟨p, 0, none⟩ = some (.slice a m c) := by rw [cell_of_row w7 _ 0 _ _ _ hrow7]; rfl
              have gf : w7.frozen? ⟨p, 0, none⟩ = false := free_of_row hrow7
              refine writeH 10 rfl (by kernel_rfl) (by rfl) (w7.setCell ⟨p, 0, none⟩ (.slice a7 (m + 1) c7)) (by go_simp) (hk7.setCell (fun _ => by simp) _) ?_
              simp only [Act.put, List.setIfInBounds_toArray, List.set_cons_succ, List.set_cons_zero]
              refine wpAnyH_done (by kernel_rfl) ?_ _
              go_wp2_with fail
              go_meet
              refine ⟨a7, c7, hid (hk7.setCell (fun _ => by simp) _), hid ?_, hid ?_, hid ?_⟩
              · have := Go.heap_setCell_same w7 p 0 _ _ (.slice a7 (m + 1) c7) hrow7
                simpa using this
              · exact ((Kept.refl [p] w7).setCell (fun _ => by simp) _).owns ho7 (fun g hg => by
                  simp
                  rintro rfl
                  rcases hf7 _ hg with h | h
                  · exact (vown.out _ h).2 rfl
                  · have h1 := lt_of_block vr3.out; have h2 := hX6.out.size; omega)
              · intro g hg
                rcases hf7 g hg with h | h
                · exact Or.inl h
                · exact Or.inr (by have h2 := hX6.out.size; omega)
          case rest =>
            obtain ⟨a7, c7, hk14, hr14, hl14, hf14⟩ := hcut
            rename World => w5
            have g2 : w5.cell? ⟨p, 2, none⟩ = some (.int .i64 (en : Int)) := by rw [cell_of_row w5 _ 2 _ _ _ hr14.out]; rfl
            have f2 : w5.frozen? ⟨p, 2, none⟩ = false := free_of_row hr14.out
            have he5 := hid (show w5.heap[V.heap.size]? = some (.cells ce.toArray 38 (0, 0)) from hk14.out.at he3.out (by
              have h1 := hVs.out
              simp only [List.mem_cons, Option.mem_toList, not_or]
              exact ⟨by omega, fun hg => by have := vownlt.out _ hg; omega⟩))
            have hs5 := hid (show V.heap.size ≤ V3.heap.size from Nat.le_trans hk12.out.size hk13.out.size)
            have hres5 := hid (show w5.heap[w.heap.size + 1]? = some (.cells zEnC.toArray 38 (0, 0)) from hk14.out.at (hk13.out.at (hk12.out.at vres.out (by simp)) (by have := vb.out.2.2.2.2; have := vb.out; simp; omega)) (by
              simp only [List.mem_cons, Option.mem_toList, not_or]
              exact ⟨by have := hpw.out; omega, fun hg => by have := vownw.out _ hg; omega⟩))
            obtain ⟨w6, hw6⟩ : ∃ w6, w6 = w5.setCell ⟨p, 2, none⟩ (.int .i64 ((en : Int) + (n : Int))) := ⟨_, rfl⟩
            have HW6 := hid hw6
            have hk6 := hid (show Kept [p] w5 w6 from hw6 ▸ (Kept.refl [p] w5).setCell (fun _ => by simp) _)
            have hr6 := hid (show w6.heap[p]? = some (.cells ([Value.slice a7 (m + 1) c7, .map (some b), .int .i64 ((en : Int) + (n : Int))] ++ more).toArray T (0, 0)) from by
              have := Go.heap_setCell_same w5 p 2 _ _ (.int .i64 ((en : Int) + (n : Int))) hr14.out
              rw [hw6]; simpa using this)
            have he6 := hid (ld_en (hk6.out.at he5.out (by have := hVs.out; simp; omega)))
            have hres6 := hid (hk6.out.at hres5.out (by have := hpw.out; simp; omega))
            clear hw6
            go_wp2_with (first | (rw [← HW6.out]; refine wpList_load_cells rfl 38 (.tmp 10) rfl ⟨V.heap.size, 0, none⟩ rfl ce _ Tryd.underlying38 rfl ice.out he6.out ?_) | (refine wpList_store_at rfl 38 (.tmp 6) (.tmp 83) rfl (w.heap.size + 1) 0 ce rfl rfl 38 zEnC hres6.out ice.out fce.out oce.out ?_; refine halt ?_))
            rw [sce.out]
            refine Halt.mk ?_
            have hb := hid (show (w6.setRow (w.heap.size + 1) ce.toArray).heap[w.heap.size + 1]? = some (.cells ce.toArray 38 (0, 0)) from setRow_heap _ _ _ _ _ _ hres6.out)
            have hk7 := hid (show Kept [w.heap.size + 1] w6 (w6.setRow (w.heap.size + 1) ce.toArray) from (Kept.refl _ _).setRow (fun _ => by simp) _)
            generalize w6.setRow (w.heap.size + 1) ce.toArray = wz at *
            clear g2 f2
            go_wp2
            refine bodyPost_ret (v := .tuple #[.agg ce.toArray, .int .i64 0]) (results_cell2 Tryd.results19 rfl rfl (run_ld_en hb.out lce.out)) rfl (Or.inr ⟨hzero.out, by rw [hce.out], ?_, p :: (Value.slice a7 (m + 1) c7).ownBlock.toList ++ [b], .slice a7 (m + 1) c7, .map (some b), ⟨?_, ?_, ?_, by simp, ?_, ?_, ?_, ?_, ?_, ?_⟩, ?_⟩)
            · refine ((((KV.out.trans' hk12.out (by simp)).trans' hk13.out (fun x hx hm => ?_)).trans' hk14.out (fun x hx hm => ?_)).trans' hk6.out (fun x hx hm => ?_)).trans' hk7.out (fun x hx hm => ?_)
              · simp at hm; subst hm; rcases vb.out.1 with h | h
                · exact h
                · omega
              · simp only [List.mem_cons, Option.mem_toList] at hm
                rcases hm with rfl | hm
                · exact hpS.out
                · exact (vown.out _ hm).1
              · simp at hm; subst hm; exact hpS.out
              · simp at hm; omega
            · have h1 := hk7.out.at hr6.out (by have := hpw.out; simp; omega)
              rw [show ((ends (es ++ [addE es id n]) : Nat) : Int) = (en : Int) + (n : Int) from by rw [ends_snoc, ← hen.out]; rfl]
              exact h1
            · have h1 := hk7.out.owns (hk6.out.owns hl14.out (fun g hg => by
                simp; rintro rfl
                rcases hf14.out _ hg with h | h
                · exact (vown.out _ h).2 rfl
                · have := hVs.out; have := hs5.out; omega)) (fun g hg => by
                simp; rintro rfl
                rcases hf14.out _ hg with h | h
                · have := vownw.out _ h; omega
                · have := hs5.out; have := vb.out.2.2.2.2; omega)
              rw [List.length_append, List.length_singleton, hm_.out, List.flatMap_append, ← hfl.out]
              have e : [addE es id n].flatMap c34 = ce := by rw [hce.out]; simp; exact c34_of h32
              rw [e]; exact h1
            · refine Or.inr ⟨b, kn + 1, D.put kl (.agg []), rfl, by have := vkn.out; rw [List.map_append, List.length_append, List.length_map, hm_.out]; simp; exact this, ?_, ?_⟩
              · refine hk7.out.ownsMap (hk6.out.ownsMap (hk14.out.ownsMap hm13.out ?_) (by have := vb.out.2.1; simpa using fun e => this e)) (by have := vb.out.2.2.2.2; simp; omega)
                simp only [List.mem_cons, Option.mem_toList, not_or]
                exact ⟨vb.out.2.1, fun hg => vb.out.2.2.1 hg⟩
              · intro id2 kl2 h2 hk2
                have hci' := hci_.out
                have := has_put_ids vmap.out.isMap h32 (hci' ▸ hkl.out) (ids := es.map En.id) (.agg []) vhas.out id2 kl2 h2 hk2
                rw [this, List.map_append]; rfl
            · intro g hg
              refine ⟨by simp [hg], ?_⟩
              rintro rfl
              rcases hf14.out _ hg with h | h
              · exact (vown.out _ h).2 rfl
              · have := hVs.out; have := hs5.out; omega
            · intro b2 hb2
              simp [mapBlock] at hb2
              subst hb2
              refine ⟨by simp, vb.out.2.1, fun hg => ?_⟩
              rcases hf14.out _ hg with h | h
              · exact vb.out.2.2.1 h
              · have := hs5.out; have := vb.out.2.2.2.2; omega
            · exact hrt.out.snoc h32 (by omega)
            · rw [List.length_append, List.length_singleton, hm_.out]; omega
            · rw [sizeP_snoc, ← hz_.out]; show z + n + 36 ≤ _; omega
            · intro x hx
              simp only [List.cons_append, List.mem_cons, List.mem_append, Option.mem_toList, List.not_mem_nil, or_false] at hx
              have hk57 : w5.heap.size ≤ wz.heap.size := Nat.le_trans hk6.out.size hk7.out.size
              rcases hx with rfl | hx | rfl
              · have := lt_of_block hr14.out; omega
              · have := ownsA_lt hl14.out hx; omega
              · have h1 := vmap.out.lt; have h2 := hk12.out.size; have h3 := hk13.out.size; have h4 := hk14.out.size; omega
            · intro x hx
              simp only [List.cons_append, List.mem_cons, List.mem_append, Option.mem_toList, List.not_mem_nil, or_false] at hx
              rcases hx with rfl | hx | rfl
              · exact Or.inl hpS.out
              · rcases hf14.out _ hx with h | h
                · exact Or.inl (vown.out _ h).1
                · exact Or.inr (by have := hs5.out; have := vb.out.2.2.2.2; omega)
              · exact vb.out.1

end Go.Proofs.YtembincggkpflaaDoor
