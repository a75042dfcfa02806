import Derived.Test.YtmholofhmpplcaaMO2
import Derived.Test.YtmholofhmpplcaaHX
import Derived.Sort.OwnSorted
import Derived.Laws.IdiomRangeMap
import Derived.Laws.MakeOwn

/- object: Put. -/
namespace Go.Proofs.Ytmholofhmpplcaa
open Go.RowKit Go.Lib Go.Maps

theorem map_eq_none (W : World) : (binOp .eql 56 (.map none) (.map none)).run Try.prog W = .ok (.bool true) W := by kernel_rfl
theorem map_eq_some (b : Nat) (W : World) : (binOp .eql 56 (.map (some b)) (.map none)).run Try.prog W = .ok (.bool false) W := by kernel_rfl
theorem firstFrom_zero (E : Nat → Int) : ∀ (m i : Nat), (firstFrom E m i).2 = 0 → ∀ j, i ≤ j → j < i + m → E j = 0
  | 0, i, _, j, h1, h2 => by omega
  | m + 1, i, h, j, h1, h2 => by
    unfold firstFrom at h
    split at h
    · rename_i h3
      rcases Nat.eq_or_lt_of_le h1 with rfl | h4
      · exact h3
      · exact firstFrom_zero E m (i + 1) h j h4 (by omega)
    · rename_i h3; exact absurd h h3
theorem putErr_zero {fl : List Bool} {nm : List UInt8} {n m : Nat} {q z : Int} {th : Bool} (h : putErr fl nm n q z th m = 0) : opE fl = 0 ∧ okName nm = true ∧ n ≤ 1048576 ∧ z ≤ q ∧ (th = true ∨ m ≠ 4096) := by
  have hz := firstFrom_zero _ 5 0 h
  have h0 := hz 0 (by decide) (by decide)
  have h1 := hz 1 (by decide) (by decide)
  have h2 := hz 2 (by decide) (by decide)
  have h3 := hz 3 (by decide) (by decide)
  have h4 := hz 4 (by decide) (by decide)
  simp only [putAsk] at h0 h1 h2 h3 h4
  refine ⟨h0, ?_, ?_, ?_, ?_⟩
  · cases ho : okName nm
    · rw [ho] at h1; simp at h1
    · rfl
  · rcases Nat.lt_or_ge 1048576 n with hl | hl
    · rw [decide_eq_true (by omega)] at h2; simp at h2
    · exact hl
  · rcases Int.lt_or_le q z with hl | hl
    · rw [decide_eq_true hl] at h3; simp at h3
    · exact hl
  · cases th
    · right; intro hm; rw [decide_eq_true hm] at h4; simp at h4
    · left; rfl
/-- Put, told. -/
def PutR (w : World) (U : List Nat) (p T : Nat) (more : List Value) (q : Int) (es : List Ent) (fv : Value) (fl : List Bool) (k : Nat) (left : Int) (nm bs : List UInt8) (er : Int) (e : Ending) (w' : World) : Prop :=
  ∃ v' U', e = .returned (.int .i64 er) ∧ Kept (U ++ fuB fv) w w' ∧ (∀ x ∈ U', x ∈ U ∨ w.heap.size ≤ x) ∧ Ob w' U' p T more q (if er = 0 then putE ⟨nm, v', bs⟩ es else es) fv (fl.drop 1) (k + 1) ∧ FuV w' U' fv (decL left)
set_option maxRecDepth 100000 in
set_option maxHeartbeats 4000000 in
theorem ob_put (w : World) (U : List Nat) (p T : Nat) (more : List Value) (q : Int) (es : List Ent) (fv : Value) (fl : List Bool) (k : Nat) (left : Int) (nm : List UInt8) (hnm : nm.length ≤ 1000000000) (h : Ob w U p T more q es fv fl k) (hk : k ≤ 1099511627776) (hf : FuV w U fv left) (h0 : left ≠ 0)
    (a : Option Addr) (c : Nat) (bs : List UInt8) (hbs : ∀ W, Kept (p :: fuB fv) w W → Src W (.slice a bs.length c) bs.length (bs.map B)) (hz : sizeE es + bs.length ≤ 1099511627776) :
    Calls Try.prog 15 #[.pointer (some ⟨p, 0, none⟩), .string (S nm), .slice a bs.length c] w (PutR w U p T more q es fv fl k left nm bs (putErr fl nm bs.length q ((sizeE es : Int) - (lookB nm es).length + bs.length) (findE nm es).isSome es.length)) := by
  obtain ⟨n, hn⟩ : ∃ n, n = bs.length := ⟨_, rfl⟩
  obtain ⟨gl, hgl⟩ : ∃ gl, gl = (lookB nm es).length := ⟨_, rfl⟩
  obtain ⟨th, hth0⟩ : ∃ th, th = (findE nm es).isSome := ⟨_, rfl⟩
  obtain ⟨z, hzz⟩ : ∃ z : Int, z = (sizeE es : Int) - (gl : Int) + (n : Int) := ⟨_, rfl⟩
  rw [← hgl, ← hn, ← hth0, ← hzz]
  obtain ⟨er, her⟩ : ∃ er, er = putErr fl nm n q z th es.length := ⟨_, rfl⟩
  rw [← her]
  have H := hid h; have HF := hid hf; have HL := hid h0; have HBS := hid hbs
  have HN := hid hn; have HGL := hid hgl; have HTH := hid hth0; have HZ := hid hzz; have HER := hid her
  obtain ⟨⟨mv, flv, R, hR, hrow, hmp, hmpp, hfl, hth⟩, hp, hb, hq, hs⟩ := h
  obtain ⟨_, g1, g2, _⟩ := st_cells hrow
  have hfuU := hid (show ∀ x ∈ fuB fv, x < w.heap.size ∧ x ∉ U from fun x hx => by
    rcases hf with ⟨rfl, _⟩ | ⟨f, rfl, h2, h3, _⟩
    · simp [fuB] at hx
    · simp [fuB] at hx; subst hx; exact ⟨lt_of_block h3, h2⟩)
  have hpl := hid (hb p hp)
  have hszE := hid (show gl ≤ sizeE es ∧ sizeE es ≤ 1099511627776 ∧ sizeE es + n ≤ 1099511627776 from ⟨by
    rw [hgl]; unfold lookB
    cases hf : findE nm es with
    | none => simp
    | some e => exact sizeE_mem (find_mem hf).1, hs.1, by omega⟩)
  have hlk := hid (fun v (hv : Kept [] w v) => mp_look (hmp.kept hv (by simp)) nm hnm)
  obtain ⟨la, lc, hlv⟩ := lookV_slice hth nm
  rw [← hgl] at hlv
  rw [hlv, ← hth0] at hlk
  have hmv : ∃ b, mv = .map b := by
    rcases hmp with ⟨h, _⟩ | ⟨b, h, _⟩
    · exact ⟨_, h⟩
    · exact ⟨_, h⟩
  obtain ⟨mb, rfl⟩ := hmv
  have G1 := hid (fun v (hv : Kept [] w v) => (hv.cell (World.block_lt_of_cell? _ _ g1) (by simp)).trans g1)
  have G2 := hid (fun v (hv : Kept [] w v) => (hv.cell (World.block_lt_of_cell? _ _ g2) (by simp)).trans g2)
  obtain ⟨W0, hW0⟩ : ∃ W0, W0 = ((w.alloc (.cells #[.pointer (some ⟨p, 0, none⟩)] 26)).alloc (.cells #[.string (S nm)] 9)).alloc (.cells #[.slice a n c] 36) := ⟨_, rfl⟩
  have K0 := hid (show Kept [] w W0 from hW0 ▸ (((Kept.refl [] w).alloc _).alloc _).alloc _)
  have Q3 := hid (show W0.heap[w.heap.size]? = some (.cells #[.pointer (some ⟨p, 0, none⟩)] 26 (0, 0)) from hW0 ▸ heap_alloc_old (heap_alloc_old (heap_alloc_at rfl)))
  have Q4 := hid (show W0.heap[w.heap.size + 1]? = some (.cells #[.string (S nm)] 9 (0, 0)) from hW0 ▸ heap_alloc_old (heap_alloc_at (by simp)))
  have Q5 := hid (show W0.heap[w.heap.size + 1 + 1]? = some (.cells #[.slice a n c] 36 (0, 0)) from hW0 ▸ heap_alloc_at (by simp))
  have HW0 := hid hW0
  obtain ⟨sz, hsz⟩ : ∃ sz, sz = sizeE es := ⟨_, rfl⟩
  have HSZ := hid hsz
  rw [← hsz] at G2 hszE HZ
  have hwz1 : IntKind.i64.wrap ((sz : Int) - (gl : Int)) = (sz : Int) - (gl : Int) := by have := hszE.out; rw [IntKind.wrap_i64]; omega
  have hwz2 : IntKind.i64.wrap ((sz : Int) - (gl : Int) + (n : Int)) = z := by have := hszE.out; rw [HZ.out, IntKind.wrap_i64]; omega
  obtain ⟨d, hd⟩ : ∃ d, d = w.heap.size := ⟨_, rfl⟩
  have HD := hid hd
  clear hn hgl hth0 hzz her hR hrow hmp hmpp hfl hth hp hb hq hs hf h0 hbs g1 g2 hlv hW0 hz hsz
  go_enter Try.func15, Try.ntmps15
  go_wp2_with fail
  rw [← HW0.out]
  rw [← hd] at Q3 Q4 Q5 ⊢
  clear hd
  go_cut [7, 8] (fun s7 s8 wx => ∃ p8, s7 = .slice la gl lc ∧ s8 = .pointer (some ⟨p8, 0, none⟩) ∧ Hid (Kept [] W0 wx ∧ W0.heap.size ≤ p8 ∧ wx.heap[p8]? = some (.cells #[.bool th] 4 (0, 0))))
  case first =>
    have L3 := hid (fun v (hv : Kept [] W0 v) => cell_of_one (hv.at Q3.out (by simp)))
    have L4 := hid (fun v (hv : Kept [] W0 v) => cell_of_one (hv.at Q4.out (by simp)))
    have LM := hid (fun v (hv : Kept [] W0 v) => G1.out v (K0.out.trans hv))
    have LK := hid (fun v (hv : Kept [] W0 v) => hlk.out v (K0.out.trans hv))
    refine wp_region_held_drew (S := Kept [] W0) (by kernel_rfl) (Kept.refl [] W0).drew (fun hH => ?_)
    refine takeH 0 (.pointer (some ⟨p, 0, none⟩)) rfl (by kernel_rfl) (by kernel_rfl) (by kernel_rfl) (fun _ _ _ h => h) (by rfl) (fun v hv => by have h := L3.out v hv; go_simp) hH ?_
    simp only [Act.put, List.setIfInBounds_toArray, List.set_cons_succ, List.set_cons_zero]
    refine takeH 1 (.pointer (some ⟨p, 0, none⟩)) rfl (by kernel_rfl) (by kernel_rfl) (by kernel_rfl) (fun _ _ _ h => h) (by rfl) (fun v hv => by go_simp) hH ?_
    simp only [Act.put, List.setIfInBounds_toArray, List.set_cons_succ, List.set_cons_zero]
    refine takeH 2 (.pointer (some ⟨p, 1, none⟩)) rfl (by kernel_rfl) (by kernel_rfl) (by kernel_rfl) (fun _ _ _ h => h) (by rfl) (fun v hv => by go_simp) hH ?_
    simp only [Act.put, List.setIfInBounds_toArray, List.set_cons_succ, List.set_cons_zero]
    refine takeH 3 (.map mb) rfl (by kernel_rfl) (by kernel_rfl) (by kernel_rfl) (fun _ _ _ h => h) (by rfl) (fun v hv => by have h := LM.out v hv; go_simp) hH ?_
    simp only [Act.put, List.setIfInBounds_toArray, List.set_cons_succ, List.set_cons_zero]
    refine takeH 4 (.string (S nm)) rfl (by kernel_rfl) (by kernel_rfl) (by kernel_rfl) (fun _ _ _ h => h) (by rfl) (fun v hv => by have h := L4.out v hv; go_simp) hH ?_
    simp only [Act.put, List.setIfInBounds_toArray, List.set_cons_succ, List.set_cons_zero]
    refine takeH 5 (.tuple #[.slice la gl lc, .bool th]) rfl (by kernel_rfl) (by kernel_rfl) (by kernel_rfl) (fun _ _ _ h => h) (by rfl) (fun v hv => by have h := LK.out v hv; go_simp) hH ?_
    simp only [Act.put, List.setIfInBounds_toArray, List.set_cons_succ, List.set_cons_zero]
    refine takeH 6 (.tuple #[.slice la gl lc, .bool th]) rfl (by kernel_rfl) (by kernel_rfl) (by kernel_rfl) (fun _ _ _ h => h) (by rfl) (fun v hv => by go_simp) hH ?_
    simp only [Act.put, List.setIfInBounds_toArray, List.set_cons_succ, List.set_cons_zero]
    refine takeH 7 (.slice la gl lc) rfl (by kernel_rfl) (by kernel_rfl) (by kernel_rfl) (fun _ _ _ h => h) (by rfl) (fun v hv => by go_simp) hH ?_
    simp only [Act.put, List.setIfInBounds_toArray, List.set_cons_succ, List.set_cons_zero]
    refine takeH 8 (.bool th) rfl (by kernel_rfl) (by kernel_rfl) (by kernel_rfl) (fun _ _ _ h => h) (by rfl) (fun v hv => by go_simp) hH ?_
    simp only [Act.put, List.setIfInBounds_toArray, List.set_cons_succ, List.set_cons_zero]
    refine runH 9 rfl (by kernel_rfl) (by rfl) (.pointer (some ⟨W0.heap.size, 0, none⟩)) (W0.drew.alloc (.cells #[.bool false] 4)) (by go_simp) (hH.alloc _) ?_
    simp only [Act.put, List.setIfInBounds_toArray, List.set_cons_succ, List.set_cons_zero]
    have hA := hH.alloc (.cells #[.bool false] 4)
    refine takeH 10 (.slice la gl lc) rfl (by kernel_rfl) (by kernel_rfl) (by kernel_rfl) (fun _ _ _ h => h) (by rfl) (fun v hv => by go_simp) hA ?_
    simp only [Act.put, List.setIfInBounds_toArray, List.set_cons_succ, List.set_cons_zero]
    have hal : (W0.drew.alloc (.cells #[.bool false] 4)).heap[W0.heap.size]? = some (.cells #[.bool false] 4 (0, 0)) := heap_alloc_at rfl
    have hc8 := cell_of_one hal
    have hf8 := free_of_one hal
    refine writeH 11 rfl (by kernel_rfl) (by rfl) ((W0.drew.alloc (.cells #[.bool false] 4)).setCell ⟨W0.heap.size, 0, none⟩ (.bool th)) (by go_simp) (hA.setCell (p := ⟨W0.heap.size, 0, none⟩) (fun h => absurd h (Nat.lt_irrefl _)) _) ?_
    simp only [Act.put, List.setIfInBounds_toArray, List.set_cons_succ, List.set_cons_zero]
    have hfin := hid (hA.setCell (p := ⟨W0.heap.size, 0, none⟩) (fun h => absurd h (Nat.lt_irrefl _)) (.bool th))
    have hone := hid (one_setCell (u := (.bool th)) hal)
    clear hal hc8 hf8 hA
    refine wpAnyH_done (by kernel_rfl) ?_ _
    go_wp2_with fail
    go_meet
    exact ⟨W0.heap.size, rfl, rfl, hid ⟨hfin.out, Nat.le_refl _, hone.out⟩⟩
  case rest =>
    obtain ⟨p8, rfl, rfl, hc1⟩ := hcut
    obtain ⟨k8, z8, q8⟩ := hc1.out
    have K8 := hid k8; have Z8 := hid z8; have Q8 := hid q8
    have K18 := hid (K0.out.trans k8)
    clear hc1 k8 z8 q8
    obtain ⟨w8, hw8⟩ : ∃ x, x = wc := ⟨wc, rfl⟩
    subst hw8
    go_wp2_with fail
    go_cut [9] (fun s9 wx => ∃ p9, s9 = .pointer (some ⟨p9, 0, none⟩) ∧ Hid (Kept [] w8 wx ∧ w8.heap.size ≤ p9 ∧ wx.heap[p9]? = some (.cells #[.int .i64 z] 3 (0, 0))))
    case first =>
      have L3 := hid (fun v (hv : Kept [] w8 v) => cell_of_one ((K8.out.trans hv).at Q3.out (by simp)))
      have L5 := hid (fun v (hv : Kept [] w8 v) => cell_of_one ((K8.out.trans hv).at Q5.out (by simp)))
      have LM := hid (fun v (hv : Kept [] w8 v) => G2.out v (K18.out.trans hv))
      refine wp_region_held_drew (S := Kept [] w8) (by kernel_rfl) (Kept.refl [] w8).drew (fun hH => ?_)
      refine takeH 0 (.pointer (some ⟨p, 0, none⟩)) rfl (by kernel_rfl) (by kernel_rfl) (by kernel_rfl) (fun _ _ _ h => h) (by rfl) (fun v hv => by have h := L3.out v hv; go_simp) hH ?_
      simp only [Act.put, List.setIfInBounds_toArray, List.set_cons_succ, List.set_cons_zero]
      refine takeH 1 (.pointer (some ⟨p, 0, none⟩)) rfl (by kernel_rfl) (by kernel_rfl) (by kernel_rfl) (fun _ _ _ h => h) (by rfl) (fun v hv => by go_simp) hH ?_
      simp only [Act.put, List.setIfInBounds_toArray, List.set_cons_succ, List.set_cons_zero]
      refine takeH 2 (.pointer (some ⟨p, 2, none⟩)) rfl (by kernel_rfl) (by kernel_rfl) (by kernel_rfl) (fun _ _ _ h => h) (by rfl) (fun v hv => by go_simp) hH ?_
      simp only [Act.put, List.setIfInBounds_toArray, List.set_cons_succ, List.set_cons_zero]
      refine takeH 3 (.int .i64 (sz : Int)) rfl (by kernel_rfl) (by kernel_rfl) (by kernel_rfl) (fun _ _ _ h => h) (by rfl) (fun v hv => by have h := LM.out v hv; go_simp) hH ?_
      simp only [Act.put, List.setIfInBounds_toArray, List.set_cons_succ, List.set_cons_zero]
      refine takeH 4 (.slice la gl lc) rfl (by kernel_rfl) (by kernel_rfl) (by kernel_rfl) (fun _ _ _ h => h) (by rfl) (fun v hv => by go_simp) hH ?_
      simp only [Act.put, List.setIfInBounds_toArray, List.set_cons_succ, List.set_cons_zero]
      refine takeH 5 (.int .i64 (gl : Int)) rfl (by kernel_rfl) (by kernel_rfl) (by kernel_rfl) (fun _ _ _ h => h) (by rfl) (fun v hv => by go_simp) hH ?_
      simp only [Act.put, List.setIfInBounds_toArray, List.set_cons_succ, List.set_cons_zero]
      refine takeH 6 (.int .i64 ((sz : Int) - (gl : Int))) rfl (by kernel_rfl) (by kernel_rfl) (by kernel_rfl) (fun _ _ _ h => h) (by rfl) (fun v hv => by go_simp) hH ?_
      simp only [Act.put, List.setIfInBounds_toArray, List.set_cons_succ, List.set_cons_zero]
      refine takeH 7 (.slice a n c) rfl (by kernel_rfl) (by kernel_rfl) (by kernel_rfl) (fun _ _ _ h => h) (by rfl) (fun v hv => by have h := L5.out v hv; go_simp) hH ?_
      simp only [Act.put, List.setIfInBounds_toArray, List.set_cons_succ, List.set_cons_zero]
      refine takeH 8 (.int .i64 (n : Int)) rfl (by kernel_rfl) (by kernel_rfl) (by kernel_rfl) (fun _ _ _ h => h) (by rfl) (fun v hv => by go_simp) hH ?_
      simp only [Act.put, List.setIfInBounds_toArray, List.set_cons_succ, List.set_cons_zero]
      refine takeH 9 (.int .i64 z) rfl (by kernel_rfl) (by kernel_rfl) (by kernel_rfl) (fun _ _ _ h => h) (by rfl) (fun v hv => by go_simp) hH ?_
      simp only [Act.put, List.setIfInBounds_toArray, List.set_cons_succ, List.set_cons_zero]
      refine runH 10 rfl (by kernel_rfl) (by rfl) (.pointer (some ⟨w8.heap.size, 0, none⟩)) (w8.drew.alloc (.cells #[.int .i64 0] 3)) (by go_simp) (hH.alloc _) ?_
      simp only [Act.put, List.setIfInBounds_toArray, List.set_cons_succ, List.set_cons_zero]
      have hA := hH.alloc (.cells #[.int .i64 0] 3)
      have hal : (w8.drew.alloc (.cells #[.int .i64 0] 3)).heap[w8.heap.size]? = some (.cells #[.int .i64 0] 3 (0, 0)) := heap_alloc_at rfl
      have hc8 := cell_of_one hal
      have hf8 := free_of_one hal
      refine writeH 11 rfl (by kernel_rfl) (by rfl) ((w8.drew.alloc (.cells #[.int .i64 0] 3)).setCell ⟨w8.heap.size, 0, none⟩ (.int .i64 z)) (by go_simp) (hA.setCell (p := ⟨w8.heap.size, 0, none⟩) (fun h => absurd h (Nat.lt_irrefl _)) _) ?_
      simp only [Act.put, List.setIfInBounds_toArray, List.set_cons_succ, List.set_cons_zero]
      have hfin := hid (hA.setCell (p := ⟨w8.heap.size, 0, none⟩) (fun h => absurd h (Nat.lt_irrefl _)) (.int .i64 z))
      have hone := hid (one_setCell (u := (.int .i64 z)) hal)
      clear hal hc8 hf8 hA
      refine wpAnyH_done (by kernel_rfl) ?_ _
      go_wp2_with fail
      go_meet
      exact ⟨w8.heap.size, rfl, hid ⟨hfin.out, Nat.le_refl _, hone.out⟩⟩
    case rest =>
      obtain ⟨p9, rfl, hc1⟩ := hcut
      obtain ⟨kc, z9, q9⟩ := hc1.out
      have KC := hid (K18.out.trans kc)
      have Q9 := hid q9
      have C0 := hid (show Caps wc d (d + 1) (d + 1 + 1) p8 p9 p nm (.slice a n c) th z from ⟨kc.at (K8.out.at Q3.out (by simp)) (by simp), kc.at (K8.out.at Q4.out (by simp)) (by simp), kc.at (K8.out.at Q5.out (by simp)) (by simp), kc.at Q8.out (by simp), q9⟩)
      have hsz0 := hid K0.out.size; have hsz8 := hid K8.out.size; have hz8 := hid Z8.out; have hz9 := hid z9; have hq5 := hid (lt_of_block Q5.out)
      have hout := hid (show ∀ x ∈ [d, d + 1, d + 1 + 1, p8, p9], x ∉ p :: fuB fv ∧ x ∉ U ∧ w.heap.size ≤ x from fun x hx => by
        have hxw : w.heap.size ≤ x := by
          have := HD.out; have := hsz0.out; have := hsz8.out; have := hz8.out; have := hz9.out
          simp at hx
          omega
        refine ⟨fun hm => ?_, fun hm => ?_, hxw⟩
        · rcases List.mem_cons.1 hm with h | h
          · have := hpl.out; omega
          · have := (hfuU.out x h).1; omega
        · have := H.out.bound x hm; omega)
      clear hc1 kc q9 z9
      have cd0 := cell_of_one C0.out.hd
      have hmf : ∀ (fn : Fn) (first cap : Array Value) (w : World), (Instr.makeFunc fn first cap).run Try.prog w = .ok (.func fn first cap) w := fun _ _ _ _ => rfl
      go_wp2_with fail
      obtain ⟨WA, hWA⟩ : ∃ WA, WA = wc.alloc (.cells #[.func (.func 34) #[.pointer (some ⟨p, 0, none⟩)] #[], .func (.func 35) #[] #[.pointer (some ⟨d + 1, 0, none⟩)], .func (.func 38) #[] #[.pointer (some ⟨d + 1 + 1, 0, none⟩)], .func (.func 39) #[] #[.pointer (some ⟨p9, 0, none⟩), .pointer (some ⟨d, 0, none⟩)], .func (.func 40) #[] #[.pointer (some ⟨p8, 0, none⟩), .pointer (some ⟨d, 0, none⟩)]] 82) := ⟨_, rfl⟩
      have kA := hid (show Kept [] wc WA from hWA ▸ (Kept.refl [] wc).alloc _)
      have KA := hid (KC.out.trans kA.out)
      have hall := hid (put_all WA U p T more q es fv fl k left (H.out.kept KA.out (by simp)) hk (HF.out.kept KA.out (by simp)) HL.out wc.heap.size d (d + 1) (d + 1 + 1) p8 p9 nm hnm a n c th z (C0.out.kept kA.out (by simp)) (fun x hx => (hout.out x hx).1) (hWA ▸ heap_alloc_at rfl) (fun hm => by
        have h1 := KC.out.size
        rcases List.mem_cons.1 hm with h | h
        · have := hpl.out; omega
        · have := (hfuU.out _ h).1; omega))
      rw [← HER.out] at hall
      rw [← hWA]
      clear hWA
      refine hall.out.mono ?_
      rintro e w3 ⟨ii, rfl, k3, ob3, fu3⟩
      have K3 := hid (show Kept (p :: fuB fv) w w3 from (KA.out.wider (fun _ _ h => by simp at h)).trans k3)
      have OB3 := hid ob3; have FU3 := hid fu3
      have C3 := hid ((C0.out.kept kA.out (by simp)).kept k3 ⟨(hout.out d (by simp)).1, (hout.out (d + 1) (by simp)).1, (hout.out (d + 1 + 1) (by simp)).1, (hout.out p8 (by simp)).1, (hout.out p9 (by simp)).1⟩)
      have KF := hid (show Kept (U ++ fuB fv) w w3 from K3.out.wider (fun x _ hx => by
        rcases List.mem_cons.1 hx with h | h
        · rw [h]; simp [H.out.hp]
        · simp [h]))
      clear k3 hall
      by_cases he0 : er = 0
      · have hE := hid he0
        obtain ⟨⟨mv3, flv3, R3, hR3, hrow3, hmp3, hmpp3, hfl3, hth3⟩, hp3, hb3, hq3, hs3⟩ := ob3
        have hris := hid OB3.out.rising
        obtain ⟨_, g1, _⟩ := st_cells hrow3
        have f1 : w3.frozen? ⟨p, 1, none⟩ = false := free_of_row' hrow3 1
        have cd := cell_of_one C3.out.hd
        have HR3 := hid hR3; have HROW := hid hrow3; have HFL := hid hfl3; have HTH3 := hid hth3; have HQ3 := hid hq3; have HS3 := hid hs3; have HMPP := hid hmpp3; have HP3 := hid hp3; have HB3 := hid hb3
        subst he0
        rcases hmp3 with ⟨rfl, rfl⟩ | ⟨b, rfl, hbU, hown⟩
        · clear hR3 hrow3 hfl3 hth3 hq3 hs3 hmpp3 hp3 hb3 fu3
          have hme := map_eq_none
          have hmk : ∀ w, (Instr.makeMap 56 none).run Try.prog w = .ok (.map (some w.heap.size)) (w.alloc (.map #[] 0)) := fun w => rfl
          obtain ⟨b, hb⟩ : ∃ b, b = w3.heap.size := ⟨_, rfl⟩
          have HBE := hid hb
          have k4a := hid (show Kept [] w3 (w3.alloc (.map #[] 0)) from (Kept.refl [] w3).alloc _)
          have ra := k4a.out.at HROW.out (by simp)
          have gA1 := (st_cells ra).2.1
          have fA1 : (w3.alloc (.map #[] 0)).frozen? ⟨p, 1, none⟩ = false := free_of_row' ra 1
          have r4 := (st_set ra (.map (some b)) 0).1
          have k4b := hid (show Kept [p] (w3.alloc (.map #[] 0)) ((w3.alloc (.map #[] 0)).setCell ⟨p, 1, none⟩ (.map (some b))) from (Kept.refl [p] _).setCell (p := ⟨p, 1, none⟩) (fun _ => by simp) _)
          have hp3 := hid (lt_of_block HROW.out)
          have hmpA := hid (mp_made w3 [b] (by simp [hb]))
          obtain ⟨W4, hW4⟩ : ∃ W4, W4 = (w3.alloc (.map #[] 0)).setCell ⟨p, 1, none⟩ (.map (some b)) := ⟨_, rfl⟩
          have HW4 := hid hW4
          rw [← hW4] at r4 k4b
          have R4 := hid r4
          have K34 := hid (show Kept [p] w3 W4 from (k4a.out.wider (fun _ _ h => by simp at h)).trans k4b.out)
          have HBP := hid (show b ≠ p from by have := hp3.out; omega)
          have MP4 := hid (show Mp W4 (U ++ [b]) (.map (some b)) [] from by
            rcases hmpA.out with ⟨h, _⟩ | ⟨b', h, h2, h3⟩
            · cases h
            · cases h
              exact Or.inr ⟨b, rfl, by simp, k4b.out.ownsMap' (hb ▸ h3) (by have := HBP.out; simp; omega)⟩)
          have K4S := hid (show Kept (p :: fuB fv) w W4 from K3.out.trans' K34.out (fun x _ hx => by simp at hx; simp [hx]))
          have K4 := hid (show Kept (U ++ fuB fv) w W4 from KF.out.trans' K34.out (fun x _ hx => by simp at hx; rw [hx]; simp [HP3.out]))
          have HU4 := hid (show ∀ x ∈ U ++ [b], x ∈ U ∨ w.heap.size ≤ x from fun x hx => by
            rcases List.mem_append.1 hx with h | h
            · exact Or.inl h
            · simp at h; subst h; exact Or.inr (by have := K3.out.size; omega))
          have HBU := hid (show b ∈ U ++ [b] from by simp)
          have HPU := hid (show p ∈ U ++ [b] from by simp [HP3.out])
          have hbs3 := hid (show ∀ x ∈ [d, d + 1, d + 1 + 1, p8, p9], x < w3.heap.size from fun x hx => by
            simp at hx
            rcases hx with rfl | rfl | rfl | rfl | rfl
            · exact lt_of_block C3.out.hd
            · exact lt_of_block C3.out.h4
            · exact lt_of_block C3.out.h5
            · exact lt_of_block C3.out.h8
            · exact lt_of_block C3.out.h9)
          have HBB := hid (show ∀ x ∈ [d, d + 1, d + 1 + 1, p8, p9], x ≠ b from fun x hx e => by have := hbs3.out x hx; omega)
          have hnp := hid (show ∀ x ∈ [d, d + 1, d + 1 + 1, p8, p9], x ∉ [p] from fun x hx hm => (hout.out x hx).1 (by simp at hm; simp [hm]))
          have C4 := hid (C3.out.kept K34.out ⟨hnp.out _ (by simp), hnp.out _ (by simp), hnp.out _ (by simp), hnp.out _ (by simp), hnp.out _ (by simp)⟩)
          have HR4 := hid (show ∀ x ∈ R3, x ∈ U ++ [b] ∧ x ≠ p ∧ x ≠ b from fun x hx => ⟨by simp [(HR3.out x hx).1], (HR3.out x hx).2.1, by have := HB3.out x (HR3.out x hx).1; omega⟩)
          have FL4 := hid (HFL.out.kept K34.out (fun x hx hm => (HR3.out x hx).2.1 (by simpa using hm)))
          have TH4 := hid (show ∀ e ∈ ([] : List Ent), SrcS W4 R3 e.v e.b.length (e.b.map B) from by simp)
          have HB4 := hid (show ∀ x ∈ U ++ [b], x < W4.heap.size from fun x hx => by
            have h1 := k4b.out.size
            simp at h1
            rcases List.mem_append.1 hx with h | h
            · have := HB3.out x h; omega
            · simp at h; omega)
          have FU4 := hid (show FuV W4 (U ++ [b]) fv (decL left) from by
            rcases FU3.out with h | ⟨f, h1, h2, h3, h4⟩
            · exact Or.inl h
            · have := lt_of_block h3
              exact Or.inr ⟨f, h1, fun hm => by
                rcases List.mem_append.1 hm with h | h
                · exact h2 h
                · simp at h; omega, K34.out.at h3 (fun hm => h2 (by simp at hm; rw [hm]; exact HP3.out)), h4⟩)
          have hHW := HW4.out
          clear hW4 r4 ra hHW hb
          go_wp2_with fail
          rw [← HBE.out, ← HW4.out]
          have hS4 := hid (show Kept (U ++ fuB fv) w W4 from K4.out)
          have hsrc := hid (fun v (hv : Kept [] W4 v) => (show Src v (.slice a n c) n (bs.map B) from by have h1 := HBS.out v ((K4S.out).trans (hv.wider (fun _ _ h => by simp at h))); rw [← HN.out] at h1; exact h1))
          have hbl := hid (show b < W4.heap.size from (by rcases MP4.out with ⟨h, _⟩ | ⟨b', h, _, h3⟩; (· cases h); (· cases h; exact h3.lt)))
          have hbo := hid (show ∀ x ∈ [d, d + 1, d + 1 + 1, p8, p9], x ∉ [b] from fun x hx hm => HBB.out x hx (by simpa using hm))
          have L3 := hid (fun v (hv : Kept [b] W4 v) => cell_of_one (hv.at C4.out.hd (hbo.out _ (by simp))))
          have L4 := hid (fun v (hv : Kept [b] W4 v) => cell_of_one (hv.at C4.out.h4 (hbo.out _ (by simp))))
          have L5 := hid (fun v (hv : Kept [b] W4 v) => cell_of_one (hv.at C4.out.h5 (hbo.out _ (by simp))))
          have L1 := hid (fun v (hv : Kept [b] W4 v) => (st_cells (hv.at R4.out (by have := HBP.out; simp; omega))).2.1)
          refine wp_region_held_drew (S := Kept [b] W4) (by kernel_rfl) (Kept.refl [b] W4).drew (fun hH => ?_)
          refine takeH 0 (.pointer (some ⟨p, 0, none⟩)) rfl (by kernel_rfl) (by kernel_rfl) (by kernel_rfl) (fun _ _ _ h => h) (by rfl) (fun v hv => by have h := L3.out v hv; go_simp) hH ?_
          simp only [Act.put, List.setIfInBounds_toArray, List.set_cons_succ, List.set_cons_zero]
          refine takeH 1 (.pointer (some ⟨p, 0, none⟩)) rfl (by kernel_rfl) (by kernel_rfl) (by kernel_rfl) (fun _ _ _ h => h) (by rfl) (fun v hv => by go_simp) hH ?_
          simp only [Act.put, List.setIfInBounds_toArray, List.set_cons_succ, List.set_cons_zero]
          refine takeH 2 (.pointer (some ⟨p, 1, none⟩)) rfl (by kernel_rfl) (by kernel_rfl) (by kernel_rfl) (fun _ _ _ h => h) (by rfl) (fun v hv => by go_simp) hH ?_
          simp only [Act.put, List.setIfInBounds_toArray, List.set_cons_succ, List.set_cons_zero]
          refine takeH 3 (.map (some b)) rfl (by kernel_rfl) (by kernel_rfl) (by kernel_rfl) (fun _ _ _ h => h) (by rfl) (fun v hv => by have h := L1.out v hv; go_simp) hH ?_
          simp only [Act.put, List.setIfInBounds_toArray, List.set_cons_succ, List.set_cons_zero]
          refine takeH 4 (.string (S nm)) rfl (by kernel_rfl) (by kernel_rfl) (by kernel_rfl) (fun _ _ _ h => h) (by rfl) (fun v hv => by have h := L4.out v hv; go_simp) hH ?_
          simp only [Act.put, List.setIfInBounds_toArray, List.set_cons_succ, List.set_cons_zero]
          refine takeH 5 (.slice a n c) rfl (by kernel_rfl) (by kernel_rfl) (by kernel_rfl) (fun _ _ _ h => h) (by rfl) (fun v hv => by have h := L5.out v hv; go_simp) hH ?_
          simp only [Act.put, List.setIfInBounds_toArray, List.set_cons_succ, List.set_cons_zero]
          have hcl := hid (show Calls Try.prog 41 #[.slice a n c] W4.drew fun e w' => ∃ v', e = .returned v' ∧ Kept [] W4.drew w' ∧ NewS W4.drew w' v' n (bs.map B) from by
            have h1 := hsrc.out W4.drew (Kept.refl [] W4).drew
            have hl := hszE.out.2.2
            rw [HN.out] at h1 hl ⊢
            exact bclone_any _ bs _ h1 (by omega))
          refine callE 6 rfl (by kernel_rfl) (by rfl) 41 #[.slice a n c] (by go_simp) (fun v' w' => Kept [] W4 w' ∧ NewS W4 w' v' n (bs.map B)) (fun _ _ h => h.1.wider (fun _ _ h => by simp at h)) (hcl.out.mono fun e w' h => by
            obtain ⟨v', rfl, h2, h3⟩ := h
            exact ⟨v', rfl, (Kept.refl [] W4).drew.trans h2, h3⟩) ?_
          rintro v' W5 ⟨k5, U2, hU2, hs2⟩
          simp only [Act.put, List.setIfInBounds_toArray, List.set_cons_succ, List.set_cons_zero]
          have K5 := hid k5; have HU2 := hid hU2; have HS2 := hid hs2
          have mp5 := (MP4.out.kept k5 (by simp))
          obtain ⟨W6, hup, k6, mp6⟩ := mp_put mp5 ⟨nm, v', bs⟩ hnm (Nat.le_trans HS3.out.2.1 (by decide))
          have hup' : (Instr.mapUpdate 56 (.map (some b)) (.string (S nm)) v').run Try.prog W5 = .ok () W6 := hup
          refine writeH 7 rfl (by kernel_rfl) (by rfl) W6 (by have h := hup'; go_simp) ((k5.wider (fun _ _ h => by simp at h)).trans k6) ?_
          simp only [Act.put, List.setIfInBounds_toArray, List.set_cons_succ, List.set_cons_zero]
          refine wpAnyH_done (by kernel_rfl) ?_ _
          have K6 := hid k6; have MP6 := hid mp6
          have R6 := hid (k6.at (k5.at R4.out (by simp)) (by have := HBP.out; simp; omega))
          have C6 := hid ((C4.out.kept k5 (by simp)).kept k6 ⟨hbo.out _ (by simp), hbo.out _ (by simp), hbo.out _ (by simp), hbo.out _ (by simp), hbo.out _ (by simp)⟩)
          have cd6 := cell_of_one C6.out.hd
          have c96 := cell_of_one C6.out.h9
          have g62 := (st_cells R6.out).2.2.1
          have f62 : W6.frozen? ⟨p, 2, none⟩ = false := free_of_row' R6.out 2
          have R7 := hid (st_set R6.out undef z).2.1
          have K7 := hid (show Kept [p] W6 (W6.setCell ⟨p, 2, none⟩ (.int .i64 z)) from (Kept.refl [p] W6).setCell (p := ⟨p, 2, none⟩) (fun _ => by simp) _)
          have hz5 := hid K5.out.size; have hz6 := hid K6.out.size; have hz7 := hid K7.out.size
          clear k5 hU2 hs2 mp5 hup hup' k6 mp6 hcl hH
          go_wp2
          go_ret
          obtain ⟨e0, e1, e2, e3, e4⟩ := putErr_zero HER.out.symm
          have hU2p : ∀ x ∈ U2, x ≠ p ∧ x ≠ b ∧ W4.heap.size ≤ x := fun x hx => by
            have h1 := (HU2.out x hx).1; have h2 := lt_of_block R4.out; have h3 := hbl.out
            omega
          have hsum : z = (sizeE (putE ⟨nm, v', bs⟩ []) : Int) := by
            obtain ⟨h1, _⟩ := del_size hris.out nm
            unfold putE
            rw [ins_size, HZ.out, HGL.out, HSZ.out, HN.out]
            simp only
            omega
          refine ⟨v', (U ++ [b]) ++ U2, rfl, ?_, fun x hx => ?_, ?_, ?_⟩
          · refine ((hS4.out.trans (K5.out.wider (fun _ _ h => by simp at h))).trans' K6.out (fun x hx hm => ?_)).trans' K7.out (fun x hx hm => ?_)
            · simp at hm; rcases HU4.out b HBU.out with h | h
              · rw [hm]; simp [h]
              · omega
            · simp at hm; rw [hm]; simp [H.out.hp]
          · rcases List.mem_append.1 hx with h | h
            · exact HU4.out x h
            · exact Or.inr (by have := (hU2p x h).2.2; have := hS4.out.size; omega)
          · rw [if_pos rfl]
            refine ⟨⟨.map (some b), flv3, R3 ++ U2, fun x hx => ?_, by rw [← hsum]; exact R7.out, ?_, ?_, ?_, fun e he => ?_⟩, List.mem_append.2 (Or.inl HPU.out), fun x hx => ?_, HQ3.out, ?_, ?_, fun e he => ?_⟩
            · rcases List.mem_append.1 hx with h | h
              · exact ⟨List.mem_append.2 (Or.inl (HR4.out x h).1), (HR4.out x h).2.1, fun e => (HR4.out x h).2.2 (by cases e; rfl)⟩
              · exact ⟨by simp [h], (hU2p x h).1, fun e => (hU2p x h).2.1 (by cases e; rfl)⟩
            · rcases MP6.out with ⟨h, _⟩ | ⟨b', h, h2, h3⟩
              · cases h
              · cases h
                exact Or.inr ⟨_, rfl, List.mem_append.2 (Or.inl h2), K7.out.ownsMap' h3 (by have := HBP.out; simp; omega)⟩
            · intro e; cases e; exact HBP.out rfl
            · exact ((((FL4.out.kept K5.out (by simp)).kept K6.out (fun x hx hm => (HR4.out x hx).2.2 (by simpa using hm))).kept K7.out (fun x hx hm => (HR4.out x hx).2.1 (by simpa using hm)))).more (fun x hx => by simp [hx])
            · rcases mem_put.1 he with rfl | ⟨h, _⟩
              · have h1 := HS2.out
                rw [HN.out] at h1
                exact ((h1.kept K6.out (fun x hx hm => (hU2p x hx).2.1 (by simpa using hm))).kept K7.out (fun x hx hm => (hU2p x hx).1 (by simpa using hm))).more (fun x hx => by simp [hx])
              · exact (((((TH4.out e h).kept K5.out (by simp)).kept K6.out (fun x hx hm => (HR4.out x hx).2.2 (by simpa using hm))).kept K7.out (fun x hx hm => (HR4.out x hx).2.1 (by simpa using hm)))).more (fun x hx => by simp [hx])
            · rcases List.mem_append.1 hx with h | h
              · have := HB4.out x h; have := hz5.out; have := hz6.out; have := hz7.out; omega
              · have := (HU2.out x h).2; have := hz6.out; have := hz7.out; omega
            · have h1 := hszE.out; have h2 := HZ.out; omega
            · have h1 := HS3.out.2.1
              unfold putE
              rw [ins_len]
              simp only
              cases hf : findE nm [] with
              | none =>
                rw [del_none hf]
                have h2 := HTH.out
                rw [hf] at h2
                rcases e4 with h3 | h3
                · rw [h3] at h2; simp at h2
                · omega
              | some e => have := (del_some hris.out hf).1; omega
            · rcases mem_put.1 he with rfl | ⟨h, _⟩
              · exact e1
              · exact HS3.out.2.2 e h
          · have hf4 := FU4.out
            rcases hf4 with h | ⟨f, h1, h2, h3, h4⟩
            · exact Or.inl h
            · have hfw := hfuU.out f (by rw [h1]; simp [fuB])
              have hfl := lt_of_block h3
              refine Or.inr ⟨f, h1, fun hm => ?_, K7.out.at (K6.out.at (K5.out.at h3 (by simp)) ?_) ?_, h4⟩
              · rcases List.mem_append.1 hm with h | h
                · exact h2 h
                · have := (hU2p f h).2.2; omega
              · intro hm; simp at hm; exact h2 (by rw [hm]; exact HBU.out)
              · intro hm; simp at hm; exact hfw.2 (by rw [hm]; exact H.out.hp)
        · clear hR3 hrow3 hfl3 hth3 hq3 hs3 hmpp3 hp3 hb3 fu3
          have hme := map_eq_some b
          have R4 := HROW; have MP4 := hid (show Mp w3 U (.map (some b)) es from Or.inr ⟨b, rfl, hbU, hown⟩)
          have HBP := hid (show b ≠ p from fun e => HMPP.out (by rw [e]))
          have K4S := K3; have K4 := KF
          have HU4 := hid (show ∀ x ∈ U, x ∈ U ∨ w.heap.size ≤ x from fun x hx => Or.inl hx)
          have HBU := hid hbU; have HPU := HP3
          have HBB := hid (show ∀ x ∈ [d, d + 1, d + 1 + 1, p8, p9], x ≠ b from fun x hx e => (hout.out x hx).2.1 (by rw [e]; exact hbU))
          have C4 := C3
          have HR4 := hid (show ∀ x ∈ R3, x ∈ U ∧ x ≠ p ∧ x ≠ b from fun x hx => ⟨(HR3.out x hx).1, (HR3.out x hx).2.1, fun e => (HR3.out x hx).2.2 (by rw [e])⟩)
          have FL4 := HFL; have TH4 := HTH3; have HB4 := HB3; have FU4 := FU3
          clear hbU hown
          go_wp2_with fail
          have hS4 := hid (show Kept (U ++ fuB fv) w w3 from K4.out)
          have hsrc := hid (fun v (hv : Kept [] w3 v) => (show Src v (.slice a n c) n (bs.map B) from by have h1 := HBS.out v ((K4S.out).trans (hv.wider (fun _ _ h => by simp at h))); rw [← HN.out] at h1; exact h1))
          have hbl := hid (show b < w3.heap.size from (by rcases MP4.out with ⟨h, _⟩ | ⟨b', h, _, h3⟩; (· cases h); (· cases h; exact h3.lt)))
          have hbo := hid (show ∀ x ∈ [d, d + 1, d + 1 + 1, p8, p9], x ∉ [b] from fun x hx hm => HBB.out x hx (by simpa using hm))
          have L3 := hid (fun v (hv : Kept [b] w3 v) => cell_of_one (hv.at C4.out.hd (hbo.out _ (by simp))))
          have L4 := hid (fun v (hv : Kept [b] w3 v) => cell_of_one (hv.at C4.out.h4 (hbo.out _ (by simp))))
          have L5 := hid (fun v (hv : Kept [b] w3 v) => cell_of_one (hv.at C4.out.h5 (hbo.out _ (by simp))))
          have L1 := hid (fun v (hv : Kept [b] w3 v) => (st_cells (hv.at R4.out (by have := HBP.out; simp; omega))).2.1)
          refine wp_region_held_drew (S := Kept [b] w3) (by kernel_rfl) (Kept.refl [b] w3).drew (fun hH => ?_)
          refine takeH 0 (.pointer (some ⟨p, 0, none⟩)) rfl (by kernel_rfl) (by kernel_rfl) (by kernel_rfl) (fun _ _ _ h => h) (by rfl) (fun v hv => by have h := L3.out v hv; go_simp) hH ?_
          simp only [Act.put, List.setIfInBounds_toArray, List.set_cons_succ, List.set_cons_zero]
          refine takeH 1 (.pointer (some ⟨p, 0, none⟩)) rfl (by kernel_rfl) (by kernel_rfl) (by kernel_rfl) (fun _ _ _ h => h) (by rfl) (fun v hv => by go_simp) hH ?_
          simp only [Act.put, List.setIfInBounds_toArray, List.set_cons_succ, List.set_cons_zero]
          refine takeH 2 (.pointer (some ⟨p, 1, none⟩)) rfl (by kernel_rfl) (by kernel_rfl) (by kernel_rfl) (fun _ _ _ h => h) (by rfl) (fun v hv => by go_simp) hH ?_
          simp only [Act.put, List.setIfInBounds_toArray, List.set_cons_succ, List.set_cons_zero]
          refine takeH 3 (.map (some b)) rfl (by kernel_rfl) (by kernel_rfl) (by kernel_rfl) (fun _ _ _ h => h) (by rfl) (fun v hv => by have h := L1.out v hv; go_simp) hH ?_
          simp only [Act.put, List.setIfInBounds_toArray, List.set_cons_succ, List.set_cons_zero]
          refine takeH 4 (.string (S nm)) rfl (by kernel_rfl) (by kernel_rfl) (by kernel_rfl) (fun _ _ _ h => h) (by rfl) (fun v hv => by have h := L4.out v hv; go_simp) hH ?_
          simp only [Act.put, List.setIfInBounds_toArray, List.set_cons_succ, List.set_cons_zero]
          refine takeH 5 (.slice a n c) rfl (by kernel_rfl) (by kernel_rfl) (by kernel_rfl) (fun _ _ _ h => h) (by rfl) (fun v hv => by have h := L5.out v hv; go_simp) hH ?_
          simp only [Act.put, List.setIfInBounds_toArray, List.set_cons_succ, List.set_cons_zero]
          have hcl := hid (show Calls Try.prog 41 #[.slice a n c] w3.drew fun e w' => ∃ v', e = .returned v' ∧ Kept [] w3.drew w' ∧ NewS w3.drew w' v' n (bs.map B) from by
            have h1 := hsrc.out w3.drew (Kept.refl [] w3).drew
            have hl := hszE.out.2.2
            rw [HN.out] at h1 hl ⊢
            exact bclone_any _ bs _ h1 (by omega))
          refine callE 6 rfl (by kernel_rfl) (by rfl) 41 #[.slice a n c] (by go_simp) (fun v' w' => Kept [] w3 w' ∧ NewS w3 w' v' n (bs.map B)) (fun _ _ h => h.1.wider (fun _ _ h => by simp at h)) (hcl.out.mono fun e w' h => by
            obtain ⟨v', rfl, h2, h3⟩ := h
            exact ⟨v', rfl, (Kept.refl [] w3).drew.trans h2, h3⟩) ?_
          rintro v' W5 ⟨k5, U2, hU2, hs2⟩
          simp only [Act.put, List.setIfInBounds_toArray, List.set_cons_succ, List.set_cons_zero]
          have K5 := hid k5; have HU2 := hid hU2; have HS2 := hid hs2
          have mp5 := (MP4.out.kept k5 (by simp))
          obtain ⟨W6, hup, k6, mp6⟩ := mp_put mp5 ⟨nm, v', bs⟩ hnm (Nat.le_trans HS3.out.2.1 (by decide))
          have hup' : (Instr.mapUpdate 56 (.map (some b)) (.string (S nm)) v').run Try.prog W5 = .ok () W6 := hup
          refine writeH 7 rfl (by kernel_rfl) (by rfl) W6 (by have h := hup'; go_simp) ((k5.wider (fun _ _ h => by simp at h)).trans k6) ?_
          simp only [Act.put, List.setIfInBounds_toArray, List.set_cons_succ, List.set_cons_zero]
          refine wpAnyH_done (by kernel_rfl) ?_ _
          have K6 := hid k6; have MP6 := hid mp6
          have R6 := hid (k6.at (k5.at R4.out (by simp)) (by have := HBP.out; simp; omega))
          have C6 := hid ((C4.out.kept k5 (by simp)).kept k6 ⟨hbo.out _ (by simp), hbo.out _ (by simp), hbo.out _ (by simp), hbo.out _ (by simp), hbo.out _ (by simp)⟩)
          have cd6 := cell_of_one C6.out.hd
          have c96 := cell_of_one C6.out.h9
          have g62 := (st_cells R6.out).2.2.1
          have f62 : W6.frozen? ⟨p, 2, none⟩ = false := free_of_row' R6.out 2
          have R7 := hid (st_set R6.out undef z).2.1
          have K7 := hid (show Kept [p] W6 (W6.setCell ⟨p, 2, none⟩ (.int .i64 z)) from (Kept.refl [p] W6).setCell (p := ⟨p, 2, none⟩) (fun _ => by simp) _)
          have hz5 := hid K5.out.size; have hz6 := hid K6.out.size; have hz7 := hid K7.out.size
          clear k5 hU2 hs2 mp5 hup hup' k6 mp6 hcl hH
          go_wp2
          go_ret
          obtain ⟨e0, e1, e2, e3, e4⟩ := putErr_zero HER.out.symm
          have hU2p : ∀ x ∈ U2, x ≠ p ∧ x ≠ b ∧ w3.heap.size ≤ x := fun x hx => by
            have h1 := (HU2.out x hx).1; have h2 := lt_of_block R4.out; have h3 := hbl.out
            omega
          have hsum : z = (sizeE (putE ⟨nm, v', bs⟩ es) : Int) := by
            obtain ⟨h1, _⟩ := del_size hris.out nm
            unfold putE
            rw [ins_size, HZ.out, HGL.out, HSZ.out, HN.out]
            simp only
            omega
          refine ⟨v', U ++ U2, rfl, ?_, fun x hx => ?_, ?_, ?_⟩
          · refine ((hS4.out.trans (K5.out.wider (fun _ _ h => by simp at h))).trans' K6.out (fun x hx hm => ?_)).trans' K7.out (fun x hx hm => ?_)
            · simp at hm; rcases HU4.out b HBU.out with h | h
              · rw [hm]; simp [h]
              · omega
            · simp at hm; rw [hm]; simp [H.out.hp]
          · rcases List.mem_append.1 hx with h | h
            · exact HU4.out x h
            · exact Or.inr (by have := (hU2p x h).2.2; have := hS4.out.size; omega)
          · rw [if_pos rfl]
            refine ⟨⟨.map (some b), flv3, R3 ++ U2, fun x hx => ?_, by rw [← hsum]; exact R7.out, ?_, ?_, ?_, fun e he => ?_⟩, List.mem_append.2 (Or.inl HPU.out), fun x hx => ?_, HQ3.out, ?_, ?_, fun e he => ?_⟩
            · rcases List.mem_append.1 hx with h | h
              · exact ⟨List.mem_append.2 (Or.inl (HR4.out x h).1), (HR4.out x h).2.1, fun e => (HR4.out x h).2.2 (by cases e; rfl)⟩
              · exact ⟨by simp [h], (hU2p x h).1, fun e => (hU2p x h).2.1 (by cases e; rfl)⟩
            · rcases MP6.out with ⟨h, _⟩ | ⟨b', h, h2, h3⟩
              · cases h
              · cases h
                exact Or.inr ⟨_, rfl, List.mem_append.2 (Or.inl h2), K7.out.ownsMap' h3 (by have := HBP.out; simp; omega)⟩
            · intro e; cases e; exact HBP.out rfl
            · exact ((((FL4.out.kept K5.out (by simp)).kept K6.out (fun x hx hm => (HR4.out x hx).2.2 (by simpa using hm))).kept K7.out (fun x hx hm => (HR4.out x hx).2.1 (by simpa using hm)))).more (fun x hx => by simp [hx])
            · rcases mem_put.1 he with rfl | ⟨h, _⟩
              · have h1 := HS2.out
                rw [HN.out] at h1
                exact ((h1.kept K6.out (fun x hx hm => (hU2p x hx).2.1 (by simpa using hm))).kept K7.out (fun x hx hm => (hU2p x hx).1 (by simpa using hm))).more (fun x hx => by simp [hx])
              · exact (((((TH4.out e h).kept K5.out (by simp)).kept K6.out (fun x hx hm => (HR4.out x hx).2.2 (by simpa using hm))).kept K7.out (fun x hx hm => (HR4.out x hx).2.1 (by simpa using hm)))).more (fun x hx => by simp [hx])
            · rcases List.mem_append.1 hx with h | h
              · have := HB4.out x h; have := hz5.out; have := hz6.out; have := hz7.out; omega
              · have := (HU2.out x h).2; have := hz6.out; have := hz7.out; omega
            · have h1 := hszE.out; have h2 := HZ.out; omega
            · have h1 := HS3.out.2.1
              unfold putE
              rw [ins_len]
              simp only
              cases hf : findE nm es with
              | none =>
                rw [del_none hf]
                have h2 := HTH.out
                rw [hf] at h2
                rcases e4 with h3 | h3
                · rw [h3] at h2; simp at h2
                · omega
              | some e => have := (del_some hris.out hf).1; omega
            · rcases mem_put.1 he with rfl | ⟨h, _⟩
              · exact e1
              · exact HS3.out.2.2 e h
          · have hf4 := FU4.out
            rcases hf4 with h | ⟨f, h1, h2, h3, h4⟩
            · exact Or.inl h
            · have hfw := hfuU.out f (by rw [h1]; simp [fuB])
              have hfl := lt_of_block h3
              refine Or.inr ⟨f, h1, fun hm => ?_, K7.out.at (K6.out.at (K5.out.at h3 (by simp)) ?_) ?_, h4⟩
              · rcases List.mem_append.1 hm with h | h
                · exact h2 h
                · have := (hU2p f h).2.2; omega
              · intro hm; simp at hm; exact h2 (by rw [hm]; exact HBU.out)
              · intro hm; simp at hm; exact hfw.2 (by rw [hm]; exact H.out.hp)
      · have hne : (er != 0) = true := by simpa using he0
        have hne2 : (er == 0) = false := by simpa using he0
        have HNE := hid he0
        clear he0 ob3 fu3
        go_wp2
        go_ret
        exact ⟨.slice none 0 0, U, rfl, KF.out, fun x hx => Or.inl hx, by rw [if_neg HNE.out]; exact OB3.out, FU3.out⟩
end Go.Proofs.Ytmholofhmpplcaa


/- object: names, List. -/
namespace Go.Proofs.Ytmholofhmpplcaa
open Go.RowKit Go.Lib Go.Maps Go.Sort

theorem info_str : (Try.prog.info? 9).map (fun i => (i.zero, i.size, i.bytes)) = some (some (.string ⟨#[]⟩), 1, 16) := by kernel_rfl
/-- The names that begin so. -/
def namesL (es : List Ent) (pre : List UInt8) : List (List UInt8) := (es.map (·.name)).filter (fun x => Lib.hasPrefix x pre)
theorem S_data (l : List UInt8) : (S l).data.toList = l := rfl
theorem encS (l : List UInt8) : encStr l = .string (S l) := rfl
theorem sub_len (ss : List (List UInt8)) (p : List UInt8 → Bool) : (ss.filter p).length ≤ ss.length := List.length_filter_le _ _
/-- What is left to come, what has come. -/
def NmI (w : World) (b r : Nat) (es : List Ent) (pre : List UInt8) (v : Value) (wr : World) : Prop :=
  ∃ left cnt ss, wr.ranges Try.prog 9 heldR b r es.length (DM es) left cnt ∧ Collected (DM es) left ss ∧ ss.length + cnt ≤ es.length ∧ Kept [] w wr ∧
    wr.ownsRow w.heap.size 9 1 v (ss.filter (fun x => Lib.hasPrefix x pre)).length ((ss.filter (fun x => Lib.hasPrefix x pre)).map encStr)

set_option maxRecDepth 100000 in
set_option maxHeartbeats 4000000 in
theorem ob_names (w : World) (U : List Nat) (p T : Nat) (more : List Value) (q : Int) (es : List Ent) (fv : Value) (fl : List Bool) (k : Nat) (h : Ob w U p T more q es fv fl k) (pre : List UInt8) :
    Calls Try.prog 42 #[.pointer (some ⟨p, 0, none⟩), .string (S pre)] w fun e w' => ∃ v, e = .returned v ∧ Kept [] w w' ∧ w'.ownsRow w.heap.size 9 1 v (namesL es pre).length ((namesL es pre).map encStr) := by
  obtain ⟨i0, hi0, hz0, hz1, hz2⟩ := info_split info_str
  have hris := hid h.rising
  obtain ⟨⟨mv, flv, R, hR, hrow, hmp, hmpp, hfl, hth⟩, hp, hb, hq, hs⟩ := h
  obtain ⟨_, g1, _⟩ := st_cells hrow
  have HS := hid hs.2.1
  rcases hmp with ⟨rfl, rfl⟩ | ⟨b, rfl, hbU, hown⟩
  · have hrg := run_range_nilMap (P := Try.prog) w 56 9 36 Try.underlying56
    have hnx := fun ty => run_next_nilMap (P := Try.prog) w ty 0 0 #[]
    have hk := hid (show Kept [] w (w.alloc (.mapIter none 0 #[] 0)) from (Kept.refl [] w).alloc _)
    have hso := hid (fun W => Try.slices_Sort_string_none none 0 W)
    clear hrow hR hmpp hp hb hq hs hth hfl
    go_enter Try.func42, Try.ntmps42
    go_wp2_with fail
    go_loopw [5] (fun v wr => v = .slice none 0 0 ∧ w.alloc (.mapIter none 0 #[] 0) = wr) (fun _ _ => 0)
    case atStart => exact ⟨rfl, rfl⟩
    case round =>
      obtain ⟨rfl, rfl⟩ := hrel
      go_wp2_with fail
      refine (hso.out _).mono ?_
      rintro e w1 ⟨rfl, rfl⟩
      go_wp2
      go_ret
      exact ⟨_, rfl, hk.out, ⟨rfl, Or.inl ⟨rfl, rfl⟩⟩⟩
  · obtain ⟨w1, hrg, hra, hgr, hsz⟩ := hown.range str_law Try.underlying56
    have hI0 := hid (show NmI w b w.heap.size es pre (.slice none 0 0) w1 from ⟨_, _, [], hra, Collected.start _, by rw [DM_size]; simp, Kept.of_grown hgr (by simp), by simp, Or.inl ⟨rfl, rfl⟩⟩)
    have hown0 := hid hown
    have hbl0 := hid (hown.lt)
    have HW1 := hid hsz
    clear hrow hR hmpp hp hb hq hs hth hfl hra hgr hsz hown
    go_enter Try.func42, Try.ntmps42
    go_wp2_with fail
    go_loopw [5] (fun v wr => Hid (NmI w b w.heap.size es pre v wr)) (fun _ wr => wr.rangeLeft b w.heap.size)
    case atStart => exact hI0
    case round =>
      clear hI0
      obtain ⟨left, cnt, ss, hra, hcol, hcnt, hk, hrow⟩ := hrel.out
      obtain ⟨av, cv, hav⟩ := owns_slice hrow
      rw [hav] at hrow ⊢
      have hmeas := hid hra.left_eq
      have hne := hid hra.ne; have hrl := hid hra.lt
      have hK := hid hk; have HROW := hid hrow; have HCOL := hid hcol; have HCNT := hid hcnt
      rcases hra.next str_law 0 with ⟨rfl, hl0, hrun⟩ | ⟨key, v1, kl, y, w2, cnt', hkey, hlk, hv, hat, hrun, hra2, hlt, hgr2, hsz2, hen⟩
      · have hperm := hid (hcol.perm hown0.out str_law Try.underlying9 hl0)
        have hL := hid (show (ss.filter (fun x => Lib.hasPrefix x pre)).mergeSort (fun x y => decide (x ≤ y)) = namesL es pre from by
          have h1 := hperm.out
          rw [DM_keys] at h1
          exact sorted_names hris.out _ h1)
        have hssl : ss.length ≤ es.length := by omega
        have hfl := hid (sub_len ss (fun x => Lib.hasPrefix x pre))
        have hsl := hid hssl
        obtain ⟨L, hLL⟩ : ∃ L, L = ss.filter (fun x => Lib.hasPrefix x pre) := ⟨_, rfl⟩
        rw [← hLL] at HROW hL hfl ⊢
        clear hLL hra hcol hcnt hk hrow hl0 hrel hssl
        rcases HROW.out.2 with ⟨hnil, hn0⟩ | ⟨g, cap, cur, hve, hbase, hbk, h1, h2, h3, h4⟩
        · simp at hnil
          obtain ⟨rfl, h00, rfl⟩ := hnil
          have hL0 : L = [] := List.eq_nil_of_length_eq_zero hn0
          subst hL0
          have hso := hid (Try.slices_Sort_string_none none 0 wr)
          have hLn := hid (show namesL es pre = [] from by rw [← hL.out]; simp)
          clear hn0 h00
          have hrun' := hrun
          go_wp2_with fail
          refine hso.out.mono ?_
          rintro e w1 ⟨rfl, rfl⟩
          go_wp2
          go_ret
          exact ⟨_, rfl, hK.out, by rw [hLn.out]; exact ⟨rfl, Or.inl ⟨rfl, rfl⟩⟩⟩
        · simp at hve
          obtain ⟨rfl, rfl⟩ := hve
          have hso := hid (Try.slices_Sort_string g 0 cv L wr (holds_of_block hbk (by simpa using h4)) (lt_of_block hbk) (by have := HS.out; have := hfl.out; have := hsl.out; omega))
          rw [hL.out] at hso
          have hnl := hid (show (namesL es pre).length = L.length from by rw [← hL.out]; simp)
          have hpost := hid (fun n os => ownsRow_sorted (os := os) (n := n) (ts := namesL es pre) hnl.out hbase hbk h1 h2 h3)
          have hgw := hid (fun n os => grownBy_sorted (w := wr) (g := g) (n := n) (os := os) (namesL es pre).toArray)
          have hbs := hid hbase
          obtain ⟨ln, hln⟩ : ∃ ln, ln = L.length := ⟨_, rfl⟩
          rw [← hln] at hso hpost hnl ⊢
          clear hbase hbk h1 h2 h3 h4 hln
          go_wp2_with fail
          refine hso.out.mono ?_
          rintro e w3 ⟨rfl, nn, os, hw3⟩
          have hp3 := hid (hpost.out nn os)
          have hk3 := hid (show Kept [] w w3 from hK.out.trans' (Kept.of_row (hw3 ▸ hgw.out nn os)) (fun x hx hm => by simp at hm; have := hbs.out; omega))
          rw [← hw3] at hp3
          clear hw3 hpost hgw hso
          go_wp2
          go_ret
          exact ⟨_, rfl, hk3.out, by rw [hnl.out]; exact hp3.out⟩
      · obtain ⟨x, rfl, rfl, hxl⟩ := Maps.keyOf_str Try.underlying9 hkey
        have k2 := hid (show Kept [w.heap.size] wr w2 from Kept.of_grown hgr2 (fun k hk _ => by simp at hk; simp [hk]))
        have hrow2 := hid (k2.out.owns hrow (fun g hg hm => by
          have h1 := row_ne_iter hrow hra
          simp at hm; subst hm; exact h1 hg.symm))
        have hcol2 := hid (hcol.step hlk hat)
        have hnew := hid (show w.heap.size ≤ wr.heap.size from hK.out.size)
        have hKw := hid (show Kept [] w w2 from hK.out.trans' k2.out (fun z hz hm => by simp at hm; omega))
        have hpf := hid ((Try.strings_HasPrefix (S x) (S pre) w2).mono (R' := fun e w' => e = .returned (.bool (Lib.hasPrefix x pre)) ∧ w2 = w') fun e w' h => ⟨h.1, h.2.symm⟩)
        have hra2' := hid hra2
        have hlt' := hid hlt
        rw [encS] at hrun hen
        have hm2 := hid hra2.left_eq
        clear hkey hlk hv hat hra hra2 hlt hgr2 hk hrow hcol hrel hK hxl hsz2
        go_wp2_with fail
        refine hpf.out.mono ?_
        rintro e w3 ⟨rfl, rfl⟩
        cases hpp : Lib.hasPrefix x pre
        · have hI := hid (show NmI w b w.heap.size es pre (.slice av (ss.filter (fun x => Lib.hasPrefix x pre)).length cv) w2 from ⟨_, cnt', ss ++ [x], hra2'.out, hcol2.out, by have := hlt'.out; have := HCNT.out; simp; omega, hKw.out, by rw [List.filter_append]; simpa [hpp] using hrow2.out⟩)
          have hms := hid (show w2.rangeLeft b w.heap.size < wr.rangeLeft b w.heap.size from by rw [hm2.out, hmeas.out]; exact hlt'.out)
          clear hpp hrun hen
          go_wp2
          go_roundw
          case rel => exact hI
          case measure => exact hms.out
        · obtain ⟨L, hLL⟩ : ∃ L, L = ss.filter (fun x => Lib.hasPrefix x pre) := ⟨_, rfl⟩
          have hfl := hid (sub_len ss (fun x => Lib.hasPrefix x pre))
          rw [← hLL] at hrow2 hfl ⊢
          have hL2 := hid (show (ss ++ [x]).filter (fun x => Lib.hasPrefix x pre) = L ++ [x] from by rw [List.filter_append, hLL]; simp [hpp])
          have hkal := hid (show Kept [] w2 (w2.alloc (.cells #[.string (S x)] 9)) from (Kept.refl [] w2).alloc _)
          clear hpp hLL hrun hen
          have hsln := hid (show L.length ≤ 4096 from by have := HCNT.out; have := hfl.out; have := HS.out; omega)
          have hrow3 := hid (hkal.out.owns hrow2.out (by simp))
          go_wp2_with (at_builtin; refine halt ?_)
          refine Halt.mk ?_
          have hbl := hsln.out
          refine wpList_append_src _ rfl _ _ _ rfl w.heap.size 9 i0 _ 16 Try.underlying44 hi0 hz0 hz1 hz2 rfl (.slice av L.length cv) L.length (L.map encStr) rfl hrow3.out (.slice (some ⟨w2.heap.size, 0, none⟩) 1 1) 1 [.string (S x)] rfl (Or.inr ⟨_, _, rfl, cell_one_new _ _ _⟩) rfl (by simp [Value.oneCell']) ?_ ?_ ?_ ?_
          · unfold maxLen; omega
          · omega
          · have := hkal.out.size; have := hKw.out.size; omega
          intro v4 w4 hown4 hgr4 _ hf4
          obtain ⟨a4, c4, rfl⟩ := owns_slice hown4
          have kg := hid (Kept.of_row hgr4)
          have hrb := hid (row_ne_iter hrow3.out (hra2'.out.alloc _))
          have hown4' := hid (show w4.ownsRow w.heap.size 9 1 (.slice a4 (L.length + 1) c4) (L ++ [x]).length ((L ++ [x]).map encStr) from by simpa [encS] using hown4)
          have hlow := hid (show ∀ g, (Value.slice av L.length cv).ownBlock = some g → w.heap.size ≤ g ∧ g ≠ w.heap.size from fun g hg => ⟨(hrow3.out.lt g hg).1, fun e => hrb.out (by rw [hg, e])⟩)
          have hra4 := hid (show w4.ranges Try.prog 9 heldR b w.heap.size es.length (DM es) _ cnt' from (hra2'.out.alloc _).kept hgr4 (by intro e; have := (hlow.out b e.symm).1; have := hbl0.out; omega) (by intro e; exact (hlow.out _ e.symm).2 rfl))
          have hI := hid (show NmI w b w.heap.size es pre (.slice a4 (L.length + 1) c4) w4 from ⟨_, cnt', ss ++ [x], hra4.out, hcol2.out, by have := hlt'.out; have := HCNT.out; simp; omega, (hKw.out.trans hkal.out).trans' kg.out (fun z hz hm => by simp at hm; have := (hlow.out z hm).1; omega), by rw [hL2.out]; exact hown4'.out⟩)
          have hms := hid (show w4.rangeLeft b w.heap.size < wr.rangeLeft b w.heap.size from by rw [hra4.out.left_eq, hmeas.out]; exact hlt'.out)
          clear hown4 hgr4 hf4
          go_wp2
          go_roundw
          case rel => exact hI
          case measure => exact hms.out
end Go.Proofs.Ytmholofhmpplcaa


/- object: List, All. -/
namespace Go.Proofs.Ytmholofhmpplcaa
open Go.RowKit Go.Lib Go.Maps

theorem add_plain (g j : Nat) : (⟨g, 0, none⟩ : Addr).add j = ⟨g, j, none⟩ := by unfold Addr.add; split <;> simp_all
theorem owns_low {w : World} {base b : Nat} {e : TypeId} {size : Nat} {v : Value} {n : Nat} {xs : List Value} (h : w.ownsRow base e size v n xs) (hb : b ≤ base) : w.ownsRow b e size v n xs := by
  obtain ⟨h1, h2⟩ := h
  refine ⟨h1, ?_⟩
  rcases h2 with h2 | ⟨g, cap, cur, hv, hg, r⟩
  · exact Or.inl h2
  · exact Or.inr ⟨g, cap, cur, hv, Nat.le_trans hb hg, r⟩
theorem namesL_all (es : List Ent) : namesL es [] = es.map (·.name) := by
  unfold namesL
  rw [List.filter_eq_self]
  intro x _
  cases x <;> rfl
/-- What a List tells. -/
def gotL (fl : List Bool) (es : List Ent) (pre : List UInt8) : List (List UInt8) := if opE fl = 0 then namesL es pre else []
theorem ob_list (w : World) (U : List Nat) (p T : Nat) (more : List Value) (q : Int) (es : List Ent) (fv : Value) (fl : List Bool) (k : Nat) (left : Int) (pre : List UInt8) (h : Ob w U p T more q es fv fl k) (hk : k ≤ 1099511627776) (hf : FuV w U fv left) (h0 : left ≠ 0) :
    Calls Try.prog 17 #[.pointer (some ⟨p, 0, none⟩), .string (S pre)] w fun e w' => ∃ v', e = .returned (.tuple #[v', .int .i64 (opE fl)]) ∧ Kept (p :: fuB fv) w w' ∧ Ob w' U p T more q es fv (fl.drop 1) (k + 1) ∧ FuV w' U fv (decL left) ∧ w'.ownsRow w.heap.size 9 1 v' (gotL fl es pre).length ((gotL fl es pre).map encStr) := by
  have hop := hid (operate_go w U p T more q es fv fl k left h hk hf h0)
  clear h hf h0
  by_cases hop0 : opE fl = 0
  · have hE : gotL fl es pre = namesL es pre := by unfold gotL; rw [if_pos hop0]
    unfold Began at hop
    rw [hop0] at hop ⊢
    rw [hE]
    clear hE hop0
    go_enter Try.func17, Try.ntmps17
    go_wp2_with fail
    refine hop.out.mono ?_
    rintro e w1 ⟨rfl, k1, ob1, fu1⟩
    have K1 := hid k1; have OB1 := hid ob1; have FU1 := hid fu1
    have hnm := hid (ob_names w1 U p T more q es fv (fl.drop 1) (k + 1) ob1 pre)
    clear k1 ob1 fu1 hop
    go_wp2_with fail
    refine hnm.out.mono ?_
    rintro e w2 ⟨v, rfl, k2, hown⟩
    have K2 := hid k2; have HO := hid hown
    clear k2 hown hnm
    go_wp2
    go_ret2
    exact ⟨v, rfl, K1.out.trans' K2.out (fun _ _ h => by simp at h), OB1.out.kept K2.out (by simp), FU1.out.kept K2.out (by simp), owns_low HO.out K1.out.size⟩
  · have hE : gotL fl es pre = [] := by unfold gotL; rw [if_neg hop0]
    rw [hE]
    obtain ⟨er, her⟩ : ∃ er, er = opE fl := ⟨_, rfl⟩
    have hne : (er != 0) = true := by rw [her]; simpa using hop0
    unfold Began at hop
    rw [← her] at hop ⊢
    clear hE hop0 her
    go_enter Try.func17, Try.ntmps17
    go_wp2_with fail
    refine hop.out.mono ?_
    rintro e w1 ⟨rfl, k1, ob1, fu1⟩
    have K1 := hid k1; have OB1 := hid ob1; have FU1 := hid fu1
    clear k1 ob1 fu1 hop
    have hne2 : (er == 0) = false := by simpa [bne] using hne
    go_wp2
    go_ret2
    exact ⟨_, rfl, K1.out, OB1.out, FU1.out, ⟨rfl, Or.inl ⟨rfl, rfl⟩⟩⟩

theorem info_int : (Try.prog.info? 3).map (fun i => (i.zero, i.size, i.bytes)) = some (some (.int .i64 0), 1, 8) := by kernel_rfl
theorem make_ints (n : Nat) (W : World) (hn : n ≤ 1000000) : (Instr.makeSlice 45 (.int .i64 (n : Int)) (.int .i64 (n : Int))).run Try.prog W = .ok (.slice (some ⟨W.heap.size, 0, none⟩) n n) (W.alloc (.cells (madeCells #[.int .i64 0] n) 3)) := by
  obtain ⟨i0, hi0, hz0, hz1, hz2⟩ := info_split info_int
  have hr := run_make (P := Try.prog) W 45 3 i0 (.int .i64 0) Try.underlying45 hi0 hz0 .i64 .i64 n n (by omega) (by omega) (by rw [hz2]; omega) (by omega)
  simp only [Int.toNat_natCast, hz1, Nat.mul_one] at hr
  exact hr
def szV (e : Ent) : Value := .int .i64 (e.b.length : Int)
/-- The sizes of the first few, behind them zeros. -/
def rowC (es : List Ent) (i : Nat) : Array Value := ((es.take i).map szV ++ List.replicate (es.length - i) (Value.int .i64 0)).toArray
theorem rowC_zero (es : List Ent) : madeCells #[.int .i64 0] es.length = rowC es 0 := by
  unfold rowC
  apply Array.ext
  · simp [madeCells]
  · intro j h1 h2
    simp [madeCells, Nat.mod_one]
theorem rowC_set (es : List Ent) (i : Nat) (e : Ent) (h : es[i]? = some e) : (rowC es i).setIfInBounds i (szV e) = rowC es (i + 1) := by
  obtain ⟨hi, rfl⟩ := List.getElem?_eq_some_iff.1 h
  unfold rowC
  rw [List.setIfInBounds_toArray]
  congr 1
  rw [List.set_append_right _ _ (by simp; omega)]
  have e1 : ((es.take i).map szV).length = i := by simp; omega
  have e2 : (es.take (i + 1)).map szV = (es.take i).map szV ++ [szV es[i]] := by rw [List.take_add_one, h, List.map_append]; rfl
  rw [e1, Nat.sub_self, show es.length - i = (es.length - (i + 1)) + 1 by omega, List.replicate_succ, List.set_cons_zero, e2, List.append_assoc]
  rfl
theorem rowC_full (es : List Ent) : rowC es es.length = (es.map szV).toArray := by unfold rowC; simp
/-- The variables of an iterator over all: names, and sizes. -/
structure OAll (W : World) (b1 b2 : Nat) (la : Option Addr) (lc : Nat) (oa : Option Addr) (oc : Nat) (es : List Ent) : Prop where
  one : W.heap[b1]? = some (.cells #[.slice la es.length lc] 44 (0, 0))
  two : W.heap[b2]? = some (.cells #[.slice oa es.length oc] 45 (0, 0))
  list : W.ownsRow 0 9 1 (.slice la es.length lc) es.length (es.map fun e => .string (S e.name))
  ints : W.ownsRow 0 3 1 (.slice oa es.length oc) es.length (es.map szV)

set_option maxHeartbeats 2000000 in
theorem ob_all (w : World) (U : List Nat) (p T : Nat) (more : List Value) (q : Int) (es : List Ent) (fv : Value) (fl : List Bool) (k : Nat) (h : Ob w U p T more q es fv fl k) :
    Calls Try.prog 32 #[.pointer (some ⟨p, 0, none⟩)] w fun e w' => ∃ b1 b2 la lc oa oc, e = .returned (.func (.func 48) #[] #[.pointer (some ⟨b1, 0, none⟩), .pointer (some ⟨b2, 0, none⟩)]) ∧ Kept [] w w' ∧ OAll w' b1 b2 la lc oa oc es ∧ w.heap.size ≤ b1 ∧ w.heap.size ≤ b2 ∧ (∀ x, la = some x → w.heap.size ≤ x.block) ∧ ∀ x, oa = some x → w.heap.size ≤ x.block := by
  have hmf : ∀ (fn : Fn) (first cap : Array Value) (w : World), (Instr.makeFunc fn first cap).run Try.prog w = .ok (.func fn first cap) w := fun _ _ _ _ => rfl
  have hnm := hid (ob_names w U p T more q es fv fl k h [])
  rw [namesL_all] at hnm
  have hris := hid h.rising
  have HB := hid h
  have hes := hid h.small.2
  clear h
  obtain ⟨n, hn⟩ : ∃ n, n = es.length := ⟨_, rfl⟩
  have HN := hid hn
  have hnm' := hid (hnm.out.mono (R' := fun e w' => ∃ v, e = .returned v ∧ Kept [] w w' ∧ w'.ownsRow w.heap.size 9 1 v n (es.map fun e => .string (S e.name))) fun e w' h => by
    obtain ⟨v, h1, h2, h3⟩ := h
    refine ⟨v, h1, h2, ?_⟩
    rw [hn]
    have e1 : (es.map (·.name)).map encStr = es.map fun e => .string (S e.name) := by rw [List.map_map]; rfl
    rw [List.length_map, e1] at h3
    exact h3)
  have hnn : n ≤ 4096 := by have := hes.out.1; omega
  have hmk := fun W => make_ints n W (by omega)
  clear hnm hn
  go_enter Try.func32, Try.ntmps32
  go_wp2_with fail
  refine hnm'.out.mono ?_
  rintro e w1 ⟨v, rfl, k1, hown⟩
  obtain ⟨la, lc, rfl⟩ := owns_slice hown
  have K1 := hid k1; have HO := hid hown
  obtain ⟨W1, hW1⟩ : ∃ W1, W1 = ((w1.alloc (.cells #[.slice la n lc] 44)).alloc (.cells (madeCells #[.int .i64 0] n) 3)).alloc (.cells #[.slice (some ⟨w1.heap.size + 1, 0, none⟩) n n] 45) := ⟨_, rfl⟩
  have HW1 := hid hW1
  have KW := hid (show Kept [] w1 W1 from hW1 ▸ ((((Kept.refl [] w1).alloc _).alloc _).alloc _))
  have q1 := hid (show W1.heap[w1.heap.size]? = some (.cells #[.slice la n lc] 44 (0, 0)) from by rw [hW1]; exact heap_alloc_old (heap_alloc_old (heap_alloc_at rfl)))
  have q2 := hid (show W1.heap[w1.heap.size + 1 + 1]? = some (.cells #[.slice (some ⟨w1.heap.size + 1, 0, none⟩) n n] 45 (0, 0)) from by rw [hW1]; exact heap_alloc_at (by simp))
  have q3 := hid (show W1.heap[w1.heap.size + 1]? = some (.cells (rowC es 0) 3 (0, 0)) from by rw [hW1, ← rowC_zero, ← HN.out]; exact heap_alloc_old (heap_alloc_at (by simp)))
  have hs1 := hid k1.size
  clear k1 hown hW1 hnm'
  go_wp2_with fail
  rw [← HW1.out]
  go_loopw [14] (fun s wr => ∃ i : Nat, i ≤ n ∧ s = .int .i64 i ∧ Hid (Kept [w1.heap.size + 1] W1 wr ∧ wr.heap[w1.heap.size + 1]? = some (.cells (rowC es i) 3 (0, 0)))) (fun s _ => n - (intOf s).toNat)
  case atStart => exact ⟨0, Nat.zero_le _, rfl, hid ⟨Kept.refl _ _, q3.out⟩⟩
  case round =>
    clear q3
    obtain ⟨i, hi, rfl, hst⟩ := hrel
    have hk := hid hst.out.1
    have hrow := hid hst.out.2
    have hkw := hid (show Kept [] w wr from (K1.out.trans KW.out).trans' hk.out (fun x hx hm => by simp at hm; have := hs1.out; omega))
    have hob := HB.out.kept hkw.out (by simp)
    clear hst
    by_cases hlt : i < n
    · have hlt' : i < es.length := by have := HN.out; omega
      obtain ⟨en, hen⟩ : ∃ en, es[i]? = some en := ⟨es[i], by simp⟩
      have hmem := List.mem_of_getElem? hen
      have hfu := find_unique hris.out hmem
      have hnl : en.name.length ≤ 1000000000 := by
        have h1 := hes.out.2 en hmem
        unfold okName at h1
        simp at h1
        omega
      obtain ⟨⟨mv, flv, R, hR, hrw, hmp, hmpp, hfl, hth⟩, hp, hb, hq, hs⟩ := hob
      obtain ⟨_, g1, _⟩ := st_cells hrw
      have hlk := mp_look1 (hmp.kept ((Kept.refl [] wr).drew) (by simp)) en.name hnl
      obtain ⟨va, vc, hlv⟩ := lookV_slice hth en.name
      have hbe : lookB en.name es = en.b := by unfold lookB; rw [hfu]
      rw [hbe] at hlv
      rw [hlv] at hlk
      obtain ⟨mb, rfl⟩ : ∃ b, mv = .map b := by
        rcases hmp with ⟨h, _⟩ | ⟨b, h, _⟩
        · exact ⟨_, h⟩
        · exact ⟨_, h⟩
      obtain ⟨g, rfl⟩ : ∃ g, la = some ⟨g, 0, none⟩ := by
        rcases HO.out.2 with ⟨h1, h2⟩ | ⟨g, cap, cur, h1, _⟩
        · exfalso; omega
        · simp at h1; exact ⟨g, h1.1⟩
      have gc : wr.cell? ⟨g, i, none⟩ = some (.string (S en.name)) := by
        have hc := HO.out.cells (g := g) rfl i (.string (S en.name)) (by simp [hen])
        rw [add_plain] at hc
        have hgl := World.block_lt_of_cell? _ _ hc
        exact (KW.out.trans' hk.out (fun x hx hm => by simp at hm; omega)).cell hgl (by simp) |>.trans hc
      have g2 : wr.cell? ⟨w1.heap.size + 1 + 1, 0, none⟩ = some (.slice (some ⟨w1.heap.size + 1, 0, none⟩) n n) := cell_of_one (hk.out.at q2.out (by simp))
      have fz : wr.frozen? ⟨w1.heap.size + 1, i, none⟩ = false := free_of_row' hrow.out i
      have gi : wr.cell? ⟨w1.heap.size + 1, i, none⟩ = some (.int .i64 0) := by
        rw [cell_of_row wr _ i _ _ _ hrow.out]
        unfold rowC
        have e1 : ((es.take i).map szV).length = i := by simp; omega
        rw [List.getElem?_toArray, List.getElem?_append_right (by omega), e1, Nat.sub_self, show es.length - i = (es.length - (i + 1)) + 1 by omega]
        rfl
      have hset := hid (rowC_set es i en hen)
      obtain ⟨bl, hbl⟩ : ∃ bl, bl = en.b.length := ⟨_, rfl⟩
      have HBL := hid hbl
      rw [← hbl] at hlk
      have hnew := hid (show (wr.setCell ⟨w1.heap.size + 1, i, none⟩ (.int .i64 (bl : Int))).heap[w1.heap.size + 1]? = some (.cells (rowC es (i + 1)) 3 (0, 0)) from by
        rw [← hset.out, hbl]; exact Go.heap_setCell_same wr (w1.heap.size + 1) i _ _ _ hrow.out)
      have knew := hid (hk.out.setCell (p := ⟨w1.heap.size + 1, i, none⟩) (fun _ => by simp) (.int .i64 (bl : Int)))
      have HLT := hid hlt
      have hll := hid hlt'
      clear hen hmem hfu hR hrw hmp hmpp hfl hth hp hb hq hs hlv hbe hbl hlt'
      go_wp2
      go_region
      go_wp2
      go_roundw
      case rel => exact ⟨i + 1, HLT.out, by go_num, hid ⟨knew.out.drew, hnew.out⟩⟩
      case measure => simp [intOf]; omega
    · obtain rfl : i = n := by omega
      have hfin := hid (show OAll wr w1.heap.size (w1.heap.size + 1 + 1) la lc (some ⟨w1.heap.size + 1, 0, none⟩) i es from
        ⟨by rw [← HN.out]; exact hk.out.at q1.out (by simp), by rw [← HN.out]; exact hk.out.at q2.out (by simp), by
          rw [← HN.out]
          refine owns_low ((KW.out.trans' hk.out (fun x hx hm => by simp at hm; omega)).owns HO.out (by simp)) (Nat.zero_le _), by
          rw [← HN.out]
          refine ⟨by simp [HN.out], Or.inr ⟨w1.heap.size + 1, i, _, rfl, Nat.zero_le _, hrow.out, by omega, by have := hes.out.1; have := HN.out; unfold maxLen; omega, by rw [HN.out, rowC_full]; simp, ?_⟩⟩
          rw [HN.out, rowC_full, Nat.mul_one]
          exact List.take_of_length_le (by simp)⟩)
      have hla := hid (show ∀ x, la = some x → w.heap.size ≤ x.block from fun x hx => (HO.out.lt x.block (by rw [hx]; rfl)).1)
      clear hob hlt
      go_wp2
      go_ret
      exact ⟨_, _, la, lc, _, _, rfl, hkw.out, hfin.out, hs1.out, by have := hs1.out; omega, hla.out, fun x hx => by simp at hx; subst hx; have := hs1.out; simp; omega⟩
end Go.Proofs.Ytmholofhmpplcaa
