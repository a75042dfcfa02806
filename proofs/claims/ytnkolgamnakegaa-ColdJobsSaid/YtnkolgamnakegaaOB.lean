
/- object: List, All. -/
import Derived.Test.YtnkolgamnakegaaOA
import Derived.Laws.MakeOwn
namespace Go.Proofs.Ytnkolgamnakegaa
open Go.RowKit Go.Lib Go.Maps

theorem add_plain (g j : Nat) : (⟨g, 0, none⟩ : Addr).add j = ⟨g, j, none⟩ := by unfold Addr.add; split <;> simp_all
theorem owns_low {w : World} {base b : Nat} {e : TypeId} {size : Nat} {v : Value} {n : Nat} {xs : List Value} (h : w.ownsRow base e size v n xs) (hb : b ≤ base) : w.ownsRow b e size v n xs := by
  obtain ⟨h1, h2⟩ := h
  refine ⟨h1, ?_⟩
  rcases h2 with h2 | ⟨g, cap, cur, hv, hg, r⟩
  · exact Or.inl h2
  · exact Or.inr ⟨g, cap, cur, hv, Nat.le_trans hb hg, r⟩
theorem namesL_all (es : List Ent) : namesL es [] = es.map (·.name) := by
  unfold namesL
  rw [List.filter_eq_self]
  intro x _
  cases x <;> rfl
/-- What a List tells. -/
def gotL (fl : List Bool) (es : List Ent) (pre : List UInt8) : List (List UInt8) := if opE fl = 0 then namesL es pre else []
theorem ob_list (w : World) (U : List Nat) (p T : Nat) (more : List Value) (q : Int) (es : List Ent) (fv : Value) (fl : List Bool) (k : Nat) (left : Int) (pre : List UInt8) (h : Ob w U p T more q es fv fl k) (hk : k ≤ 1099511627776) (hf : FuV w U fv left) (h0 : left ≠ 0) :
    Calls Try.prog 36 #[.pointer (some ⟨p, 0, none⟩), .string (S pre)] w fun e w' => ∃ v', e = .returned (.tuple #[v', .int .i64 (opE fl)]) ∧ Kept (p :: fuB fv) w w' ∧ Ob w' U p T more q es fv (fl.drop 1) (k + 1) ∧ FuV w' U fv (decL left) ∧ w'.ownsRow w.heap.size 9 1 v' (gotL fl es pre).length ((gotL fl es pre).map encStr) := by
  have hop := hid (operate_go w U p T more q es fv fl k left h hk hf h0)
  clear h hf h0
  by_cases hop0 : opE fl = 0
  · have hE : gotL fl es pre = namesL es pre := by unfold gotL; rw [if_pos hop0]
    unfold Began at hop
    rw [hop0] at hop ⊢
    rw [hE]
    clear hE hop0
    go_enter Try.func36, Try.ntmps36
    go_wp2_with fail
    refine hop.out.mono ?_
    rintro e w1 ⟨rfl, k1, ob1, fu1⟩
    have K1 := hid k1; have OB1 := hid ob1; have FU1 := hid fu1
    have hnm := hid (ob_names w1 U p T more q es fv (fl.drop 1) (k + 1) ob1 pre)
    clear k1 ob1 fu1 hop
    go_wp2_with fail
    refine hnm.out.mono ?_
    rintro e w2 ⟨v, rfl, k2, hown⟩
    have K2 := hid k2; have HO := hid hown
    clear k2 hown hnm
    go_wp2
    go_ret2
    exact ⟨v, rfl, K1.out.trans' K2.out (fun _ _ h => by simp at h), OB1.out.kept K2.out (by simp), FU1.out.kept K2.out (by simp), owns_low HO.out K1.out.size⟩
  · have hE : gotL fl es pre = [] := by unfold gotL; rw [if_neg hop0]
    rw [hE]
    obtain ⟨er, her⟩ : ∃ er, er = opE fl := ⟨_, rfl⟩
    have hne : (er != 0) = true := by rw [her]; simpa using hop0
    unfold Began at hop
    rw [← her] at hop ⊢
    clear hE hop0 her
    go_enter Try.func36, Try.ntmps36
    go_wp2_with fail
    refine hop.out.mono ?_
    rintro e w1 ⟨rfl, k1, ob1, fu1⟩
    have K1 := hid k1; have OB1 := hid ob1; have FU1 := hid fu1
    clear k1 ob1 fu1 hop
    have hne2 : (er == 0) = false := by simpa [bne] using hne
    go_wp2
    go_ret2
    exact ⟨_, rfl, K1.out, OB1.out, FU1.out, ⟨rfl, Or.inl ⟨rfl, rfl⟩⟩⟩

theorem info_int : (Try.prog.info? 3).map (fun i => (i.zero, i.size, i.bytes)) = some (some (.int .i64 0), 1, 8) := by kernel_rfl
theorem make_ints (n : Nat) (W : World) (hn : n ≤ 1000000) : (Instr.makeSlice 45 (.int .i64 (n : Int)) (.int .i64 (n : Int))).run Try.prog W = .ok (.slice (some ⟨W.heap.size, 0, none⟩) n n) (W.alloc (.cells (madeCells #[.int .i64 0] n) 3)) := by
  obtain ⟨i0, hi0, hz0, hz1, hz2⟩ := info_split info_int
  have hr := run_make (P := Try.prog) W 45 3 i0 (.int .i64 0) Try.underlying45 hi0 hz0 .i64 .i64 n n (by omega) (by omega) (by rw [hz2]; omega) (by omega)
  simp only [Int.toNat_natCast, hz1, Nat.mul_one] at hr
  exact hr
def szV (e : Ent) : Value := .int .i64 (e.b.length : Int)
/-- The sizes of the first few, behind them zeros. -/
def rowC (es : List Ent) (i : Nat) : Array Value := ((es.take i).map szV ++ List.replicate (es.length - i) (Value.int .i64 0)).toArray
theorem rowC_zero (es : List Ent) : madeCells #[.int .i64 0] es.length = rowC es 0 := by
  unfold rowC
  apply Array.ext
  · simp [madeCells]
  · intro j h1 h2
    simp [madeCells, Nat.mod_one]
theorem rowC_set (es : List Ent) (i : Nat) (e : Ent) (h : es[i]? = some e) : (rowC es i).setIfInBounds i (szV e) = rowC es (i + 1) := by
  obtain ⟨hi, rfl⟩ := List.getElem?_eq_some_iff.1 h
  unfold rowC
  rw [List.setIfInBounds_toArray]
  congr 1
  rw [List.set_append_right _ _ (by simp; omega)]
  have e1 : ((es.take i).map szV).length = i := by simp; omega
  have e2 : (es.take (i + 1)).map szV = (es.take i).map szV ++ [szV es[i]] := by rw [List.take_add_one, h, List.map_append]; rfl
  rw [e1, Nat.sub_self, show es.length - i = (es.length - (i + 1)) + 1 by omega, List.replicate_succ, List.set_cons_zero, e2, List.append_assoc]
  rfl
theorem rowC_full (es : List Ent) : rowC es es.length = (es.map szV).toArray := by unfold rowC; simp
/-- The variables of an iterator over all: names, and sizes. -/
structure OAll (W : World) (b1 b2 : Nat) (la : Option Addr) (lc : Nat) (oa : Option Addr) (oc : Nat) (es : List Ent) : Prop where
  one : W.heap[b1]? = some (.cells #[.slice la es.length lc] 44 (0, 0))
  two : W.heap[b2]? = some (.cells #[.slice oa es.length oc] 45 (0, 0))
  list : W.ownsRow 0 9 1 (.slice la es.length lc) es.length (es.map fun e => .string (S e.name))
  ints : W.ownsRow 0 3 1 (.slice oa es.length oc) es.length (es.map szV)

set_option maxHeartbeats 2000000 in
theorem ob_all (w : World) (U : List Nat) (p T : Nat) (more : List Value) (q : Int) (es : List Ent) (fv : Value) (fl : List Bool) (k : Nat) (h : Ob w U p T more q es fv fl k) :
    Calls Try.prog 48 #[.pointer (some ⟨p, 0, none⟩)] w fun e w' => ∃ b1 b2 la lc oa oc, e = .returned (.func (.func 72) #[] #[.pointer (some ⟨b1, 0, none⟩), .pointer (some ⟨b2, 0, none⟩)]) ∧ Kept [] w w' ∧ OAll w' b1 b2 la lc oa oc es ∧ w.heap.size ≤ b1 ∧ w.heap.size ≤ b2 ∧ (∀ x, la = some x → w.heap.size ≤ x.block) ∧ ∀ x, oa = some x → w.heap.size ≤ x.block := by
  have hmf : ∀ (fn : Fn) (first cap : Array Value) (w : World), (Instr.makeFunc fn first cap).run Try.prog w = .ok (.func fn first cap) w := fun _ _ _ _ => rfl
  have hnm := hid (ob_names w U p T more q es fv fl k h [])
  rw [namesL_all] at hnm
  have hris := hid h.rising
  have HB := hid h
  have hes := hid h.small.2
  clear h
  obtain ⟨n, hn⟩ : ∃ n, n = es.length := ⟨_, rfl⟩
  have HN := hid hn
  have hnm' := hid (hnm.out.mono (R' := fun e w' => ∃ v, e = .returned v ∧ Kept [] w w' ∧ w'.ownsRow w.heap.size 9 1 v n (es.map fun e => .string (S e.name))) fun e w' h => by
    obtain ⟨v, h1, h2, h3⟩ := h
    refine ⟨v, h1, h2, ?_⟩
    rw [hn]
    have e1 : (es.map (·.name)).map encStr = es.map fun e => .string (S e.name) := by rw [List.map_map]; rfl
    rw [List.length_map, e1] at h3
    exact h3)
  have hnn : n ≤ 4096 := by have := hes.out.1; omega
  have hmk := fun W => make_ints n W (by omega)
  clear hnm hn
  go_enter Try.func48, Try.ntmps48
  go_wp2_with fail
  refine hnm'.out.mono ?_
  rintro e w1 ⟨v, rfl, k1, hown⟩
  obtain ⟨la, lc, rfl⟩ := owns_slice hown
  have K1 := hid k1; have HO := hid hown
  obtain ⟨W1, hW1⟩ : ∃ W1, W1 = ((w1.alloc (.cells #[.slice la n lc] 44)).alloc (.cells (madeCells #[.int .i64 0] n) 3)).alloc (.cells #[.slice (some ⟨w1.heap.size + 1, 0, none⟩) n n] 45) := ⟨_, rfl⟩
  have HW1 := hid hW1
  have KW := hid (show Kept [] w1 W1 from hW1 ▸ ((((Kept.refl [] w1).alloc _).alloc _).alloc _))
  have q1 := hid (show W1.heap[w1.heap.size]? = some (.cells #[.slice la n lc] 44 (0, 0)) from by rw [hW1]; exact heap_alloc_old (heap_alloc_old (heap_alloc_at rfl)))
  have q2 := hid (show W1.heap[w1.heap.size + 1 + 1]? = some (.cells #[.slice (some ⟨w1.heap.size + 1, 0, none⟩) n n] 45 (0, 0)) from by rw [hW1]; exact heap_alloc_at (by simp))
  have q3 := hid (show W1.heap[w1.heap.size + 1]? = some (.cells (rowC es 0) 3 (0, 0)) from by rw [hW1, ← rowC_zero, ← HN.out]; exact heap_alloc_old (heap_alloc_at (by simp)))
  have hs1 := hid k1.size
  clear k1 hown hW1 hnm'
  go_wp2_with fail
  rw [← HW1.out]
  go_loopw [14] (fun s wr => ∃ i : Nat, i ≤ n ∧ s = .int .i64 i ∧ Hid (Kept [w1.heap.size + 1] W1 wr ∧ wr.heap[w1.heap.size + 1]? = some (.cells (rowC es i) 3 (0, 0)))) (fun s _ => n - (intOf s).toNat)
  case atStart => exact ⟨0, Nat.zero_le _, rfl, hid ⟨Kept.refl _ _, q3.out⟩⟩
  case round =>
    clear q3
    obtain ⟨i, hi, rfl, hst⟩ := hrel
    have hk := hid hst.out.1
    have hrow := hid hst.out.2
    have hkw := hid (show Kept [] w wr from (K1.out.trans KW.out).trans' hk.out (fun x hx hm => by simp at hm; have := hs1.out; omega))
    have hob := HB.out.kept hkw.out (by simp)
    clear hst
    by_cases hlt : i < n
    · have hlt' : i < es.length := by have := HN.out; omega
      obtain ⟨en, hen⟩ : ∃ en, es[i]? = some en := ⟨es[i], by simp⟩
      have hmem := List.mem_of_getElem? hen
      have hfu := find_unique hris.out hmem
      have hnl : en.name.length ≤ 1000000000 := by
        have h1 := hes.out.2 en hmem
        unfold okName at h1
        simp at h1
        omega
      obtain ⟨⟨mv, flv, R, hR, hrw, hmp, hmpp, hfl, hth⟩, hp, hb, hq, hs⟩ := hob
      obtain ⟨_, g1, _⟩ := st_cells hrw
      have hlk := mp_look1 (hmp.kept ((Kept.refl [] wr).drew) (by simp)) en.name hnl
      obtain ⟨va, vc, hlv⟩ := lookV_slice hth en.name
      have hbe : lookB en.name es = en.b := by unfold lookB; rw [hfu]
      rw [hbe] at hlv
      rw [hlv] at hlk
      obtain ⟨mb, rfl⟩ : ∃ b, mv = .map b := by
        rcases hmp with ⟨h, _⟩ | ⟨b, h, _⟩
        · exact ⟨_, h⟩
        · exact ⟨_, h⟩
      obtain ⟨g, rfl⟩ : ∃ g, la = some ⟨g, 0, none⟩ := by
        rcases HO.out.2 with ⟨h1, h2⟩ | ⟨g, cap, cur, h1, _⟩
        · exfalso; omega
        · simp at h1; exact ⟨g, h1.1⟩
      have gc : wr.cell? ⟨g, i, none⟩ = some (.string (S en.name)) := by
        have hc := HO.out.cells (g := g) rfl i (.string (S en.name)) (by simp [hen])
        rw [add_plain] at hc
        have hgl := World.block_lt_of_cell? _ _ hc
        exact (KW.out.trans' hk.out (fun x hx hm => by simp at hm; omega)).cell hgl (by simp) |>.trans hc
      have g2 : wr.cell? ⟨w1.heap.size + 1 + 1, 0, none⟩ = some (.slice (some ⟨w1.heap.size + 1, 0, none⟩) n n) := cell_of_one (hk.out.at q2.out (by simp))
      have fz : wr.frozen? ⟨w1.heap.size + 1, i, none⟩ = false := free_of_row' hrow.out i
      have gi : wr.cell? ⟨w1.heap.size + 1, i, none⟩ = some (.int .i64 0) := by
        rw [cell_of_row wr _ i _ _ _ hrow.out]
        unfold rowC
        have e1 : ((es.take i).map szV).length = i := by simp; omega
        rw [List.getElem?_toArray, List.getElem?_append_right (by omega), e1, Nat.sub_self, show es.length - i = (es.length - (i + 1)) + 1 by omega]
        rfl
      have hset := hid (rowC_set es i en hen)
      obtain ⟨bl, hbl⟩ : ∃ bl, bl = en.b.length := ⟨_, rfl⟩
      have HBL := hid hbl
      rw [← hbl] at hlk
      have hnew := hid (show (wr.setCell ⟨w1.heap.size + 1, i, none⟩ (.int .i64 (bl : Int))).heap[w1.heap.size + 1]? = some (.cells (rowC es (i + 1)) 3 (0, 0)) from by
        rw [← hset.out, hbl]; exact Go.heap_setCell_same wr (w1.heap.size + 1) i _ _ _ hrow.out)
      have knew := hid (hk.out.setCell (p := ⟨w1.heap.size + 1, i, none⟩) (fun _ => by simp) (.int .i64 (bl : Int)))
      have HLT := hid hlt
      have hll := hid hlt'
      clear hen hmem hfu hR hrw hmp hmpp hfl hth hp hb hq hs hlv hbe hbl hlt'
      go_wp2
      go_region
      go_wp2
      go_roundw
      case rel => exact ⟨i + 1, HLT.out, by go_num, hid ⟨knew.out.drew, hnew.out⟩⟩
      case measure => simp [intOf]; omega
    · obtain rfl : i = n := by omega
      have hfin := hid (show OAll wr w1.heap.size (w1.heap.size + 1 + 1) la lc (some ⟨w1.heap.size + 1, 0, none⟩) i es from
        ⟨by rw [← HN.out]; exact hk.out.at q1.out (by simp), by rw [← HN.out]; exact hk.out.at q2.out (by simp), by
          rw [← HN.out]
          refine owns_low ((KW.out.trans' hk.out (fun x hx hm => by simp at hm; omega)).owns HO.out (by simp)) (Nat.zero_le _), by
          rw [← HN.out]
          refine ⟨by simp [HN.out], Or.inr ⟨w1.heap.size + 1, i, _, rfl, Nat.zero_le _, hrow.out, by omega, by have := hes.out.1; have := HN.out; unfold maxLen; omega, by rw [HN.out, rowC_full]; simp, ?_⟩⟩
          rw [HN.out, rowC_full, Nat.mul_one]
          exact List.take_of_length_le (by simp)⟩)
      have hla := hid (show ∀ x, la = some x → w.heap.size ≤ x.block from fun x hx => (HO.out.lt x.block (by rw [hx]; rfl)).1)
      clear hob hlt
      go_wp2
      go_ret
      exact ⟨_, _, la, lc, _, _, rfl, hkw.out, hfin.out, hs1.out, by have := hs1.out; omega, hla.out, fun x hx => by simp at hx; subst hx; have := hs1.out; simp; omega⟩
end Go.Proofs.Ytnkolgamnakegaa
