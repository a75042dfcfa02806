import Derived.Test.YtfefpblneihmgaaDoorFG
import Derived.Test.YtfefpblneihmgaaDoorN3

/- CacheBig. -/
namespace Go.Proofs.YtfefpblneihmgaaDoor
open Go.RowKit Go.Lib Go.Maps
theorem reads_srcb {w : World} {a : Option Addr} {c : Nat} {ys : List UInt8} (h : SrcB w (.slice a ys.length c) ys) : Reads w a ys ∧ (a = none → c = 0) := by
  rcases h with ⟨h1, h2, h3⟩ | ⟨ad, c', h1, h2⟩
  · simp at h1
    obtain ⟨rfl, h4, rfl⟩ := h1
    have h5 : ys = [] := List.eq_nil_of_length_eq_zero h2
    subst h5
    exact ⟨⟨fun _ => rfl, fun ad h => by simp at h⟩, fun _ => rfl⟩
  · simp at h1
    obtain ⟨rfl, rfl⟩ := h1
    exact ⟨⟨fun h => by simp at h, fun ad' had j u hj => by simp at had; subst had; exact h2 j u hj⟩, fun h => by simp at h⟩
/-- What is kept: by its own sum, no longer than may be; of the big one's sum there is none but it. -/
def BigI (lm : Int) (big : List UInt8) (i : Nat) (l : List (List UInt8 × List UInt8)) : Prop :=
  l.length ≤ i ∧ ∀ e ∈ l, e.1 = Sha.sum e.2 ∧ (e.2.length : Int) ≤ lm ∧ e.2.length ≤ 100 ∧ (e.1 = Sha.sum big → e.2 = big)
theorem BigI.size {lm : Int} {big : List UInt8} {i : Nat} {l : List (List UInt8 × List UInt8)} (h : BigI lm big i l) : szD l ≤ 100 * i := by
  have h2 : szD l ≤ 100 * l.length := by
    have := h.2
    clear h
    unfold szD
    induction l with
    | nil => simp
    | cons e r ih =>
      have h3 := (this e (by simp)).2.2.1
      have h4 := ih (fun x hx => this x (by simp [hx]))
      simp only [List.map_cons, List.sum_cons, List.length_cons]
      omega
  have := h.1
  omega
theorem evict_len (lim : Int) (k : Nat) (l : List (List UInt8 × List UInt8)) : (evict lim k l).length ≤ l.length := by
  induction l with
  | nil => simp [evict]
  | cons e r ih =>
    unfold evict
    split
    · simp; omega
    · exact Nat.le_refl _
theorem BigI.put {lm : Int} {big : List UInt8} {i : Nat} {l : List (List UInt8 × List UInt8)} (h : BigI lm big i l) (r : List UInt8) (hr : r.length ≤ 100) (hb : Sha.sum r = Sha.sum big → r = big) : BigI lm big (i + 1) (putD lm l r) := by
  unfold putD
  have hd : ∀ e ∈ dropD (Sha.sum r) l, e ∈ l := fun e he => (dropD_mem.1 he).1
  have hl : (dropD (Sha.sum r) l).length ≤ l.length := List.length_filter_le _ _
  have h1 := h.1
  split
  · exact ⟨by omega, fun e he => h.2 e (hd e he)⟩
  · rename_i hlt
    have h2 := evict_len lm r.length (dropD (Sha.sum r) l)
    refine ⟨by simp; omega, fun e he => ?_⟩
    rcases List.mem_append.1 he with he | he
    · exact h.2 e (hd e (evict_mem he))
    · simp at he
      subst he
      exact ⟨rfl, by simp; omega, hr, hb⟩
theorem BigI.get {lm : Int} {big : List UInt8} {i : Nat} {l : List (List UInt8 × List UInt8)} (h : BigI lm big i l) : BigI lm big (i + 1) (getL (Sha.sum big) l) := by
  have hd : ∀ e ∈ dropD (Sha.sum big) l, e ∈ l := fun e he => (dropD_mem.1 he).1
  have hl : (dropD (Sha.sum big) l).length ≤ l.length := List.length_filter_le _ _
  have h1 := h.1
  unfold getL
  split
  · rename_i bs hg
    have hfd : findD (Sha.sum big) l = some bs := by
      unfold getO at hg
      split at hg
      · rename_i b hb
        split at hg
        · rw [hb, Option.some.inj hg]
        · cases hg
      · cases hg
    have hm : (Sha.sum big, bs) ∈ l := by
      clear h h1 hg hd hl
      induction l with
      | nil => simp [findD] at hfd
      | cons e r ih =>
        unfold findD at hfd
        split at hfd
        · rename_i he
          have : e = (Sha.sum big, bs) := by rw [← he, ← Option.some.inj hfd]
          rw [this]; simp
        · exact List.mem_cons_of_mem _ (ih hfd)
    refine ⟨by simp; omega, fun e he => ?_⟩
    rcases List.mem_append.1 he with he | he
    · exact h.2 e (hd e he)
    · simp at he
      subst he
      exact h.2 _ hm
  · exact ⟨by omega, fun e he => h.2 e (hd e he)⟩
theorem findD_none {id : List UInt8} {l : List (List UInt8 × List UInt8)} (h : ∀ e ∈ l, e.1 ≠ id) : findD id l = none := by
  induction l with
  | nil => rfl
  | cons e r ih =>
    unfold findD
    rw [if_neg (h e (by simp)), ih (fun x hx => h x (by simp [hx]))]
theorem dropD_none {id : List UInt8} {l : List (List UInt8 × List UInt8)} (h : ∀ e ∈ l, e.1 ≠ id) : dropD id l = l := by
  unfold dropD
  exact List.filter_eq_self.2 (fun e he => by simpa using h e he)
theorem BigI.none {lm : Int} {big : List UInt8} {i : Nat} {l : List (List UInt8 × List UInt8)} (h : BigI lm big i l) (hb : lm < (big.length : Int)) : ∀ e ∈ l, e.1 ≠ Sha.sum big := fun e he hx => by
  obtain ⟨_, h2, _, h4⟩ := h.2 e he
  rw [h4 hx] at h2
  omega
theorem idsD_of {lm : Int} {big : List UInt8} {i : Nat} {l : List (List UInt8 × List UInt8)} (h : BigI lm big i l) : ∀ id ∈ l.map (·.1), id.length = 32 := fun id hm => by
  obtain ⟨e, he, rfl⟩ := List.mem_map.1 hm
  rw [(h.2 e he).1]; exact Sha.sum_len _

set_option maxRecDepth 100000 in
set_option maxHeartbeats 4000000 in
theorem big_not (lim : Int) (a1 : Option Addr) (c1 : Nat) (rows : List (List UInt8)) (a2 : Option Addr) (c2 : Nat) (big : List UInt8) (w : World) (ht : Tabs w) (h : ¬ (rows.length ≤ 20 ∧ big.length ≤ 100)) :
    Calls Tryd.prog 6 #[.int .i64 lim, .slice a1 rows.length c1, .slice a2 big.length c2] w fun e w' => e = .returned (.bool true) ∧ Kept [] w w' := by
  have hal := hid (alive14 w ht)
  obtain ⟨n, hn⟩ : ∃ n, n = rows.length := ⟨_, rfl⟩
  obtain ⟨m, hm⟩ : ∃ m, m = big.length := ⟨_, rfl⟩
  rw [← hn, ← hm] at h ⊢
  clear ht hn hm
  by_cases h1 : 20 < n
  · have b1 : decide ((20 : Int) < (n : Int)) = true := decide_eq_true (by omega)
    clear h h1
    go_enter Tryd.func6, Tryd.ntmps6
    go_wp2_with fail
    refine hal.out.mono ?_
    rintro e w1 ⟨rfl, k1⟩
    have K1 := hid k1
    clear k1 hal
    go_wp2
    go_ret
    exact ⟨rfl, K1.out⟩
  · have b1 : decide ((20 : Int) < (n : Int)) = false := decide_eq_false (by omega)
    have b2 : decide ((100 : Int) < (m : Int)) = true := decide_eq_true (by omega)
    clear h h1
    go_enter Tryd.func6, Tryd.ntmps6
    go_wp2_with fail
    refine hal.out.mono ?_
    rintro e w1 ⟨rfl, k1⟩
    have K1 := hid k1
    clear k1 hal
    go_wp2
    go_ret
    exact ⟨rfl, K1.out⟩

theorem wpList_ldg {P : Program} {ops : Array Oper} {rest : List Oper} {o : Oper} {a : Act} {w : World} {Q : Exit → Act → World → Prop} (hw : Region.wanted o (yielded ops a.tmps) = true) (ty : TypeId) (x : Operand) (ho : o.op = .load ty x) (ad : Addr) (hx : a.eval x = .pointer (some ad)) (v : Value)
    (hr : (loadVar ty ad).run P w = .ok v w) (h : wpList P ops Q rest (a.put o.dst v) w) : wpList P ops Q (o :: rest) a w := by
  unfold wpList
  rw [if_pos hw]
  refine Or.inl ?_
  unfold Oper.wp execOp
  simp only [ho, hx, Instr.loadAt, Instr.sureAddr, Sem.run_bind, Sem.run_pure, Result.andThen_ok, hr]
  exact h
structure BigW (w W : World) (q p : Nat) (ib : Array Value) (lm : Int) (big : List UInt8) (i : Nat) : Prop where
  cs : ∃ U l, CS w W U p lm l ∧ BigI lm big i l ∧ q ∉ U
  kept : Kept [] w W
  hq : W.heap[q]? = some (.cells ib 34 (0, 0))
set_option maxRecDepth 100000 in
set_option maxHeartbeats 16000000 in
theorem big_do (lim : Int) (hl2 : lim ≤ 9223372036854775807) (a1 : Option Addr) (c1 : Nat) (rows : List (List UInt8)) (a2 : Option Addr) (c2 : Nat) (big : List UInt8) (w : World) (ht : Tabs w) (hrows : IsRows w a1 rows) (hrc : ∀ x, a1 = some x → ∀ i r, rows[i]? = some r → ∀ ar cr, w.cell? (x.add i) = some (.slice ar r.length cr) → r.length ≤ cr ∧ cr ≤ 9223372036854775807)
    (hbig : Reads w a2 big) (hbc : big.length ≤ c2 ∧ c2 ≤ 9223372036854775807 ∧ (a2 = none → c2 = 0)) (h : rows.length ≤ 20 ∧ big.length ≤ 100) :
    Calls Tryd.prog 6 #[.int .i64 lim, .slice a1 rows.length c1, .slice a2 big.length c2] w fun e w' => e = .returned (.bool true) ∧ Kept [] w w' := by
  obtain ⟨hr20, hm100⟩ := h
  have hal := hid (alive14 w ht)
  obtain ⟨id, hids⟩ : ∃ id, id = Sha.sum big := ⟨_, rfl⟩
  have L32 := hid (show id.length = 32 from by rw [hids]; exact Sha.sum_len _)
  have hrb := hid (fun W (hk : Kept [] w W) => hbig.kept hk (fun _ _ _ => by simp))
  have hbl := hid (fun (hh : big ≠ []) x (hx1 : a2 = some x) => hbig.lt hh x hx1)
  obtain ⟨n, hn⟩ : ∃ n, n = rows.length := ⟨_, rfl⟩
  obtain ⟨m, hm⟩ : ∃ m, m = big.length := ⟨_, rfl⟩
  have hof := hid (fun W (hk : Kept [] w W) => refof_sum a2 c2 big W (hrb.out W hk) hbc.2.2 (by omega))
  obtain ⟨ib, hib⟩ : ∃ i, i = (id.map B).toArray := ⟨_, rfl⟩
  rw [← hids, ← hib, ← hm] at hof
  have HN := hid hn; have HM := hid hm; have HID := hid hids; have HIB := hid hib; have HROWS := hid hrows; have HRC := hid hrc; have HBC := hid hbc; have HT := hid ht
  have b1 : decide ((20 : Int) < (n : Int)) = false := decide_eq_false (by omega)
  have b2 : decide ((100 : Int) < (m : Int)) = false := decide_eq_false (by omega)
  have n20 : n ≤ 20 := by omega
  have m100 : m ≤ 100 := by omega
  obtain ⟨lm, hlm⟩ : ∃ lm : Int, lm = max lim 0 := ⟨_, rfl⟩
  have HLM := hid hlm
  have hlm2 : 0 ≤ lm ∧ lm ≤ 9223372036854775807 := by omega
  obtain ⟨zv, hzv⟩ : ∃ zv, zv = (idz.map B).toArray := ⟨_, rfl⟩
  have hzz : ∀ W, (zeroValue 34).run Tryd.prog W = .ok (.agg zv) W := by rw [hzv]; exact zero_idN
  have hib32 : ib.size = 32 := by rw [hib]; simp [L32.out]
  have SI := hid (show (Tryd.prog.info? 34).map (·.size) = some ib.size ∧ zv.size = ib.size ∧ ib.all (·.oneCell') = true from ⟨by rw [hib32]; kernel_rfl, by rw [hib32, hzv]; simp [idz], by rw [hib]; exact id_one id⟩)
  rw [← hn, ← hm]
  clear ht hrows hrc hbig hbc hids hn hm hib hr20 hm100 hlm hzv hib32
  go_enter Tryd.func6, Tryd.ntmps6
  go_wp2_with fail
  refine hal.out.mono ?_
  rintro e w1 ⟨rfl, k1⟩
  have hnew := hid (cs_new w w1 k1 HT.out lim hl2)
  rw [← HLM.out] at hnew
  clear k1 hal
  go_wp2_with fail
  refine hnew.out.mono ?_
  rintro e w2 ⟨rfl, k2, cc2⟩
  obtain ⟨p, hp⟩ : ∃ p, p = w1.heap.size := ⟨_, rfl⟩
  rw [← hp] at cc2 ⊢
  have C2 := hid cc2
  have hof2 := hid (hof.out w2 cc2.kept)
  clear k2 cc2 hp hnew
  go_wp2_with fail
  refine hof2.out.mono ?_
  rintro e w3 ⟨rfl, k3⟩
  obtain ⟨q, hq⟩ : ∃ q, q = w3.heap.size := ⟨_, rfl⟩
  obtain ⟨z3, hz3⟩ : ∃ z3, z3 = w3.alloc (.cells zv 34) := ⟨_, rfl⟩
  have r0 : z3.heap[q]? = some (.cells zv 34 (0, 0)) := by rw [hz3, hq]; exact heap_alloc_at rfl
  obtain ⟨z4, hz4⟩ : ∃ z4, z4 = z3.setRow q ib := ⟨_, rfl⟩
  have k34 : Kept [q] z3 z4 := by rw [hz4]; exact (Kept.refl _ z3).setRow (fun _ => by simp) _
  have t0 : z4.heap[q]? = some (.cells ib 34 (0, 0)) := by rw [hz4]; exact setRow_heap _ _ _ _ _ _ r0
  have C3 := C2.out.keep0 k3
  have C4 := hid (C3.keep (show Kept [q] w3 z4 from ((hz3 ▸ (Kept.refl [] w3).alloc (.cells zv 34)).wider (fun x _ h => by simp at h)).trans k34) (fun x hx hm => by have := (C3.bound x hx).2; simp at hm; omega) (fun x hx => by have := C3.kept.size; simp at hx; omega))
  have hW0 := hid (show BigW w z4 q p ib lm big 0 from ⟨⟨_, _, C4.out, ⟨by simp, by simp⟩, fun hm => by have := (C3.bound q hm).2; omega⟩, C4.out.kept, t0⟩)
  have R0 := hid r0; have HQ := hid hq; have HZ3 := hid hz3; have HZ4 := hid hz4
  clear hq hz3 hz4 r0 t0 k34 k3 C3 C4 hof2 C2
  go_wp2_with (refine wpList_store_row rfl 34 (.tmp 8) (.tmp 29) rfl w3.heap.size ib rfl rfl _ _ (by rw [← HZ3.out, ← HQ.out]; exact R0.out) SI.out.1 SI.out.2.1 SI.out.2.2 ?_; refine halt ?_)
  refine Halt.mk ?_
  rw [← HZ3.out, ← HQ.out, ← HZ4.out]
  clear HZ3 HZ4 R0 HQ SI hzz b1 b2
  go_wp2_with fail
  go_loopw [32] (fun s wr => ∃ i : Nat, i ≤ n ∧ s = .int .i64 i ∧ Hid (BigW w wr q p ib lm big i)) (fun s _ => n - (intOf s).toNat)
  case atStart => exact ⟨0, Nat.zero_le _, rfl, hW0⟩
  case round =>
    clear hW0
    obtain ⟨i, hi, rfl, hbw⟩ := hrel
    obtain ⟨U, l, hcs, hbi, hqU⟩ := hbw.out.cs
    have HCS := hid hcs; have HBI := hid hbi; have HQU := hid hqU
    have hq1 := hid (fun V (hV : Kept [] wr V) => (show (loadVar 34 ⟨q, 0, none⟩).run Tryd.prog V = .ok (.agg ib) V from by
      have h1 := ld_idB V q id L32.out (by rw [← HIB.out]; exact hV.at hbw.out.hq (by simp))
      rw [← HIB.out] at h1
      exact h1))
    clear hcs hbi hqU
    by_cases hlt : i < n
    · obtain ⟨r, hri⟩ : ∃ r, rows[i]? = some r := ⟨rows[i]'(by rw [← HN.out]; exact hlt), by simp⟩
      obtain ⟨x, rfl⟩ : ∃ x, a1 = some x := by
        cases a1 with
        | none => have h1 := HROWS.out.1 rfl; rw [h1] at hri; simp at hri
        | some x => exact ⟨x, rfl⟩
      obtain ⟨ar, cr, hcell, hsrc⟩ := HROWS.out.2 x rfl i r hri
      have hrc := HRC.out x rfl i r hri ar cr hcell
      have hcw : wr.cell? (x.add i) = some (.slice ar r.length cr) := (hbw.out.kept.cell (World.block_lt_of_cell? w _ hcell) (by simp)).trans hcell
      obtain ⟨hrd, hrn⟩ := reads_srcb hsrc
      have hrds := hid (fun W (hk : Kept [] w W) => hrd.kept hk (fun _ _ _ => by simp))
      have hrlt := hid (fun (hh : r ≠ []) y (hy : ar = some y) => hrd.lt hh y hy)
      obtain ⟨k, hk⟩ : ∃ k, k = r.length := ⟨_, rfl⟩
      have HK := hid hk; have HRCC := hid hrc; have HRN := hid hrn
      rw [← hk] at hcw
      have HLT := hid hlt
      obtain ⟨bad, hbad⟩ : ∃ bad : Bool, bad = (decide (100 < k) || (decide (Sha.sum r = id) && !decide (r = big))) := ⟨_, rfl⟩
      have HBAD := hid hbad
      clear hri hcell hsrc hrc hrd hrn hk hbad
      go_upto_region 10 with fail
      clear hcw
      go_cut [50] (fun s wx => s = .bool bad ∧ Hid (Kept [] wr wx))
      case first =>
        have hH0 : Kept [] wr wr.drew := (Kept.refl [] wr).drew
        by_cases hk100 : 100 < k
        · have hb : bad = true := by rw [HBAD.out, decide_eq_true hk100]; rfl
          have kb : decide ((100 : Int) < (k : Int)) = true := decide_eq_true (by omega)
          subst hb
          clear hk100
          refine wp_region_held_drew (S := fun v => Kept [] wr v) (by kernel_rfl) hH0 (fun hH => ?_)
          refine takeH 0 (.slice ar k cr) rfl (by kernel_rfl) (by kernel_rfl) (by kernel_rfl) (fun _ _ _ h => h) (by rfl) (fun v hv => by go_simp) hH ?_
          simp only [Act.put, List.setIfInBounds_toArray, List.set_cons_succ, List.set_cons_zero]
          refine takeH 1 (.int .i64 (k : Int)) rfl (by kernel_rfl) (by kernel_rfl) (by kernel_rfl) (fun _ _ _ h => h) (by rfl) (fun v hv => by go_simp) hH ?_
          simp only [Act.put, List.setIfInBounds_toArray, List.set_cons_succ, List.set_cons_zero]
          refine takeH 2 (.bool true) rfl (by kernel_rfl) (by kernel_rfl) (by kernel_rfl) (fun _ _ _ h => h) (by rfl) (fun v hv => by go_simp) hH ?_
          simp only [Act.put, List.setIfInBounds_toArray, List.set_cons_succ, List.set_cons_zero]
          refine takeH 3 (.bool true) rfl (by kernel_rfl) (by kernel_rfl) (by kernel_rfl) (fun _ _ _ h => h) (by rfl) (fun v hv => by go_simp) hH ?_
          simp only [Act.put, List.setIfInBounds_toArray, List.set_cons_succ, List.set_cons_zero]
          refine skipH 4 rfl (by kernel_rfl) (by kernel_rfl) (by kernel_rfl) (fun _ _ _ h => h) (by rfl) hH ?_
          simp only [Act.put, List.setIfInBounds_toArray, List.set_cons_succ, List.set_cons_zero]
          refine skipH 5 rfl (by kernel_rfl) (by kernel_rfl) (by kernel_rfl) (fun _ _ _ h => h) (by rfl) hH ?_
          simp only [Act.put, List.setIfInBounds_toArray, List.set_cons_succ, List.set_cons_zero]
          refine skipH 6 rfl (by kernel_rfl) (by kernel_rfl) (by kernel_rfl) (fun _ _ _ h => h) (by rfl) hH ?_
          simp only [Act.put, List.setIfInBounds_toArray, List.set_cons_succ, List.set_cons_zero]
          refine skipH 7 rfl (by kernel_rfl) (by kernel_rfl) (by kernel_rfl) (fun _ _ _ h => h) (by rfl) hH ?_
          simp only [Act.put, List.setIfInBounds_toArray, List.set_cons_succ, List.set_cons_zero]
          refine skipH 8 rfl (by kernel_rfl) (by kernel_rfl) (by kernel_rfl) (fun _ _ _ h => h) (by rfl) hH ?_
          simp only [Act.put, List.setIfInBounds_toArray, List.set_cons_succ, List.set_cons_zero]
          refine skipH 9 rfl (by kernel_rfl) (by kernel_rfl) (by kernel_rfl) (fun _ _ _ h => h) (by rfl) hH ?_
          simp only [Act.put, List.setIfInBounds_toArray, List.set_cons_succ, List.set_cons_zero]
          refine skipH 10 rfl (by kernel_rfl) (by kernel_rfl) (by kernel_rfl) (fun _ _ _ h => h) (by rfl) hH ?_
          simp only [Act.put, List.setIfInBounds_toArray, List.set_cons_succ, List.set_cons_zero]
          refine skipH 11 rfl (by kernel_rfl) (by kernel_rfl) (by kernel_rfl) (fun _ _ _ h => h) (by rfl) hH ?_
          simp only [Act.put, List.setIfInBounds_toArray, List.set_cons_succ, List.set_cons_zero]
          refine skipH 12 rfl (by kernel_rfl) (by kernel_rfl) (by kernel_rfl) (fun _ _ _ h => h) (by rfl) hH ?_
          simp only [Act.put, List.setIfInBounds_toArray, List.set_cons_succ, List.set_cons_zero]
          refine skipH 13 rfl (by kernel_rfl) (by kernel_rfl) (by kernel_rfl) (fun _ _ _ h => h) (by rfl) hH ?_
          simp only [Act.put, List.setIfInBounds_toArray, List.set_cons_succ, List.set_cons_zero]
          refine takeH 14 (.bool true) rfl (by kernel_rfl) (by kernel_rfl) (by kernel_rfl) (fun _ _ _ h => h) (by rfl) (fun v hv => by go_simp) hH ?_
          simp only [Act.put, List.setIfInBounds_toArray, List.set_cons_succ, List.set_cons_zero]
          refine wpAnyH_done (by kernel_rfl) ?_ _
          go_wp2_with fail
          go_meet
          exact ⟨rfl, hid hH⟩
        · have kb : decide ((100 : Int) < (k : Int)) = false := decide_eq_false (by omega)
          have hkr : r.length ≤ 1000000 := by have := HK.out; omega
          obtain ⟨sr, hsr⟩ : ∃ sr, sr = Sha.sum r := ⟨_, rfl⟩
          have S32 := hid (show sr.length = 32 from by rw [hsr]; exact Sha.sum_len _)
          obtain ⟨ir, hir⟩ : ∃ i, i = (sr.map B).toArray := ⟨_, rfl⟩
          have hofr := hid (fun W (hk : Kept [] wr W) => (show Calls Tryd.prog 11 #[.slice ar k cr] W fun e w' => e = .returned (.agg ir) ∧ Kept [] W w' from by
            have h1 := refof_sum ar cr r W (hrds.out W (hbw.out.kept.trans hk)) HRN.out hkr
            rw [← HK.out, ← hsr, ← hir] at h1
            exact h1))
          obtain ⟨b, hb⟩ : ∃ b, b = decide (sr = id) := ⟨_, rfl⟩
          have heq := hid (show ∀ v : World, (Op.equalIn 10000 34 (.agg ir) (.agg ib)).run Tryd.prog v = .ok b v from fun v => by rw [hir, HIB.out, hb]; exact id_equal _ _ S32.out L32.out v)
          have HB := hid hb; have HSR := hid hsr
          clear hsr hir hb hkr
          refine wp_region_held_drew (S := fun v => Kept [] wr v) (by kernel_rfl) hH0 (fun hH => ?_)
          refine takeH 0 (.slice ar k cr) rfl (by kernel_rfl) (by kernel_rfl) (by kernel_rfl) (fun _ _ _ h => h) (by rfl) (fun v hv => by go_simp) hH ?_
          simp only [Act.put, List.setIfInBounds_toArray, List.set_cons_succ, List.set_cons_zero]
          refine takeH 1 (.int .i64 (k : Int)) rfl (by kernel_rfl) (by kernel_rfl) (by kernel_rfl) (fun _ _ _ h => h) (by rfl) (fun v hv => by go_simp) hH ?_
          simp only [Act.put, List.setIfInBounds_toArray, List.set_cons_succ, List.set_cons_zero]
          refine takeH 2 (.bool false) rfl (by kernel_rfl) (by kernel_rfl) (by kernel_rfl) (fun _ _ _ h => h) (by rfl) (fun v hv => by go_simp) hH ?_
          simp only [Act.put, List.setIfInBounds_toArray, List.set_cons_succ, List.set_cons_zero]
          refine takeH 3 (.bool false) rfl (by kernel_rfl) (by kernel_rfl) (by kernel_rfl) (fun _ _ _ h => h) (by rfl) (fun v hv => by go_simp) hH ?_
          simp only [Act.put, List.setIfInBounds_toArray, List.set_cons_succ, List.set_cons_zero]
          refine takeH 4 (.slice ar k cr) rfl (by kernel_rfl) (by kernel_rfl) (by kernel_rfl) (fun _ _ _ h => h) (by rfl) (fun v hv => by go_simp) hH ?_
          simp only [Act.put, List.setIfInBounds_toArray, List.set_cons_succ, List.set_cons_zero]
          refine takeH 6 (.agg ib) rfl (by kernel_rfl) (by kernel_rfl) (by kernel_rfl) (fun _ _ _ h => h) (by rfl) (fun v hv => by have h := hq1.out v hv; unfold execOp; simp [Instr.loadAt, Instr.sureAddr, Sem.run_bind, Sem.run_pure, Result.andThen_ok, Act.eval, h]) hH ?_
          simp only [Act.put, List.setIfInBounds_toArray, List.set_cons_succ, List.set_cons_zero]
          refine callR 5 rfl (by kernel_rfl) (by rfl) 11 #[.slice ar k cr] (by go_simp) (.agg ir) (fun v => Kept [] wr.drew v) (fun v h => hH0.trans h) (hofr.out _ hH0) ?_
          rintro v1 k1
          simp only [Act.put, List.setIfInBounds_toArray, List.set_cons_succ, List.set_cons_zero]
          have hH1 : Kept [] wr v1 := hH0.trans k1
          refine takeH 7 (.bool b) rfl (by kernel_rfl) (by kernel_rfl) (by kernel_rfl) (fun _ _ _ h => h) (by rfl) (fun v hv => by have h := heq.out v; go_simp) hH1 ?_
          simp only [Act.put, List.setIfInBounds_toArray, List.set_cons_succ, List.set_cons_zero]
          cases b
          · have hbd : bad = false := by rw [HBAD.out, ← HSR.out, ← HB.out]; simp; omega
            subst hbd
            refine takeH 8 (.bool false) rfl (by kernel_rfl) (by kernel_rfl) (by kernel_rfl) (fun _ _ _ h => h) (by rfl) (fun v hv => by go_simp) hH1 ?_
            simp only [Act.put, List.setIfInBounds_toArray, List.set_cons_succ, List.set_cons_zero]
            refine skipH 9 rfl (by kernel_rfl) (by kernel_rfl) (by kernel_rfl) (fun _ _ _ h => h) (by rfl) hH1 ?_
            simp only [Act.put, List.setIfInBounds_toArray, List.set_cons_succ, List.set_cons_zero]
            refine skipH 10 rfl (by kernel_rfl) (by kernel_rfl) (by kernel_rfl) (fun _ _ _ h => h) (by rfl) hH1 ?_
            simp only [Act.put, List.setIfInBounds_toArray, List.set_cons_succ, List.set_cons_zero]
            refine skipH 11 rfl (by kernel_rfl) (by kernel_rfl) (by kernel_rfl) (fun _ _ _ h => h) (by rfl) hH1 ?_
            simp only [Act.put, List.setIfInBounds_toArray, List.set_cons_succ, List.set_cons_zero]
            refine skipH 12 rfl (by kernel_rfl) (by kernel_rfl) (by kernel_rfl) (fun _ _ _ h => h) (by rfl) hH1 ?_
            simp only [Act.put, List.setIfInBounds_toArray, List.set_cons_succ, List.set_cons_zero]
            refine takeH 13 (.bool false) rfl (by kernel_rfl) (by kernel_rfl) (by kernel_rfl) (fun _ _ _ h => h) (by rfl) (fun v hv => by go_simp) hH1 ?_
            simp only [Act.put, List.setIfInBounds_toArray, List.set_cons_succ, List.set_cons_zero]
            refine takeH 14 (.bool false) rfl (by kernel_rfl) (by kernel_rfl) (by kernel_rfl) (fun _ _ _ h => h) (by rfl) (fun v hv => by go_simp) hH1 ?_
            simp only [Act.put, List.setIfInBounds_toArray, List.set_cons_succ, List.set_cons_zero]
            refine wpAnyH_done (by kernel_rfl) ?_ _
            go_wp2_with fail
            go_meet
            exact ⟨rfl, hid hH1⟩
          · obtain ⟨b2, hb2⟩ : ∃ b2, b2 = decide (r = big) := ⟨_, rfl⟩
            have hbd : bad = !b2 := by rw [HBAD.out, ← HSR.out, ← HB.out, ← hb2]; simp; omega
            have hsm := hid (fun W (hk : Kept [] w W) => same_deck ar a2 cr c2 r big W (src_reads (hrds.out W hk) HRN.out) (src_reads (hrb.out W hk) HBC.out.2.2))
            rw [← HK.out, ← HM.out, ← hb2] at hsm
            subst hbd
            clear hb2
            refine takeH 8 (.bool true) rfl (by kernel_rfl) (by kernel_rfl) (by kernel_rfl) (fun _ _ _ h => h) (by rfl) (fun v hv => by go_simp) hH1 ?_
            simp only [Act.put, List.setIfInBounds_toArray, List.set_cons_succ, List.set_cons_zero]
            refine takeH 9 (.slice ar k cr) rfl (by kernel_rfl) (by kernel_rfl) (by kernel_rfl) (fun _ _ _ h => h) (by rfl) (fun v hv => by go_simp) hH1 ?_
            simp only [Act.put, List.setIfInBounds_toArray, List.set_cons_succ, List.set_cons_zero]
            refine takeH 10 (.slice a2 m c2) rfl (by kernel_rfl) (by kernel_rfl) (by kernel_rfl) (fun _ _ _ h => h) (by rfl) (fun v hv => by go_simp) hH1 ?_
            simp only [Act.put, List.setIfInBounds_toArray, List.set_cons_succ, List.set_cons_zero]
            refine callR 11 rfl (by kernel_rfl) (by rfl) 16 #[.slice ar k cr, .slice a2 m c2] (by go_simp) (.bool b2) (fun v => v1 = v) (fun v h => h ▸ hH1) (hsm.out _ (hbw.out.kept.trans hH1)) ?_
            rintro v2 rfl
            simp only [Act.put, List.setIfInBounds_toArray, List.set_cons_succ, List.set_cons_zero]
            refine takeH 12 (.bool (!b2)) rfl (by kernel_rfl) (by kernel_rfl) (by kernel_rfl) (fun _ _ _ h => h) (by rfl) (fun v hv => by go_simp) hH1 ?_
            simp only [Act.put, List.setIfInBounds_toArray, List.set_cons_succ, List.set_cons_zero]
            refine takeH 13 (.bool (!b2)) rfl (by kernel_rfl) (by kernel_rfl) (by kernel_rfl) (fun _ _ _ h => h) (by rfl) (fun v hv => by go_simp) hH1 ?_
            simp only [Act.put, List.setIfInBounds_toArray, List.set_cons_succ, List.set_cons_zero]
            refine takeH 14 (.bool (!b2)) rfl (by kernel_rfl) (by kernel_rfl) (by kernel_rfl) (fun _ _ _ h => h) (by rfl) (fun v hv => by go_simp) hH1 ?_
            simp only [Act.put, List.setIfInBounds_toArray, List.set_cons_succ, List.set_cons_zero]
            refine wpAnyH_done (by kernel_rfl) ?_ _
            go_wp2_with fail
            go_meet
            exact ⟨rfl, hid hH1⟩
      case rest =>
        obtain ⟨rfl, hkx⟩ := hcut
        have hkw := hid (hbw.out.kept.trans hkx.out)
        have hC := hid (HCS.out.keep0 hkx.out)
        have hqx := hid (hkx.out.at hbw.out.hq (by simp))
        cases bad
        · have hprop := hid (show k ≤ 100 ∧ (Sha.sum r = Sha.sum big → r = big) from by
            have h1 := HBAD.out
            rw [HID.out] at h1
            simp at h1
            exact ⟨by omega, h1.2⟩)
          have hpt := hid (cs_put hC.out (by have h1 := HBI.out.size; omega) (by have h1 := HBI.out.1; omega) ar cr r (hrds.out wc hkw.out) (fun hh y hy hm => by have h1 := (hC.out.bound _ hm).1; have h2 := hrlt.out hh y hy; omega) HRN.out HRCC.out.1 HRCC.out.2 (by have h1 := HK.out; have h2 := hprop.out.1; omega))
          rw [← HK.out] at hpt
          go_wp2_with fail
          refine hpt.out.mono ?_
          rintro e wf ⟨rfl, kf, Uf, mf, cf⟩
          have hlast := hid (show BigW w wf q p ib lm big (i + 1) from by
            refine ⟨⟨Uf, _, cf, HBI.out.put r (by have h1 := HK.out; have h2 := hprop.out.1; omega) hprop.out.2, fun hm => ?_⟩, hC.out.over kf, kf.at hqx.out HQU.out⟩
            rcases mf.1 q hm with h | h
            · exact HQU.out h
            · have := lt_of_block hqx.out; omega)
          clear kf mf cf hpt
          go_wp2
          go_roundw
          case rel => exact ⟨i + 1, HLT.out, by go_num, hlast⟩
          case measure => simp [intOf]; omega
        · go_wp2
          go_ret
          exact ⟨rfl, hkw.out⟩
    · have hin : i = n := by omega
      subst hin
      have ldq := hid (hq1.out wr (Kept.refl _ _))
      go_wp2_with (refine wpList_ldv rfl 34 (.tmp 8) rfl ⟨q, 0, none⟩ rfl (.agg ib) ldq.out ?_; refine halt ?_)
      refine Halt.mk ?_
      have hgt := hid (cs_get HCS.out (by have h1 := HBI.out.size; omega) (by have h1 := HBI.out.1; omega) id L32.out)
      rw [← HIB.out] at hgt
      go_wp2_with fail
      refine hgt.out.mono ?_
      rintro e y1 ⟨v, U1, rfl, k1, m1, cg, _⟩
      have hbg := hid (show BigI lm big (i + 1) (getL id l) from by rw [HID.out]; exact HBI.out.get)
      obtain ⟨l1, hl1⟩ : ∃ l1, l1 = getL id l := ⟨_, rfl⟩
      rw [← hl1] at cg hbg
      have CG := hid cg
      have hqg := hid (k1.at hbw.out.hq HQU.out)
      have HU1 := hid (show q ∉ U1 from fun hm => by
        rcases m1.1 q hm with h | h
        · exact HQU.out h
        · have := lt_of_block hbw.out.hq; omega)
      have hall := hid (cs_all cg (by have h1 := hbg.out.1; omega) 1000 (by decide) (by decide))
      have htk : (l1.map (·.1)).take 1000 = l1.map (·.1) := List.take_of_length_le (by have h1 := hbg.out.1; simp; omega)
      rw [htk, List.length_map] at hall
      clear k1 m1 cg hgt ldq hl1 htk
      go_wp2_with fail
      refine hall.out.mono ?_
      rintro e y2 ⟨a9, c9, rfl, k2, ho⟩
      have C2 := hid (CG.out.keep0 k2)
      have C1b := hid CG.out
      have hids1 := hid (ids_of_row (W := y2) (base := y1.heap.size) (a := a9) (c := c9) (idsD_of hbg.out) (by rw [List.length_map]; exact ho))
      have hq2 := hid (k2.at hqg.out (by simp))
      have hml := HLM.out
      clear k2 ho hall hqg CG hq1
      go_upto_region 16 with fail
      go_cut [64] (fun s wx => s = .bool (decide (lm < (m : Int))) ∧ y2 = wx)
      case first =>
        go_wp2_with fail
        all_goals
          go_meet
          refine ⟨?_, rfl⟩
          rw [hml]
          first
          | rfl
          | (congr 2; simp; omega)
          | (congr 1; rw [decide_eq_decide]; omega)
      case rest =>
        obtain ⟨rfl, rfl⟩ := hcut
        by_cases hbig : lm < (m : Int)
        · rw [decide_eq_true hbig]
          have hnone := hid (hbg.out.none (by have h1 := HM.out; omega))
          rw [← HID.out] at hnone
          have hput : putD lm l1 big = l1 := by
            unfold putD
            rw [← HID.out, if_pos (by have h1 := HM.out; omega), dropD_none hnone.out]
          have C2d := C2.out.keep0 ((Kept.refl [] y2).drew)
          have hpt := hid (cs_put C2d (by have h1 := hbg.out.size; omega) (by have h1 := hbg.out.1; omega) a2 c2 big (hrb.out _ C2d.kept) (fun hh y hy hm => by have h1 := (C2d.bound _ hm).1; have h2 := hbl.out hh y hy; omega) HBC.out.2.2 HBC.out.1 HBC.out.2.1 (by have h1 := HM.out; omega))
          rw [hput, ← HID.out, ← HIB.out, ← HM.out] at hpt
          have ldq := hid (fun v (hv : Kept U1 y2 v) => (show (loadVar 34 ⟨q, 0, none⟩).run Tryd.prog v = .ok (.agg ib) v from by have h1 := ld_idB v q id L32.out (by rw [← HIB.out]; exact hv.at hq2.out HU1.out); rw [← HIB.out] at h1; exact h1))
          have heq := hid (show ∀ v : World, (Op.equalIn 10000 34 (.agg ib) (.agg ib)).run Tryd.prog v = .ok true v from fun v => by rw [HIB.out, id_equal _ _ L32.out L32.out v]; simp)
          clear hml hput C2d
          go_wp2_with fail
          have hH0 : Kept U1 y2 y2.drew := (Kept.refl U1 y2).drew
          refine wp_region_held_drew (S := fun v => Kept U1 y2 v) (by kernel_rfl) hH0 (fun hH => ?_)
          refine takeH 0 (.pointer (some ⟨p, 0, none⟩)) rfl (by kernel_rfl) (by kernel_rfl) (by kernel_rfl) (fun _ _ _ h => h) (by rfl) (fun v hv => by go_simp) hH ?_
          simp only [Act.put, List.setIfInBounds_toArray, List.set_cons_succ, List.set_cons_zero]
          refine takeH 1 (.slice a2 m c2) rfl (by kernel_rfl) (by kernel_rfl) (by kernel_rfl) (fun _ _ _ h => h) (by rfl) (fun v hv => by go_simp) hH ?_
          simp only [Act.put, List.setIfInBounds_toArray, List.set_cons_succ, List.set_cons_zero]
          refine takeH 3 (.agg ib) rfl (by kernel_rfl) (by kernel_rfl) (by kernel_rfl) (fun _ _ _ h => h) (by rfl) (fun v hv => by have h := ldq.out v hv; unfold execOp; simp [Instr.loadAt, Instr.sureAddr, Sem.run_bind, Sem.run_pure, Result.andThen_ok, Act.eval, h]) hH ?_
          simp only [Act.put, List.setIfInBounds_toArray, List.set_cons_succ, List.set_cons_zero]
          refine callR 2 rfl (by kernel_rfl) (by rfl) 13 #[.pointer (some ⟨p, 0, none⟩), .slice a2 m c2] (by go_simp) (.agg ib) (fun v => Kept U1 y2.drew v ∧ ∃ U', More y2.drew v U1 U' ∧ CS w v U' p lm l1) (fun v h => hH0.trans h.1) (hpt.out) ?_
          rintro v1 ⟨k1, U5, m5, c5⟩
          simp only [Act.put, List.setIfInBounds_toArray, List.set_cons_succ, List.set_cons_zero]
          have hH1 : Kept U1 y2 v1 := hH0.trans k1
          refine takeH 4 (.bool false) rfl (by kernel_rfl) (by kernel_rfl) (by kernel_rfl) (fun _ _ _ h => h) (by rfl) (fun v hv => by have h := heq.out v; go_simp) hH1 ?_
          simp only [Act.put, List.setIfInBounds_toArray, List.set_cons_succ, List.set_cons_zero]
          refine takeH 5 (.bool false) rfl (by kernel_rfl) (by kernel_rfl) (by kernel_rfl) (fun _ _ _ h => h) (by rfl) (fun v hv => by go_simp) hH1 ?_
          simp only [Act.put, List.setIfInBounds_toArray, List.set_cons_succ, List.set_cons_zero]
          refine takeH 6 (.pointer (some ⟨p, 0, none⟩)) rfl (by kernel_rfl) (by kernel_rfl) (by kernel_rfl) (fun _ _ _ h => h) (by rfl) (fun v hv => by go_simp) hH1 ?_
          simp only [Act.put, List.setIfInBounds_toArray, List.set_cons_succ, List.set_cons_zero]
          refine takeH 8 (.slice a9 l1.length c9) rfl (by kernel_rfl) (by kernel_rfl) (by kernel_rfl) (fun _ _ _ h => h) (by rfl) (fun v hv => by go_simp) hH1 ?_
          simp only [Act.put, List.setIfInBounds_toArray, List.set_cons_succ, List.set_cons_zero]
          have hal5 := cs_all c5 (by have h1 := hbg.out.1; omega) 1000 (by decide) (by decide)
          have htk : (l1.map (·.1)).take 1000 = l1.map (·.1) := List.take_of_length_le (by have h1 := hbg.out.1; simp; omega)
          rw [htk, List.length_map] at hal5
          refine callE 7 rfl (by kernel_rfl) (by rfl) 21 #[.pointer (some ⟨p, 0, none⟩), .int .i64 1000] (by go_simp) (fun v w' => ∃ aa cc, v = .slice aa l1.length cc ∧ Kept [] v1 w' ∧ w'.ownsRow v1.heap.size 34 32 (.slice aa l1.length cc) l1.length ((l1.map (·.1)).flatMap e32)) (fun v w' h => by obtain ⟨_, _, _, h, _⟩ := h; exact hH1.trans (h.wider (fun x _ hx => by simp at hx))) (hal5.mono (fun e w' h => by obtain ⟨aa, cc, h1, h2, h3⟩ := h; exact ⟨_, h1, aa, cc, rfl, h2, h3⟩)) ?_
          rintro v7 w7 ⟨aa, cc, rfl, k7, o7⟩
          simp only [Act.put, List.setIfInBounds_toArray, List.set_cons_succ, List.set_cons_zero]
          have hH7 : Kept U1 y2 w7 := hH1.trans (k7.wider (fun x _ hx => by simp at hx))
          have hids2 := ids_of_row (W := w7) (base := v1.heap.size) (a := aa) (c := cc) (idsD_of hbg.out) (by rw [List.length_map]; exact o7)
          have h99 : ∀ x, a9 = some x → x.block ∉ U1 := fun x hx hm => by
            have h1 := (hids1.out.2 x hx).1
            have h2 := (C1b.out.bound _ hm).2
            omega
          have hids3 : Ids w7 a9 c9 (l1.map (·.1)) := hids1.out.1.kept hH7 h99
          have hsame := sameids_any aa a9 cc c9 (l1.map (·.1)) (l1.map (·.1)) w7 (fun wr hk => hids2.1.kept hk (by simp)) (fun wr hk => hids3.kept hk (by simp))
          rw [List.length_map] at hsame
          simp only [decide_true] at hsame
          refine callR 9 rfl (by kernel_rfl) (by rfl) 20 #[.slice aa l1.length cc, .slice a9 l1.length c9] (by go_simp) (.bool true) (fun v => Kept [] w7 v) (fun v h => hH7.trans (h.wider (fun x _ hx => by simp at hx))) (hsame) ?_
          rintro v8 k8
          simp only [Act.put, List.setIfInBounds_toArray, List.set_cons_succ, List.set_cons_zero]
          refine takeH 10 (.bool false) rfl (by kernel_rfl) (by kernel_rfl) (by kernel_rfl) (fun _ _ _ h => h) (by rfl) (fun v hv => by go_simp) (hH7.trans (k8.wider (fun x _ hx => by simp at hx))) ?_
          simp only [Act.put, List.setIfInBounds_toArray, List.set_cons_succ, List.set_cons_zero]
          refine takeH 11 (.bool false) rfl (by kernel_rfl) (by kernel_rfl) (by kernel_rfl) (fun _ _ _ h => h) (by rfl) (fun v hv => by go_simp) (hH7.trans (k8.wider (fun x _ hx => by simp at hx))) ?_
          simp only [Act.put, List.setIfInBounds_toArray, List.set_cons_succ, List.set_cons_zero]
          refine wpAnyH_done (by kernel_rfl) ?_ _
          have C8 := hid ((c5.keep0 k7).keep0 k8)
          have h8q := hid (show q ∉ U5 from fun hm => by
            rcases m5.1 q hm with h | h
            · exact HU1.out h
            · have := lt_of_block hq2.out; have h2 : y2.drew.heap.size = y2.heap.size := rfl; omega)
          have hq8 := hid ((hH7.trans (k8.wider (fun x _ hx => by simp at hx))).at hq2.out HU1.out)
          have LD8 := hid (show (loadVar 34 ⟨q, 0, none⟩).run Tryd.prog v8 = .ok (.agg ib) v8 from by have h1 := ld_idB v8 q id L32.out (by rw [← HIB.out]; exact hq8.out); rw [← HIB.out] at h1; exact h1)
          have hg8 := hid (cs_get C8.out (by have h1 := hbg.out.size; omega) (by have h1 := hbg.out.1; omega) id L32.out)
          have e1 : getO id l1 = none := by unfold getO; rw [findD_none hnone.out]
          have e2 : getL id l1 = l1 := by unfold getL; rw [e1]; exact dropD_none hnone.out
          rw [← HIB.out, e1, e2] at hg8
          simp only [Option.isSome_none] at hg8
          clear hpt ldq heq hH0 hH1 hH7 k1 k7 k8 m5 c5 hal5 htk o7 hids2 hids3 h99 hsame e1 e2 C2 hq2
          go_wp2_with (refine wpList_ldv rfl 34 (.tmp 8) rfl ⟨q, 0, none⟩ rfl (.agg ib) LD8.out ?_; refine halt ?_)
          refine Halt.mk ?_
          go_wp2_with fail
          refine hg8.out.mono ?_
          rintro e y9 ⟨v9, U9, rfl, k9, m9, c9', ha9⟩
          have ha9 : v9 = .slice none 0 0 := ha9
          subst ha9
          have CF := hid c9'
          have HUF := hid (show q ∉ U9 from fun hm => by
            rcases m9.1 q hm with h | h
            · exact h8q.out h
            · have := lt_of_block hq8.out; omega)
          have HQF := hid (k9.at hq8.out h8q.out)
          clear k9 m9 c9' hg8 LD8 C8 h8q hq8 HU1 hids1 hbg hnone
          have hwi := hid (cs_wipe CF.out)
          go_wp2_with fail
          refine hwi.out.mono ?_
          rintro e yw ⟨rfl, kw, cw⟩
          have CW := hid cw
          have hqw := hid (kw.at HQF.out HUF.out)
          have LDW := hid (show (loadVar 34 ⟨q, 0, none⟩).run Tryd.prog yw = .ok (.agg ib) yw from by have h1 := ld_idB yw q id L32.out (by rw [← HIB.out]; exact hqw.out); rw [← HIB.out] at h1; exact h1)
          have hgw := hid (cs_get CW.out (by simp [szD]) (by simp) id L32.out)
          rw [← HIB.out, show getO id [] = none from rfl, show getL id [] = [] from rfl] at hgw
          simp only [Option.isSome_none] at hgw
          clear kw cw hwi CF HQF
          go_wp2_with (refine wpList_ldv rfl 34 (.tmp 8) rfl ⟨q, 0, none⟩ rfl (.agg ib) LDW.out ?_; refine halt ?_)
          refine Halt.mk ?_
          go_wp2_with fail
          refine hgw.out.mono ?_
          rintro e yx ⟨vx, UX, rfl, kx, mx, cx, hax⟩
          have hax : vx = .slice none 0 0 := hax
          subst hax
          have CX := hid cx
          have hqx := hid (kx.at hqw.out HUF.out)
          have hle := hid (cs_len cx)
          have hsi := hid (cs_size cx)
          have hal9 := hid (cs_all cx (by simp) 9 (by decide) (by decide))
          clear kx mx cx hgw LDW CW hqw
          go_wp2_with fail
          refine hle.out.mono ?_
          rintro e yl ⟨rfl, rfl⟩
          go_wp2_with fail
          refine hsi.out.mono ?_
          rintro e yl ⟨rfl, rfl⟩
          go_wp2_with fail
          refine hal9.out.mono ?_
          rintro e ya ⟨a9, c9, rfl, k9, _⟩
          have CA := hid (CX.out.keep0 k9)
          have hsp := hid (cs_spoil CA.out (by simp [szD]) id L32.out 3 (by decide) (by decide))
          rw [← HIB.out, show spoilL id 3 [] = none from rfl] at hsp
          simp only [Option.isSome_none] at hsp
          have LDA := hid (show (loadVar 34 ⟨q, 0, none⟩).run Tryd.prog ya = .ok (.agg ib) ya from by have h1 := ld_idB ya q id L32.out (by rw [← HIB.out]; exact k9.at hqx.out (by simp)); rw [← HIB.out] at h1; exact h1)
          clear k9 hal9 hle hsi CX hqx
          go_wp2_with (refine wpList_ldg (by rfl) 34 (.tmp 8) rfl ⟨q, 0, none⟩ rfl (.agg ib) LDA.out ?_; refine halt ?_)
          refine Halt.mk ?_
          go_wp2_with fail
          refine hsp.out.mono ?_
          rintro e yz ⟨rfl, kz, cz⟩
          have CZ := hid cz
          clear kz cz hsp
          go_wp2
          go_ret
          exact ⟨rfl, CZ.out.kept⟩
        · rw [decide_eq_false hbig]
          have CF := C2; have HQF := hq2; have HUF := HU1
          clear C2 hq2 HU1 hml hids1 hbg
          have hwi := hid (cs_wipe CF.out)
          go_wp2_with fail
          refine hwi.out.mono ?_
          rintro e yw ⟨rfl, kw, cw⟩
          have CW := hid cw
          have hqw := hid (kw.at HQF.out HUF.out)
          have LDW := hid (show (loadVar 34 ⟨q, 0, none⟩).run Tryd.prog yw = .ok (.agg ib) yw from by have h1 := ld_idB yw q id L32.out (by rw [← HIB.out]; exact hqw.out); rw [← HIB.out] at h1; exact h1)
          have hgw := hid (cs_get CW.out (by simp [szD]) (by simp) id L32.out)
          rw [← HIB.out, show getO id [] = none from rfl, show getL id [] = [] from rfl] at hgw
          simp only [Option.isSome_none] at hgw
          clear kw cw hwi CF HQF
          go_wp2_with (refine wpList_ldv rfl 34 (.tmp 8) rfl ⟨q, 0, none⟩ rfl (.agg ib) LDW.out ?_; refine halt ?_)
          refine Halt.mk ?_
          go_wp2_with fail
          refine hgw.out.mono ?_
          rintro e yx ⟨vx, UX, rfl, kx, mx, cx, hax⟩
          have hax : vx = .slice none 0 0 := hax
          subst hax
          have CX := hid cx
          have hqx := hid (kx.at hqw.out HUF.out)
          have hle := hid (cs_len cx)
          have hsi := hid (cs_size cx)
          have hal9 := hid (cs_all cx (by simp) 9 (by decide) (by decide))
          clear kx mx cx hgw LDW CW hqw
          go_wp2_with fail
          refine hle.out.mono ?_
          rintro e yl ⟨rfl, rfl⟩
          go_wp2_with fail
          refine hsi.out.mono ?_
          rintro e yl ⟨rfl, rfl⟩
          go_wp2_with fail
          refine hal9.out.mono ?_
          rintro e ya ⟨a9, c9, rfl, k9, _⟩
          have CA := hid (CX.out.keep0 k9)
          have hsp := hid (cs_spoil CA.out (by simp [szD]) id L32.out 3 (by decide) (by decide))
          rw [← HIB.out, show spoilL id 3 [] = none from rfl] at hsp
          simp only [Option.isSome_none] at hsp
          have LDA := hid (show (loadVar 34 ⟨q, 0, none⟩).run Tryd.prog ya = .ok (.agg ib) ya from by have h1 := ld_idB ya q id L32.out (by rw [← HIB.out]; exact k9.at hqx.out (by simp)); rw [← HIB.out] at h1; exact h1)
          clear k9 hal9 hle hsi CX hqx
          go_wp2_with (refine wpList_ldg (by rfl) 34 (.tmp 8) rfl ⟨q, 0, none⟩ rfl (.agg ib) LDA.out ?_; refine halt ?_)
          refine Halt.mk ?_
          go_wp2_with fail
          refine hsp.out.mono ?_
          rintro e yz ⟨rfl, kz, cz⟩
          have CZ := hid cz
          clear kz cz hsp
          go_wp2
          go_ret
          exact ⟨rfl, CZ.out.kept⟩
end Go.Proofs.YtfefpblneihmgaaDoor
