/- coldstoreref01.Join of one row; coldstorelaw02.CodeReads. -/
import Derived.Test.YtignphegdigalaaW9
namespace Go.Proofs.Ytignphegdigalaa
open Go.RowKit Go.Lib

/-- A row of bytes that a call made: v is it, in the world wr. -/
def JAt (w : World) (base : Nat) (v : Value) (xs : List UInt8) (wr : World) : Prop :=
  Kept [] w wr ∧ w.heap.size ≤ base ∧ base ≤ wr.heap.size ∧ wr.ownsRow base 5 1 v xs.length (xs.map B)
theorem JAt.step {w wr w1 w2 : World} {base : Nat} {v v2 : Value} {xs ys : List UInt8} (h : JAt w base v xs wr) (hk : Kept [] wr w1) (hown : w2.ownsRow base 5 1 v2 (xs ++ ys).length ((xs ++ ys).map B)) (hg : w1.grownBy w2 v.ownBlock) : JAt w base v2 (xs ++ ys) w2 := by
  obtain ⟨h1, h2, h3, h4⟩ := h
  refine ⟨(h1.trans hk).trans' (Kept.of_row hg) (fun x hx hm => ?_), h2, by have := hk.size; have := hg.size; omega, hown⟩
  simp at hm
  rcases h4.2 with ⟨rfl, _⟩ | ⟨g, _, _, rfl, hb, _⟩
  · simp [Value.ownBlock] at hm
  · simp [Value.ownBlock] at hm; omega
theorem JAt.fresh (w : World) : JAt w w.heap.size (.slice (some ⟨w.heap.size, 0, none⟩) 0 0) [] (w.alloc (.cells #[] 5)) :=
  ⟨(Kept.refl [] w).alloc _, Nat.le_refl _, by simp, by simp, Or.inr ⟨w.heap.size, 0, #[], rfl, Nat.le_refl _, heap_alloc_new' _ _, by simp, by unfold maxLen; omega, by simp, by simp⟩⟩

set_option maxHeartbeats 1000000 in
theorem join1_any (p : Nat) (v1 : Value) (xs : List UInt8) (w : World) (hp : w.heap[p]? = some (.cells #[v1] 22 (0, 0))) (h1 : SrcB w v1 xs) (hx : xs.length ≤ 1000) :
    Calls Try.prog 6 #[.slice (some ⟨p, 0, none⟩) 1 1] w fun e w' => ∃ v, e = .returned v ∧ JAt w w.heap.size v xs w' := by
  obtain ⟨i0, hi0, hz0, hz1, hz2⟩ := info_parts info_u8
  obtain ⟨a1, c1, rfl⟩ := h1.size
  have hc0 : w.cell? ⟨p, 0, none⟩ = some (.slice a1 xs.length c1) := by unfold World.cell?; simp [hp]
  have lp := lt_of_block hp
  have hfr := hid (JAt.fresh w)
  have H1 := hid h1
  clear hp h1
  go_enter Try.func6, Try.ntmps6
  go_wp2_with fail
  go_loopw [3, 4] (fun v s wr => (s = .int .i64 0 ∧ JAt w w.heap.size v [] wr) ∨ (s = .int .i64 1 ∧ JAt w w.heap.size v xs wr)) (fun _ s _ => 1 - (intOf s).toNat)
  case atStart => exact Or.inl ⟨rfl, hfr.out⟩
  case round =>
    rcases hrel with ⟨rfl, hr⟩ | ⟨rfl, hr⟩
    · have hk := hr.1
      have kc := (hk.cell (p := ⟨p, 0, none⟩) lp (by simp)).trans hc0
      have hsrc := hid (H1.out.kept hk (by simp))
      have HR := hid hr
      clear hk hr
      go_wp2_with (at_builtin; refine halt ?_)
      refine Halt.mk ?_
      refine wpList_append_src _ rfl _ _ _ rfl w.heap.size 5 i0 _ 1 Try.underlying22 hi0 hz0 hz1 hz2 rfl u3 ([] : List UInt8).length (([] : List UInt8).map B) rfl HR.out.2.2.2 (.slice a1 xs.length c1) xs.length (xs.map B) rfl hsrc.out (by simp) (B_oneCell _) ?_ ?_ ?_ ?_
      · unfold maxLen; simp; omega
      · simp; omega
      · exact HR.out.2.2.1
      intro v2 w2 hown2 hgrow2 _ hf2
      obtain ⟨b2, d2, rfl⟩ := owns_slice hown2
      have hstep := hid (JAt.step (ys := xs) HR.out (Kept.refl [] wr) (by simpa using hown2) hgrow2)
      clear hown2 hgrow2 hf2
      go_wp2
      go_roundw
      case rel => exact Or.inr ⟨by go_num, by simpa using hstep.out⟩
      case measure => simp [intOf]
    · have HR := hid hr
      clear hr
      go_wp2
      go_ret
      exact ⟨_, rfl, HR.out⟩

theorem IsOps.kept0 {w w' : World} {a : Option Addr} {ops : List OpR} (h : IsOps w a ops) (hk : Kept [] w w') : IsOps w' a ops :=
  ⟨h.1, fun x hx i o ho => by
    obtain ⟨c0, c1, c2, c3, hs, hn, hl⟩ := h.2 x hx i o ho
    exact ⟨(hk.cell (World.block_lt_of_cell? w _ c0) (by simp)).trans c0, (hk.cell (World.block_lt_of_cell? w _ c1) (by simp)).trans c1, (hk.cell (World.block_lt_of_cell? w _ c2) (by simp)).trans c2,
      (hk.cell (World.block_lt_of_cell? w _ c3) (by simp)).trans c3, hs.kept hk (by simp), hn, hl⟩⟩

/-- The reading of the law: own is the code's, b the document's. -/
theorem reads_decode (a aw ax : Option Addr) (c cw cx b0 pw po px pg : Nat) (bs : List UInt8) (ops : List OpR) (w0 w : World) (hk0 : Kept [] w0 w) (hops : IsOps w0 ax ops) (h40 : ops.length ≤ 40) (h300 : bs.length ≤ 300) (hrx : Rx w w0.heap.size a c bs)
    (hown : w.ownsRow b0 5 1 (.slice aw bs.length cw) bs.length (bs.map Go.Proofs.Ytignphegdigalaa.B)) (hb0 : w0.heap.size ≤ b0)
    (hgo : ∀ x, aw = some x → x.block ≠ pw ∧ x.block ≠ po ∧ x.block ≠ px ∧ x.block ≠ pg)
    (hpw : w.heap[pw]? = some (.cells #[.slice aw bs.length cw] 22 (0, 0))) (hpo : w.heap[po]? = some (.cells #[.slice ax ops.length cx] 23 (0, 0)))
    (hpx : w.heap[px]? = some (.cells #[.slice a bs.length c, .int .i64 0] 28 (0, 0))) (hpg : w.heap[pg]? = some (.cells #[.bool true] 4 (0, 0)))
    (hne : px ≠ pg ∧ pw ≠ px ∧ pw ≠ pg ∧ po ≠ px ∧ po ≠ pg) (hge : w0.heap.size ≤ px ∧ w0.heap.size ≤ pg) :
    Calls Try.prog 7 #[.slice aw bs.length cw, .func (.func 8) #[] #[.pointer (some ⟨pw, 0, none⟩), .pointer (some ⟨po, 0, none⟩), .pointer (some ⟨px, 0, none⟩), .pointer (some ⟨pg, 0, none⟩)]] w fun e w' =>
      ∃ (rest : List UInt8) (ab : Option Addr) (cb : Nat), e = .returned (.int .i64 (if rest ≠ [] then 22 else 0)) ∧ Kept [] w0 w' ∧ w'.heap[pg]? = some (.cells #[.bool true] 4 (0, 0)) ∧ w'.heap[px]? = some (.cells #[.slice ab rest.length cb, .int .i64 0] 28 (0, 0)) := by
  have lpx := lt_of_block hpx
  have lpg := lt_of_block hpg
  have lpw := lt_of_block hpw
  have lpo := lt_of_block hpo
  have hob : ∀ s ∈ (Value.slice aw bs.length cw).ownBlock.toList, w0.heap.size ≤ s ∧ s < w.heap.size := fun s hs => by
    cases aw with
    | none => simp [Value.ownBlock] at hs
    | some x =>
      simp [Value.ownBlock] at hs
      subst hs
      have := row_block hown x rfl
      omega
  have hSl : ∀ x ∈ px :: pg :: (Value.slice aw bs.length cw).ownBlock.toList, w0.heap.size ≤ x ∧ x < w.heap.size := fun x hx => by
    simp only [List.mem_cons] at hx
    rcases hx with h | h | h
    · omega
    · omega
    · exact hob x h
  refine (decode_any' 8 enters_reads1 _ (.slice aw bs.length cw) bs w (bys_of_row hown).1 (by omega) (px :: pg :: (Value.slice aw bs.length cw).ownBlock.toList) (fun x hx => (hSl x hx).2) (ReadsQ w0.heap.size px pg) (fun n rest W W' x hq hx _ hk => ?_) (fun rb a1 c1 W hkW hrb hab hrd => ?_)).mono ?_
  · obtain ⟨h1, h2, ab, cb, h3, h4⟩ := hq
    exact ⟨h1, hk.at h2 (by simp; omega), ab, cb, hk.at h3 (by simp; omega), h4.kept hk (fun s hs => by simp at hs; have := hk0.size; omega)⟩
  · have hs0 := hk0.size
    exact reads1 w0.heap.size b0 rb pw po px pg a1 aw ax a c1 cw cx c bs ops W hrd (hrx.kept hkW (by simp)) h40 h300 (hkW.at hpw (by simp)) (hkW.owns hown (by simp)) (hkW.at hpo (by simp))
      (fun wr T hT hTB => hops.kept0 ((hk0.trans hkW).trans' hT (fun x hx hm => by have := hTB x hm; omega))) (hkW.at hpx (by simp)) (hkW.at hpg (by simp)) ⟨hb0, by omega, hge.1, hge.2⟩
      ⟨by omega, by omega, hne.1, by omega, hne.2.1, hne.2.2.1, by omega, hne.2.2.2.1, hne.2.2.2.2⟩ (fun x hx => by have := hab x hx; omega)
      (fun x hx => by
        have h1 := hgo x hx
        have h2 := row_block hown x hx
        exact ⟨by omega, h1.2.2.2, h1.2.2.1, h1.1, h1.2.1, fun y hy => by have := hab y hy; omega⟩)
  · rintro e w' ⟨n, rest, he, hk, rfl, hg, ab, cb, hx, _⟩
    exact ⟨rest, ab, cb, by rw [he]; simp, hk0.trans' hk (fun x hx hm => by have := (hSl x hm).1; omega), hg, hx⟩

set_option maxRecDepth 100000 in
set_option maxHeartbeats 8000000 in
theorem codereads (a ax : Option Addr) (c cx : Nat) (bs : List UInt8) (ops : List OpR) (w : World) (hb : Rb w a c bs) (h : IsOps w ax ops) (hm : ops.length ≤ 9223372036854775807) :
    Calls Try.prog 3 #[.slice a bs.length c, .slice ax ops.length cx] w fun e w' => e = .returned (.bool true) ∧ Kept [] w w' := by
  have hmf : ∀ (fn : Fn) (first cap : Array Value) (w : World), (Instr.makeFunc fn first cap).run Try.prog w = .ok (.func fn first cap) w := fun _ _ _ _ => rfl
  have hble := hb.le
  have hbmx := hb.max
  have hrx := hid (Rx.make hb)
  obtain ⟨W0, hW0⟩ : ∃ W0, W0 = w.alloc (.cells #[.slice ax ops.length cx] 23) := ⟨_, rfl⟩
  have hk0 := hid (show Kept [] w W0 from hW0 ▸ (Kept.refl [] w).alloc _)
  have hpo0 := hid (show W0.heap[w.heap.size]? = some (.cells #[.slice ax ops.length cx] 23 (0, 0)) from hW0 ▸ heap_alloc_at rfl)
  have H := hid h
  have HW0 := hid hW0
  clear h hW0 hb
  obtain ⟨n, hn⟩ : ∃ n, n = bs.length := ⟨_, rfl⟩
  have HN := hid hn
  rw [← hn] at hble ⊢
  clear hn
  go_enter Try.func3, Try.ntmps3
  go_wp2_with fail
  rw [← HW0.out]
  refine (alive02 _).mono ?_
  rintro e w1 ⟨rfl, hk1⟩
  have Hk1 := hid (hk0.out.trans hk1)
  have hpo1 := hid (hk1.at hpo0.out (by simp))
  have gpo1 := cell_of_one hpo1.out
  clear hk1
  by_cases h300 : 300 < n
  · have hd1 : (300 : Int) < (n : Int) := by omega
    go_wp2
    go_ret
    exact ⟨rfl, Hk1.out⟩
  have hd1 : ¬ (300 : Int) < (n : Int) := by omega
  by_cases h40 : 40 < ops.length
  · have hd2 : (40 : Int) < (ops.length : Int) := by omega
    go_wp2
    go_ret
    exact ⟨rfl, Hk1.out⟩
  have hd2 : ¬ (40 : Int) < (ops.length : Int) := by omega
  obtain ⟨w2, hw2⟩ : ∃ w2, w2 = w1.alloc (.cells #[.slice a n c] 22) := ⟨_, rfl⟩
  have hk2 := hid (show Kept [] w w2 from hw2 ▸ Hk1.out.alloc _)
  have hp2 := hid (show w2.heap[w1.heap.size]? = some (.cells #[.slice a n c] 22 (0, 0)) from hw2 ▸ heap_alloc_at rfl)
  have hpo2 := hid (show w2.heap[w.heap.size]? = some (.cells #[.slice ax ops.length cx] 23 (0, 0)) from hw2 ▸ heap_alloc_old hpo1.out)
  have hjoin := hid (join1_any w1.heap.size (.slice a n c) bs w2 hp2.out (HN.out ▸ (hrx.out.1.kept hk2.out (by simp)).bys) (by have := HN.out; omega))
  have HW2 := hid hw2
  clear hw2
  go_wp2_with fail
  rw [← HW2.out]
  refine hjoin.out.mono ?_
  rintro e w3 ⟨v, rfl, hj⟩
  obtain ⟨aw, cw, rfl⟩ := owns_slice hj.2.2.2
  have HJ := hid hj
  clear hj hjoin gpo1
  rw [← HN.out]
  obtain ⟨w6, hw6⟩ : ∃ w6, w6 = ((w3.alloc (.cells #[.slice aw n cw] 22)).alloc (.cells #[.slice a n c, .int .i64 0] 28)).alloc (.cells #[.bool true] 4) := ⟨_, rfl⟩
  have HW6 := hid hw6
  have hk36 := hid (show Kept [] w3 w6 from hw6 ▸ (((Kept.refl [] w3).alloc _).alloc _).alloc _)
  have hpw6 := hid (show w6.heap[w3.heap.size]? = some (.cells #[.slice aw n cw] 22 (0, 0)) from hw6 ▸ heap_alloc_old (heap_alloc_old (heap_alloc_at rfl)))
  have hpx6 := hid (show w6.heap[w3.heap.size + 1]? = some (.cells #[.slice a n c, .int .i64 0] 28 (0, 0)) from hw6 ▸ heap_alloc_old (heap_alloc_at (by simp)))
  have hpg6 := hid (show w6.heap[w3.heap.size + 2]? = some (.cells #[.bool true] 4 (0, 0)) from hw6 ▸ heap_alloc_at (by simp))
  have hk23 := HJ.out.1
  have lpo := lt_of_block hpo2.out
  have s2 := hk2.out.size
  have s23 := hk23.size
  have hk6 := hid (show Kept [] w w6 from (hk2.out.trans hk23).trans hk36.out)
  have hdec := hid (reads_decode a aw ax c cw cx w2.heap.size w3.heap.size w.heap.size (w3.heap.size + 1) (w3.heap.size + 2) bs ops w w6 hk6.out H.out (by omega) (by have := HN.out; omega) (hrx.out.kept hk6.out (by simp)) (hk36.out.owns HJ.out.2.2.2 (by simp)) s2
    (fun x hx => by have := row_block HJ.out.2.2.2 x hx; omega) (HN.out ▸ hpw6.out) (hk36.out.at (hk23.at hpo2.out (by simp)) (by simp)) (HN.out ▸ hpx6.out) hpg6.out (by omega) (by omega))
  rw [← HN.out] at hdec
  clear hw6 hk23 hd1 hd2
  go_wp2_with fail
  rw [← HW6.out]
  refine hdec.out.mono ?_
  clear hdec
  rintro e w7 ⟨rest, ab, cb, rfl, hk7, hg7, hx7⟩
  have HK7 := hid hk7
  have g7 := cell_of_one hg7
  have x0 := cell_of_row _ _ 0 _ _ _ hx7
  have x1 := cell_of_row _ _ 1 _ _ _ hx7
  have hend := hid (refend_any ab cb rest.length w7)
  clear hk7 hg7 hx7
  have hrr : (if rest ≠ [] then (22 : Int) else 0) = (if 0 < rest.length then 22 else 0) := by cases rest <;> simp
  rw [hrr]
  clear hrr
  obtain ⟨q, hq⟩ : ∃ q : Int, q = (if 0 < rest.length then 22 else 0) := ⟨_, rfl⟩
  rw [← hq] at hend ⊢
  clear hq
  generalize rest.length = rl at *
  go_wp2_with fail
  refine hend.out.mono ?_
  rintro e w8 ⟨rfl, hk8⟩
  have HK8 := hid (HK7.out.trans hk8)
  clear hk8 hend
  go_wp2
  go_ret
  exact ⟨by simp, HK8.out⟩
end Go.Proofs.Ytignphegdigalaa
