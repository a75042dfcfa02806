/- coldstorelaw09.all: up to so many chunks. -/
import Derived.Test.YtllcfffpagogbaaDoorQ6
namespace Go.Proofs.YtllcfffpagogbaaDoor
open Go.RowKit Go.Lib
attribute [local go_sem] Oper.semAt_some

theorem wpListIn_append_src {F : Fence} {n : Nat} {P : Program} (w : World) {ops : Array Oper} {rest : List Oper} {o : Oper} {a : Act} {Q : Exit → Act → World → Prop} (hgd : o.guard = none) (s x : Operand) (t : TypeId)
    (ho : o.op = .call { callee := .builtin .append, args := #[s, x], argTypes := #[t, t] }) (base : Nat) (e : TypeId) (i : TypeInfo) (z : Value) (bytes : Nat) (ht : P.underlying t = some (.slice e)) (hi : P.info? e = some i) (hz : i.zero = some z)
    (hsize : i.size = 1) (hby : i.bytes = bytes) (hzs : z.cells.size = 1) (v : Value) (k : Nat) (xs : List Value) (hs : a.eval s = v) (hown : w.ownsRow base e 1 v k xs)
    (sv : Value) (m : Nat) (news : List Value) (hx : a.eval x = sv) (hsrc : Src w sv m news) (hl : news.length = m) (h1 : ∀ u ∈ news, u.oneCell' = true)
    (h63 : k + m ≤ maxLen) (hbytes : (k + m) * bytes ≤ 140737488355328) (hbase : base ≤ w.heap.size)
    (h : ∀ v' w', w'.ownsRow base e 1 v' (k + m) (xs ++ news) → w.grownBy w' v.ownBlock → (∀ g, v'.ownBlock = some g → v.ownBlock = some g ∨ w.heap.size ≤ g) → wpListIn F n P ops Q rest (a.put o.dst v') w') :
    wpListIn F n P ops Q (o :: rest) a w := by
  obtain ⟨v', w', hr, h2, h3, _, h5⟩ := run_append_src (P := P) w t o.type base e i z bytes ht hi hz hsize hby hzs v k xs hown sv m news hsrc hl h1 h63 hbytes hbase
  refine wpListIn_plain hgd fun K hK => ?_
  unfold Oper.wpIn
  constructor
  · simp [Oper.about, ho, resolve, Target.leads, Sem.run_pure]
  · rw [Oper.semAt_plain F _ _ (by rw [ho]; intro c hc; cases hc)]
    simp [execOp, ho, resolve, invoke, builtin, hs, hx, hr, Result.andThen]
    exact hK _ _ (h v' w' h2 h3 h5)

/-- A row of pieces stands in no piece's block. -/
theorem row_ne' {w : World} {base : Nat} {v : Value} {pre : List Piece} (hrow : w.ownsRow base 25 1 v pre.length (pre.map pval)) {x : Piece} (hs : Sl w x.a x.c x.ys) (hne : x.ys ≠ []) {y : Addr} (hv : pre = [] → ∀ g, v.ownBlock = some g → g ≠ y.block) (hy : x.a = some y) (ho : y.off = 0 ∧ y.spot = none) : y.block ∉ v.ownBlock.toList := by
  intro hm
  simp at hm
  obtain ⟨ybk, yoff, yspot⟩ := y
  obtain ⟨h1, h2⟩ := ho
  dsimp only at h1 h2 hm hv
  subst h1; subst h2
  cases pre with
  | nil => exact hv rfl _ hm rfl
  | cons z pre =>
    have hc := hrow.cells hm 0 (pval z) (by simp)
    obtain ⟨b, r, hbr⟩ := List.exists_cons_of_ne_nil hne
    have hd := hs.reads.2 _ hy 0 (B b) (by rw [hbr]; rfl)
    rw [hc] at hd
    simp [pval, B] at hd

theorem lenP_flat (xs : List Piece) : lenP xs = ((xs.map (·.ys)).flatten).length := by
  unfold lenP; rw [List.length_flatten, List.map_map]; rfl
theorem lenP_le {P : Chunk.Par} {T : UInt8 → Roll.W} {ys : List UInt8} {xs : List Piece} (h : xs.map (·.ys) <+: spl P T ys) : lenP xs ≤ ys.length := by
  obtain ⟨r, hr⟩ := h
  have h1 := congrArg List.flatten hr
  have h2 : (spl P T ys).flatten = ys := Chunk.split_join _ ys (Nat.le_refl _)
  rw [List.flatten_append, h2] at h1
  rw [lenP_flat, ← h1]; simp
/-- The call's own variables: s is the first block. -/
structure AllB (s : Nat) (v : Value) (n : Nat) (most : Nat) (W : World) : Prop where
  most : W.heap[s]? = some (.cells #[.int .i64 (most : Int)] 3 (0, 0))
  res : W.heap[s + 1]? = some (.cells #[.slice none 0 0] 33 (0, 0))
  ok : W.heap[s + 2]? = some (.cells #[.bool false] 4 (0, 0))
  out : W.heap[s + 4]? = some (.cells #[v] 33 (0, 0))
  fin : W.heap[s + 5]? = some (.cells #[.int .i64 (n : Int)] 3 (0, 0))
theorem AllB.kept {S : List Nat} {s n most : Nat} {v : Value} {W W' : World} (h : AllB s v n most W) (hk : Kept S W W') (hS : ∀ k, s ≤ k → k ≤ s + 5 → k ≠ s + 3 → k ∉ S) : AllB s v n most W' :=
  ⟨hk.at h.most (hS _ (by omega) (by omega) (by omega)), hk.at h.res (hS _ (by omega) (by omega) (by omega)), hk.at h.ok (hS _ (by omega) (by omega) (by omega)), hk.at h.out (hS _ (by omega) (by omega) (by omega)), hk.at h.fin (hS _ (by omega) (by omega) (by omega))⟩
structure AllI (w : World) (D most : Nat) (v : Value) (pre : List Piece) (W : World) : Prop where
  row : W.ownsRow w.heap.size 25 1 v pre.length (pre.map pval)
  ps : PiecesAt W (D + 3) pre
  kept : Kept [] w W
  own : ∀ g, v.ownBlock = some g → g = w.heap.size + 3 ∨ D + 2 < g
  own0 : pre = [] → ∀ g, v.ownBlock = some g → g = w.heap.size + 3
theorem AllI.keep {S : List Nat} {w : World} {D most : Nat} {v : Value} {pre : List Piece} {W W' : World} (h : AllI w D most v pre W) (hk : Kept S W W') (hS : ∀ k ∈ S, k ≠ w.heap.size + 3 ∧ w.heap.size ≤ k ∧ k ≤ D + 2) : AllI w D most v pre W' :=
  ⟨hk.owns h.row (fun g hg hm => by rcases h.own g hg with e | e <;> have := hS g hm <;> omega), h.ps.kept hk (fun k hb hl hm => by have := hS k hm; omega), h.kept.trans' hk (fun k hl hm => by have := hS k hm; omega), h.own, h.own0⟩

set_option maxRecDepth 100000 in
set_option maxHeartbeats 2000000 in
theorem all09 (c : Nat) (P : Chunk.Par) (seed : Int) (g : Nat) (T : UInt8 → Roll.W) (a : Option Addr) (cap : Nat) (ys : List UInt8) (most : Nat) (w : World) (h : Ch w c P seed g T) (hs : Sl w a cap ys) (hl : ys.length ≤ 100000000) (hm1 : 1 ≤ most) (hm2 : most ≤ 1000000) :
    Calls Tryd.prog 15 #[.pointer (some ⟨c, 0, none⟩), .slice a ys.length cap, .int .i64 (most : Int)] w fun e w' => ∃ v xs, e = .returned (.tuple #[v, .bool true]) ∧ Kept [] w w' ∧ xs.map (·.ys) = (spl P T ys).take most ∧ w'.ownsRow w.heap.size 25 1 v xs.length (xs.map pval) ∧ PiecesAt w' w.heap.size xs := by
  have h0 : ¬ ((most : Int) ≤ 0) := by omega
  have hall := hid (fun (W : World) (k : Kept [] w W) => all_any c a cap ys W (hs.kept k (by simp)) hl)
  have hch := hid h
  have hcw := hid (show c < w.heap.size ∧ g < w.heap.size ∧ 1 < w.heap.size from ⟨lt_of_block h.here, h.tb.lt, h.db.pos⟩)
  clear h hs
  refine (callsIn_wide (n := 4)).1 ?_
  refine callsIn_of_wp_marks Tryd.func15 rfl trivial ?_ rfl
  simp only [Tryd.ntmps15, List.size_toArray, List.length_cons, List.length_nil, Nat.reduceAdd, Nat.reduceSub, Array.replicate_succ, Array.replicate_zero, List.push_toArray, List.append_toArray, List.nil_append, List.cons_append]
  gi_wp2_with (refine ⟨trivial, ?_⟩; gi_at_call 34; refine (callsIn_wide.2 (hall.out _ (((((((Kept.refl [] w).alloc _).alloc _).alloc _).alloc _).alloc _).alloc _))).mono ?_; rintro e w1 ⟨b1, b2, a1, c1, rfl, k1, s1, x1, hb1, hb2, h1, h2⟩)
  obtain ⟨W0, hW0⟩ : ∃ W0, W0 = ((((((w.alloc (.cells #[.int .i64 (most : Int)] 3)).alloc (.cells #[.slice none 0 0] 33)).alloc (.cells #[.bool false] 4)).alloc (.cells #[] 25)).alloc (.cells #[.slice (some ⟨w.heap.size + 1 + 1 + 1, 0, none⟩) 0 0] 33)).alloc (.cells #[.int .i64 0] 3)) := ⟨_, rfl⟩
  have k00 : Kept [] w W0 := hW0 ▸ (((((((Kept.refl [] w).alloc _).alloc _).alloc _).alloc _).alloc _).alloc _)
  have hB0 : AllB w.heap.size (.slice (some ⟨w.heap.size + 3, 0, none⟩) 0 0) 0 most W0 := by
    rw [hW0]
    refine ⟨?_, ?_, ?_, ?_, ?_⟩
    · exact heap_alloc_old (heap_alloc_old (heap_alloc_old (heap_alloc_old (heap_alloc_old (heap_alloc_at rfl)))))
    · exact heap_alloc_old (heap_alloc_old (heap_alloc_old (heap_alloc_old (heap_alloc_at (by simp)))))
    · exact heap_alloc_old (heap_alloc_old (heap_alloc_old (heap_alloc_at (by simp))))
    · exact heap_alloc_old (heap_alloc_at (by simp))
    · exact heap_alloc_at (by simp)
  have hr0 : W0.heap[w.heap.size + 3]? = some (.cells #[] 25 (0, 0)) := by
    rw [hW0]; exact heap_alloc_old (heap_alloc_old (heap_alloc_at (by simp)))
  have hs0 : W0.heap.size = w.heap.size + 6 := by rw [hW0]; simp
  rw [← hW0] at k1 x1 hb1 hb2
  rw [show w.heap.size + 1 + 1 + 1 = w.heap.size + 3 by omega]
  clear hW0 hall
  rw [hs0] at x1 hb1 hb2
  have hk01 := hid (k00.trans k1)
  have hB1 := hid (hB0.kept k1 (fun _ _ _ _ => by simp))
  have hr1 := hid (k1.at hr0 (by simp))
  have hit := hid (show ItAt w1 c P seed g T b1 b2 a1 c1 ys from ⟨hch.out.kept hk01.out (by simp) (by simp) (by simp), s1, h1, h2⟩)
  have hneed := hid (show ∀ k, Needs c g b1 b2 a1 k → k < w1.heap.size ∧ (k < w.heap.size ∨ w.heap.size + 6 ≤ k) from by
    have hz := hcw.out; have := k1.size
    rintro k (rfl | rfl | rfl | rfl | rfl | ⟨x, hx, rfl⟩)
    · omega
    · omega
    · omega
    · exact ⟨lt_of_block h1, by omega⟩
    · exact ⟨lt_of_block h2, by omega⟩
    · have := x1 x hx; omega)
  have hax := hid (show ∀ x, a1 = some x → x.block < w1.heap.size ∧ x.off = 0 ∧ x.spot = none from fun x hx => (x1 x hx).2)
  have hw1 : w.heap.size + 6 ≤ w1.heap.size := by have := k1.size; omega
  clear k1 s1 x1 hb1 hb2 h1 h2 hch k00 hB0 hr0 hs0
  obtain ⟨i0, hi0, hz0, hz1, hz2⟩ := info_parts qinfoB
  refine range_w rfl (by omega) (gf := 55) (lb := #[.pointer (some ⟨b1, 0, none⟩), .pointer (some ⟨b2, 0, none⟩)]) rfl trivial (enters_of Tryd.func55 (by kernel_rfl) rfl)
    (chunks_seq (4 - 1) (by omega) c P seed g T b1 b2 a1 c1 ys w1 hit.out hax.out hl) (fun k hk => (hneed.out k hk).1) (fun _ => rfl) (fun x A B hf hk => hf.kept hk (fun k hk => by simp; omega))
    (fun pre W => pre.length < most ∧ ∃ v, AllB w.heap.size v (lenP pre) most W ∧ AllI w w1.heap.size most v pre W)
    (fun pre W => pre.length = most ∧ ∃ v, W.heap[w.heap.size + 1]? = some (.cells #[v] 33 (0, 0)) ∧ W.heap[w.heap.size + 2]? = some (.cells #[.bool true] 4 (0, 0)) ∧ AllI w w1.heap.size most v pre W) ?hI ?hIx ?h0
    (fun x => { tmps := #[.pointer (some ⟨c, 0, none⟩), .slice a ys.length cap, .int .i64 (most : Int), undef, undef, .pointer (some ⟨w.heap.size, 0, none⟩), .pointer (some ⟨w.heap.size + 1, 0, none⟩), .pointer (some ⟨w.heap.size + 1 + 1, 0, none⟩), .pointer (some ⟨w.heap.size + 1 + 1 + 1 + 1, 0, none⟩), .pointer (some ⟨w.heap.size + 1 + 1 + 1 + 1 + 1, 0, none⟩), .int .i64 (x.pos : Int), .slice x.a x.ys.length x.c, .slice (some ⟨w.heap.size + 3, 0, none⟩) 0 0, .int .i64 (most : Int), .bool false, undef, .pointer (some ⟨c, 0, none⟩), .slice a ys.length cap, .func (.func 55) #[] #[.pointer (some ⟨b1, 0, none⟩), .pointer (some ⟨b2, 0, none⟩)], .int .i64 (x.pos : Int), .slice x.a x.ys.length x.c, undef, undef, undef, undef, undef, undef, undef, undef, undef, undef, undef, undef, undef, undef, undef, undef, undef], defers := [] }) ?assign ?body ?fs ?done ?stop
  case hI =>
    rintro s A B ⟨hlt, v, hb, hi⟩ hkk
    exact ⟨hlt, v, hb.kept hkk (fun k _ _ _ => by simp; omega), hi.keep hkk (fun k hk => by simp at hk; omega)⟩
  case hIx =>
    rintro s A B ⟨hlt, v, hb1, hb2, hi⟩ hkk
    exact ⟨hlt, v, hkk.at hb1 (by simp; omega), hkk.at hb2 (by simp; omega), hi.keep hkk (fun k hk => by simp at hk; omega)⟩
  case h0 =>
    refine ⟨by show 0 < most; omega, _, hB1.out, ⟨⟨by simp, Or.inr ⟨w.heap.size + 3, 0, #[], rfl, by omega, hr1.out, by simp, by unfold maxLen; omega, by simp, by simp⟩⟩, fun x hx => by simp at hx, hk01.out, fun g hg => ?_, fun _ g hg => ?_⟩⟩
    · simp [Value.ownBlock] at hg; omega
    · simp [Value.ownBlock] at hg; omega
  case assign =>
    intro l x W K hK
    gi_wp2
    exact hK
  case body =>
    rintro l pre x W ⟨hlt, v, hB, hi⟩ hft hzp hsz
    have hpos : x.pos = lenP pre := by have := hzp.2 pre.length x (by simp); simpa using this
    have hlen : pre.length + 1 ≤ 100000000 := by
      obtain ⟨r, hr⟩ := hzp.1
      have h1 := congrArg List.length hr
      have h2 := split_le P T ys
      simp at h1
      omega
    have hll := lenP_le hzp.1
    rw [lenP_snoc] at hll
    rw [hpos]
    obtain ⟨m, hm⟩ : ∃ m, m = lenP pre := ⟨_, rfl⟩
    rw [← hm] at hB hll ⊢
    have cf : W.cell? ⟨w.heap.size + 1 + 1 + 1 + 1 + 1, 0, none⟩ = some (.int .i64 (m : Int)) := cell_of_one hB.fin
    have cW : W.cell? ⟨w.heap.size + 1 + 1 + 1 + 1, 0, none⟩ = some v := cell_of_one hB.out
    have ff : W.frozen? ⟨w.heap.size + 1 + 1 + 1 + 1 + 1, 0, none⟩ = false := free_of_one hB.fin
    obtain ⟨Wa, hWa⟩ : ∃ Wa, Wa = W.setCell ⟨w.heap.size + 1 + 1 + 1 + 1 + 1, 0, none⟩ (.int .i64 ((m : Int) + (x.ys.length : Int))) := ⟨_, rfl⟩
    have hka : Kept [w.heap.size + 5] W Wa := hWa ▸ (Kept.refl _ _).setCell (p := ⟨w.heap.size + 5, 0, none⟩) (fun _ => by simp) _
    have hWs : Wa.heap.size = W.heap.size := by rw [hWa]; simp
    have hBa : AllB w.heap.size v (m + x.ys.length) most Wa := ⟨hka.at hB.most (by simp), hka.at hB.res (by simp), hka.at hB.ok (by simp), hka.at hB.out (by simp), by rw [hWa]; exact one_setCell hB.fin⟩
    have hia := hi.keep hka (fun k hk => by simp at hk; omega)
    have hfa := hft.kept hka (fun k hk => by simp; omega)
    have hsa : w1.heap.size + 2 < Wa.heap.size := by have := hka.size; omega
    have hno := hid (show ∀ k, w.heap.size ≤ k → k ≤ w1.heap.size + 2 → k ≠ w.heap.size + 3 → k ∉ v.ownBlock.toList from fun k h1 h2 h3 hm => by simp at hm; rcases hia.own k hm with e | e <;> omega)
    have hno2 := hid (show ∀ k, k < w.heap.size → k ∉ v.ownBlock.toList from fun k h1 hm => by simp at hm; rcases hia.own k hm with e | e <;> omega)
    have hpn := hid (fun (z : Piece) (hz : z ∈ pre) (y : Addr) (hy : z.a = some y) => row_ne' hia.row (hia.ps z hz).1 (hia.ps z hz).2.1 (fun e => absurd hz (by rw [e]; simp)) hy ((hia.ps z hz).2.2 y hy).2.2)
    have hxn := hid (fun (y : Addr) (hy : x.a = some y) => row_ne' hia.row hfa.sl hfa.ne (fun e g' hg => by have := hia.own0 e g' hg; have := (hfa.at_ y hy).1; omega) hy (hfa.at_ y hy).2.2)
    have ca : Wa.cell? ⟨w.heap.size + 1 + 1 + 1 + 1, 0, none⟩ = some v := cell_of_one hBa.out
    have hrow := hia.row
    have HKa := hid hka
    have HBa := hid hBa; have Hia := hid hia; have Hfa := hid hfa; have Hm := hid hm; have Hl := hid hlt
    obtain ⟨q, hq⟩ : ∃ q, ((pre.length : Int) + 1 == (most : Int)) = q := ⟨_, rfl⟩
    have hQ := hid hq
    clear hB hi hft hzp hpos hka hBa hia hfa hm hlt
    have hmm : ((m : Int) != (m : Int)) = false := by simp
    cases q <;> gi_wp2_with (first | (gi_at_builtin; rw [← hWa, ← hWs]; refine wpListIn_append_src _ rfl _ _ _ rfl w.heap.size 25 i0 _ 24 Tryd.underlying33 hi0 hz0 hz1 hz2 rfl v pre.length (pre.map pval) rfl (hrow.alloc _) (.slice (some ⟨Wa.heap.size, 0, none⟩) 1 1) 1 [pval x] rfl (Or.inr ⟨_, _, rfl, cell_one_new _ _ _⟩) rfl (by simp [Value.oneCell']) (by unfold maxLen; omega) (by omega) (by simp; omega) ?_; intro v' w2 hown' hgrow hfr; obtain ⟨a2, c2, rfl⟩ := qslice hown'; have hkg := hid (show Kept v.ownBlock.toList Wa w2 from ((Kept.refl _ Wa).alloc (.cells #[pval x] 25)).trans (Kept.of_row hgrow)); have hB2 := hid (HBa.out.kept hkg.out (fun k h1 h2 h3 => hno.out k h1 (by omega) h3)); have hfr2 := hid hfr; have hown2 := hid hown'; have c4 : w2.cell? ⟨w.heap.size + 1 + 1 + 1 + 1, 0, none⟩ = some v := cell_of_one hB2.out.out; have f4 : w2.frozen? ⟨w.heap.size + 1 + 1 + 1 + 1, 0, none⟩ = false := free_of_one hB2.out.out; have c0 : w2.cell? ⟨w.heap.size, 0, none⟩ = some (.int .i64 (most : Int)) := cell_of_one hB2.out.most; have r1 : w2.cell? ⟨w.heap.size + 1, 0, none⟩ = some (.slice none 0 0) := cell_of_one hB2.out.res; have q1 : w2.frozen? ⟨w.heap.size + 1, 0, none⟩ = false := free_of_one hB2.out.res; have r2 : w2.cell? ⟨w.heap.size + 1 + 1, 0, none⟩ = some (.bool false) := cell_of_one hB2.out.ok; have q2 : w2.frozen? ⟨w.heap.size + 1 + 1, 0, none⟩ = false := free_of_one hB2.out.ok; clear hown' hgrow hfr))
    all_goals
      have hAI2 : AllI w w1.heap.size most (.slice a2 (pre.length + 1) c2) (pre ++ [x]) w2 := by
        have hz2 := hkg.out.size
        refine ⟨by simpa using hown2.out, fun z hz => ?_, Hia.out.kept.trans' hkg.out (fun k hl hm => absurd hm (hno2.out k hl)), fun g' hg => ?_, fun e => by simp at e⟩
        · rcases List.mem_append.1 hz with hz | hz
          · obtain ⟨e1, e2, e3⟩ := Hia.out.ps z hz
            exact ⟨e1.kept hkg.out (fun y hy => hpn.out z hz y hy), e2, fun y hy => by have := e3 y hy; exact ⟨by omega, by omega, this.2.2⟩⟩
          · rw [List.mem_singleton] at hz
            subst hz
            exact ⟨Hfa.out.sl.kept hkg.out (fun y hy => hxn.out y hy), Hfa.out.ne, fun y hy => by have := Hfa.out.at_ y hy; exact ⟨by omega, by omega, this.2.2⟩⟩
        · rcases hfr2.out g' hg with e | e
          · exact Hia.out.own g' e
          · simp at e; right; omega
      have hkeep2 : Keep (fun k => Needs c g b1 b2 a1 k ∨ k = w1.heap.size ∨ k = w1.heap.size + 1 ∨ k = w1.heap.size + 2) W w2 := by
        refine Keep.trans (HKa.out.keep fun k _ hk => ?_) (hkg.out.keep fun k _ hk => ?_)
        · rcases hk with h | h
          · have := (hneed.out k h).2; simp; omega
          · simp; omega
        · rcases hk with h | h
          · obtain ⟨h1, h2⟩ := hneed.out k h
            rcases h2 with h2 | h2
            · exact hno2.out k h2
            · exact hno.out k (by omega) (by omega) (by omega)
          · exact hno.out k (by omega) (by omega) (by omega)
    · have hk3 : Kept [w.heap.size + 4] w2 (w2.setCell ⟨w.heap.size + 1 + 1 + 1 + 1, 0, none⟩ (.slice a2 (pre.length + 1) c2)) := (Kept.refl _ _).setCell (p := ⟨w.heap.size + 4, 0, none⟩) (fun _ => by simp) _
      refine ⟨hkeep2.trans (hk3.keep fun k _ hk => ?_), ?_, _, ⟨hk3.at hB2.out.most (by simp), hk3.at hB2.out.res (by simp), hk3.at hB2.out.ok (by simp), one_setCell hB2.out.out, ?_⟩, hAI2.keep hk3 (fun k hk => by simp at hk; omega)⟩
      · rcases hk with h | h
        · have := (hneed.out k h).2; simp; omega
        · simp; omega
      · have h1 := hQ.out; have h2 := Hl.out
        simp at h1
        simp; omega
      · rw [lenP_snoc, ← Hm.out]
        exact hk3.at hB2.out.fin (by simp)
    · have h1 := hQ.out
      simp at h1
      obtain ⟨w3, hw3⟩ : ∃ w3, w3 = w2.setCell ⟨w.heap.size + 1 + 1 + 1 + 1, 0, none⟩ (.slice a2 (pre.length + 1) c2) := ⟨_, rfl⟩
      have hk3 : Kept [w.heap.size + 4] w2 w3 := hw3 ▸ (Kept.refl _ _).setCell (p := ⟨w.heap.size + 4, 0, none⟩) (fun _ => by simp) _
      rw [← hw3]
      have hres := hk3.at hB2.out.res (by simp)
      have hok := hk3.at hB2.out.ok (by simp)
      have hk4 : Kept [w.heap.size + 1, w.heap.size + 2] w3 ((w3.setCell ⟨w.heap.size + 1, 0, none⟩ (.slice a2 (pre.length + 1) c2)).setCell ⟨w.heap.size + 1 + 1, 0, none⟩ (.bool true)) :=
        ((Kept.refl _ w3).setCell (p := ⟨w.heap.size + 1, 0, none⟩) (fun _ => by simp) _).setCell (p := ⟨w.heap.size + 1 + 1, 0, none⟩) (fun _ => by simp) _
      refine ⟨(hkeep2.trans (hk3.keep fun k _ hk => ?_)).less (fun k _ hk => by rcases hk with h | h <;> simp [h]) |>.trans (hk4.keep fun k _ hk => ?_), by simp; omega, _, ?_, ?_, (hAI2.keep hk3 (fun k hk => by simp at hk; omega)).keep hk4 (fun k hk => by simp at hk; omega)⟩
      · rcases hk with h | h
        · have := (hneed.out k h).2; simp; omega
        · simp; omega
      · rcases hk with h | h <;> (simp; omega)
      · exact heap_setCell_other (one_setCell hres) (by simp)
      · exact one_setCell (heap_setCell_other hok (by simp))
  case fs => exact fun x A hf => hf.size
  case done =>
    rintro xs W hZ ⟨hlt, v, hB, hi⟩ hK
    have cv : W.cell? ⟨w.heap.size + 1 + 1 + 1 + 1, 0, none⟩ = some v := cell_of_one hB.out
    have r1 : W.cell? ⟨w.heap.size + 1, 0, none⟩ = some (.slice none 0 0) := cell_of_one hB.res
    have q1 : W.frozen? ⟨w.heap.size + 1, 0, none⟩ = false := free_of_one hB.res
    have r2 : W.cell? ⟨w.heap.size + 1 + 1, 0, none⟩ = some (.bool false) := cell_of_one hB.ok
    have q2 : W.frozen? ⟨w.heap.size + 1 + 1, 0, none⟩ = false := free_of_one hB.ok
    obtain ⟨a9, c9, rfl⟩ := qslice hi.row
    have HB := hid hB; have Hi := hid hi; have HZ := hid hZ; have Hlt := hid hlt
    clear hB hi hZ hlt
    gi_wp2
    have hk4 : Kept [w.heap.size + 1, w.heap.size + 2] W ((W.setCell ⟨w.heap.size + 1, 0, none⟩ (.slice a9 xs.length c9)).setCell ⟨w.heap.size + 1 + 1, 0, none⟩ (.bool true)) :=
      ((Kept.refl _ W).setCell (p := ⟨w.heap.size + 1, 0, none⟩) (fun _ => by simp) _).setCell (p := ⟨w.heap.size + 1 + 1, 0, none⟩) (fun _ => by simp) _
    have hK2 := hk4.at hK (by simp; omega)
    refine ⟨by simp, .inl ⟨_, _, rfl, run_takeDeferred hK2, ?_⟩⟩
    have e1 : ((W.setCell ⟨w.heap.size + 1, 0, none⟩ (.slice a9 xs.length c9)).setCell ⟨w.heap.size + 1 + 1, 0, none⟩ (.bool true)).heap[w.heap.size + 1]? = some (.cells #[.slice a9 xs.length c9] 33 (0, 0)) := heap_setCell_other (one_setCell HB.out.res) (by simp)
    have e2 : ((W.setCell ⟨w.heap.size + 1, 0, none⟩ (.slice a9 xs.length c9)).setCell ⟨w.heap.size + 1 + 1, 0, none⟩ (.bool true)).heap[w.heap.size + 2]? = some (.cells #[.bool true] 4 (0, 0)) := one_setCell (heap_setCell_other HB.out.ok (by simp))
    obtain ⟨w5, hw5⟩ : ∃ w5, w5 = ((W.setCell ⟨w.heap.size + 1, 0, none⟩ (.slice a9 xs.length c9)).setCell ⟨w.heap.size + 1 + 1, 0, none⟩ (.bool true)) := ⟨_, rfl⟩
    rw [← hw5] at hk4 e1 e2 ⊢
    have hkd := kept_putObj w5 w1.heap.size (.deferred none)
    have e3 := cell_of_one (hkd.at e1 (by simp; omega))
    have e4 : (w5.putObj w1.heap.size (.deferred none)).cell? ⟨w.heap.size + 1 + 1, 0, none⟩ = some (.bool true) := cell_of_one (hkd.at e2 (by simp; omega))
    have hfin := (Hi.out.keep hk4 (fun k hk => by simp at hk; omega)).keep hkd (fun k hk => by simp at hk; omega)
    refine ⟨.tuple #[.slice a9 xs.length c9, .bool true], ?_, _, xs, rfl, hfin.kept, ?_, hfin.row, ?_⟩
    · simp [results, Tryd.f15, go_sem, e3, e4]
    · rw [HZ.out.1, List.take_of_length_le]
      have := congrArg List.length HZ.out.1
      simp at this
      have := Hlt.out; omega
    · intro x hx
      obtain ⟨h1, h2, h3⟩ := hfin.ps x hx
      exact ⟨h1, h2, fun y hy => by have := h3 y hy; exact ⟨by omega, this.2⟩⟩
  case stop =>
    rintro pre W hZp ⟨hlt, v, e1, e2, hi⟩ hK
    obtain ⟨a9, c9, rfl⟩ := qslice hi.row
    have Hi := hid hi; have HZ := hid hZp; have Hlt := hid hlt
    clear hi hZp hlt
    gi_wp2
    refine ⟨by simp, .inl ⟨_, _, rfl, run_takeDeferred hK, ?_⟩⟩
    have hkd := kept_putObj W w1.heap.size (.deferred none)
    have e3 := cell_of_one (hkd.at e1 (by simp; omega))
    have e4 : (W.putObj w1.heap.size (.deferred none)).cell? ⟨w.heap.size + 1 + 1, 0, none⟩ = some (.bool true) := cell_of_one (hkd.at e2 (by simp; omega))
    have hfin := Hi.out.keep hkd (fun k hk => by simp at hk; omega)
    refine ⟨.tuple #[.slice a9 pre.length c9, .bool true], ?_, _, pre, rfl, hfin.kept, ?_, hfin.row, ?_⟩
    · simp [results, Tryd.f15, go_sem, e3, e4]
    · obtain ⟨r, hr⟩ := HZ.out.1
      rw [← hr, List.take_left' (by simpa using Hlt.out)]
    · intro x hx
      obtain ⟨h1, h2, h3⟩ := hfin.ps x hx
      exact ⟨h1, h2, fun y hy => by have := h3 y hy; exact ⟨by omega, this.2⟩⟩
end Go.Proofs.YtllcfffpagogbaaDoor
