/- A chunker's Split and First. -/
import Derived.Test.YtllcfffpagogbaaDoorQ4
namespace Go.Proofs.YtllcfffpagogbaaDoor
open Go.RowKit Go.Lib
attribute [local go_sem] Oper.semAt_some

theorem qown_ge {w' : World} {base b : Nat} {v : Value} {n : Nat} {xs : List Value} (h : w'.ownsRow base b 1 v n xs) : ∀ g, v.ownBlock = some g → base ≤ g ∧ g < w'.heap.size := by
  intro g hg
  rcases h.2 with ⟨rfl, _⟩ | ⟨g', cap, cur, rfl, hb, hh, _⟩
  · simp [Value.ownBlock] at hg
  · simp [Value.ownBlock] at hg
    subst hg
    exact ⟨hb, lt_of_block hh⟩
theorem qinfoB : (Tryd.prog.info? 25).map (fun i => (i.zero, i.size, i.bytes)) = some (some (.slice none 0 0), 1, 24) := by kernel_rfl

theorem chunks_seq (n : Nat) (hn : 1 ≤ n) (c : Nat) (P : Chunk.Par) (seed : Int) (g : Nat) (T : UInt8 → Roll.W) (b1 b2 : Nat) (a : Option Addr) (cap : Nat) (ys : List UInt8) (w : World) (h : ItAt w c P seed g T b1 b2 a cap ys) (hax : ∀ x, a = some x → x.block < w.heap.size ∧ x.off = 0 ∧ x.spot = none) (hl : ys.length ≤ 100000000) :
    SeqW Fence.wide n Tryd.prog 55 #[.pointer (some ⟨b1, 0, none⟩), .pointer (some ⟨b2, 0, none⟩)] pvals PFt (Needs c g b1 b2 a) (PZ P T ys) (PZp P T ys) w :=
  fun l J Jx W hW hJ _ hY h0 => chunks_in n hn l c P seed g T b1 b2 a cap ys W (h.keep ((Kept.of_below (S := []) hW).keep fun k _ _ => by simp)) (fun x hx => ⟨Nat.lt_of_lt_of_le (hax x hx).1 hW.size, (hax x hx).2⟩) hl J Jx hJ hY h0

abbrev pval (x : Piece) : Value := .slice x.a x.ys.length x.c
/-- Pieces that stand in blocks of their own from some block on. -/
def PiecesAt (w : World) (b : Nat) (xs : List Piece) : Prop := ∀ x ∈ xs, Sl w x.a x.c x.ys ∧ x.ys ≠ [] ∧ ∀ y, x.a = some y → b ≤ y.block ∧ y.block < w.heap.size ∧ y.off = 0 ∧ y.spot = none
theorem PiecesAt.kept {S : List Nat} {w w' : World} {b : Nat} {xs : List Piece} (h : PiecesAt w b xs) (hk : Kept S w w') (hS : ∀ k, b ≤ k → k < w.heap.size → k ∉ S) : PiecesAt w' b xs := fun x hx => by
  obtain ⟨h1, h2, h3⟩ := h x hx
  refine ⟨h1.kept hk (fun y hy => hS _ (h3 y hy).1 (h3 y hy).2.1), h2, fun y hy => ?_⟩
  have := h3 y hy; have := hk.size
  exact ⟨by omega, by omega, (h3 y hy).2.2⟩
theorem PFt.kept {S : List Nat} {w w' : World} {p : Nat} {x : Piece} (h : PFt p x w) (hk : Kept S w w') (hS : ∀ k, p < k → k ∉ S) : PFt p x w' :=
  ⟨h.sl.kept hk (fun y hy => hS _ (h.at_ y hy).1), h.ne, fun y hy => by have := h.at_ y hy; have := hk.size; exact ⟨by omega, by omega, (h.at_ y hy).2.2⟩, by have := h.size; have := hk.size; omega, fun y hy => (h.free y hy).kept hk (hS _ (h.at_ y hy).1)⟩
/-- Pieces that may be written over. -/
def PiecesFr (w : World) (xs : List Piece) : Prop := ∀ x ∈ xs, ∀ y, x.a = some y → Free w y.block
theorem split_le (P : Chunk.Par) (T : UInt8 → Roll.W) (ys : List UInt8) : (spl P T ys).length ≤ ys.length := Chunk.split_len _ ys (Nat.le_refl _)

theorem qbase {w : World} {base base' size n : Nat} {e : TypeId} {v : Value} {xs : List Value} (h : w.ownsRow base e size v n xs) (hb : base' ≤ base) : w.ownsRow base' e size v n xs := by
  refine ⟨h.1, ?_⟩
  rcases h.2 with h2 | ⟨g, cap, cur, h1, h2, h3⟩
  · exact .inl h2
  · exact .inr ⟨g, cap, cur, h1, by omega, h3⟩
/-- A row of pieces stands in no piece's block. -/
theorem row_ne {w : World} {base : Nat} {v : Value} {pre : List Piece} (hrow : w.ownsRow base 25 1 v pre.length (pre.map pval)) (hv : pre = [] → v = .slice none 0 0) {x : Piece} (hs : Sl w x.a x.c x.ys) (hne : x.ys ≠ []) {y : Addr} (hy : x.a = some y) (ho : y.off = 0 ∧ y.spot = none) : y.block ∉ v.ownBlock.toList := by
  intro hm
  simp at hm
  obtain ⟨ybk, yoff, yspot⟩ := y
  obtain ⟨h1, h2⟩ := ho
  dsimp only at h1 h2 hm
  subst h1; subst h2
  cases pre with
  | nil => rw [hv rfl] at hm; simp [Value.ownBlock] at hm
  | cons z pre =>
    have hc := hrow.cells hm 0 (pval z) (by simp)
    obtain ⟨b, r, hbr⟩ := List.exists_cons_of_ne_nil hne
    have hd := hs.reads.2 _ hy 0 (B b) (by rw [hbr]; rfl)
    rw [hc] at hd
    simp [pval, B] at hd
/-- What Split's loop keeps. -/
def SplI (w : World) (D : Nat) (pre : List Piece) (W : World) : Prop :=
  ∃ v, W.heap[w.heap.size]? = some (.cells #[v] 33 (0, 0)) ∧ W.ownsRow (D + 3) 25 1 v pre.length (pre.map pval) ∧ PiecesAt W (D + 3) pre ∧ Kept [] w W ∧ (pre = [] → v = .slice none 0 0) ∧ PiecesFr W pre

set_option maxRecDepth 100000 in
set_option maxHeartbeats 2000000 in
theorem split_full (c : Nat) (P : Chunk.Par) (seed : Int) (g : Nat) (T : UInt8 → Roll.W) (a : Option Addr) (cap : Nat) (ys : List UInt8) (w : World) (h : Ch w c P seed g T) (hs : Sl w a cap ys) (hl : ys.length ≤ 100000000) :
    Calls Tryd.prog 13 #[.pointer (some ⟨c, 0, none⟩), .slice a ys.length cap] w fun e w' => ∃ v xs, e = .returned v ∧ Kept [] w w' ∧ PZ P T ys xs ∧ w'.ownsRow w.heap.size 25 1 v xs.length (xs.map pval) ∧ PiecesAt w' w.heap.size xs ∧ PiecesFr w' xs := by
  have hall := hid (all_any c a cap ys (w.alloc (.cells #[.slice none 0 0] 33)) (hs.kept ((Kept.refl [] w).alloc _) (by simp)) hl)
  have hch := hid (h.kept ((Kept.refl [] w).alloc (.cells #[.slice none 0 0] 33)) (by simp) (by simp) (by simp))
  have hcw := hid (show c < w.heap.size ∧ g < w.heap.size ∧ 1 < w.heap.size from ⟨lt_of_block h.here, h.tb.lt, h.db.pos⟩)
  clear h hs
  refine (callsIn_wide (n := 4)).1 ?_
  refine callsIn_of_wp_marks Tryd.func13 rfl trivial ?_ rfl
  simp only [Tryd.ntmps13, List.size_toArray, List.length_cons, List.length_nil, Nat.reduceAdd, Nat.reduceSub, Array.replicate_succ, Array.replicate_zero, List.push_toArray, List.append_toArray, List.nil_append, List.cons_append]
  gi_wp2_with (refine ⟨trivial, ?_⟩; gi_at_call 34; refine (callsIn_wide.2 hall.out).mono ?_; rintro e w1 ⟨b1, b2, a1, c1, rfl, k1, s1, x1, hb1, hb2, h1, h2⟩)
  have k01 := hid (show Kept [] w w1 from ((Kept.refl [] w).alloc _).trans k1)
  have hit := hid (show ItAt w1 c P seed g T b1 b2 a1 c1 ys from ⟨hch.out.kept k1 (by simp) (by simp) (by simp), s1, h1, h2⟩)
  have hbox := hid (k1.at (k := w.heap.size) (heap_alloc_at rfl) (by simp))
  have hneed := hid (show ∀ k, Needs c g b1 b2 a1 k → k < w1.heap.size ∧ k ≠ w.heap.size from by
    have hz := hcw.out; have := k1.size
    simp only [World.size_alloc] at this hb1 hb2
    rintro k (rfl | rfl | rfl | rfl | rfl | ⟨x, hx, rfl⟩)
    · omega
    · omega
    · omega
    · exact ⟨lt_of_block h1, by omega⟩
    · exact ⟨lt_of_block h2, by omega⟩
    · have := x1 x hx; simp only [World.size_alloc] at this; omega)
  have hax := hid (show ∀ x, a1 = some x → x.block < w1.heap.size ∧ x.off = 0 ∧ x.spot = none from fun x hx => (x1 x hx).2)
  have hw1 := k1.size
  simp only [World.size_alloc] at hw1
  clear k1 s1 x1 hb1 hb2 h1 h2 hall hch
  obtain ⟨i0, hi0, hz0, hz1, hz2⟩ := info_parts qinfoB
  obtain ⟨D, hD⟩ : ∃ D, D = w1.heap.size := ⟨_, rfl⟩
  refine range_w rfl (by omega) (gf := 55) (lb := #[.pointer (some ⟨b1, 0, none⟩), .pointer (some ⟨b2, 0, none⟩)]) rfl trivial (enters_of Tryd.func55 (by kernel_rfl) rfl)
    (chunks_seq (4 - 1) (by omega) c P seed g T b1 b2 a1 c1 ys w1 hit.out hax.out hl) (fun k hk => (hneed.out k hk).1) (fun _ => rfl) (fun x A B hf hk => hf.kept hk (fun k hk => by simp; omega))
    (SplI w w1.heap.size) (fun _ _ => False) ?hI (fun _ _ _ h _ => h.elim) ?h0
    (fun x => { tmps := #[.pointer (some ⟨c, 0, none⟩), .slice a ys.length cap, undef, undef, .slice none 0 0, .pointer (some ⟨w.heap.size, 0, none⟩), undef, .slice x.a x.ys.length x.c, .pointer (some ⟨c, 0, none⟩), .slice a ys.length cap, .func (.func 55) #[] #[.pointer (some ⟨b1, 0, none⟩), .pointer (some ⟨b2, 0, none⟩)], .int .i64 (x.pos : Int), .slice x.a x.ys.length x.c, undef, undef, undef, undef, undef], defers := [] }) ?assign ?body ?fs ?done ?stop
  case hI =>
    rintro s A B ⟨v, hb, hr, hp, hk, hz, hfr⟩ hkk
    exact ⟨v, hkk.at hb (by simp; omega), hkk.owns hr (fun g hg => by have := (qown_ge hr g hg).1; simp; omega), hp.kept hkk (fun k hk _ => by simp; omega), hk.trans' hkk (fun x hx hm => by simp at hm; omega), hz, fun x hx y hy => (hfr x hx y hy).kept hkk (by have := ((hp x hx).2.2 y hy).1; simp; omega)⟩
  case h0 => exact ⟨.slice none 0 0, hbox.out, World.ownsRow_nil _ _ _ 1, fun x hx => by simp at hx, k01.out, fun _ => rfl, fun x hx => by simp at hx⟩
  case assign =>
    intro l x W K hK
    gi_wp2
    exact hK
  case body =>
    rintro l pre x W ⟨v, hb, hrow, hps, hk, hvz, hfr⟩ hft hzp hsz
    have cv := cell_of_one hb
    have fv := free_of_one hb
    have hlen : pre.length + 1 ≤ 100000000 := by
      obtain ⟨r, hr⟩ := hzp.1
      have h1 := congrArg List.length hr
      have h2 := split_le P T ys
      simp at h1
      omega
    have hge := hid (fun g hg => (qown_ge hrow g hg).1)
    have hpn := hid (fun (z : Piece) (hz : z ∈ pre) (y : Addr) (hy : z.a = some y) => row_ne hrow hvz (hps z hz).1 (hps z hz).2.1 hy ((hps z hz).2.2 y hy).2.2)
    have hxn := hid (fun (y : Addr) (hy : x.a = some y) => row_ne hrow hvz hft.sl hft.ne hy (hft.at_ y hy).2.2)
    have Hk := hid hk; have Hb := hid hb; have Hps := hid hps; have Hft := hid hft
    have Hfr := hid hfr
    clear hk hb hps hft hzp hvz hfr
    gi_wp2_with (gi_at_builtin; refine wpListIn_append_own _ rfl _ _ _ rfl (w1.heap.size + 3) 25 i0 _ 1 24 Tryd.underlying33 hi0 hz0 hz1 hz2 rfl (by decide) _ _ _ rfl (hrow.alloc _) ⟨W.heap.size, 0, none⟩ 1 1 [.slice x.a x.ys.length x.c] rfl rfl (cell_one_new _ _ _) (by simp [Value.oneCell']) (by unfold maxLen; omega) (by omega) (by simp; omega) ?_; intro v' w2 hown' hgrow _; obtain ⟨a', c', rfl⟩ := qslice hown'; have hkg := hid (show Kept v.ownBlock.toList W w2 from ((Kept.refl _ W).alloc (.cells #[.slice x.a x.ys.length x.c] 25)).trans (Kept.of_row hgrow)); have hno : ∀ k, k < w1.heap.size + 3 → k ∉ v.ownBlock.toList := (fun k hk hm => by simp at hm; have := hge.out k hm; omega); have hb2 := hid (hkg.out.at Hb.out (hno _ (by omega))); have cv2 := cell_of_one hb2.out; have fv2 := free_of_one hb2.out; have hown2 := hid hown'; clear hown' hgrow)
    have hset : Kept [w.heap.size] w2 (w2.setCell ⟨w.heap.size, 0, none⟩ (.slice a' (pre.length + 1) c')) := (Kept.refl _ _).setCell (p := ⟨w.heap.size, 0, none⟩) (fun _ => by simp) _
    refine ⟨?_, ?_⟩
    · refine Keep.trans (hkg.out.keep fun k _ hk => ?_) (hset.keep fun k _ hk => ?_)
      · rcases hk with h | h
        · have := (hneed.out k h).1; exact hno k (by omega)
        · exact hno k (by omega)
      · rcases hk with h | h
        · have := (hneed.out k h).2; simpa using this
        · simp; omega
    · refine ⟨.slice a' (pre.length + 1) c', one_setCell hb2.out, ?_, ?_, ?_, ?_, ?_⟩
      · have h5 := hset.owns hown2.out (fun g hg => by have := (qown_ge hown2.out g hg).1; simp; omega)
        simpa using h5
      · intro z hz
        have hsz2 := hkg.out.size
        have hsz3 := hset.size
        rcases List.mem_append.1 hz with hz | hz
        · obtain ⟨e1, e2, e3⟩ := Hps.out z hz
          refine ⟨(e1.kept hkg.out (fun y hy => hpn.out z hz y hy)).kept hset (fun y hy => by have := (e3 y hy).1; simp; omega), e2, fun y hy => ?_⟩
          have := e3 y hy
          exact ⟨by omega, by omega, this.2.2⟩
        · rw [List.mem_singleton] at hz
          subst hz
          refine ⟨(Hft.out.sl.kept hkg.out (fun y hy => hxn.out y hy)).kept hset (fun y hy => by have := (Hft.out.at_ y hy).1; simp; omega), Hft.out.ne, fun y hy => ?_⟩
          have := Hft.out.at_ y hy
          exact ⟨by omega, by omega, this.2.2⟩
      · exact (Hk.out.trans' hkg.out (fun k hk hm => absurd hm (hno k (by omega)))).trans' hset (fun k hk hm => by simp at hm; omega)
      · exact fun h => by simp at h
      · intro z hz y hy
        rcases List.mem_append.1 hz with hz | hz
        · exact ((Hfr.out z hz y hy).kept hkg.out (hpn.out z hz y hy)).kept hset (by have := ((Hps.out z hz).2.2 y hy).1; simp; omega)
        · rw [List.mem_singleton] at hz
          subst hz
          exact ((Hft.out.free y hy).kept hkg.out (hxn.out y hy)).kept hset (by have := (Hft.out.at_ y hy).1; simp; omega)
  case fs => exact fun x A hf => hf.size
  case done =>
    rintro xs W hZ ⟨v, hb, hrow, hps, hk, -, hfr⟩ hK
    have cv := cell_of_one hb
    obtain ⟨a9, c9, rfl⟩ := qslice hrow
    have Hb := hid hb; have Hrow := hid hrow; have Hps := hid hps; have Hk := hid hk
    have Hfr := hid hfr
    clear hb hrow hps hk hfr
    gi_wp2
    refine ⟨by simp, .inl ⟨_, _, rfl, run_takeDeferred hK, ?_⟩⟩
    have hkd := kept_putObj W w1.heap.size (.deferred none)
    refine ⟨.slice a9 xs.length c9, ?_, _, xs, rfl, Hk.out.trans' hkd (fun x hx hm => by simp at hm; omega), hZ, ?_, ?_, ?_⟩
    · simp [results, Tryd.f13, go_sem]
    · have h5 := hkd.owns Hrow.out (fun g hg => by have := (qown_ge Hrow.out g hg).1; simp; omega)
      exact qbase h5 (by omega)
    · intro x hx
      obtain ⟨h1, h2, h3⟩ := (Hps.out.kept hkd (fun k hk _ => by simp; omega)) x hx
      exact ⟨h1, h2, fun y hy => by have := h3 y hy; exact ⟨by omega, this.2⟩⟩
    · exact fun x hx y hy => (Hfr.out x hx y hy).kept hkd (by have := ((Hps.out x hx).2.2 y hy).1; simp; omega)
  case stop => exact fun _ _ _ h _ => h.elim
theorem split_any (c : Nat) (P : Chunk.Par) (seed : Int) (g : Nat) (T : UInt8 → Roll.W) (a : Option Addr) (cap : Nat) (ys : List UInt8) (w : World) (h : Ch w c P seed g T) (hs : Sl w a cap ys) (hl : ys.length ≤ 100000000) :
    Calls Tryd.prog 13 #[.pointer (some ⟨c, 0, none⟩), .slice a ys.length cap] w fun e w' => ∃ v xs, e = .returned v ∧ Kept [] w w' ∧ PZ P T ys xs ∧ w'.ownsRow w.heap.size 25 1 v xs.length (xs.map pval) ∧ PiecesAt w' w.heap.size xs :=
  (split_full c P seed g T a cap ys w h hs hl).mono fun _ _ ⟨v, xs, h1, h2, h3, h4, h5, _⟩ => ⟨v, xs, h1, h2, h3, h4, h5⟩
end Go.Proofs.YtllcfffpagogbaaDoor
