/- A chunker's iterator: what it yields. -/
import Derived.Test.YtllcfffpagogbaaDoorQ3
namespace Go.Proofs.YtllcfffpagogbaaDoor
open Go.RowKit Go.Lib
attribute [local go_sem] Oper.semAt_some

abbrev spl (P : Chunk.Par) (T : UInt8 → Roll.W) (ys : List UInt8) : List (List UInt8) := Chunk.split (Chunk.ends P) T P.width ys
def PZ (P : Chunk.Par) (T : UInt8 → Roll.W) (ys : List UInt8) (xs : List Piece) : Prop := xs.map (·.ys) = spl P T ys ∧ InRow xs
def PZp (P : Chunk.Par) (T : UInt8 → Roll.W) (ys : List UInt8) (xs : List Piece) : Prop := xs.map (·.ys) <+: spl P T ys ∧ InRow xs

/-- Where the loop stands: these are yielded. -/
structure PAt (P : Chunk.Par) (T : UInt8 → Roll.W) (ys : List UInt8) (J : List Piece → World → Prop) (need : Nat → Prop) (p : Nat) (W1 : World) (pre : List Piece) (wr : World) : Prop where
  sp : pre.map (·.ys) ++ spl P T (ys.drop (lenP pre)) = spl P T ys
  row : InRow pre
  le : lenP pre ≤ ys.length
  inv : J pre wr
  keep : Keep need W1 wr
  win : ∃ y, Win wr p T P.width y

set_option maxRecDepth 100000 in
set_option maxHeartbeats 4000000 in
theorem chunks_in (n : Nat) (hn : 1 ≤ n) (l : Nat) (c : Nat) (P : Chunk.Par) (seed : Int) (g : Nat) (T : UInt8 → Roll.W) (b1 b2 : Nat) (a : Option Addr) (cap : Nat) (ys : List UInt8) (W : World) (h : ItAt W c P seed g T b1 b2 a cap ys) (hax : ∀ x, a = some x → x.block < W.heap.size ∧ x.off = 0 ∧ x.spot = none)
    (hl : ys.length ≤ 100000000) (J Jx : List Piece → World → Prop) (hJ : ∀ s A B, J s A → Kept [W.heap.size] A B → J s B)
    (hY : ∀ pre x A, J pre A → PFt W.heap.size x A → PZp P T ys (pre ++ [x]) → YieldAt Fence.wide (n - 1) Tryd.prog l (pvals x) A fun e B =>
      (e = .returned (.bool true) ∧ J (pre ++ [x]) B ∧ Keep (fun k => Needs c g b1 b2 a k ∨ k = W.heap.size) A B) ∨ (e = .returned (.bool false) ∧ Jx (pre ++ [x]) B)) (h0 : J [] W) :
    CallsIn Fence.wide n Tryd.prog 55 #[.func (.yield l) #[] #[], .pointer (some ⟨b1, 0, none⟩), .pointer (some ⟨b2, 0, none⟩)] W fun e B => (∃ v, e = .returned v) ∧
      ((∃ xs, PZ P T ys xs ∧ J xs B) ∨ (∃ pre, PZp P T ys pre ∧ Jx pre B)) := by
  have g1 : W.cell? ⟨b1, 0, none⟩ = some (.pointer (some ⟨c, 0, none⟩)) := cell_of_one h.one
  have hwin := hid (window_any c P seed g T W h.ch)
  have lb1 := lt_of_block h.one
  have lb2 := lt_of_block h.two
  have hlt : ∀ k, Needs c g b1 b2 a k → k < W.heap.size := by
    rintro k (rfl | rfl | rfl | rfl | rfl | ⟨x, hx, rfl⟩)
    · exact lt_of_block h.ch.here
    · exact h.ch.tb.lt
    · exact h.ch.db.pos
    · exact lb1
    · exact lb2
    · exact (hax x hx).1
  obtain ⟨p, hp⟩ : ∃ p, p = W.heap.size := ⟨_, rfl⟩
  rw [← hp] at hJ hY
  have H := hid h; have HJ := hid hJ; have HY := hid hY; have Hax := hid hax; have Hlt := hid hlt; have Hp := hid hp
  clear h hJ hY hax hlt
  refine callsIn_of_wp Tryd.func55 rfl trivial ?_ rfl
  simp only [Tryd.ntmps55, List.size_toArray, List.length_cons, List.length_nil, Nat.reduceAdd, Nat.reduceSub, Array.replicate_succ, Array.replicate_zero, List.push_toArray, List.append_toArray, List.nil_append, List.cons_append]
  gi_wp2_with (refine ⟨trivial, ?_⟩; gi_at_call 36; refine (callsIn_wide.2 hwin.out).mono ?_; rintro e w1 ⟨rfl, k1, hw1⟩)
  rw [← hp] at hw1 ⊢
  have hst0 := hid (show PAt P T ys J (Needs c g b1 b2 a) p w1 [] w1 from ⟨by simp [lenP], fun i x hx => by simp at hx, by simp [lenP], HJ.out _ _ _ h0 (k1.wider (fun _ _ h => by simp at h)), Keep.refl _ _, _, hw1⟩)
  have H1 := hid (H.out.keep (k1.keep (B := Needs c g b1 b2 a) (fun k _ _ => by simp)))
  have hp1 : p ≤ w1.heap.size := by rw [hp]; exact k1.size
  clear g1 hwin hw1 h0 hp
  gi_loopw [5, 6] (fun i _ wr => ∃ pre : List Piece, i = .int .i64 (lenP pre : Int) ∧ Hid (PAt P T ys J (Needs c g b1 b2 a) p w1 pre wr)) (fun i _ _ => ys.length - (intOf i).toNat)
  case atStart => exact ⟨[], rfl, hst0⟩
  case round =>
    clear hst0
    obtain ⟨pre, rfl, hst⟩ := hrel
    obtain ⟨sp, row, le, inv, keep, ⟨y0, win⟩⟩ := hst.out
    obtain ⟨m, hm⟩ : ∃ m, m = lenP pre := ⟨_, rfl⟩
    rw [← hm] at sp le ⊢
    have hI := H1.out.keep keep
    have g1 : wr.cell? ⟨b1, 0, none⟩ = some (.pointer (some ⟨c, 0, none⟩)) := cell_of_one hI.one
    have g2 : wr.cell? ⟨b2, 0, none⟩ = some (.slice a ys.length cap) := cell_of_one hI.two
    have hinv := hid inv; have hkeep := hid keep; have hrow := hid row
    clear hst inv keep row
    by_cases hmy : m < ys.length
    · have hne : a ≠ none := fun e => by have := hI.sl.reads.1 e; rw [this] at hmy; simp at hmy
      obtain ⟨x, rfl⟩ : ∃ x, a = some x := Option.ne_none_iff_exists'.1 hne
      obtain ⟨gb, ofs, spt⟩ := x
      obtain ⟨hgb, rfl, rfl⟩ := Hax.out _ rfl
      dsimp only at hgb
      have hcap := hI.sl.le
      have hcapm := hI.sl.max
      obtain ⟨rest, hrest⟩ : ∃ r, r = ys.drop m := ⟨_, rfl⟩
      obtain ⟨ysl, hysl⟩ : ∃ r, r = rest.take (Chunk.first (Chunk.ends P) T P.width rest) := ⟨_, rfl⟩
      have hrl : rest.length = ys.length - m := by rw [hrest, List.length_drop]
      have hrne : rest ≠ [] := List.ne_nil_of_length_pos (by omega)
      have hfl := Chunk.first_le (E := Chunk.ends P) (T := T) (k := P.width) rest
      have hfp := Chunk.first_pos (E := Chunk.ends P) (T := T) (k := P.width) rest hrne
      have hyl : ysl.length = Chunk.first (Chunk.ends P) T P.width rest := by rw [hysl, List.length_take]; omega
      have hslr : ∀ v, Kept [p] wr v → Sl v (some ⟨gb, m, none⟩) (cap - m) rest := fun v k => ⟨⟨fun h => (by cases h), fun ad had j u hj => by
        cases had
        rw [hrest, List.getElem?_map, List.getElem?_drop] at hj
        have h1 := hI.sl.reads.2 _ rfl (m + j) u (by rw [List.getElem?_map]; exact hj)
        rw [plain_add, Nat.zero_add] at h1
        rw [plain_add]
        have hb := World.block_lt_of_cell? wr _ h1
        exact (k.cell hb (by simp; have := Hp.out; omega)).trans h1⟩, by rw [hrl]; omega, by omega, fun h => (by cases h)⟩
      have hpn := hid (show p ≠ c ∧ p ≠ g ∧ p ≠ 1 from by
        have h1 := Hlt.out c (.inl rfl); have h2 := Hlt.out g (.inr (.inl rfl)); have h3 := Hlt.out 1 (.inr (.inr (.inl rfl))); have := Hp.out
        omega)
      have hfirst := first_in c p P seed g T (some ⟨gb, m, none⟩) (cap - m) rest y0 wr.drew (hI.ch.kept (Kept.of_drew [] wr) (by simp) (by simp) (by simp)) (hslr _ (Kept.of_drew _ wr)).reads (win.kept (Kept.of_drew [] wr) (by simp)) hpn.out (fun _ x hx => by cases hx; have := Hp.out; show gb ≠ p; omega) (by omega)
      rw [← hyl, hrl] at hfirst
      have Hfirst := hid hfirst
      have Hslr := hid hslr
      have hsp := hid (show spl P T rest = ysl :: spl P T (ys.drop (m + ysl.length)) from by
        unfold spl; rw [Chunk.split_cons rest hrne, ← hysl, ← hyl, hrest, List.drop_drop])
      have Hsp := hid sp
      have Hrest := hid hrest
      have Hm := hid hm
      have hyr : ysl.length ≤ ys.length - m := by omega
      have Hyr := hid (show ∃ q, ysl = rest.take q from ⟨_, hysl⟩)
      have hyne : 0 < ysl.length := by omega
      have hmne : ¬ cap = m := by omega
      have g1d : wr.drew.cell? ⟨b1, 0, none⟩ = some (.pointer (some ⟨c, 0, none⟩)) := g1
      have g2d : wr.drew.cell? ⟨b2, 0, none⟩ = some (.slice (some ⟨gb, 0, none⟩) ys.length cap) := g2
      have HI := hid hI
      clear hysl hyl hfl hfp hfirst hslr sp hrest hm hI win hrne hrl hne
      gi_wp2
      refine wpIn_of_wp ?_
      have lb1d : b1 < wr.drew.heap.size := World.block_lt_of_cell? wr.drew _ g1d
      have lb2d : b2 < wr.drew.heap.size := World.block_lt_of_cell? wr.drew _ g2d
      have hb12 := hid (show b1 ≠ p ∧ b2 ≠ p from by have := Hp.out; omega)
      go_region_held3 (fun w' => w'.cell? ⟨b1, 0, none⟩ = some (.pointer (some ⟨c, 0, none⟩)) ∧ w'.cell? ⟨b2, 0, none⟩ = some (.slice (some ⟨gb, 0, none⟩) ys.length cap)) (first | exact ⟨g1d, g2d⟩ | exact ⟨d1, d2⟩)
        (first | (go_at_call 35; refine Hfirst.out.mono ?_; rintro e w2 ⟨rfl, k2, ys1, hw2⟩; have d1 := (k2.cell (p := ⟨b1, 0, none⟩) lb1d (by simpa using hb12.out.1)).trans g1d; have d2 := (k2.cell (p := ⟨b2, 0, none⟩) lb2d (by simpa using hb12.out.2)).trans g2d; have K2 := hid k2; have HW2 := hid hw2; clear k2 hw2))
      have hwr : IntKind.i64.wrap ((m : Int) + (ysl.length : Int)) = (m : Int) + (ysl.length : Int) := by rw [IntKind.wrap_i64]; omega
      rw [hwr]
      clear hwr g1d g2d g1 g2 d1 lb1d lb2d
      have hk2 := hid (show Kept [p] wr w2 from (Kept.of_drew [p] wr).trans K2.out)
      have hs2 : Sl w2 (some ⟨gb, m, none⟩) (cap - m) ysl := by
        obtain ⟨q, hq⟩ := Hyr.out
        rw [hq]
        exact (Hslr.out w2 hk2.out).take q
      have hclone := hid (clone_slf (some ⟨gb, m, none⟩) (cap - m) ysl w2 hs2 (by omega))
      have hJ2 := hid (HJ.out _ _ _ hinv.out hk2.out)
      have hpz := hid (fun (x : Piece) (e1 : x.pos = m) (e2 : x.ys = ysl) => show PZp P T ys (pre ++ [x]) from ⟨⟨spl P T (ys.drop (m + ysl.length)), by
        have h1 := Hsp.out
        rw [← Hrest.out, hsp.out] at h1
        rw [← h1, List.map_append, List.map_cons, List.map_nil, e2]; simp⟩, hrow.out.snoc (by rw [e1]; exact Hm.out)⟩)
      have hp2 : p < w2.heap.size := by have := HW2.out.lt; exact this
      clear hs2
      gi_wp2_with (refine ⟨trivial, ?_⟩; gi_at_call 54; refine (callsIn_wide.2 hclone.out).mono ?_; rintro e w3 ⟨a3, c3, rfl, k3, s3, x3, x3f⟩)
      have hft : PFt p ⟨m, a3, c3, ysl⟩ w3 := ⟨s3, List.ne_nil_of_length_pos hyne, fun y hy => ⟨by have := (x3 y hy).1; omega, (x3 y hy).2⟩, by have := k3.size; omega, x3f⟩
      obtain ⟨fn, tmps, assign, body, hy, hR⟩ := HY.out pre ⟨m, a3, c3, ysl⟩ w3 (HJ.out _ _ _ hJ2.out (k3.wider (fun _ _ h => by simp at h))) hft (hpz.out _ rfl rfl)
      dsimp only [pvals] at hy
      have K3 := hid k3
      clear k3 s3 x3 x3f hft
      gi_wp2
      rw [hy]
      gi_wp2
      refine hR.mono ?_
      rintro e W' (⟨rfl, hJ', hk⟩ | ⟨rfl, hJx'⟩)
      · gi_wp2
        have hkk := hid hk
        have hJJ := hid hJ'
        clear hk hJ'
        go_roundw
        case rel =>
          refine ⟨pre ++ [⟨m, a3, c3, ysl⟩], by rw [lenP_snoc, ← Hm.out]; push_cast; rfl, hid ⟨?_, ?_, ?_, ?_, ?_, ?_⟩⟩
          · rw [lenP_snoc, ← Hm.out, ← Hsp.out, ← Hrest.out, hsp.out]; simp
          · exact (hpz.out _ rfl rfl).2
          · rw [lenP_snoc, ← Hm.out]; show m + ysl.length ≤ _; omega
          · exact hJJ.out
          · have hplt : ∀ k, Needs c g b1 b2 (some ⟨gb, 0, none⟩) k → k ∉ [p] := fun k hk => by have := Hlt.out k hk; have := Hp.out; simp; omega
            exact ((hkeep.out.trans (hk2.out.keep fun k _ hk => hplt k hk)).trans (K3.out.keep fun k _ _ => by simp)).trans (hkk.out.less fun k _ hk => .inl hk)
          · exact ⟨_, (HW2.out.kept K3.out (by simp)).keep hkk.out (.inr rfl)⟩
        case measure => simp [intOf]; omega
      · gi_wp2
        refine bodyPost_ret (results_none rfl _ _ _) rfl ?_
        exact ⟨⟨_, rfl⟩, .inr ⟨pre ++ [⟨m, a3, c3, ysl⟩], hpz.out _ rfl rfl, hJx'⟩⟩
    · obtain rfl : m = ys.length := by omega
      have hfin := hid (show PZ P T ys pre from ⟨by rw [← sp, List.drop_length]; unfold spl; rw [Chunk.split_nil, List.append_nil], hrow.out⟩)
      have Hg2 := hid g2
      clear sp hI g1 win hm
      gi_wp2
      go_end0
      exact ⟨⟨_, rfl⟩, .inl ⟨pre, hfin.out, hinv.out⟩⟩
end Go.Proofs.YtllcfffpagogbaaDoor
