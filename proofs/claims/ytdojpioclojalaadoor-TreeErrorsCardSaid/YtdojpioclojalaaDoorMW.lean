import Derived.Test.YtdojpioclojalaaDoorN5
import Derived.Test.YtdojpioclojalaaDoorN6
import Derived.Test.YtdojpioclojalaaDoorJ2
import Derived.Test.YtdojpioclojalaaDoorJ3
import Derived.Test.YtdojpioclojalaaDoorJD

/- tree.write. -/
namespace Go.Proofs.YtdojpioclojalaaDoor
open Go.RowKit Go.Lib

/-- A writer made behind w0 in block p holds xs; a node's box in block g is as it was; all that w0 had is as it was. -/
def Wb (w0 : World) (p g : Nat) (n : NodeR) (xs : List UInt8) (W : World) : Prop :=
  w0.heap.size ≤ p ∧ w0.heap.size ≤ g ∧ g ≠ p ∧ Kept [] w0 W ∧ NAt W g n ∧ ∃ v, Wr W p v xs ∧ ∀ b, v.ownBlock = some b → w0.heap.size ≤ b ∧ b ≠ g
theorem Wb.of {w0 W : World} {p : Nat} {xs : List UInt8} (h : Wv w0 p xs W) (n : NodeR) : Wb w0 p W.heap.size n xs (W.alloc (.cells n.cells.toArray 42)) := by
  obtain ⟨hp, hk, v, hw, hv⟩ := h
  have hpl : p < W.heap.size := (Array.getElem?_eq_some_iff.1 hw.1).1
  refine ⟨hp, hk.size, by omega, hk.alloc _, heap_alloc_at rfl, v, hw.kept ((Kept.refl [] W).alloc _) (by simp) (by simp), fun b hb => ⟨hv b hb, ?_⟩⟩
  rcases hw.2.2 with ⟨rfl, _⟩ | ⟨g', _, _, rfl, hb', hh, _⟩
  · simp [Value.ownBlock] at hb
  · simp [Value.ownBlock] at hb
    subst hb
    have := (Array.getElem?_eq_some_iff.1 hh).1
    omega
theorem Wb.wv {w0 W : World} {p g : Nat} {n : NodeR} {xs : List UInt8} (h : Wb w0 p g n xs W) : Wv w0 p xs W := by
  obtain ⟨h1, _, _, h4, _, v, hw, hv⟩ := h
  exact ⟨h1, h4, v, hw, fun b hb => (hv b hb).1⟩
theorem Wb.box {w0 W : World} {p g : Nat} {n : NodeR} {xs : List UInt8} (h : Wb w0 p g n xs W) : NAt W g n := h.2.2.2.2.1
theorem Wb.kept {w0 W : World} {p g : Nat} {n : NodeR} {xs : List UInt8} (h : Wb w0 p g n xs W) : Kept [] w0 W := h.2.2.2.1
theorem Wb.later {w0 W W' : World} {p g : Nat} {n : NodeR} {xs : List UInt8} (h : Wb w0 p g n xs W) (hk : Kept [] W W') : Wb w0 p g n xs W' := by
  obtain ⟨h1, h2, h3, h4, h5, v, hw, hv⟩ := h
  exact ⟨h1, h2, h3, h4.trans hk, h5.kept hk (by simp), v, hw.kept hk (by simp) (by simp), hv⟩
theorem Wb.wrote {w0 W w' : World} {p g : Nat} {n : NodeR} {v : Value} {ys : List UInt8} (h1 : w0.heap.size ≤ p) (h2 : w0.heap.size ≤ g) (h3 : g ≠ p) (h4 : Kept [] w0 W) (h5 : NAt W g n) (hv : ∀ b, v.ownBlock = some b → w0.heap.size ≤ b ∧ b ≠ g) (h : Wrote p v W ys w') : Wb w0 p g n ys w' := by
  obtain ⟨v', k', h', f'⟩ := h
  have hgl : g < W.heap.size := (Array.getElem?_eq_some_iff.1 h5).1
  refine ⟨h1, h2, h3, h4.trans' k' (fun x hx hm => ?_), h5.kept k' (fun hm => ?_), v', h', fun b hb => ?_⟩
  · simp at hm
    rcases hm with rfl | hm
    · omega
    · have := (hv x hm).1; omega
  · simp at hm
    rcases hm with hm | hm
    · exact h3 hm
    · exact (hv g hm).2 rfl
  · rcases f' b hb with h | h
    · exact hv b h
    · exact ⟨Nat.le_trans h4.size h, by omega⟩
theorem Wb.num {w0 W : World} {p g : Nat} {n : NodeR} {xs : List UInt8} (h : Wb w0 p g n xs W) (N : Nat) (hN : N < 18446744073709551616) (size : Int) (hlen : xs.length ≤ 1000000000) :
    Calls Tryd.prog 26 #[.pointer (some ⟨p, 0, none⟩), .int .u64 N, .int .i64 size] W fun e w' => e = .returned (.tuple #[]) ∧ Wb w0 p g n (xs ++ numB N (sz size)) w' := by
  obtain ⟨h1, h2, h3, h4, h5, v, hw, hv⟩ := h
  exact (wnum p N size hN v xs W hw hlen).mono fun e w' h => ⟨h.1, Wb.wrote h1 h2 h3 h4 h5 hv h.2⟩
theorem Wb.text {w0 W : World} {p g : Nat} {n : NodeR} {xs : List UInt8} (h : Wb w0 p g n xs W) (s : ByteArray) (hlen : xs.length ≤ 1000000000) (hs : s.size ≤ 1000000000) :
    Calls Tryd.prog 48 #[.pointer (some ⟨p, 0, none⟩), .string s] W fun e w' => e = .returned (.tuple #[]) ∧ Wb w0 p g n (xs ++ (numB s.size 4 ++ s.data.toList)) w' := by
  obtain ⟨h1, h2, h3, h4, h5, v, hw, hv⟩ := h
  exact (wtext p v s xs W hw hlen hs).mono fun e w' h => ⟨h.1, Wb.wrote h1 h2 h3 h4 h5 hv h.2⟩
theorem Wb.raw {w0 W : World} {p g : Nat} {n : NodeR} {xs : List UInt8} (h : Wb w0 p g n xs W) (sv : Value) (ys : List UInt8) (hsrc : SrcB W sv ys) (hlen : xs.length ≤ 1000000000) (hs : ys.length ≤ 1000000000) :
    Calls Tryd.prog 49 #[.pointer (some ⟨p, 0, none⟩), sv] W fun e w' => e = .returned (.tuple #[]) ∧ Wb w0 p g n (xs ++ ys) w' := by
  obtain ⟨h1, h2, h3, h4, h5, v, hw, hv⟩ := h
  exact (wraw p v sv xs ys W hw hsrc hlen hs).mono fun e w' h => ⟨h.1, Wb.wrote h1 h2 h3 h4 h5 hv h.2⟩

theorem n_sz1 : sz 1 = 1 := by decide
theorem n_flat : ∀ l : List (List UInt8), (∀ x ∈ l, x.length = 32) → l.flatten.length = l.length * 32
  | [], _ => rfl
  | x :: l, h => by rw [List.flatten_cons, List.length_append, n_flat l (fun y hy => h y (by simp [hy])), h x (by simp), List.length_cons]; omega
/-- A node's bytes. -/
def Nd.enc (n : Nd) : List UInt8 :=
  if n.dir = true then numB 1 1 ++ (numB n.name.length 4 ++ n.name) ++ n.sub
  else numB 0 1 ++ (numB n.name.length 4 ++ n.name) ++ numB n.size.toNat 8 ++ numB n.parts.length 4 ++ n.parts.flatten
theorem slice_at (g o : Nat) (W : World) : (Instr.sliceAt 40 (.pointer (some ⟨g, o, none⟩)) none none none).run Tryd.prog W = .ok (.slice (some ⟨g, o, none⟩) 32 32) W := by
  have hal : Tryd.prog.arrayLen 40 = 32 := by simp [Program.arrayLen, Tryd.underlying40]
  rw [run_sliceAt_array_all W 40 ⟨g, o, none⟩ (by simp [Program.arrayLen, Program.elem, Tryd.underlying40])]
  rw [hal]
  go_simp
theorem IdAt.src {w : World} {g o : Nat} {id : List UInt8} (h : IdAt w ⟨g, o, none⟩ id) : SrcB w (.slice (some ⟨g, o, none⟩) 32 32) id := by
  refine Or.inr ⟨⟨g, o, none⟩, 32, by rw [h.1], fun j u hj => ?_⟩
  exact h.reads j u hj

set_option maxRecDepth 100000 in
set_option maxHeartbeats 4000000 in
theorem t_write (n : NodeR) (w0 : World) (p : Nat) (xs : List UInt8) (W : World) (h : Wv w0 p xs W) (h32 : n.sub.length = 32) (hI : ∀ v, Kept [] w0 v → Ids v n.pa n.pc n.parts) (hz : n.dir = false → 0 ≤ n.size) (hz2 : n.size ≤ 9223372036854775807)
    (hl : xs.length ≤ 500000000) (hnl : n.name.size ≤ 100000000) (hpl : n.parts.length ≤ 1000000) :
    Calls Tryd.prog 27 #[.pointer (some ⟨p, 0, none⟩), .agg n.cells.toArray] W fun e w' => e = .returned (.tuple #[]) ∧ Wv w0 p (xs ++ n.nd.enc) w' := by
  have HB := hid (Wb.of h n)
  have H32 := hid h32; have HI := hid hI
  obtain ⟨g, hg⟩ : ∃ g, g = W.heap.size := ⟨_, rfl⟩
  obtain ⟨cs, hcs⟩ : ∃ cs, cs = n.cells.toArray := ⟨_, rfl⟩
  have g1 := HB.out.box.cell 1 _ n.c1
  rw [← hcs] at g1 HB ⊢
  clear h hI h32 hcs
  have hnn := hid (show n.nd.enc = if n.dir = true then numB 1 1 ++ (numB n.name.size 4 ++ n.name.data.toList) ++ n.sub else numB 0 1 ++ (numB n.name.size 4 ++ n.name.data.toList) ++ numB n.size.toNat 8 ++ numB n.parts.length 4 ++ n.parts.flatten from rfl)
  cases hd : n.dir
  · have henc := hid (hnn.out.trans (if_neg (by rw [hd]; simp)))
    have hz0 := hz hd
    rw [hd] at g1
    clear hnn hd hz
    obtain ⟨N, hN⟩ : ∃ N : Nat, n.size = N := ⟨n.size.toNat, by omega⟩
    have hN64 : N < 18446744073709551616 := by omega
    have hN1 : IntKind.u64.wrap (N : Int) = (N : Int) := by rw [IntKind.wrap_u64]; omega
    have hP1 : IntKind.u64.wrap (n.parts.length : Int) = (n.parts.length : Int) := by rw [IntKind.wrap_u64]; omega
    have c2 := hid (show n.cells[2]? = some (.int .i64 (N : Int)) by rw [← hN]; exact n.c2)
    have hN2 := hid (show n.size.toNat = N by omega)
    clear hN hz0 hz2
    go_enter Tryd.func27, Tryd.ntmps27
    go_wp2_with fail
    refine (HB.out.num 0 (by decide) 1 (by omega)).mono ?_
    rintro e w1 ⟨rfl, h1⟩
    rw [n_sz1] at h1
    have H1 := hid h1
    have g0 := h1.box.cell 0 _ n.c0
    clear h1 HB g1
    go_wp2_with fail
    refine (H1.out.text _ (by simp [numB_len]; omega) (by omega)).mono ?_
    rintro e w2 ⟨rfl, h2⟩
    have H2 := hid h2
    have g2 := h2.box.cell 2 _ c2.out
    clear h2 H1 g0
    go_wp2_with fail
    refine (H2.out.num N hN64 8 (by simp [numB_len]; omega)).mono ?_
    rintro e w3 ⟨rfl, h3⟩
    rw [sz8] at h3
    have H3 := hid h3
    have g3 := h3.box.cell 3 _ n.c3
    clear h3 H2 g2
    go_wp2_with fail
    refine (H3.out.num n.parts.length (by omega) 4 (by simp [numB_len]; omega)).mono ?_
    rintro e w4 ⟨rfl, h4⟩
    rw [sz4] at h4
    have g3 := h4.box.cell 3 _ n.c3
    obtain ⟨ys, hys⟩ : ∃ ys, ys = xs ++ numB 0 1 ++ (numB n.name.size 4 ++ n.name.data.toList) ++ numB N 8 ++ numB n.parts.length 4 := ⟨_, rfl⟩
    rw [← hys] at h4
    have H4 := hid h4.wv
    have hyl := hid (show ys.length ≤ 700000000 by rw [hys]; simp [numB_len]; omega)
    have hend := hid (show xs ++ n.nd.enc = ys ++ n.parts.flatten by rw [henc.out, hys, hN2.out]; simp)
    have hids := hid (fun (v : World) (hv : Kept [] w0 v) => HI.out v hv)
    clear h4 H3 hys henc
    have hzi : ∀ W : World, (zeroValue 40).run Tryd.prog W = .ok (.agg (zid.map B).toArray) W := fun W => by kernel_rfl
    generalize hpl' : n.parts.length = pl at *
    go_wp2_with fail
    go_loopw [38] (fun s wr => ∃ i : Nat, i ≤ pl ∧ s = .int .i64 i ∧ Hid (Wv w0 p (ys ++ (n.parts.take i).flatten) wr)) (fun s _ => pl - (intOf s).toNat)
    case atStart => exact ⟨0, Nat.zero_le _, rfl, hid (by simpa using H4.out)⟩
    case round =>
      obtain ⟨i, hi, rfl, hw⟩ := hrel
      by_cases hlt : i < pl
      · have hwk := hid hw.out.kept
        obtain ⟨x, hx⟩ : ∃ x, n.parts[i]? = some x := ⟨_, List.getElem?_eq_getElem (by omega)⟩
        have hI := hids.out wr hwk.out
        obtain ⟨ad, had⟩ : ∃ ad, n.pa = some ad := by
          cases h : n.pa with
          | none => have := hI.nil h; rw [this] at hx; simp at hx
          | some ad => exact ⟨ad, rfl⟩
        have hia := hid (hI.at_ ad had i x hx)
        have hx32 := hid hia.out.1
        have hsz := hid (show (Tryd.prog.info? 40).map (·.size) = some (x.map B).length by rw [List.length_map, hx32.out]; exact ninfo32)
        have hfit := hid (show 0 + (x.map B).length ≤ (zid.map B).length by simp [hx32.out, zid])
        have hone := hid (show ∀ v ∈ x.map B, v.oneCell' = true by intro v hv; obtain ⟨b, _, rfl⟩ := List.mem_map.1 hv; rfl)
        have hfl := hid (show (n.parts.take (i + 1)).flatten = (n.parts.take i).flatten ++ x by rw [List.take_add_one, hx]; simp)
        have hfn := hid (show (ys ++ (n.parts.take i).flatten).length ≤ 1000000000 by
          rw [List.length_append, n_flat _ (fun y hy => hI.h32 y (List.mem_of_mem_take hy)), List.length_take]
          have := hyl.out; omega)
        rw [had]
        clear hI hx had
        have hlt3 := hid (show i + 1 ≤ pl from hlt)
        go_wp2_with (refine wpList_load_cells rfl 40 (.tmp 40) rfl (ad.add (i * 32)) rfl (x.map B) _ Tryd.underlying40 rfl hsz.out hia.out.reads ?_; refine halt ?_)
        refine Halt.mk ?_
        go_wp2_with (refine wpList_store_at rfl 40 (.tmp 5) (.tmp 41) rfl wr.heap.size 0 (x.map B) rfl rfl 40 (zid.map B) (heap_alloc_at rfl) hsz.out hfit.out hone.out ?_; refine halt ?_)
        rw [splice36 (zid.map B) (x.map B) (by simp [hx32.out, zid])]
        obtain ⟨wb, hwb⟩ : ∃ wb : World, wb = (wr.alloc (.cells (zid.map B).toArray 40)).setRow wr.heap.size (x.map B).toArray := ⟨_, rfl⟩
        rw [← hwb]
        refine Halt.mk ?_
        have hkr := hid (show Kept [] wr wb by rw [hwb]; exact ((Kept.refl [] wr).alloc _).setRow (fun h => absurd h (Nat.lt_irrefl _)) _)
        have hrow : wb.heap[wr.heap.size]? = some (.cells (x.map B).toArray 40 (0, 0)) := by rw [hwb]; exact setRow_heap _ _ _ _ _ _ (heap_alloc_at rfl)
        have hsrc := hid (IdAt.src (g := wr.heap.size) (o := 0) ⟨hx32.out, fun k b hk => by
          have e : (⟨wr.heap.size, 0, none⟩ : Addr).add k = ⟨wr.heap.size, k, none⟩ := by unfold Addr.add; split <;> simp_all
          rw [e, cell_of_row wb _ k _ _ _ hrow]; simp [hk]⟩)
        have hV := hid (hw.out.later hkr.out)
        clear hwb hrow
        have hsl := slice_at wr.heap.size 0
        go_wp2_with fail
        refine (hV.out.raw _ x hsrc.out hfn.out (by rw [hx32.out]; decide)).mono ?_
        rintro e w6 ⟨rfl, h6⟩
        rw [List.append_assoc, ← hfl.out] at h6
        have H6 := hid h6
        have hin := hlt3.out
        clear h6
        go_wp2
        go_roundw
        case rel => exact ⟨i + 1, hin, by go_num, H6⟩
        case measure => simp [intOf]; omega
      · have hin : i = pl := by omega
        subst hin
        have hw2 := hid (show Wv w0 p (xs ++ n.nd.enc) _ by rw [hend.out]; have := hw.out; rwa [List.take_of_length_le (by omega)] at this)
        clear hlt hi
        go_wp2
        go_end0
        exact ⟨rfl, hw2.out⟩
  · have henc := hid (hnn.out.trans (if_pos hd))
    rw [hd] at g1
    clear hnn hd hz
    go_enter Tryd.func27, Tryd.ntmps27
    go_wp2_with fail
    refine (HB.out.num 1 (by decide) 1 (by omega)).mono ?_
    rintro e w1 ⟨rfl, h1⟩
    rw [n_sz1] at h1
    have H1 := hid h1
    have g0 := h1.box.cell 0 _ n.c0
    clear h1 HB g1
    go_wp2_with fail
    refine (H1.out.text _ (by simp [numB_len]; omega) (by omega)).mono ?_
    rintro e w2 ⟨rfl, h2⟩
    have H2 := hid h2
    have hs2 := hid (h2.box.sub H32.out).src
    clear h2 H1 g0
    have hsl := slice_at W.heap.size 4
    go_wp2_with fail
    refine (H2.out.raw _ n.sub hs2.out (by simp [numB_len]; omega) (by rw [H32.out]; decide)).mono ?_
    rintro e w3 ⟨rfl, h3⟩
    have H3 := hid (show Wv w0 p (xs ++ n.nd.enc) w3 by rw [henc.out]; have := h3.wv; simpa using this)
    clear h3
    go_wp2
    exact bodyPost_ret (v := .tuple #[]) (results_none rfl _ _ _) rfl ⟨rfl, H3.out⟩
end Go.Proofs.YtdojpioclojalaaDoor


/- tree.Encode. -/
namespace Go.Proofs.YtdojpioclojalaaDoor
open Go.RowKit Go.Lib

/-- A list's bytes, ahead of being sealed. -/
def encL (l : List Nd) : List UInt8 := numB l.length 4 ++ (l.map Nd.enc).flatten
theorem Nd.enc_len {n : Nd} (h : n.good) (h32 : n.sub.length = 32) (hp : ∀ x ∈ n.parts, x.length = 32) : n.enc.length ≤ 131200 := by
  obtain ⟨h1, _, h3⟩ := h
  have h4 := (j_okPart_ne h1).2
  unfold Nd.enc
  split
  · simp [numB_len, h32]; omega
  · simp only [List.length_append, numB_len, n_flat _ hp]; omega
theorem encs_len : ∀ (l : List Nd), (∀ n ∈ l, n.enc.length ≤ 131200) → (l.map Nd.enc).flatten.length ≤ l.length * 131200
  | [], _ => by simp
  | n :: l, h => by
    have h1 := encs_len l (fun m hm => h m (by simp [hm]))
    have h2 := h n (by simp)
    rw [List.map_cons, List.flatten_cons, List.length_append, List.length_cons]; omega
/-- What Encode answers. -/
def TEncoded (L : List Nd) (w : World) (e : Ending) (w' : World) : Prop :=
  Kept [] w w' ∧ ((errL L ≠ 0 ∧ e = .returned (.tuple #[.slice none 0 0, .int .i64 (errL L)])) ∨
    (errL L = 0 ∧ ∃ a c, e = .returned (.tuple #[.slice a (sealed 84 (encL L)).length c, .int .i64 0]) ∧ w'.ownsRow w.heap.size 5 1 (.slice a (sealed 84 (encL L)).length c) (sealed 84 (encL L)).length ((sealed 84 (encL L)).map B)))

set_option maxRecDepth 100000 in
set_option maxHeartbeats 4000000 in
theorem t_encode (a : Option Addr) (c : Nat) (ns : List NodeR) (w : World) (h : ∀ wr, Kept [] w wr → Nodes wr a c ns) (ht : Tab w) :
    Calls Tryd.prog 11 #[.slice a ns.length c] w (TEncoded (ns.map NodeR.nd) w) := by
  have H := hid h
  have HT := hid ht
  have hmx := (h w (Kept.refl [] w)).max
  have hle := (h w (Kept.refl [] w)).le
  have hck := hid (t_check a c ns w h)
  obtain ⟨L, hL⟩ : ∃ L, L = ns.map NodeR.nd := ⟨_, rfl⟩
  have HLs := hid hL
  have hll := hid (show L.length = ns.length by rw [hL]; simp)
  rw [← hL] at hck ⊢
  clear hL h ht
  by_cases he : errL L = 0
  · rw [he] at hck
    obtain ⟨g1, g2, _⟩ := (errL_zero L).1 he
    have hg := hid g2
    have hn512 := hid (show ns.length ≤ 512 by rw [← hll.out]; exact g1)
    have HE := hid he
    have hE := hid (show ∀ n ∈ L, n.enc.length ≤ 131200 from by
      intro n hn
      have hn2 : n ∈ ns.map NodeR.nd := by rw [← HLs.out]; exact hn
      obtain ⟨m, hm, rfl⟩ := List.mem_map.1 hn2
      obtain ⟨j, hj, rfl⟩ := List.getElem_of_mem hm
      have hN := H.out w (Kept.refl _ _)
      cases ha : a with
      | none => have := hN.nil ha; rw [this] at hj; simp at hj
      | some x =>
        have hnj := hN.at_ x ha j ns[j] (by simp [hj])
        exact Nd.enc_len (hg.out _ hn) hnj.2.2.2.2.2.1 (Ids.h32 hnj.2.2.2.2.2.2.1))
    clear he g1 g2
    have hN1 : IntKind.u64.wrap (ns.length : Int) = (ns.length : Int) := by rw [IntKind.wrap_u64]; have := hn512.out; omega
    have hzv := zero_node
    go_enter Tryd.func11, Tryd.ntmps11
    go_wp2_with fail
    refine hck.out.mono ?_
    rintro e w1 ⟨rfl, hk1⟩
    have K1 := hid hk1
    have Wv0 := hid (Wv.new w1)
    clear hk1 hck
    go_wp2_with fail
    refine (Wv0.out.num ns.length (by have := hn512.out; omega) 4 (by simp)).mono ?_
    rintro e w2 ⟨rfl, h2⟩
    rw [sz4, List.nil_append] at h2
    have V2 := hid h2
    clear h2 Wv0
    go_wp2_with fail
    go_loopw [19] (fun s wr => ∃ i : Nat, i ≤ ns.length ∧ s = .int .i64 i ∧ Hid (Wv w1 w1.heap.size (numB ns.length 4 ++ ((L.take i).map Nd.enc).flatten) wr)) (fun s _ => ns.length - (intOf s).toNat)
    case atStart => exact ⟨0, Nat.zero_le _, rfl, hid (by simpa using V2.out)⟩
    case round =>
      obtain ⟨i, hi, rfl, hw⟩ := hrel
      have HK := hid (K1.out.trans hw.out.kept)
      by_cases hlt : i < ns.length
      · cases a with
        | none => exact absurd ((H.out w (Kept.refl _ _)).nil rfl) (fun e => by rw [e] at hlt; simp at hlt)
        | some x =>
          have hnode := (H.out wr HK.out).at_ x rfl i ns[i] (by simp [hlt])
          have hLi : L[i]? = some (ns[i]).nd := by rw [HLs.out, List.getElem?_map, List.getElem?_eq_getElem hlt]; rfl
          have hids := hid (fun (v : World) (hv : Kept [] w1 v) => show Ids v (ns[i]).pa (ns[i]).pc (ns[i]).parts from ((H.out v (K1.out.trans hv)).at_ x rfl i ns[i] (by simp [hlt])).2.2.2.2.2.2.1)
          have hgd := hid (hg.out _ (List.mem_of_getElem? hLi))
          have htk := hid (show ((L.take (i + 1)).map Nd.enc).flatten = ((L.take i).map Nd.enc).flatten ++ (ns[i]).nd.enc by rw [List.take_add_one, hLi]; simp)
          have hlt2 := hid hlt
          have hfl := hid (show (((L.take i).map Nd.enc).flatten).length ≤ 67174400 from
            Nat.le_trans (encs_len (L.take i) (fun n hn => hE.out n (List.mem_of_mem_take hn))) (Nat.mul_le_mul_right 131200 (show (L.take i).length ≤ 512 by rw [List.length_take]; have := hn512.out; have := hll.out; omega)))
          generalize ns[i] = n at *
          have h32 := hid hnode.2.2.2.2.2.1
          have hz2 := hid hnode.2.2.2.2.2.2.2.2
          have hz1 := hid (show n.dir = false → 0 ≤ n.size from fun hd => by
            have h1 := hgd.out.2.1
            have h2 : n.nd.formed = if n.dir = true then decide (n.size = 0) && n.parts.isEmpty else decide (0 ≤ n.size) && decide (n.sub = zid) := rfl
            rw [h2, hd] at h1
            simp at h1
            exact h1.1)
          have hnl := hid (show n.name.size ≤ 100000000 from by
            have h1 : n.nd.name.length ≤ 40 := (j_okPart_ne hgd.out.1).2
            have h2 : n.name.size = n.nd.name.length := by rw [← S_size]; rfl
            omega)
          have hpl := hid (show n.parts.length ≤ 1000000 from by have h1 : n.parts.length ≤ 4096 := hgd.out.2.2; omega)
          have hreads := hid hnode.reads
          have hsz := hid (show (Tryd.prog.info? 42).map (·.size) = some n.cells.length by rw [node_size n h32.out]; exact node_info)
          have hfit := hid (show 0 + n.cells.length ≤ zNode.length by rw [node_size n h32.out, zNode_len]; decide)
          have hone := hid (node_one n)
          have hspl := hid (splice36 zNode n.cells (by rw [node_size n h32.out, zNode_len]))
          clear hnode hLi
          go_wp2_with (refine wpList_load_cells rfl 42 (.tmp 21) rfl (x.add (i * 36)) rfl n.cells _ Tryd.underlying42 rfl hsz.out hreads.out ?_; refine halt ?_)
          refine Halt.mk ?_
          go_wp2_with (refine wpList_store_at rfl 42 (.tmp 7) (.tmp 22) rfl wr.heap.size 0 n.cells rfl rfl 42 zNode (heap_alloc_at rfl) hsz.out hfit.out hone.out ?_; refine halt ?_)
          rw [hspl.out]
          obtain ⟨wb, hwb⟩ : ∃ wb : World, wb = (wr.alloc (.cells zNode.toArray 42)).setRow wr.heap.size n.cells.toArray := ⟨_, rfl⟩
          rw [← hwb]
          refine Halt.mk ?_
          have hkr := hid (show Kept [] wr wb by rw [hwb]; exact ((Kept.refl [] wr).alloc _).setRow (fun h => absurd h (Nat.lt_irrefl _)) _)
          have hqb : NAt wb wr.heap.size n := by rw [hwb]; exact setRow_heap _ _ _ _ _ _ (heap_alloc_at rfl)
          have HA := hid hqb
          have hV := hid (hw.out.later hkr.out)
          clear hwb hreads hqb
          have hwr := hid (t_write n w1 w1.heap.size _ wb hV.out h32.out hids.out hz1.out hz2.out (by simp only [List.length_append, numB_len]; have := hfl.out; omega) hnl.out hpl.out)
          go_wp2_with (refine wpList_load_cells rfl 42 (.tmp 7) rfl ⟨wr.heap.size, 0, none⟩ rfl n.cells _ Tryd.underlying42 rfl hsz.out HA.out.reads ?_)
          refine hwr.out.mono ?_
          rintro e w6 ⟨rfl, h6⟩
          rw [List.append_assoc, ← htk.out] at h6
          have H6 := hid h6
          have hin := hlt2.out
          clear h6
          go_wp2
          go_roundw
          case rel => exact ⟨i + 1, hin, by go_num, H6⟩
          case measure => simp [intOf]; omega
      · have hin : i = ns.length := by omega
        subst hin
        have hw2 := hid (show Wv w1 w1.heap.size (encL L) _ by unfold encL; rw [hll.out]; have := hw.out; rwa [List.take_of_length_le (by have := hll.out; omega)] at this)
        have hlen := hid (show (encL L).length ≤ 100000000 from by
          have h1 : ((L.map Nd.enc).flatten).length ≤ 67174400 := Nat.le_trans (encs_len L hE.out) (Nat.mul_le_mul_right 131200 (show L.length ≤ 512 by have := hn512.out; have := hll.out; omega))
          unfold encL
          rw [List.length_append, numB_len]; omega)
        clear hlt hi hw
        generalize ns.length = nl at *
        go_wp2_with fail
        refine (hw2.out.done (by have := hlen.out; omega)).mono ?_
        rintro e w8 ⟨a8, c8, rfl, hk8, ho8⟩
        have hb8 := (bys_of_row ho8).1
        have K8 := hid (K1.out.trans hk8)
        have hs := hid (show Calls Tryd.prog 28 #[.int .u8 84, .slice a8 (encL L).length c8] w8 (Gives w8 [] (sealed 84 (encL L))) from seal_any 84 _ _ w8 hb8 (HT.out.kept K8.out (by simp)) (by have := hlen.out; omega))
        clear hk8 ho8 hb8
        go_wp2_with fail
        refine hs.out.mono ?_
        rintro e w9 ⟨a9, c9, rfl, hk9, ho9⟩
        have K9 := hid (K8.out.trans hk9)
        have O9 := hid (owns_lower ho9 K8.out.size)
        clear hk9 ho9 hs
        go_wp2
        go_ret2
        exact ⟨K9.out, Or.inr ⟨HE.out, a9, c9, rfl, O9.out⟩⟩
  · have hne : (errL L != 0) = true := by simpa using he
    have HE := hid he
    clear he
    go_enter Tryd.func11, Tryd.ntmps11
    go_wp2_with fail
    refine hck.out.mono ?_
    rintro e w1 ⟨rfl, hk1⟩
    have K1 := hid hk1
    clear hk1 hck
    go_wp2
    go_ret2
    exact ⟨K1.out, Or.inl ⟨HE.out, rfl⟩⟩
end Go.Proofs.YtdojpioclojalaaDoor


/- tree.readCount, tree.readID. -/
namespace Go.Proofs.YtdojpioclojalaaDoor
open Go.RowKit Go.Lib

/-- How many there are, at most so many. -/
def rCnt (most : Nat) (xs : List UInt8) : Option (Nat × List UInt8) := match rNum 4 xs with
  | some (N, r) => if N ≤ most then some (N, r) else none
  | none => none
theorem rNum4_lt {xs r : List UInt8} {N : Nat} (h : rNum 4 xs = some (N, r)) : N < 4294967296 := by
  unfold rNum at h
  split at h
  · simp at h
    have h1 := numOf_lt (xs.take 4)
    rw [List.length_take, show min 4 xs.length = 4 by omega] at h1
    rw [← h.1]; exact h1
  · simp at h

set_option maxRecDepth 100000 in
theorem t_count {W0 W : World} {rb : Nat} {a0 : Option Addr} {xs : List UInt8} (h : Rv W0 rb a0 xs W) (most : Nat) (hm : most ≤ 1000000) :
    Calls Tryd.prog 33 #[.pointer (some ⟨rb, 0, none⟩), .int .i64 (most : Int)] W fun e w' =>
      (∃ N r, rCnt most xs = some (N, r) ∧ e = .returned (.int .i64 (N : Int)) ∧ Rv W0 rb a0 r w') ∨ (rCnt most xs = none ∧ Throws e ∧ ∃ ys, Rv W0 rb a0 ys w') := by
  have R := hid h
  clear h
  go_enter Tryd.func33, Tryd.ntmps33
  go_wp2_with fail
  refine (R.out.num 4 4 (by decide)).mono ?_
  rintro e w1 (⟨N, r, h1, rfl, hR⟩ | ⟨hno, ⟨n, hn0, older, rfl, hcalm⟩, hR⟩)
  · have hN := rNum4_lt h1
    have hw : IntKind.i64.wrap (N : Int) = (N : Int) := IntWalk.i64_in _ (by omega)
    have H1 := hid h1; have R1 := hid hR
    clear h1 hR
    by_cases hl : N ≤ most
    · have hl2 : ¬ (most : Int) < (N : Int) := by omega
      have hc := hid (show rCnt most xs = some (N, r) by unfold rCnt; rw [H1.out]; exact if_pos hl)
      clear hl
      go_wp2
      go_ret
      exact Or.inl ⟨N, r, hc.out, rfl, R1.out⟩
    · have hl2 : (most : Int) < (N : Int) := by omega
      have hc := hid (show rCnt most xs = none by unfold rCnt; rw [H1.out]; exact if_neg hl)
      clear hl
      go_wp2_with (go_at_call 59; refine (must_err 3 (by decide) _).mono ?_; rintro e w' ⟨rfl, rfl⟩)
      exact ⟨rfl, Or.inr ⟨hc.out, ⟨3, by decide, _, rfl, Calm.nil⟩, r, R1.out⟩⟩
  · have hc := hid (show rCnt most xs = none by unfold rCnt; rw [hno])
    exact ⟨rfl, Or.inr ⟨hc.out, ⟨n, hn0, older, rfl, hcalm⟩, xs, hR⟩⟩

theorem Rv.rebase {W0 W1 v : World} {rb : Nat} {a0 a : Option Addr} {xs : List UInt8} (hk : Kept [rb] W0 W1) (h3 : ∀ x, a = some x → ∃ y, a0 = some y ∧ x.block = y.block) (h : Rv W1 rb a xs v) : Rv W0 rb a0 xs v := by
  obtain ⟨b, c, q1, q2, q3⟩ := h
  refine ⟨b, c, q1, hk.trans q2, fun x hx => ?_⟩
  obtain ⟨y, hy, e⟩ := q3 x hx
  obtain ⟨z, hz, e2⟩ := h3 y hy
  exact ⟨z, hz, e.trans e2⟩

set_option maxRecDepth 100000 in
theorem t_id {W0 W : World} {rb : Nat} {a0 : Option Addr} {xs : List UInt8} (h : Rv W0 rb a0 xs W) (hb : ∀ y, a0 = some y → y.block < W0.heap.size) (hrb : rb < W0.heap.size) :
    Calls Tryd.prog 61 #[.pointer (some ⟨rb, 0, none⟩)] W fun e w' =>
      (∃ t r, rRaw 32 xs = some (t, r) ∧ t.length = 32 ∧ e = .returned (.agg (t.map B).toArray) ∧ Rv W0 rb a0 r w') ∨ (rRaw 32 xs = none ∧ Throws e ∧ ∃ ys, Rv W0 rb a0 ys w') := by
  have hzi : ∀ W : World, (zeroValue 40).run Tryd.prog W = .ok (.agg (zid.map B).toArray) W := fun W => by kernel_rfl
  obtain ⟨a, c, q1, q2, q3⟩ := h
  obtain ⟨Wa, hWa⟩ : ∃ Wa : World, Wa = W.alloc (.cells (zid.map B).toArray 40) := ⟨_, rfl⟩
  have hka : Kept [] W Wa := by rw [hWa]; exact (Kept.refl [] W).alloc _
  have R := hid (show Rv Wa rb a xs Wa from Rv.new (q1.kept hka (by simp) (fun _ _ => by simp)))
  have hback := hid (fun (ys : List UInt8) (v : World) (hv : Rv Wa rb a ys v) => show Rv W0 rb a0 ys v from Rv.rebase (q2.trans (hka.wider (by simp))) q3 hv)
  have hbx := hid (show Wa.heap[W.heap.size]? = some (.cells (zid.map B).toArray 40 (0, 0)) by rw [hWa]; exact heap_alloc_at rfl)
  have hne := hid (show W.heap.size ≠ rb by have := q2.size; omega)
  have hal := hid (show ∀ x, a = some x → x.block < Wa.heap.size ∧ x.block ≠ W.heap.size from fun x hx => by
    obtain ⟨y, hy, e⟩ := q3 x hx
    have h1 := hb y hy; have h2 := q2.size; have h3 := hka.size
    exact ⟨by omega, by omega⟩)
  have hBk := hid hb
  have hge := hid (show W0.heap.size ≤ W.heap.size from q2.size)
  clear q1 q2 q3 hka hb hrb
  go_enter Tryd.func61, Tryd.ntmps61
  go_wp2_with fail
  rw [← hWa]
  refine (R.out.raw 32 (by decide)).mono ?_
  rintro e w1 (⟨t, r, x, h1, rfl, hl, ⟨y, hy, hxy⟩, hxr, hcs, hR⟩ | ⟨hno, ⟨n, hn0, older, rfl, hcalm⟩, hR⟩)
  · have H1 := hid h1; have R1 := hid (hback.out _ _ hR); have HL := hid hl
    have hk1 := hid hR.kept
    have hb1 := hid (hk1.out.at hbx.out (by simpa using hne.out))
    have hcell := hid (show ∀ (j : Nat) u, (t.map B)[j]? = some u → w1.cell? (x.add j) = some u from fun j u hj => by
      rw [List.getElem?_map] at hj
      obtain ⟨b, hb, rfl⟩ := Option.map_eq_some_iff.1 hj
      have e1 : (x.add j).block = x.block := add_block x j
      rw [hk1.out.cell (by rw [e1, hxy]; exact (hal.out y hy).1) (by rw [e1]; simpa using hxr)]
      exact hcs j b hb)
    have hsz := hid (show (Tryd.prog.info? 40).map (·.size) = some (t.map B).length by rw [List.length_map, hl]; exact ninfo32)
    have hone := hid (show ∀ v ∈ t.map B, v.oneCell' = true by intro v hv; obtain ⟨b, _, rfl⟩ := List.mem_map.1 hv; rfl)
    have hfit := hid (show 0 + (t.map B).length ≤ (zid.map B).length by simp [hl, zid])
    clear h1 hR hl hy hxy hxr hcs hWa
    have hap := run_arrayAt (P := Tryd.prog) (w := w1) 40 5 32 (some x) 32 32 Tryd.underlying40 (by decide)
    go_wp2_with (refine wpList_load_cells rfl 40 (.tmp 5) rfl x rfl (t.map B) _ Tryd.underlying40 rfl hsz.out hcell.out ?_; refine halt ?_)
    refine Halt.mk ?_
    go_wp2_with (refine wpList_store_at rfl 40 (.tmp 2) (.tmp 6) rfl W.heap.size 0 (t.map B) rfl rfl 40 (zid.map B) hb1.out hsz.out hfit.out hone.out ?_; refine halt ?_)
    rw [splice36 (zid.map B) (t.map B) (by simp [HL.out, zid])]
    refine Halt.mk ?_
    have hbz := hid (show (w1.setRow W.heap.size (t.map B).toArray).heap[W.heap.size]? = some (.cells (t.map B).toArray 40 (0, 0)) from setRow_heap _ _ _ _ _ _ hb1.out)
    have Rz := hid (show Rv W0 rb a0 r (w1.setRow W.heap.size (t.map B).toArray) from by
      obtain ⟨b, d, q1, q2, q3⟩ := R1.out
      have hk : Kept [W.heap.size] w1 (w1.setRow W.heap.size (t.map B).toArray) := (Kept.refl _ _).setRow (fun _ => by simp) _
      exact ⟨b, d, q1.kept hk (by have := hne.out; simp; omega) (fun x hx => by obtain ⟨y, hy, e⟩ := q3 x hx; have h1 := hBk.out y hy; have h2 := hge.out; simp; omega), q2.setRow (fun h => by have := hge.out; omega) _, q3⟩)
    generalize w1.setRow W.heap.size (t.map B).toArray = wz at *
    go_wp2
    have hld := run_loadVar_cells (P := Tryd.prog) wz 40 ⟨W.heap.size, 0, none⟩ (t.map B) _ Tryd.underlying40 rfl hsz.out (fun j v hj => by
      have e : (⟨W.heap.size, 0, none⟩ : Addr).add j = ⟨W.heap.size, j, none⟩ := by unfold Addr.add; split <;> simp_all
      rw [e, cell_of_row wz _ j _ _ _ hbz.out]; simpa using hj)
    exact bodyPost_ret (v := .agg (t.map B).toArray) (results_cell Tryd.results61 rfl hld) rfl (Or.inl ⟨t, r, H1.out, HL.out, rfl, Rz.out⟩)
  · exact ⟨rfl, Or.inr ⟨hno, ⟨n, hn0, older, rfl, hcalm⟩, xs, hback.out _ _ hR⟩⟩
end Go.Proofs.YtdojpioclojalaaDoor


/- A list's bytes and back, as mathematics. -/
namespace Go.Proofs.YtdojpioclojalaaDoor
open Go.RowKit Go.Lib

def readIDs : Nat → List UInt8 → Option (List (List UInt8) × List UInt8)
  | 0, xs => some ([], xs)
  | k + 1, xs => (rRaw 32 xs).bind fun p => (readIDs k p.2).bind fun q => some (p.1 :: q.1, q.2)
theorem readIDs_put : ∀ (l : List (List UInt8)) (r : List UInt8), (∀ x ∈ l, x.length = 32) → readIDs l.length (l.flatten ++ r) = some (l, r)
  | [], r, _ => rfl
  | x :: l, r, h => by
    rw [List.length_cons, List.flatten_cons, List.append_assoc]
    unfold readIDs
    rw [rRaw_put 32 _ _ (h x (by simp))]
    simp only [Option.bind_some]
    rw [readIDs_put l r (fun y hy => h y (by simp [hy]))]
    rfl
theorem readIDs_get : ∀ (k : Nat) {xs r : List UInt8} {l : List (List UInt8)}, readIDs k xs = some (l, r) → xs = l.flatten ++ r ∧ l.length = k ∧ ∀ x ∈ l, x.length = 32
  | 0, xs, r, l, h => by
    unfold readIDs at h
    simp only [Option.some.injEq, Prod.mk.injEq] at h
    obtain ⟨rfl, rfl⟩ := h
    simp
  | k + 1, xs, r, l, h => by
    unfold readIDs at h
    simp only [Option.bind_eq_some_iff, Prod.exists] at h
    obtain ⟨t, r1, h1, l2, r2, h2, h3⟩ := h
    simp only [Option.some.injEq, Prod.mk.injEq] at h3
    obtain ⟨rfl, rfl⟩ := h3
    obtain ⟨rfl, ht⟩ := rRaw_get h1
    obtain ⟨rfl, hk, hl⟩ := readIDs_get k h2
    refine ⟨by simp, by simp [hk], fun x hx => ?_⟩
    rcases List.mem_cons.1 hx with rfl | hx
    · exact ht
    · exact hl x hx
theorem rCnt_put (most N : Nat) (r : List UInt8) (h : N ≤ most) (h2 : N < 4294967296) : rCnt most (numB N 4 ++ r) = some (N, r) := by
  unfold rCnt
  rw [rNum_put N 4 r (by simpa using h2)]
  exact if_pos h
theorem rCnt_get {most N : Nat} {xs r : List UInt8} (h : rCnt most xs = some (N, r)) : xs = numB N 4 ++ r ∧ N ≤ most := by
  unfold rCnt at h
  split at h
  · rename_i M r2 h1
    split at h
    · simp at h
      obtain ⟨rfl, rfl⟩ := h
      exact ⟨(rNum_get h1).1, by assumption⟩
    · simp at h
  · simp at h

def readN (xs : List UInt8) : Option (Nd × List UInt8) :=
  (rNum 1 xs).bind fun p => (rTxt 120 p.2).bind fun q =>
    if p.1 = 1 then (rRaw 32 q.2).bind fun s => some (⟨q.1, true, 0, [], s.1⟩, s.2)
    else if p.1 = 0 then (rNum 8 q.2).bind fun s => (rCnt 4096 s.2).bind fun k => (readIDs k.1 k.2).bind fun l => some (⟨q.1, false, IntKind.i64.wrap (s.1 : Int), l.1, zid⟩, l.2)
    else none
/-- Its parts are sums, its size a machine's. -/
structure Nd.ok (n : Nd) : Prop where
  sub : n.sub.length = 32
  parts : ∀ x ∈ n.parts, x.length = 32
  z1 : -9223372036854775808 ≤ n.size
  z2 : n.size ≤ 9223372036854775807
theorem Nd.formed_def (n : Nd) : n.formed = if n.dir = true then decide (n.size = 0) && n.parts.isEmpty else decide (0 ≤ n.size) && decide (n.sub = zid) := rfl
theorem readN_put (n : Nd) (r : List UInt8) (h : n.ok) (hg : n.good) : readN (n.enc ++ r) = some (n, r) := by
  obtain ⟨g1, g2, g3⟩ := hg
  have hl := (j_okPart_ne g1).2
  obtain ⟨nm, d, z, ps, sb⟩ := n
  obtain ⟨h1, h2, h3, h4⟩ := h
  simp only at *
  have hf := Nd.formed_def ⟨nm, d, z, ps, sb⟩
  rw [g2] at hf
  cases d
  · simp at hf
    obtain ⟨hz, rfl⟩ := hf
    obtain ⟨N, rfl⟩ : ∃ N : Nat, z = N := ⟨z.toNat, by omega⟩
    have p8 : (256 : Nat) ^ 8 = 18446744073709551616 := by decide
    have e : (Nd.enc ⟨nm, false, (N : Int), ps, zid⟩) ++ r = numB 0 1 ++ ((numB nm.length 4 ++ nm) ++ (numB N 8 ++ (numB ps.length 4 ++ (ps.flatten ++ r)))) := by
      unfold Nd.enc; simp
    unfold readN
    rw [e, rNum_put 0 1 _ (by decide)]
    simp only [Option.bind_some]
    rw [rTxt_put 120 _ _ (by omega) (by omega)]
    simp only [Option.bind_some]
    rw [if_neg (by decide), if_pos trivial, rNum_put _ _ _ (by rw [p8]; omega)]
    simp only [Option.bind_some]
    rw [rCnt_put _ _ _ g3 (by omega)]
    simp only [Option.bind_some]
    rw [readIDs_put _ _ h2]
    simp only [Option.bind_some]
    rw [IntWalk.i64_in _ (by omega)]
  · simp at hf
    obtain ⟨rfl, rfl⟩ := hf
    have e : (Nd.enc ⟨nm, true, 0, [], sb⟩) ++ r = numB 1 1 ++ ((numB nm.length 4 ++ nm) ++ (sb ++ r)) := by
      unfold Nd.enc; simp
    unfold readN
    rw [e, rNum_put 1 1 _ (by decide)]
    simp only [Option.bind_some]
    rw [rTxt_put 120 _ _ (by omega) (by omega)]
    simp only [Option.bind_some]
    rw [if_pos trivial, rRaw_put 32 _ _ h1]
    rfl
theorem readN_get {xs r : List UInt8} {n : Nd} (h : readN xs = some (n, r)) : n.ok ∧ (n.good → xs = n.enc ++ r) := by
  have p8 : (256 : Nat) ^ 8 = 18446744073709551616 := by decide
  unfold readN at h
  simp only [Option.bind_eq_some_iff, Prod.exists] at h
  obtain ⟨m, r1, h1, t, r2, h2, h3⟩ := h
  obtain ⟨rfl, b1⟩ := rNum_get h1
  obtain ⟨rfl, b2⟩ := rTxt_get h2
  split at h3
  · rename_i hm
    simp only [Option.bind_eq_some_iff, Prod.exists] at h3
    obtain ⟨s, r3, h4, h5⟩ := h3
    simp only [Option.some.injEq, Prod.mk.injEq] at h5
    obtain ⟨rfl, rfl⟩ := h5
    obtain ⟨rfl, hs⟩ := rRaw_get h4
    subst hm
    exact ⟨⟨hs, by simp, show (-9223372036854775808 : Int) ≤ 0 by decide, show (0 : Int) ≤ 9223372036854775807 by decide⟩, fun _ => by unfold Nd.enc; simp⟩
  · split at h3
    · rename_i hm
      simp only [Option.bind_eq_some_iff, Prod.exists] at h3
      obtain ⟨N, r3, h4, k, r4, h5, l, r5, h6, h7⟩ := h3
      simp only [Option.some.injEq, Prod.mk.injEq] at h7
      obtain ⟨rfl, rfl⟩ := h7
      obtain ⟨rfl, b4⟩ := rNum_get h4
      obtain ⟨rfl, b5⟩ := rCnt_get h5
      obtain ⟨rfl, hk, hl⟩ := readIDs_get k h6
      subst hm
      have bw : -9223372036854775808 ≤ IntKind.i64.wrap (N : Int) ∧ IntKind.i64.wrap (N : Int) ≤ 9223372036854775807 := by rw [IntKind.wrap_i64]; omega
      refine ⟨⟨by simp [zid], hl, bw.1, bw.2⟩, fun hg => ?_⟩
      have hf := hg.2.1
      rw [Nd.formed_def] at hf
      simp at hf
      rw [p8] at b4
      have e1 : (IntKind.i64.wrap (N : Int)).toNat = N := by
        rw [IntKind.wrap_i64] at hf ⊢; omega
      unfold Nd.enc
      simp [e1, hk]
    · simp at h3

def readL : Nat → List UInt8 → Option (List Nd × List UInt8)
  | 0, xs => some ([], xs)
  | k + 1, xs => (readN xs).bind fun p => (readL k p.2).bind fun q => some (p.1 :: q.1, q.2)
theorem readL_put : ∀ (l : List Nd) (r : List UInt8), (∀ n ∈ l, n.ok ∧ n.good) → readL l.length ((l.map Nd.enc).flatten ++ r) = some (l, r)
  | [], r, _ => rfl
  | x :: l, r, h => by
    rw [List.length_cons, List.map_cons, List.flatten_cons, List.append_assoc]
    unfold readL
    rw [readN_put x _ (h x (by simp)).1 (h x (by simp)).2]
    simp only [Option.bind_some]
    rw [readL_put l r (fun y hy => h y (by simp [hy]))]
    rfl
theorem readL_get : ∀ (k : Nat) {xs r : List UInt8} {l : List Nd}, readL k xs = some (l, r) → l.length = k ∧ (∀ n ∈ l, n.ok) ∧ ((∀ n ∈ l, n.good) → xs = (l.map Nd.enc).flatten ++ r)
  | 0, xs, r, l, h => by
    unfold readL at h
    simp only [Option.some.injEq, Prod.mk.injEq] at h
    obtain ⟨rfl, rfl⟩ := h
    simp
  | k + 1, xs, r, l, h => by
    unfold readL at h
    simp only [Option.bind_eq_some_iff, Prod.exists] at h
    obtain ⟨n, r1, h1, l2, r2, h2, h3⟩ := h
    simp only [Option.some.injEq, Prod.mk.injEq] at h3
    obtain ⟨rfl, rfl⟩ := h3
    obtain ⟨hk, ho, he⟩ := readL_get k h2
    obtain ⟨o1, e1⟩ := readN_get h1
    refine ⟨by simp [hk], fun x hx => ?_, fun hg => ?_⟩
    · rcases List.mem_cons.1 hx with rfl | hx
      · exact o1
      · exact ho x hx
    · rw [e1 (hg n (by simp)), he (fun x hx => hg x (by simp [hx]))]
      simp
/-- The list of bytes. -/
def decL (bs : List UInt8) : Option (List Nd) :=
  if unsealErr 84 bs = 0 then match (rCnt 512 (unsealed 84 bs)).bind fun p => readL p.1 p.2 with
    | some (l, []) => if errL l = 0 then some l else none
    | _ => none
  else none
theorem decL_put (l : List Nd) (h : ∀ n ∈ l, n.ok) (he : errL l = 0) : decL (sealed 84 (encL l)) = some l := by
  obtain ⟨h1, h2⟩ := unseal_own 84 (encL l)
  obtain ⟨g1, g2, _⟩ := (errL_zero l).1 he
  have h3 := readL_put l [] (fun n hn => ⟨h n hn, g2 n hn⟩)
  rw [List.append_nil] at h3
  unfold decL
  rw [if_pos h1, h2]
  unfold encL
  rw [rCnt_put 512 _ _ g1 (by omega)]
  simp only [Option.bind_some]
  rw [h3]
  simp [he]
theorem decL_get {bs : List UInt8} {l : List Nd} (h : decL bs = some l) : errL l = 0 ∧ (∀ n ∈ l, n.ok) ∧ sealed 84 (encL l) = bs := by
  unfold decL at h
  by_cases h0 : unsealErr 84 bs = 0
  · rw [if_pos h0] at h
    cases hr : (rCnt 512 (unsealed 84 bs)).bind fun p => readL p.1 p.2 with
    | none => rw [hr] at h; cases h
    | some p =>
      obtain ⟨s2, r⟩ := p
      rw [hr] at h
      cases r with
      | cons x r => cases h
      | nil =>
        by_cases he : errL s2 = 0
        · simp only [he, if_true, Option.some.injEq] at h
          subst h
          simp only [Option.bind_eq_some_iff, Prod.exists] at hr
          obtain ⟨k, r1, h1, h2⟩ := hr
          obtain ⟨h3, _⟩ := rCnt_get h1
          obtain ⟨hk, ho, hx⟩ := readL_get k h2
          have h4 := hx (((errL_zero s2).1 he).2.1)
          rw [List.append_nil] at h4
          refine ⟨he, ho, ?_⟩
          have e : encL s2 = unsealed 84 bs := by unfold encL; rw [hk, h3, h4]
          rw [e]; exact (sealed_unsealed h0).symm
        · simp [he] at h
  · rw [if_neg h0] at h; cases h
/-- Two lists have the same bytes just if they are the same. -/
theorem encL_inj {l m : List Nd} (hl : ∀ n ∈ l, n.ok) (hm : ∀ n ∈ m, n.ok) (el : errL l = 0) (em : errL m = 0) : sealed 84 (encL l) = sealed 84 (encL m) ↔ l = m := by
  constructor
  · intro h
    have h1 := decL_put l hl el
    rw [h, decL_put m hm em] at h1
    exact (Option.some.inj h1).symm
  · rintro rfl; rfl
end Go.Proofs.YtdojpioclojalaaDoor
