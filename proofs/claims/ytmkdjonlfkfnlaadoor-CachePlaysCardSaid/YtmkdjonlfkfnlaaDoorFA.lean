import Derived.Test.YtmkdjonlfkfnlaaDoorF9
import Derived.Test.YtmkdjonlfkfnlaaDoorN19
import Derived.Test.YtmkdjonlfkfnlaaDoorN9
import Derived.Test.YtmkdjonlfkfnlaaDoorWA

/- cache: All, Wipe. -/
namespace Go.Proofs.YtmkdjonlfkfnlaaDoor
open Go.RowKit Go.Lib Go.Maps
theorem build_idN' (b0 b1 b2 b3 b4 b5 b6 b7 b8 b9 b10 b11 b12 b13 b14 b15 b16 b17 b18 b19 b20 b21 b22 b23 b24 b25 b26 b27 b28 b29 b30 b31 : UInt8) (W : World) : (Instr.buildSlice 46 1 #[(0, .agg ([b0, b1, b2, b3, b4, b5, b6, b7, b8, b9, b10, b11, b12, b13, b14, b15, b16, b17, b18, b19, b20, b21, b22, b23, b24, b25, b26, b27, b28, b29, b30, b31].map B).toArray)]).run Tryd.prog W = .ok (.slice (some ⟨W.heap.size, 0, none⟩) 1 1) (W.alloc (.cells ([b0, b1, b2, b3, b4, b5, b6, b7, b8, b9, b10, b11, b12, b13, b14, b15, b16, b17, b18, b19, b20, b21, b22, b23, b24, b25, b26, b27, b28, b29, b30, b31].map B).toArray 34)) := by kernel_rfl
theorem build_idN (s : List UInt8) (h : s.length = 32) (W : World) : (Instr.buildSlice 46 1 #[(0, .agg (s.map B).toArray)]).run Tryd.prog W = .ok (.slice (some ⟨W.heap.size, 0, none⟩) 1 1) (W.alloc (.cells (s.map B).toArray 34)) := by
  match s, h with
  | [b0, b1, b2, b3, b4, b5, b6, b7, b8, b9, b10, b11, b12, b13, b14, b15, b16, b17, b18, b19, b20, b21, b22, b23, b24, b25, b26, b27, b28, b29, b30, b31], _ => exact build_idN' b0 b1 b2 b3 b4 b5 b6 b7 b8 b9 b10 b11 b12 b13 b14 b15 b16 b17 b18 b19 b20 b21 b22 b23 b24 b25 b26 b27 b28 b29 b30 b31 W

theorem ow_ge {w : World} {base : Nat} {e : TypeId} {size : Nat} {v : Value} {n : Nat} {xs : List Value} (h : w.ownsRow base e size v n xs) {g : Nat} (hg : v.ownBlock = some g) : base ≤ g := by
  rcases h.2 with ⟨rfl, _⟩ | ⟨g', cap, cur, rfl, hb, hh, _⟩
  · simp [Value.ownBlock] at hg
  · simp [Value.ownBlock] at hg; omega
set_option maxRecDepth 100000 in
set_option maxHeartbeats 4000000 in
theorem ca_all (D : Nat) (w : World) (U : List Nat) (p : Nat) (lim : Int) (ns : List Kn) (h : Ca D w U p lim ns) (hl : ns.length ≤ 1000000) :
    Calls Tryd.prog 30 #[.pointer (some ⟨p, 0, none⟩)] w fun e w' => ∃ b pa pc, e = .returned (.func (.func 39) #[] #[.pointer (some ⟨b, 0, none⟩)]) ∧ Kept [] w w' ∧ w.heap.size ≤ b ∧ VAt w' b pa pc (ns.map (·.id)) ∧ ∀ x, pa = some x → w.heap.size ≤ x.block ∧ x.block ≠ b := by
  obtain ⟨i0, hi0, hz0, hz1, hz2⟩ := info_parts id_zero
  obtain ⟨⟨mv, h1, _, _⟩, hlk, _⟩ := h
  have h3 := (ca_cells h1).2.2.2.1
  obtain ⟨fp, hfp⟩ : ∃ fp, fp = ptrO (fstP ns none) := ⟨_, rfl⟩
  have HFP := hid hfp
  rw [← hfp] at h3
  have hst := hid (World.ownsRow_nil w w.heap.size 34 32)
  have HLK := hid hlk; have HL := hid hl
  clear h1 hlk hl hfp
  go_enter Tryd.func30, Tryd.ntmps30
  go_wp2_with fail
  go_loopw [3, 4] (fun v k wr => ∃ pre rest, ns = pre ++ rest ∧ k = ptrO (fstP rest none) ∧ Kept [] w wr ∧ Hid (wr.ownsRow w.heap.size 34 32 v pre.length ((pre.map (·.id)).flatMap e32))) (fun v _ _ => ns.length - sliceLen v)
  case atStart => exact ⟨[], ns, rfl, HFP.out, Kept.refl _ _, hid (by simpa using hst.out)⟩
  case round =>
    obtain ⟨pre, rest, hns, rfl, hk, hown⟩ := hrel
    have HK := hid hk
    obtain ⟨a9, c9, rfl⟩ := owns_slice hown.out
    cases rest with
    | nil =>
      have hpr : pre = ns := by rw [hns]; simp
      subst hpr
      have hall := hid (show ∀ id ∈ pre.map (·.id), id.length = 32 from fun id hm => by
        obtain ⟨n, hn, rfl⟩ := List.mem_map.1 hm
        obtain ⟨x, y, hh⟩ := HLK.out.mem hn
        exact hh.1)
      have hids := hid (ids_of_row (W := wr) (base := w.heap.size) (a := a9) (c := c9) hall.out (by simpa using hown.out))
      have hlt3 := hid (show ∀ x, a9 = some x → x.block < wr.heap.size from fun x hx => by
        subst hx
        have h1 := hown.out.2
        rcases h1 with ⟨h1, _⟩ | ⟨g, cap, cur, h1, _, h3, _⟩
        · simp at h1
        · simp at h1; obtain ⟨h1, _⟩ := h1; subst h1; exact lt_of_block h3)
      have hva := hid (values_any a9 c9 (pre.map (·.id)) wr)
      rw [List.length_map] at hva
      simp only [fstP, ptrN]
      clear hown hk hns
      go_wp2_with fail
      refine hva.out.mono ?_
      rintro e w2 ⟨rfl, rfl⟩
      go_wp2
      go_ret
      refine ⟨wr.heap.size, a9, c9, rfl, HK.out.alloc _, HK.out.size, ⟨by rw [List.length_map]; exact heap_alloc_at rfl, hids.out.1.kept ((Kept.refl [] wr).alloc _) (by simp), fun x hx => by have := hlt3.out x hx; simp; omega⟩, fun x hx => ⟨(hids.out.2 x hx).1, by have := hlt3.out x hx; omega⟩⟩
    | cons n r =>
      have hln := hid (show KnAt wr n (lstP none pre) (fstP r none) from by
        have h1 := HLK.out
        rw [hns] at h1
        exact (Lk.app.1 h1).2.1.kept hk (by simp))
      have h32 := hln.out.1
      have hld := hid (kn_id_cells hln.out.2 h32)
      have hbn := hid (fun W => build_idN n.id h32 W)
      have hplen : pre.length + 1 ≤ 1000000 := by have := HL.out; rw [hns] at this; simp at this; omega
      obtain ⟨wc, hwc⟩ : ∃ wc : World, wc = wr.alloc (.cells (n.id.map B).toArray 34) := ⟨_, rfl⟩
      have hkc := hid (show Kept [] wr wc from by rw [hwc]; exact (Kept.refl [] wr).alloc _)
      have hnew := hid (show ∀ (j : Nat) u, (e32 n.id)[j]? = some u → wc.cell? ((⟨wr.heap.size, 0, none⟩ : Addr).add j) = some u from by
        intro j u hj
        rw [e32_of h32] at hj
        have e : (⟨wr.heap.size, 0, none⟩ : Addr).add j = ⟨wr.heap.size, j, none⟩ := by unfold Addr.add; split <;> simp_all
        rw [e, hwc, cell_of_row _ _ j _ _ _ (heap_alloc_at rfl)]; simpa using hj)
      have ho3 := hid (hkc.out.owns hown.out (by simp))
      have hsc := hid (show w.heap.size ≤ wc.heap.size by have h1 := HK.out.size; have h2 := hkc.out.size; omega)
      have HWC := hid hwc
      have HNS := hid hns
      obtain ⟨iv, hiv⟩ : ∃ iv, iv = (n.id.map B).toArray := ⟨_, rfl⟩
      have HIV := hid hiv
      rw [← hiv] at hld hbn HWC
      simp only [fstP, ptrS]
      clear hwc hk hns hiv
      go_wp2_with (first | (refine wpList_ldv rfl 34 (.tmp 19) rfl ⟨n.b, 0, none⟩ rfl (.agg iv) hld.out ?_) | (refine wpList_buildSlice1 rfl _ _ _ rfl (.slice (some ⟨wr.heap.size, 0, none⟩) 1 1) (wr.alloc (.cells iv 34)) (by have h := hbn.out wr; unfold execOp; simp [Act.eval, Act.put, h]) ?_; refine halt ?_))
      refine Halt.mk ?_
      rw [← HWC.out]
      go_wp2_with (at_builtin; refine halt ?_)
      refine Halt.mk ?_
      refine wpList_append_k _ rfl _ _ _ rfl w.heap.size 34 i0 _ 32 32 Tryd.underlying46 hi0 hz0 hz1 hz2 (by rw [Value.cells]; rfl) (by decide) (.slice a9 pre.length c9) pre.length _ rfl ho3.out (.slice (some ⟨wr.heap.size, 0, none⟩) 1 1) 1 (e32 n.id) rfl (Or.inr ⟨_, _, rfl, hnew.out⟩) (by rw [e32_len]) (by have := e32_one [n.id]; simpa using this) (by unfold maxLen; omega) (by omega) hsc.out ?_
      intro v2 w2 hown2 hgrow2 _ hf2
      have hk2 := hid (show Kept [] w w2 from (HK.out.trans hkc.out).trans' (Kept.of_row hgrow2) (fun y hy hm => by
        rw [Option.mem_toList] at hm
        have := ow_ge hown.out hm; omega))
      have hkw2 := hid (show KnAt w2 n (lstP none pre) (fstP r none) from (hln.out.kept hkc.out (by simp)).kept (Kept.of_row hgrow2) (fun hm => by
        rw [Option.mem_toList] at hm
        obtain ⟨cur, hc⟩ := ow_type hown.out hm
        rw [hln.out.2] at hc
        simp at hc))
      have hc34 : w2.cell? ⟨n.b, 34, none⟩ = some (ptrO (fstP r none)) := (kn_cells h32 hkw2.out.2).2.2
      have Ho := hid (show w2.ownsRow w.heap.size 34 32 v2 (pre ++ [n]).length (((pre ++ [n]).map (·.id)).flatMap e32) from by simpa using hown2)
      obtain ⟨a8, c8, rfl⟩ := owns_slice hown2
      obtain ⟨nx, hnx⟩ : ∃ nx, nx = ptrO (fstP r none) := ⟨_, rfl⟩
      have HNX := hid hnx
      rw [← hnx] at hc34
      clear hown2 hgrow2 hf2 hnx
      go_wp2
      go_roundw
      case rel => exact ⟨pre ++ [n], r, by rw [HNS.out]; simp, HNX.out, hk2.out, by simpa using Ho⟩
      case measure =>
        have h1 := congrArg List.length HNS.out
        simp at h1
        simp [sliceLen]
        omega

theorem ca_wipe (D : Nat) (w : World) (U : List Nat) (p : Nat) (lim : Int) (ns : List Kn) (h : Ca D w U p lim ns) :
    Calls Tryd.prog 16 #[.pointer (some ⟨p, 0, none⟩)] w fun e w' => e = .returned (.tuple #[]) ∧ Kept U w w' ∧ Ca D w' U p lim [] := by
  obtain ⟨⟨mv, h1, h2, h3⟩, h4, h5, h6, h7, h8, h9, h10⟩ := h
  have c0 := (ca_cells h1).1
  obtain ⟨fp, hfp⟩ : ∃ fp, fp = ptrO (fstP ns none) := ⟨_, rfl⟩
  obtain ⟨lp, hlp⟩ : ∃ lp, lp = ptrO (lstP none ns) := ⟨_, rfl⟩
  have hrow : w.heap[p]? = some (.cells (caL lim (sizeK ns) mv fp lp).toArray 61 (0, 0)) := by rw [hfp, hlp]; exact h1
  have HR := hid hrow
  have hk : Kept U w (w.setRow p (splice (caL lim (sizeK ns) mv fp lp) 0 [.int .i64 lim, .int .i64 0, .map none, .pointer none, .pointer none]).toArray) := (Kept.refl U w).setRow (fun _ => h7) _
  have hc : CaAt (w.setRow p (splice (caL lim (sizeK ns) mv fp lp) 0 [.int .i64 lim, .int .i64 0, .map none, .pointer none, .pointer none]).toArray) p lim 0 (.map none) none none := setRow_heap _ _ _ _ _ _ hrow
  have hfin : Ca D (w.setRow p (splice (caL lim (sizeK ns) mv fp lp) 0 [.int .i64 lim, .int .i64 0, .map none, .pointer none, .pointer none]).toArray) U p lim [] :=
    ⟨⟨.map none, hc, Or.inl ⟨rfl, rfl⟩, by simp⟩, trivial, by simp, by simp, h7, by simp, fun x hx => ⟨(h9 x hx).1, Nat.lt_of_lt_of_le (h9 x hx).2 hk.size⟩, h10⟩
  have HK := hid hk; have HF := hid hfin
  clear h1 h2 h3 h4 h5 h6 h7 h8 h9 h10 hfp hlp hk hfin hc
  go_enter Tryd.func16, Tryd.ntmps16
  go_wp2_with (refine wpList_store_at rfl 61 (.tmp 8) (.tmp 7) rfl p 0 [.int .i64 lim, .int .i64 0, .map none, .pointer none, .pointer none] rfl rfl 61 (caL lim (sizeK ns) mv fp lp) HR.out (by kernel_rfl) (by simp [caL]) (by simp [Value.oneCell']) ?_; refine halt ?_)
  refine Halt.mk ?_
  go_wp2
  go_end0
  exact ⟨rfl, HK.out, HF.out⟩
end Go.Proofs.YtmkdjonlfkfnlaaDoor
