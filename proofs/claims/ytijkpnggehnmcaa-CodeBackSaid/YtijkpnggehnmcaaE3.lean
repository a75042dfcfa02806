/- coldstorelaw02.CodeBack's closure. -/
import Derived.Test.YtijkpnggehnmcaaE2
import Derived.WalkSpells
import Derived.Deep.RegionHeld3
import Derived.Deep.RegionLaw
import Derived.RegionDies
namespace Go.Proofs.Ytijkpnggehnmcaa
open Go.RowKit Go.Lib

/-- Where the closure stands when i fields are read: of K bytes that were handed. -/
def BackAt (rb pd : Nat) (a : Option Addr) (ops : List OpR) (tl : List UInt8) (K i : Nat) (w wr : World) : Prop :=
  ∃ a1 c1 m, m + (outs (ops.take i)).length = K ∧ Kept [rb, pd] w wr ∧ Rd wr rb a1 c1 ((outs (ops.drop i) ++ tl).take m) ∧ (∀ x, a1 = some x → ∃ y, a = some y ∧ x.block = y.block) ∧ wr.heap[pd]? = some (.cells #[.bool true] 4 (0, 0))

/-- What the reading gives. -/
def BackQ (pd : Nat) (ops : List OpR) (tl : List UInt8) (K : Nat) (n : Int) (rest : List UInt8) (W : World) : Prop :=
  W.heap[pd]? = some (.cells #[.bool true] 4 (0, 0)) ∧ ((n = 20 ∧ K < (outs ops).length) ∨ (n = 0 ∧ (outs ops).length ≤ K ∧ rest = tl.take (K - (outs ops).length)))

theorem held_sz (size : Int) (w : World) : Calls Try.prog 18 #[.int .i64 size, .int .i64 1, .int .i64 8] w fun e w' => e = .returned (.int .i64 (sz size)) ∧ w = w' := by
  by_cases h1 : size < 1
  · have e : sz size = 1 := by unfold sz; rw [if_pos h1]
    have h2 : ¬ 8 < size := by omega
    rw [e]
    go_enter Try.func18, Try.ntmps18
    go_wp2
    go_ret
    exact ⟨by simp, rfl⟩
  · by_cases h2 : 8 < size
    · have e : sz size = 8 := by unfold sz; rw [if_neg h1, if_pos h2]
      rw [e]
      go_enter Try.func18, Try.ntmps18
      go_wp2
      go_ret
      exact ⟨by simp, rfl⟩
    · have e : (sz size : Int) = size := by unfold sz; rw [if_neg h1, if_neg h2]; omega
      rw [e]
      go_enter Try.func18, Try.ntmps18
      go_wp2
      go_ret
      exact ⟨by simp, rfl⟩

theorem back_step (rb pd : Nat) (a a1 a2 : Option Addr) (c2 : Nat) (ops : List OpR) (o : OpR) (tl r : List UInt8) (K i m : Nat) (w W W1 : World) (hm : m + (outs (ops.take i)).length = K) (hsn : outs (ops.take (i + 1)) = outs (ops.take i) ++ o.out) (hmo : o.out.length ≤ m)
    (hkk : Kept [rb, pd] w W) (hk1 : Kept [rb] W.drew W1) (hr : r = (outs (ops.drop (i + 1)) ++ tl).take (m - o.out.length)) (hrd : Rd W1 rb a2 c2 r) (h21 : ∀ x, a2 = some x → ∃ y, a1 = some y ∧ x.block = y.block) (hab : ∀ x, a1 = some x → ∃ y, a = some y ∧ x.block = y.block)
    (hdW : W.heap[pd]? = some (.cells #[.bool true] 4 (0, 0))) (hpr : pd ≠ rb) (hax : ∀ x, a = some x → x.block ≠ pd ∧ x.block ≠ rb ∧ x.block < w.heap.size) : BackAt rb pd a ops tl K (i + 1) w (W1.setCell ⟨pd, 0, none⟩ (.bool true)) := by
  have hkS : Kept [pd] W1 (W1.setCell ⟨pd, 0, none⟩ (.bool true)) := (Kept.refl _ _).setCell (p := ⟨pd, 0, none⟩) (fun _ => by simp) _
  have hd1 : W1.heap[pd]? = some (.cells #[.bool true] 4 (0, 0)) := hk1.at (k := pd) hdW (by simpa using hpr)
  have hblk : ∀ x, a2 = some x → ∃ y, a = some y ∧ x.block = y.block := fun x hx => by
    obtain ⟨y, hy, h1⟩ := h21 x hx
    obtain ⟨z, hz, h2⟩ := hab y hy
    exact ⟨z, hz, h1.trans h2⟩
  refine ⟨a2, c2, m - o.out.length, by rw [hsn, List.length_append]; omega, (hkk.drew.trans' hk1 (fun x _ hx => by simp at hx; simp [hx])).trans' hkS (fun x _ hx => by simp at hx; simp [hx]), ?_, hblk, one_setCell hd1⟩
  rw [← hr]
  refine hrd.kept hkS (by simpa using fun e => hpr e.symm) (fun x hx => ?_)
  obtain ⟨y, hy, h1⟩ := hblk x hx
  have := hax y hy
  simp; omega

/-- What 1 is, shifted left by k bytes; that less 1; a number masked by it. -/
theorem mask_run (k : Nat) (h1 : 1 ≤ k) (h8 : k ≤ 8) : ∃ t1 : Int, (∀ w : World, (Op.shift .shl .u64 1 .i64 (IntKind.i64.wrap (8 * (k : Int)))).run Try.prog w = .ok (.int .u64 t1) w) ∧ IntKind.u64.wrap (t1 - 1) = ((256 ^ k - 1 : Nat) : Int) :=
  match k, h1, h8 with
  | 1, _, _ => ⟨256, fun _ => by kernel_rfl, by rfl⟩
  | 2, _, _ => ⟨65536, fun _ => by kernel_rfl, by rfl⟩
  | 3, _, _ => ⟨16777216, fun _ => by kernel_rfl, by rfl⟩
  | 4, _, _ => ⟨4294967296, fun _ => by kernel_rfl, by rfl⟩
  | 5, _, _ => ⟨1099511627776, fun _ => by kernel_rfl, by rfl⟩
  | 6, _, _ => ⟨281474976710656, fun _ => by kernel_rfl, by rfl⟩
  | 7, _, _ => ⟨72057594037927936, fun _ => by kernel_rfl, by rfl⟩
  | 8, _, _ => ⟨0, fun _ => by kernel_rfl, by rfl⟩

set_option maxHeartbeats 16000000 in
theorem back1 (rb po pd : Nat) (a ax : Option Addr) (c cx : Nat) (ops : List OpR) (tl : List UInt8) (K : Nat) (w : World) (h : Rd w rb a c ((outs ops ++ tl).take K)) (h40 : ops.length ≤ 40) (h60 : ∀ o ∈ ops, o.bs.length ≤ 60)
    (hpo : w.heap[po]? = some (.cells #[.slice ax ops.length cx] 23 (0, 0))) (hops : ∀ wr, Kept [rb, pd] w wr → IsOps wr ax ops) (hpd : w.heap[pd]? = some (.cells #[.bool true] 4 (0, 0)))
    (ho : po ≠ rb ∧ po ≠ pd ∧ pd ≠ rb) (hax : ∀ x, a = some x → x.block ≠ pd ∧ x.block ≠ rb ∧ x.block < w.heap.size) :
    Calls Try.prog 17 #[.pointer (some ⟨rb, 0, none⟩), .pointer (some ⟨po, 0, none⟩), .pointer (some ⟨pd, 0, none⟩)] w (Threw (ReadOn rb a [pd] w (BackQ pd ops tl K))) := by
  have gpo := cell_of_one hpo
  have lrb := hid (lt_of_block h.here)
  have lpd := hid (lt_of_block hpd)
  have hat0 := hid (show BackAt rb pd a ops tl K 0 w w from ⟨a, c, K, by simp [outs], Kept.refl _ _, by simpa using h, fun x hx => ⟨x, hx, rfl⟩, hpd⟩)
  have HOPS := hid hops; have HO := hid ho; have HAX := hid hax; have H60 := hid h60
  clear h hpo hops hpd ho hax h60
  go_enter Try.func17, Try.ntmps17
  go_wp2_with fail
  go_loopw [9] (fun s wr => ∃ i : Nat, i ≤ ops.length ∧ s = .int .i64 i ∧ BackAt rb pd a ops tl K i w wr) (fun s _ => ops.length - (intOf s).toNat)
  case atStart => exact ⟨0, Nat.zero_le _, rfl, hat0.out⟩
  case round =>
    obtain ⟨i, hi, rfl, hat⟩ := hrel
    have HAt := hid hat
    clear hat
    by_cases hlt : i < ops.length
    · cases ax with
      | none => exact absurd ((HOPS.out w (Kept.refl _ _)).1 rfl) (fun e => by rw [e] at hlt; simp at hlt)
      | some x =>
        obtain ⟨a1, c1, m, hm, hkw, hrd, hab, hd⟩ := HAt.out
        obtain ⟨g0, g1, g2, g3, hsrc, hn, hl⟩ := (HOPS.out wr hkw).2 x rfl i ops[i] (by simp [hlt])
        have HNum := hid hn
        have hsn := hid (outs_snoc ops i hlt)
        have hdr := hid (outs_drop ops i hlt)
        have hl60 := hid (H60.out _ (List.getElem_mem hlt))
        have HSrc := hid hsrc; have Hn := hid hn; have Hm := hid hm; have Hkw := hid hkw; have Hrd := hid hrd; have Hab := hid hab; have Hd := hid hd
        clear hsrc hn hl hm hkw hrd hab hd HAt
        generalize ho : ops[i] = o at *
        have hoi := hid (show ops[i]? = some o from by simp [hlt, ho])
        clear ho
        obtain ⟨W, hW⟩ : ∃ W, W = wr.alloc (.cells #[.int .i64 o.kind, .int .i64 o.size, .int .u64 (o.num : Int), .slice o.ba o.bs.length o.bc] 34) := ⟨_, rfl⟩
        have hkW := hid (show Kept [] wr W from hW ▸ (Kept.refl [] wr).alloc _)
        have hkk := hid (show Kept [rb, pd] w W from Hkw.out.trans' hkW.out (by simp))
        have hrW := hid (Hrd.out.kept hkW.out (by simp) (by simp))
        have hdW := hid (hkW.out.at Hd.out (by simp))
        have hsW := hid (HSrc.out.kept hkW.out (by simp))
        have HWW := hid hW
        clear hW
        have hbox := hid (show W.heap[wr.heap.size]? = some (.cells #[.int .i64 o.kind, .int .i64 o.size, .int .u64 (o.num : Int), .slice o.ba o.bs.length o.bc] 34 (0, 0)) from HWW.out ▸ heap_alloc_at rfl)
        have gb3 : W.cell? ⟨wr.heap.size, 3, none⟩ = some (.slice o.ba o.bs.length o.bc) := by unfold World.cell?; simp [hbox.out]
        have gd := cell_of_one hdW.out
        have gdf := free_of_one hdW.out
        have lrW := hid (show rb < W.heap.size from lt_of_block hrW.out.here)
        have lpW := hid (show pd < W.heap.size from lt_of_block hdW.out)
        have hnbox := hid (show wr.heap.size ≠ rb ∧ wr.heap.size ≠ pd from ⟨by have := lt_of_block Hrd.out.here; omega, by have := lt_of_block Hd.out; omega⟩)
        have lbox := lt_of_block hbox.out
        have hpr := hid (show pd ≠ rb from HO.out.2.2)
        by_cases hmo : o.out.length ≤ m
        · have hxs : (outs (ops.drop i) ++ tl).take m = o.out ++ (outs (ops.drop (i + 1)) ++ tl).take (m - o.out.length) := by
            rw [hdr.out, List.append_assoc, take_out, if_pos hmo]
          have hrW2 := hrW.out
          rw [hxs] at hrW2
          obtain ⟨r, hr⟩ : ∃ r, r = (outs (ops.drop (i + 1)) ++ tl).take (m - o.out.length) := ⟨_, rfl⟩
          rw [← hr] at hrW2
          have HrW := hid hrW2
          have Hr := hid hr
          have Hmo := hid hmo
          clear hxs hrW2 hr hmo
          by_cases k01 : o.kind = 0 ∨ o.kind = 1
          · have hout : o.out = numB o.num (sz o.size) := by unfold OpR.out; rw [if_pos k01]
            have hrd2 := HrW.out
            rw [hout] at hrd2
            have hsz := sz_le o.size
            have hl0 : (numB o.num (sz o.size) ++ r).length = sz o.size + r.length := by simp [numB_len]
            have hcall := (rnum_ok rb a1 c1 (numB o.num (sz o.size) ++ r) o.size (by omega) W.drew (hrd2.kept (Kept.of_drew [] W) (by simp) (by simp)))
            have hnext := (hrd2.kept (Kept.of_drew [] W) (by simp) (by simp)).next (m := sz o.size) (by omega)
            rw [numOf_low] at hcall
            rw [List.drop_left' (numB_len _ _)] at hnext
            obtain ⟨W1, hW1⟩ : ∃ W1, W1 = nextW W.drew rb a1 c1 (numB o.num (sz o.size) ++ r) (sz o.size) := ⟨_, rfl⟩
            have hk1 := next_kept W.drew rb a1 c1 (numB o.num (sz o.size) ++ r) (sz o.size)
            rw [← hW1] at hcall hnext hk1
            have Hcall := hid hcall
            have gd1 : W1.cell? ⟨pd, 0, none⟩ = some (.bool true) := (hk1.cell (p := ⟨pd, 0, none⟩) lpW.out (by simpa using hpr.out)).trans gd
            have gdf1 : W1.frozen? ⟨pd, 0, none⟩ = false := (hk1.frozen (p := ⟨pd, 0, none⟩) lpW.out (by simpa using hpr.out)).trans gdf
            have gb1 : W.cell? ⟨wr.heap.size, 1, none⟩ = some (.int .i64 o.size) := by unfold World.cell?; simp [hbox.out]
            have gb2 : W.cell? ⟨wr.heap.size, 2, none⟩ = some (.int .u64 (o.num : Int)) := by unfold World.cell?; simp [hbox.out]
            have gb11 : W1.cell? ⟨wr.heap.size, 1, none⟩ = some (.int .i64 o.size) := (hk1.cell (p := ⟨wr.heap.size, 1, none⟩) lbox (by simpa using hnbox.out.1)).trans gb1
            have gb12 : W1.cell? ⟨wr.heap.size, 2, none⟩ = some (.int .u64 (o.num : Int)) := (hk1.cell (p := ⟨wr.heap.size, 2, none⟩) lbox (by simpa using hnbox.out.1)).trans gb2
            have Hnext := hid hnext; have Hk1 := hid hk1
            clear hi hcall hnext hk1 hrd2 hW1 hout hl0
            obtain ⟨t1, hsh, hsb⟩ := mask_run (sz o.size) hsz.1 hsz.2
            have hand := and_low o.num (sz o.size) hsz.2 HNum.out
            obtain ⟨low, hlow⟩ : ∃ low : Nat, low = o.num % 256 ^ sz o.size := ⟨_, rfl⟩
            rw [← hlow] at hand Hcall
            rw [← hsb] at hand
            have hll : ((low : Int) == bits .and .u64 (o.num : Int) (IntKind.u64.wrap (t1 - 1))) = true := by rw [hand]; simp
            have gbd1 : W.drew.cell? ⟨wr.heap.size, 1, none⟩ = some (.int .i64 o.size) := gb1
            have gbd2 : W.drew.cell? ⟨wr.heap.size, 2, none⟩ = some (.int .u64 (o.num : Int)) := gb2
            have gdd : W.drew.cell? ⟨pd, 0, none⟩ = some (.bool true) := gd
            have hkS : Kept [pd] W1 (W1.setCell ⟨pd, 0, none⟩ (.bool true)) := (Kept.refl _ _).setCell (p := ⟨pd, 0, none⟩) (fun _ => by simp) _
            have lb1 := World.block_lt_of_cell? W1 _ gb11
            have gs1 : (W1.setCell ⟨pd, 0, none⟩ (.bool true)).cell? ⟨wr.heap.size, 1, none⟩ = some (.int .i64 o.size) := (hkS.cell (p := ⟨wr.heap.size, 1, none⟩) lb1 (by simpa using hnbox.out.2)).trans gb11
            have gs2 : (W1.setCell ⟨pd, 0, none⟩ (.bool true)).cell? ⟨wr.heap.size, 2, none⟩ = some (.int .u64 (o.num : Int)) := (hkS.cell (p := ⟨wr.heap.size, 2, none⟩) lb1 (by simpa using hnbox.out.2)).trans gb12
            have gs3 : (W1.setCell ⟨pd, 0, none⟩ (.bool true)).cell? ⟨pd, 0, none⟩ = some (.bool true) := cell_of_one (one_setCell (Hk1.out.at (k := pd) hdW.out (by simpa using hpr.out)))
            clear hkS lb1
            clear hlow hand hsb
            have hk01 : (o.kind == 0) = true ∨ ((o.kind == 0) = false ∧ (o.kind == 1) = true) := by
              rcases k01 with k0 | k1
              · exact Or.inl (by simp [k0])
              · exact Or.inr ⟨by simp [k1], by simp [k1]⟩
            clear k01
            rcases hk01 with k0 | ⟨k0, k1⟩
            all_goals
              go_wp2_with fail
              refine (held_sz _ _).mono ?_
              rintro e w9 ⟨rfl, rfl⟩
              go_wp2_with fail
              rw [← HWW.out]
              go_region_held3 (fun w' => w'.cell? ⟨wr.heap.size, 1, none⟩ = some (.int .i64 o.size) ∧ w'.cell? ⟨wr.heap.size, 2, none⟩ = some (.int .u64 (o.num : Int)) ∧ w'.cell? ⟨pd, 0, none⟩ = some (.bool true)) (first | exact ⟨gbd1, gbd2, gdd⟩ | exact ⟨gb11, gb12, gd1⟩ | exact ⟨gs1, gs2, gs3⟩)
                (first | (go_at_call 19; refine Hcall.out.mono ?_; rintro e w' ⟨rfl, rfl⟩))
              have hfin := hid (back_step rb pd a a1 _ _ ops o tl r K i m w W W1 Hm.out hsn.out Hmo.out hkk.out Hk1.out Hr.out Hnext.out behind_block Hab.out hdW.out hpr.out HAX.out)
              clear gd1 gdf1 gb1 gb3 gd gdf gb11 gb12 gs1 gs2 gs3 gbd1 gbd2 gdd
              generalize W1.setCell ⟨pd, 0, none⟩ (.bool true) = W3 at *
              go_wp2
              go_roundw
              case rel => exact ⟨i + 1, by omega, by go_num, hfin.out⟩
              case measure => simp [intOf]; omega
          have b0 : (o.kind == 0) = false := by simp; omega
          have b1 : (o.kind == 1) = false := by simp; omega
          by_cases k2 : o.kind = 2
          · have hout : o.out = numB o.bs.length 4 ++ o.bs := by unfold OpR.out; simp [k2]
            have hrd2 := HrW.out
            rw [hout] at hrd2
            obtain ⟨f1, f2, f3, f4⟩ := field_whole o.bs r hl60.out
            have f5 : said (numB o.bs.length 4 ++ o.bs ++ r) = o.bs.length := by omega
            have hcall := (rbytes_ok rb a1 c1 _ 60 (by rw [f5]; have := hl60.out; omega) (by rw [f5]; simp [numB_len]) W.drew (hrd2.kept (Kept.of_drew [] W) (by simp) (by simp)))
            have hfield := (hrd2.kept (Kept.of_drew [] W) (by simp) (by simp)).readField (n := o.bs.length) (by simp [numB_len]) (next_kept W.drew rb a1 c1 (numB o.bs.length 4 ++ o.bs ++ r) (4 + o.bs.length)) (fun x hx => by simpa using (hrd2.src x hx).1)
            have hnext := (hrd2.kept (Kept.of_drew [] W) (by simp) (by simp)).next (m := 4 + o.bs.length) (by simp [numB_len])
            rw [f5] at f3
            rw [f3] at hfield
            rw [f4] at hnext
            rw [f5] at hcall
            obtain ⟨W1, hW1⟩ : ∃ W1, W1 = nextW W.drew rb a1 c1 (numB o.bs.length 4 ++ o.bs ++ r) (4 + o.bs.length) := ⟨_, rfl⟩
            have hk1 := next_kept W.drew rb a1 c1 (numB o.bs.length 4 ++ o.bs ++ r) (4 + o.bs.length)
            rw [← hW1] at hcall hfield hnext hk1
            have hsame := hid (same_src (behind a1 (4 + o.bs.length) 4) o.ba o.bs.length o.bc o.bs W1 hfield ((HOPS.out W1 ((hkk.out.drew).trans' hk1 (fun x _ hx => by simp at hx; simp [hx]))).2 x rfl i o hoi.out).2.2.2.2.1)
            have Hcall := hid hcall
            have gd1 : W1.cell? ⟨pd, 0, none⟩ = some (.bool true) := (hk1.cell (p := ⟨pd, 0, none⟩) lpW.out (by simpa using hpr.out)).trans gd
            have gdf1 : W1.frozen? ⟨pd, 0, none⟩ = false := (hk1.frozen (p := ⟨pd, 0, none⟩) lpW.out (by simpa using hpr.out)).trans gdf
            have gb1 : W1.cell? ⟨wr.heap.size, 3, none⟩ = some (.slice o.ba o.bs.length o.bc) := (hk1.cell (p := ⟨wr.heap.size, 3, none⟩) lbox (by simpa using hnbox.out.1)).trans gb3
            rw [k2] at g0 HWW
            have Hnext := hid hnext; have Hk1 := hid hk1
            clear hi hcall hfield hnext hk1 hrd2 f1 f2 f3 f4 f5 hW1 hout
            go_wp2_with fail
            rw [← HWW.out]
            go_region_law
              ((first
                | (refine step_call_wanted (by go_simp) 21 #[.pointer (some ⟨rb, 0, none⟩), .int .i64 60] (by go_simp) (fun v w' => v = .slice (behind a1 (4 + o.bs.length) 4) o.bs.length o.bs.length ∧ W1 = w') (Hcall.out.mono fun e w' h => ⟨_, h.1, rfl, h.2⟩) ?_
                   rintro _ w1 ⟨rfl, rfl⟩)
                | (refine step_call_wanted (by go_simp) 20 #[.slice (behind a1 (4 + o.bs.length) 4) o.bs.length o.bs.length, .slice o.ba o.bs.length o.bc] (by go_simp) (fun v w' => v = .bool true ∧ W1 = w') (hsame.out.mono fun e w' h => ⟨_, h.1, rfl, h.2⟩) ?_
                   rintro _ w1 ⟨rfl, rfl⟩)))
            all_goals
              have hfin := hid (back_step rb pd a a1 _ _ ops o tl r K i m w W W1 Hm.out hsn.out Hmo.out hkk.out Hk1.out Hr.out Hnext.out behind_block Hab.out hdW.out hpr.out HAX.out)
              clear gd1 gdf1 gb1 gb3 gd gdf
              generalize W1.setCell ⟨pd, 0, none⟩ (.bool true) = W3 at *
              go_wp2
              go_roundw
              case rel => exact ⟨i + 1, by omega, by go_num, hfin.out⟩
              case measure => simp [intOf]; omega
          have b2 : (o.kind == 2) = false := by simpa using k2
          by_cases k3 : o.kind = 3
          · have hout : o.out = numB o.bs.length 4 ++ o.bs := by unfold OpR.out; simp [k3]
            have hrd2 := HrW.out
            rw [hout] at hrd2
            obtain ⟨f1, f2, f3, f4⟩ := field_whole o.bs r hl60.out
            have f5 : said (numB o.bs.length 4 ++ o.bs ++ r) = o.bs.length := by omega
            have hcall := (rtext_ok rb a1 c1 _ 60 (by rw [f5]; have := hl60.out; omega) (by rw [f5]; simp [numB_len]) W.drew (hrd2.kept (Kept.of_drew [] W) (by simp) (by simp)))
            have hnext := (hrd2.kept (Kept.of_drew [] W) (by simp) (by simp)).next (m := 4 + o.bs.length) (by simp [numB_len])
            rw [f4] at hnext
            rw [f3, f5] at hcall
            obtain ⟨W1, hW1⟩ : ∃ W1, W1 = nextW W.drew rb a1 c1 (numB o.bs.length 4 ++ o.bs ++ r) (4 + o.bs.length) := ⟨_, rfl⟩
            have hk1 := next_kept W.drew rb a1 c1 (numB o.bs.length 4 ++ o.bs ++ r) (4 + o.bs.length)
            rw [← hW1] at hcall hnext hk1
            have hs1 := ((HOPS.out W1 ((hkk.out.drew).trans' hk1 (fun x _ hx => by simp at hx; simp [hx]))).2 x rfl i o hoi.out).2.2.2.2.1
            have hcv0 := text_any W o.ba o.bc o.bs hsW.out
            have hcv1 := text_any W.drew o.ba o.bc o.bs (hsW.out.kept (Kept.of_drew [] W) (by simp))
            have hcv2 := text_any W1 o.ba o.bc o.bs hs1
            have Hcall := hid hcall
            have gd1 : W1.cell? ⟨pd, 0, none⟩ = some (.bool true) := (hk1.cell (p := ⟨pd, 0, none⟩) lpW.out (by simpa using hpr.out)).trans gd
            have gdf1 : W1.frozen? ⟨pd, 0, none⟩ = false := (hk1.frozen (p := ⟨pd, 0, none⟩) lpW.out (by simpa using hpr.out)).trans gdf
            have gb1 : W1.cell? ⟨wr.heap.size, 3, none⟩ = some (.slice o.ba o.bs.length o.bc) := (hk1.cell (p := ⟨wr.heap.size, 3, none⟩) lbox (by simpa using hnbox.out.1)).trans gb3
            rw [k3] at g0 HWW
            have Hnext := hid hnext; have Hk1 := hid hk1
            clear hi hcall hnext hk1 hrd2 f1 f2 f3 f4 f5 hW1 hout hs1
            go_wp2_with fail
            rw [← HWW.out]
            go_region_law
              ((refine step_call_wanted (by go_simp) 22 #[.pointer (some ⟨rb, 0, none⟩), .int .i64 60] (by go_simp) (fun v w' => v = .string ⟨o.bs.toArray⟩ ∧ W1 = w') (Hcall.out.mono fun e w' h => ⟨_, h.1, rfl, h.2⟩) ?_
                rintro _ w1 ⟨rfl, rfl⟩))
            all_goals
              have hfin := hid (back_step rb pd a a1 _ _ ops o tl r K i m w W W1 Hm.out hsn.out Hmo.out hkk.out Hk1.out Hr.out Hnext.out behind_block Hab.out hdW.out hpr.out HAX.out)
              clear gd1 gdf1 gb1 gb3 gd gdf
              generalize W1.setCell ⟨pd, 0, none⟩ (.bool true) = W3 at *
              go_wp2
              go_roundw
              case rel => exact ⟨i + 1, by omega, by go_num, hfin.out⟩
              case measure => simp [intOf]; omega
          have b3 : (o.kind == 3) = false := by simpa using k3
          by_cases k4 : o.kind = 4
          · have hout : o.out = o.bs := by unfold OpR.out; simp [k4]
            have hrd2 := HrW.out
            rw [hout] at hrd2
            have hcall := (raw_ok rb a1 c1 (o.bs ++ r) o.bs.length o.bs.length (by omega) (by simp) W.drew (hrd2.kept (Kept.of_drew [] W) (by simp) (by simp)))
            have hfield := (hrd2.kept (Kept.of_drew [] W) (by simp) (by simp)).read (m := o.bs.length) (by simp) (next_kept W.drew rb a1 c1 (o.bs ++ r) o.bs.length) (fun x hx => by simpa using (hrd2.src x hx).1)
            have hnext := (hrd2.kept (Kept.of_drew [] W) (by simp) (by simp)).next (m := o.bs.length) (by simp)
            rw [List.take_left' rfl] at hfield
            rw [List.drop_left' rfl] at hnext
            obtain ⟨W1, hW1⟩ : ∃ W1, W1 = nextW W.drew rb a1 c1 (o.bs ++ r) o.bs.length := ⟨_, rfl⟩
            have hk1 := next_kept W.drew rb a1 c1 (o.bs ++ r) o.bs.length
            rw [← hW1] at hcall hfield hnext hk1
            have hsame := hid (same_src a1 o.ba o.bs.length o.bc o.bs W1 hfield ((HOPS.out W1 ((hkk.out.drew).trans' hk1 (fun x _ hx => by simp at hx; simp [hx]))).2 x rfl i o hoi.out).2.2.2.2.1)
            have Hcall := hid hcall
            have gd1 : W1.cell? ⟨pd, 0, none⟩ = some (.bool true) := (hk1.cell (p := ⟨pd, 0, none⟩) lpW.out (by simpa using hpr.out)).trans gd
            have gdf1 : W1.frozen? ⟨pd, 0, none⟩ = false := (hk1.frozen (p := ⟨pd, 0, none⟩) lpW.out (by simpa using hpr.out)).trans gdf
            have gb1 : W1.cell? ⟨wr.heap.size, 3, none⟩ = some (.slice o.ba o.bs.length o.bc) := (hk1.cell (p := ⟨wr.heap.size, 3, none⟩) lbox (by simpa using hnbox.out.1)).trans gb3
            rw [k4] at g0 HWW
            have Hnext := hid hnext; have Hk1 := hid hk1
            clear hi hcall hfield hnext hk1 hrd2 hW1 hout
            go_wp2_with fail
            rw [← HWW.out]
            go_region_law
              ((first
                | (refine step_call_wanted (by go_simp) 23 #[.pointer (some ⟨rb, 0, none⟩), .int .i64 o.bs.length] (by go_simp) (fun v w' => v = .slice a1 o.bs.length o.bs.length ∧ W1 = w') (Hcall.out.mono fun e w' h => ⟨_, h.1, rfl, h.2⟩) ?_
                   rintro _ w1 ⟨rfl, rfl⟩)
                | (refine step_call_wanted (by go_simp) 20 #[.slice a1 o.bs.length o.bs.length, .slice o.ba o.bs.length o.bc] (by go_simp) (fun v w' => v = .bool true ∧ W1 = w') (hsame.out.mono fun e w' h => ⟨_, h.1, rfl, h.2⟩) ?_
                   rintro _ w1 ⟨rfl, rfl⟩)))
            all_goals
              have hfin := hid (back_step rb pd a a1 _ _ ops o tl r K i m w W W1 Hm.out hsn.out Hmo.out hkk.out Hk1.out Hr.out Hnext.out behind_block Hab.out hdW.out hpr.out HAX.out)
              clear gd1 gdf1 gb1 gb3 gd gdf
              generalize W1.setCell ⟨pd, 0, none⟩ (.bool true) = W3 at *
              go_wp2
              go_roundw
              case rel => exact ⟨i + 1, by omega, by go_num, hfin.out⟩
              case measure => simp [intOf]; omega
          have b4 : (o.kind == 4) = false := by simpa using k4
          have hout : o.out = [] := by
            unfold OpR.out
            rw [if_neg k01, if_neg (by omega), if_neg k4]
          have hfin := hid (show BackAt rb pd a ops tl K (i + 1) w W from ⟨a1, c1, m, by rw [hsn.out, hout]; simpa using Hm.out, hkk.out, by
            have h1 := HrW.out
            have h2 := Hr.out
            rw [hout] at h1 h2
            simp only [List.nil_append, List.length_nil, Nat.sub_zero] at h1 h2
            rw [← h2]; exact h1, Hab.out, hdW.out⟩)
          clear gd gdf gb3 k01 k2 k3 k4 hout hi
          go_wp2_with fail
          rw [← HWW.out]
          generalize W = W3 at *
          go_wp2
          go_roundw
          case rel => exact ⟨i + 1, by omega, by go_num, hfin.out⟩
          case measure => simp [intOf]; omega
        · have hxs : (outs (ops.drop i) ++ tl).take m = o.out.take m := by
            rw [hdr.out, List.append_assoc, take_out, if_neg hmo]
          have hrW2 := hrW.out
          rw [hxs] at hrW2
          have hK : K < (outs ops).length := by
            have h1 := outs_split ops i
            have h2 := congrArg List.length hdr.out
            rw [List.length_append] at h2
            have := Hm.out
            omega
          have hrD := hrW2.kept (Kept.of_drew [] W) (by simp) (by simp)
          have hR := hid (show ReadOn rb a [pd] w (BackQ pd ops tl K) 20 W.drew from ⟨a1, c1, _, hrD, hkk.out.drew, Hab.out, (Kept.of_drew [] W).at hdW.out (by simp), Or.inl ⟨rfl, hK⟩⟩)
          have hml : (o.out.take m).length = m := by simp; omega
          have hHrD := hid hrD
          have Hcut := hid (show m < o.out.length by omega)
          clear hxs hrW2 hK hrD hmo
          by_cases k01 : o.kind = 0 ∨ o.kind = 1
          · have hout : o.out = numB o.num (sz o.size) := by unfold OpR.out; rw [if_pos k01]
            have hsh := hid (rnum_short rb a1 c1 (o.out.take m) o.size (by rw [hml]; have := Hcut.out; rw [hout, numB_len] at this; exact this) W.drew hHrD.out)
            have gb1 : W.cell? ⟨wr.heap.size, 1, none⟩ = some (.int .i64 o.size) := by unfold World.cell?; simp [hbox.out]
            have gb2 : W.cell? ⟨wr.heap.size, 2, none⟩ = some (.int .u64 (o.num : Int)) := by unfold World.cell?; simp [hbox.out]
            have hsz := sz_le o.size
            obtain ⟨t1, hshl, hsb⟩ := mask_run (sz o.size) hsz.1 hsz.2
            have hk01 : (o.kind == 0) = true ∨ ((o.kind == 0) = false ∧ (o.kind == 1) = true) := by
              rcases k01 with k0 | k1
              · exact Or.inl (by simp [k0])
              · exact Or.inr ⟨by simp [k1], by simp [k1]⟩
            clear k01 hout hsb hi hml
            rcases hk01 with k0 | ⟨k0, k1⟩
            all_goals
              go_wp2_with fail
              refine (held_sz _ _).mono ?_
              rintro e w9 ⟨rfl, rfl⟩
              go_wp2_with fail
              rw [← HWW.out]
              go_region_dies
              all_goals refine hsh.out.mono ?_
              all_goals rintro e w9 ⟨⟨older, rfl, hcalm⟩, rfl⟩
              all_goals exact ⟨rfl, Or.inr ⟨20, ⟨older, rfl, hcalm⟩, hR.out⟩⟩
          have b0 : (o.kind == 0) = false := by simp; omega
          have b1 : (o.kind == 1) = false := by simp; omega
          by_cases k23 : o.kind = 2 ∨ o.kind = 3
          · have hout : o.out = numB o.bs.length 4 ++ o.bs := by unfold OpR.out; rw [if_neg k01, if_pos k23]
            have hfe : fieldErr (o.out.take m) 60 = 20 := by
              rw [hout]
              exact field_cut o.bs hl60.out m (by have := Hcut.out; rw [hout, List.length_append, numB_len] at this; exact this)
            have hsh2 := rbytes_any rb a1 c1 (o.out.take m) 60 W.drew hHrD.out
            have hsh3 := rtext_any rb a1 c1 (o.out.take m) 60 W.drew hHrD.out
            rw [hfe] at hsh2 hsh3
            have Hsh2 := hid hsh2; have Hsh3 := hid hsh3
            have hsW0 := text_any W o.ba o.bc o.bs hsW.out
            have hcv1 := text_any W.drew o.ba o.bc o.bs (hsW.out.kept (Kept.of_drew [] W) (by simp))
            clear hsh2 hsh3 hout hfe hml hi k01
            rcases k23 with k2 | k3
            · rw [k2] at g0 HWW
              go_wp2_with fail
              rw [← HWW.out]
              go_region_dies
              all_goals refine Hsh2.out.mono ?_
              all_goals rintro e w9 (⟨h20, _⟩ | ⟨_, ⟨older, rfl, hcalm⟩, rfl⟩)
              all_goals first | exact absurd h20 (by decide) | exact ⟨rfl, Or.inr ⟨20, ⟨older, rfl, hcalm⟩, hR.out⟩⟩
            · rw [k3] at g0 HWW
              go_wp2_with fail
              rw [← HWW.out]
              go_region_dies
              all_goals refine Hsh3.out.mono ?_
              all_goals rintro e w9 (⟨h20, _⟩ | ⟨_, ⟨older, rfl, hcalm⟩, rfl⟩)
              all_goals first | exact absurd h20 (by decide) | exact ⟨rfl, Or.inr ⟨20, ⟨older, rfl, hcalm⟩, hR.out⟩⟩
          by_cases k4 : o.kind = 4
          · have hout : o.out = o.bs := by unfold OpR.out; rw [if_neg k01, if_neg k23, if_pos k4]
            have hsh := hid (raw_short rb a1 c1 (o.out.take m) o.bs.length (by rw [hml]; have := Hcut.out; rw [hout] at this; omega) W.drew hHrD.out)
            rw [k4] at g0 HWW
            clear hout hml hi k01 k23
            go_wp2_with fail
            rw [← HWW.out]
            go_region_dies
            all_goals refine hsh.out.mono ?_
            all_goals rintro e w9 ⟨⟨older, rfl, hcalm⟩, rfl⟩
            all_goals exact ⟨rfl, Or.inr ⟨20, ⟨older, rfl, hcalm⟩, hR.out⟩⟩
          have hout : o.out = [] := by
            unfold OpR.out
            rw [if_neg k01, if_neg k23, if_neg k4]
          have := Hcut.out
          rw [hout] at this
          simp at this
    · have hin : i = ops.length := by omega
      subst hin
      obtain ⟨a1, c1, m, hm, hkw, hrd, hab, hd⟩ := HAt.out
      have HR := hid (show ReadOn rb a [pd] w (BackQ pd ops tl K) 0 wr from ⟨a1, c1, _, hrd, hkw, hab, hd, Or.inr ⟨rfl, by rw [List.take_length] at hm; omega, by
        rw [List.drop_length]
        simp only [outs, List.flatMap_nil, List.nil_append]
        congr 1
        rw [List.take_length] at hm
        unfold outs at hm
        omega⟩⟩)
      clear hm hkw hrd hab hd
      go_wp2
      go_end0
      exact Or.inl ⟨rfl, HR.out⟩
end Go.Proofs.Ytijkpnggehnmcaa
