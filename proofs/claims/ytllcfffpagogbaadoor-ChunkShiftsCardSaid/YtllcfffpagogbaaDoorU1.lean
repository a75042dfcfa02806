/- coldstoreref09: First, Split. -/
import Derived.Test.YtllcfffpagogbaaDoorU0
namespace Go.Proofs.YtllcfffpagogbaaDoor
open Go.RowKit Go.Lib

theorem reflast_all (a : Option Addr) (c : Nat) (ys : List UInt8) (n : Nat) (hc : ys.length ≤ c) (hc2 : c ≤ 9223372036854775807) (hl : ys.length ≤ 1000000) (hn : n ≤ 64) (ha : a = none → ys = []) :
    ∃ a2 c2, (∀ w, Calls Tryd.prog 52 #[.slice a ys.length c, .int .i64 (n : Int)] w fun e w' => e = .returned (.slice a2 (Roll.last n ys).length c2) ∧ w = w') ∧ ∀ W, Reads W a ys → Reads W a2 (Roll.last n ys) := by
  by_cases h : n < ys.length
  · have hll : (Roll.last n ys).length = n := by simp [Roll.last]; omega
    rw [hll]
    cases a with
    | none =>
      rw [ha rfl] at h; simp at h
    | some ad =>
      obtain ⟨ad', hs, h2, _⟩ := slice_rest ad ys.length c (ys.length - n) (by omega) hc
      rw [show ys.length - (ys.length - n) = n by omega, show ((ys.length - n : Nat) : Int) = (ys.length : Int) - (n : Int) by omega] at hs
      refine ⟨some ad', c - (ys.length - n), fun w => ?_, fun W hW => ⟨fun e => by simp at e, fun x hx j u hj => ?_⟩⟩
      · go_enter Tryd.func52, Tryd.ntmps52
        go_wp2
        go_ret
        exact ⟨rfl, rfl⟩
      · simp at hx; subst hx
        unfold Roll.last at hj
        by_cases hz : n = 0
        · subst hz; simp at hj
        · rw [h2 (by omega), add_add]
          exact hW.2 ad rfl _ u (by rw [List.getElem?_map, List.getElem?_drop] at hj; rw [List.getElem?_map]; exact hj)
  · rw [Roll.last_short (by omega)]
    refine ⟨a, c, fun w => ?_, fun W hW => hW⟩
    go_enter Tryd.func52, Tryd.ntmps52
    go_wp2
    go_ret
    exact ⟨rfl, rfl⟩
theorem head_cut (ad : Addr) (n m c : Nat) (h : m ≤ c) (W : World) : (Instr.sliceAt 25 (.slice (some ad) n c) none (some (.int .i64 (m : Int))) none).run Tryd.prog W = .ok (.slice (some ad) m c) W := by
  rw [run_sliceAt_slice W 25 _ _ _ _ (by simp [Program.elem, Tryd.underlying25])]
  have hs : (sizeOf 5).run Tryd.prog W = .ok 1 W := by kernel_rfl
  rw [run_slice_h W 25 _ _ _ (by simp [Program.elem, Tryd.underlying25]) .i64 (m : Int) (by omega) (by omega)]
  have he : Tryd.prog.elem 25 = 5 := by simp [Program.elem, Tryd.underlying25]
  have ha : ad.add 0 = ad := by unfold Addr.add; split <;> simp_all
  rw [he, hs]
  simp [Result.andThen, sliced, ha]

/-- A box of the document's numbers. -/
def RfAt (W : World) (b : Nat) (P : Chunk.Par) (s : Int) : Prop := W.heap[b]? = some (.cells #[.int .i64 (P.min : Int), .int .i64 (P.max : Int), .int .i64 (P.bits : Int), .int .i64 (P.width : Int), .int .u64 s] 31 (0, 0))
theorem RfAt.cells {W : World} {b : Nat} {P : Chunk.Par} {s : Int} (h : RfAt W b P s) : W.cell? ⟨b, 0, none⟩ = some (.int .i64 (P.min : Int)) ∧ W.cell? ⟨b, 1, none⟩ = some (.int .i64 (P.max : Int)) ∧ W.cell? ⟨b, 2, none⟩ = some (.int .i64 (P.bits : Int)) ∧ W.cell? ⟨b, 3, none⟩ = some (.int .i64 (P.width : Int)) ∧ W.cell? ⟨b, 4, none⟩ = some (.int .u64 s) :=
  ⟨cell_of_row W b 0 _ _ _ h, cell_of_row W b 1 _ _ _ h, cell_of_row W b 2 _ _ _ h, cell_of_row W b 3 _ _ _ h, cell_of_row W b 4 _ _ _ h⟩

set_option maxRecDepth 100000 in
set_option maxHeartbeats 4000000 in
theorem rfirst_any (P : Chunk.Par) (s : Int) (hok : ParOk P) (hs0 : 0 ≤ s) (hs1 : s < 18446744073709551616) (a : Option Addr) (cap : Nat) (ys : List UInt8) (w : World) (hb : Sl w a cap ys) (hl : ys.length ≤ 100000) :
    Calls Tryd.prog 33 #[parV P.min P.max P.bits P.width s, .slice a ys.length cap] w fun e w' => e = .returned (.int .i64 ((Chunk.first (Chunk.ends P) (num s) P.width ys : Nat) : Int)) ∧ Kept [] w w' := by
  obtain ⟨w0, hw0⟩ : ∃ w0, w0 = w.alloc (.cells #[.int .i64 (P.min : Int), .int .i64 (P.max : Int), .int .i64 (P.bits : Int), .int .i64 (P.width : Int), .int .u64 s] 31) := ⟨_, rfl⟩
  have k0 := hid (show Kept [] w w0 from hw0 ▸ (Kept.refl _ _).alloc _)
  have hp0 := hid (show RfAt w0 w.heap.size P s by rw [hw0]; exact heap_alloc_at rfl)
  have hsl := hid (hb.kept k0.out (by simp))
  have q1 := hok.min1; have q2 := hok.minmax; have q3 := hok.max; have q4 := hok.bits; have q5 := hok.w1; have q6 := hok.w64
  have hle := hb.le; have hmx := hb.max
  have hnil : a = none → ys = [] := hb.reads.1
  obtain ⟨N, hN⟩ : ∃ N, N = ys.length := ⟨_, rfl⟩
  have hlast := hid (fun n (hn : n ≤ ys.length) => reflast_all a cap (ys.take n) P.width (by rw [List.length_take]; omega) hmx (by rw [List.length_take]; omega) q6 (fun h => by rw [hnil h]; simp))
  obtain ⟨pw, hpw⟩ : ∃ p, p = 2 ^ P.bits := ⟨_, rfl⟩
  have hpow := hid (fun W => power_any P.bits q4 W)
  rw [← hpw] at hpow
  have hpw0 : 0 < pw := by rw [hpw]; exact Nat.two_pow_pos _
  have hpwb : pw ≤ 1048576 := by rw [hpw]; exact Nat.le_trans (Nat.pow_le_pow_right (by omega) q4) (by decide)
  have hmod := hid (fun x (hx : x < 4294967296) => ctz_mod x P.bits hx q4)
  rw [← hpw] at hmod
  obtain ⟨r, hr⟩ : ∃ r, r = Chunk.first (Chunk.ends P) (num s) P.width ys := ⟨_, rfl⟩
  have hgo := hid (show r = Chunk.go (Chunk.ends P) (num s) P.width (ys.take 0) (ys.drop 0) by rw [hr]; rfl)
  have hHnil := hid hnil
  have Hsum := hid (fun a2 c2 zs W (h : Reads W a2 zs) (hz : zs.length ≤ 1000000) => refsum_any s a2 c2 zs W hs0 hs1 h hz)
  obtain ⟨T, hT⟩ : ∃ T, T = num s := ⟨_, rfl⟩
  rw [← hr]
  rw [← hT] at hgo Hsum
  have HN := hid hN
  rw [← hN] at hle hl ⊢
  clear hb hok hr hT hpw hnil hN hs0 hs1
  go_enter Tryd.func33, Tryd.ntmps33
  go_wp2_with fail
  rw [← hw0]
  clear hw0
  go_loopw [5] (fun v wr => ∃ n : Nat, 1 ≤ n ∧ n ≤ N + 1 ∧ n ≤ P.max ∧ v = .int .i64 (n : Int) ∧ Hid (r = Chunk.go (Chunk.ends P) T P.width (ys.take (n - 1)) (ys.drop (n - 1))) ∧ Hid (Kept [] w0 wr)) (fun v _ => N + 1 - (intOf v).toNat)
  case atStart => exact ⟨1, by omega, by omega, by omega, rfl, hid hgo.out, hid (Kept.refl _ _)⟩
  case round =>
    clear hgo
    obtain ⟨n, hn1, hnN, hnm, rfl, hg, hk⟩ := hrel
    have hpr : RfAt wr w.heap.size P s := hk.out.at hp0.out (by simp)
    obtain ⟨c0, c1, c2, c3, c4⟩ := hpr.cells
    by_cases hlt : n ≤ N
    · have hmore := go_more (Chunk.ends P) T P.width ys (n - 1) (by have := HN.out; omega)
      rw [show n - 1 + 1 = n by omega] at hmore
      by_cases hmax : n = P.max
      · have hE : Chunk.ends P n (Roll.sum T (Roll.last P.width (ys.take n))) = true := by unfold Chunk.ends; rw [decide_eq_true (by omega)]; rfl
        rw [if_pos hE] at hmore
        have hf := hid (show r = n by rw [hg.out, hmore])
        have Hk := hid (k0.out.trans hk.out)
        have hnb : ((n : Int) == (P.max : Int)) = true := by simp [hmax]
        clear hmore hE hg hpr hmax
        go_wp2
        go_ret
        exact ⟨by rw [hf.out]; rfl, Hk.out⟩
      · have hnb : ((n : Int) == (P.max : Int)) = false := by simp; omega
        by_cases hmin : n < P.min
        · have hE : Chunk.ends P n (Roll.sum T (Roll.last P.width (ys.take n))) = false := by unfold Chunk.ends; rw [decide_eq_false (by omega), decide_eq_false (by omega)]; rfl
          rw [hE, if_neg (by simp)] at hmore
          have hg2 := hid (show r = Chunk.go (Chunk.ends P) T P.width (ys.take (n + 1 - 1)) (ys.drop (n + 1 - 1)) by rw [hg.out, hmore]; rfl)
          have hkd := hid (fun k => hk.out.drewN k)
          have hnlt : n < P.max := by omega
          have hd1 : decide ((P.min : Int) ≤ (n : Int)) = false := decide_eq_false (by omega)
          have hd2 : decide (P.min ≤ n) = false := decide_eq_false (by omega)
          clear hmore hE hg hpr hmax
          go_wp2_with fail
          go_quiet (fail)
          have hk2 := hid (hkd.out nq)
          generalize wr.drewN nq = W3 at *
          go_wp2_with fail
          exact ⟨⟨n + 1, by omega, by omega, by omega, by go_num, hg2, hk2⟩, by simp [intOf]; omega⟩
        · obtain ⟨a2, c2, hca, hra⟩ := hlast.out n (by rw [← HN.out]; exact hlt)
          have hlenn : (ys.take n).length = n := by rw [List.length_take, ← HN.out]; omega
          rw [hlenn] at hca
          obtain ⟨zs, hzs⟩ : ∃ z, z = Roll.last P.width (ys.take n) := ⟨_, rfl⟩
          have hzl : zs.length ≤ 1000000 := by
            rw [hzs]; unfold Roll.last; rw [List.length_drop, List.length_take, ← HN.out]; omega
          rw [← hzs] at hca hra hmore
          obtain ⟨ad, had⟩ : ∃ ad, a = some ad := by
            cases a with
            | none => have h := hHnil.out rfl; have := HN.out; rw [h] at this; simp at this; omega
            | some ad => exact ⟨ad, rfl⟩
          subst had
          obtain ⟨sm, hsm⟩ : ∃ x, x = Roll.sum T zs := ⟨_, rfl⟩
          have hsum := hid (fun k => (show Calls Tryd.prog 51 #[.int .u64 s, .slice a2 zs.length c2] (wr.drewN k) (fun e w' => e = .returned (U sm) ∧ w' = wr.drewN k) from by
            rw [hsm]
            exact (Hsum.out a2 c2 zs (wr.drewN k) (hra _ (((hsl.out.kept (hk.out.drewN k) (by simp)).take n).reads)) hzl).mono fun e w' h => ⟨h.1, h.2.symm⟩))
          have hlst := hid (fun k => (hca (wr.drewN k)).mono fun e w' h => (⟨h.1, h.2.symm⟩ : _ ∧ w' = wr.drewN k))
          have hpwc := hid (fun k => (hpow.out (wr.drewN k)).mono fun e w' h => (⟨h.1, h.2.symm⟩ : _ ∧ w' = wr.drewN k))
          have hE : Chunk.ends P n sm = decide (sm.toNat % pw = 0) := by
            unfold Chunk.ends
            rw [decide_eq_false (show ¬ P.max ≤ n by omega), decide_eq_true (show P.min ≤ n by omega), hmod.out _ sm.isLt]; rfl
          have hhc := fun W => head_cut ad N n cap (by omega) W
          have hkd := hid (fun k => hk.out.drewN k)
          have hnlt : n < P.max := by omega
          have hd1 : decide ((P.min : Int) ≤ (n : Int)) = true := decide_eq_true (by omega)
          have hd2 : decide (P.min ≤ n) = true := decide_eq_true (by omega)
          have hsb := sm.isLt
          obtain ⟨x, hx⟩ : ∃ x, x = sm.toNat := ⟨_, rfl⟩
          have hU : U sm = .int .u32 (x : Int) := by subst hx; rfl
          rw [hU] at hsum
          rw [← hsm, hE, ← hx] at hmore
          rw [← hx] at hsb
          have hpz : ((pw : Int) == 0) = false := by simp; omega
          have hrm : (x : Int).tmod (pw : Int) = ((x % pw : Nat) : Int) := by rw [Int.tmod_eq_emod_of_nonneg (by omega), Int.natCast_emod]
          obtain ⟨rm, hrmd⟩ : ∃ r, r = x % pw := ⟨_, rfl⟩
          rw [← hrmd] at hrm hmore
          have hrb : rm < 4294967296 := by have := Nat.mod_lt x hpw0; omega
          clear hca hra hzs hE hsm hU hx hlenn hmax hpr hrmd
          by_cases hz : rm = 0
          · rw [if_pos (by simp [hz])] at hmore
            subst hz
            have hf := hid (show r = n by have := hg.out; rw [hmore] at this; exact this)
            clear hmore hg
            go_wp2_with fail
            go_quiet (first | (go_at_call 52; exact Calls.quiet_of_same (hlst.out _)) | (go_at_call 51; exact Calls.quiet_of_same (hsum.out _)) | (go_at_call 53; exact Calls.quiet_of_same (hpwc.out _)))
            have hk2 := hid (k0.out.trans (hkd.out nq))
            generalize wr.drewN nq = W3 at *
            go_wp2
            go_ret
            exact ⟨by rw [hf.out]; rfl, hk2.out⟩
          · rw [if_neg (by simp [hz])] at hmore
            have hg2 := hid (show r = Chunk.go (Chunk.ends P) T P.width (ys.take (n + 1 - 1)) (ys.drop (n + 1 - 1)) by rw [hg.out, hmore]; rfl)
            have hzb : ((rm : Int) == 0) = false := by simp; omega
            clear hmore hg hz
            go_wp2_with fail
            go_quiet (first | (go_at_call 52; exact Calls.quiet_of_same (hlst.out _)) | (go_at_call 51; exact Calls.quiet_of_same (hsum.out _)) | (go_at_call 53; exact Calls.quiet_of_same (hpwc.out _)))
            have hk2 := hid (hkd.out nq)
            generalize wr.drewN nq = W3 at *
            go_wp2_with fail
            exact ⟨⟨n + 1, by omega, by omega, by omega, by go_num, hg2, hk2⟩, by simp [intOf]; omega⟩
    · have hnN2 : n = N + 1 := by omega
      have hf := hid (show r = N by rw [hg.out, hnN2, show N + 1 - 1 = ys.length by rw [HN.out]; omega, go_end, HN.out])
      have Hk := hid (k0.out.trans hk.out)
      clear hg hpr
      go_wp2
      go_ret
      exact ⟨by rw [hf.out]; rfl, Hk.out⟩
end Go.Proofs.YtllcfffpagogbaaDoor
