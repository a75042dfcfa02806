import Derived.Test.YtmkdjonlfkfnlaaDoorMG
import Derived.Test.YtmkdjonlfkfnlaaDoorFH

/- CacheOrders: the walk. -/
namespace Go.Proofs.YtmkdjonlfkfnlaaDoor
open Go.RowKit Go.Lib Go.Maps
theorem reads_one (W : World) (b : UInt8) : Reads (W.alloc (.cells #[.int .u8 (b.toNat : Int)] 5)) (some ⟨W.heap.size, 0, none⟩) [b] := by
  refine ⟨nofun, ?_⟩
  intro ad had j u hj
  cases had
  exact cell_one_new W _ _ j u hj
theorem i64_and15 (n : Int) : bits .and .i64 n 15 = n % 16 := by
  have h7 : (BitVec.ofInt 64 15).toNat = 2 ^ 4 - 1 := by decide
  have key : (BitVec.ofInt 64 n &&& BitVec.ofInt 64 15).toNat = (n % ((2 ^ 64 : Nat) : Int)).toNat % 2 ^ 4 := by
    rw [BitVec.toNat_and, BitVec.toNat_ofInt, h7, Nat.and_two_pow_sub_one_eq_mod]
  show IntKind.i64.wrap ((BitVec.ofInt 64 n &&& BitVec.ofInt 64 15).toNat : Nat) = n % 16
  rw [key, IntKind.wrap_i64]
  omega
theorem u8_and31 (s : UInt8) : ∃ b : UInt8, bits .and .u8 (s.toNat : Int) 31 = (b.toNat : Int) ∧ b.toNat < 32 := by
  refine ⟨UInt8.ofNat (s.toNat % 32), ?_, by simp; omega⟩
  have h7 : (BitVec.ofInt 8 31).toNat = 2 ^ 5 - 1 := by decide
  have key : (BitVec.ofInt 8 s.toNat &&& BitVec.ofInt 8 31).toNat = ((s.toNat : Int) % ((2 ^ 8 : Nat) : Int)).toNat % 2 ^ 5 := by
    rw [BitVec.toNat_and, BitVec.toNat_ofInt, h7, Nat.and_two_pow_sub_one_eq_mod]
  show IntKind.u8.wrap ((BitVec.ofInt 8 s.toNat &&& BitVec.ofInt 8 31).toNat : Nat) = _
  have h8 := s.toNat_lt
  rw [key, IntKind.wrap_u8]
  simp
  omega
/-- Where b last stands in the first j of a line. -/
def AtI (line : List UInt8) (j : Nat) (b : UInt8) (z : Int) : Prop := (z = -1 ∧ b ∉ line.take j) ∨ ∃ k : Nat, z = (k : Int) ∧ k < j ∧ line[k]? = some b
theorem AtI.no {line : List UInt8} {j : Nat} {b c : UInt8} {z : Int} (h : AtI line j b z) (hc : line[j]? = some c) (hne : c ≠ b) : AtI line (j + 1) b z := by
  rcases h with ⟨h1, h2⟩ | ⟨k, h1, h2, h3⟩
  · refine Or.inl ⟨h1, ?_⟩
    rw [List.take_add_one, hc]
    simp [h2]
    exact fun e => hne e.symm
  · exact Or.inr ⟨k, h1, by omega, h3⟩
theorem AtI.yes {line : List UInt8} {j : Nat} {b : UInt8} (hc : line[j]? = some b) : AtI line (j + 1) b j := Or.inr ⟨j, rfl, by omega, hc⟩
theorem AtI.last {line : List UInt8} {b : UInt8} {z : Int} (h : AtI line line.length b z) : (z = -1 ∧ b ∉ line) ∨ ∃ k : Nat, z = (k : Int) ∧ line[k]? = some b := by
  rcases h with ⟨h1, h2⟩ | ⟨k, h1, _, h3⟩
  · exact Or.inl ⟨h1, by simpa using h2⟩
  · exact Or.inr ⟨k, h1, h3⟩
/-- Behind some turns of the law's loop over steps. -/
structure OI (w W : World) (U : List Nat) (p room g : Nat) (v : Value) (line : List UInt8) : Prop where
  cs : CS w W U p room (oL line)
  ln : Ln w.heap.size g W v line
  gU : g ∉ U
  low : Low line
  nd : line.Nodup
  len : line.length ≤ room
/-- Behind i turns of the law's loop over sums. -/
structure SumI (w W : World) (mb i : Nat) : Prop where
  kept : Kept [] w W
  sm : SM W mb i
  mw : w.heap.size ≤ mb
set_option maxRecDepth 100000 in
set_option maxHeartbeats 16000000 in
theorem orders_do (room : Int) (a1 : Option Addr) (c1 : Nat) (steps : List UInt8) (w : World) (ht : Tabs w) (hs : SrcB w (.slice a1 steps.length c1) steps) (hm : steps.length ≤ 9223372036854775807) :
    Calls Tryd.prog 4 #[.int .i64 room, .slice a1 steps.length c1] w fun e w' => e = .returned (.bool true) ∧ Kept [] w w' := by
  have hal := hid (alive14 w ht)
  have HT := hid ht; have HSR := hid hs
  obtain ⟨n, hn⟩ : ∃ n, n = steps.length := ⟨_, rfl⟩
  have HN := hid hn
  rw [← hn] at hm ⊢
  clear ht hs
  by_cases h60 : n ≤ 60
  · have f0 : decide ((60 : Int) < (n : Int)) = false := decide_eq_false (by omega)
    have hmk : ∀ W : World, (Instr.makeMap 54 none).run Tryd.prog W = .ok (.map (some W.heap.size)) (W.alloc (.map #[] 0)) := fun _ => rfl
    clear hn
    go_enter Tryd.func4, Tryd.ntmps4
    go_wp2_with fail
    refine hal.out.mono ?_
    rintro e w1 ⟨rfl, k1⟩
    have K1 := hid k1
    obtain ⟨mb, hmb⟩ : ∃ mb, mb = w1.heap.size := ⟨_, rfl⟩
    obtain ⟨w4, hw4⟩ : ∃ w4, w4 = w1.alloc (.map #[] 0) := ⟨_, rfl⟩
    have hI0 := hid (show SumI w w4 mb 0 from ⟨k1.trans (hw4 ▸ (Kept.refl [] w1).alloc _), by rw [hw4, hmb]; exact sm_made w1, by have := k1.size; omega⟩)
    have HMB := hid hmb; have HW4 := hid hw4
    clear k1 hal hmb hw4
    go_wp2_with fail
    rw [← HW4.out, ← HMB.out]
    go_loopw [26] (fun s wr => ∃ i : Nat, i ≤ 32 ∧ s = .int .i64 i ∧ Hid (SumI w wr mb i)) (fun s _ => 32 - (intOf s).toNat)
    case atStart => exact ⟨0, by omega, rfl, hI0⟩
    case round =>
      clear hI0 hmk
      obtain ⟨i, hi, rfl, hI⟩ := hrel
      by_cases hlt : i < 32
      · go_upto_region 9 with fail
        obtain ⟨b8, hb8⟩ : ∃ b, b = UInt8.ofNat i := ⟨_, rfl⟩
        have e8 : IntKind.u8.wrap (i : Int) = (b8.toNat : Int) := by rw [IntWalk.u8_in _ (by omega), hb8]; simp; omega
        obtain ⟨id, hid0⟩ : ∃ id, id = sumN i := ⟨_, rfl⟩
        have L32 : id.length = 32 := by rw [hid0]; exact Sha.sum_len _
        have hH0 : Kept [mb] wr wr.drew := (Kept.refl _ wr).drew
        obtain ⟨V1, hV1⟩ : ∃ V, V = wr.drew.alloc (.cells #[.int .u8 (b8.toNat : Int)] 5) := ⟨_, rfl⟩
        have hk1 : Kept [] wr V1 := hV1 ▸ ((Kept.refl [] wr).drew).alloc _
        have hrd : Reads V1 (some ⟨wr.heap.size, 0, none⟩) [b8] := hV1 ▸ reads_one wr.drew b8
        have hof := hid (refof_sum (some ⟨wr.heap.size, 0, none⟩) 1 [b8] V1 hrd (by simp) (by simp))
        have hsum : Sha.sum [b8] = id := by rw [hid0, hb8]; rfl
        rw [hsum] at hof
        have HI := hid hI.out.sm
        have e1 : ([b8] : List UInt8).length = 1 := rfl
        rw [e1] at hof
        clear hrd hb8 e1 hsum
        refine wp_region_held_drew (S := fun v => Kept [mb] wr v) (by kernel_rfl) hH0 (fun hH => ?_)
        refine takeH 0 (.map (some mb)) rfl (by kernel_rfl) (by kernel_rfl) (by kernel_rfl) (fun _ _ _ h => h) (by rfl) (fun v hv => by go_simp) hH ?_
        simp only [Act.put, List.setIfInBounds_toArray, List.set_cons_succ, List.set_cons_zero]
        refine takeH 1 (.int .i64 i) rfl (by kernel_rfl) (by kernel_rfl) (by kernel_rfl) (fun _ _ _ h => h) (by rfl) (fun v hv => by go_simp) hH ?_
        simp only [Act.put, List.setIfInBounds_toArray, List.set_cons_succ, List.set_cons_zero]
        refine takeH 2 (.int .u8 (b8.toNat : Int)) rfl (by kernel_rfl) (by kernel_rfl) (by kernel_rfl) (fun _ _ _ h => h) (by rfl) (fun v hv => by go_simp) hH ?_
        simp only [Act.put, List.setIfInBounds_toArray, List.set_cons_succ, List.set_cons_zero]
        refine runH 3 rfl (by kernel_rfl) (by rfl) (.slice (some ⟨wr.heap.size, 0, none⟩) 1 1) (V1) (by rw [hV1]; go_simp) (hk1.wider (fun x _ h => by simp at h)) ?_
        simp only [Act.put, List.setIfInBounds_toArray, List.set_cons_succ, List.set_cons_zero]
        refine callR 4 rfl (by kernel_rfl) (by rfl) 8 #[.slice (some ⟨wr.heap.size, 0, none⟩) 1 1] (by go_simp) (.agg (id.map B).toArray) (fun v => Kept [] V1 v) (fun v h => (hk1.wider (fun x _ h => by simp at h)).trans (h.wider (fun x _ h => by simp at h))) (hof.out) ?_
        rintro v2 k2
        simp only [Act.put, List.setIfInBounds_toArray, List.set_cons_succ, List.set_cons_zero]
        have kk2 : Kept [] wr v2 := hk1.trans k2
        have kw2 : Kept [mb] wr v2 := kk2.wider (fun x _ h => by simp at h)
        have sm2 := HI.out.kept kk2 (by simp)
        obtain ⟨m, hlk⟩ := sm_look sm2 id L32
        obtain ⟨v0, st, v7, hent, k7, ⟨m7, hlk7⟩, hsto⟩ := sm_entry sm2 (by omega)
        rw [← hid0] at hent hlk7
        obtain ⟨v9, hst9, k9, sm9⟩ := hsto v7 (IntKind.i64.wrap (m + 1)) (Kept.refl _ _)
        obtain ⟨v9', hst9', k9', sm9'⟩ := hsto v7 (IntKind.i64.wrap (m7 + 1)) (Kept.refl _ _)
        have k7w := kw2.trans k7
        refine bothH 5 7 rfl rfl (by kernel_rfl) (by rfl) (by rfl) (.int .i64 m) v2 (by have h := hlk; unfold execOp; simp [Act.eval, Sem.run_bind, Sem.run_pure, Result.andThen_ok, h]) kw2 (.tuple #[v0, goInt st]) v7 (by have h := hent; unfold execOp; simp [Act.eval, Sem.run_bind, Sem.run_pure, Result.andThen_ok, h]) k7w ?_ ?_
        · simp only [Act.put, List.setIfInBounds_toArray, List.set_cons_succ, List.set_cons_zero]
          refine takeH 6 (.int .i64 (IntKind.i64.wrap (m + 1))) rfl (by kernel_rfl) (by kernel_rfl) (by kernel_rfl) (fun _ _ _ h => h) (by rfl) (fun v hv => by go_simp) kw2 ?_
          simp only [Act.put, List.setIfInBounds_toArray, List.set_cons_succ, List.set_cons_zero]
          refine runH 7 rfl (by kernel_rfl) (by rfl) (.tuple #[v0, goInt st]) (v7) (by have h := hent; unfold execOp; simp [Act.eval, Sem.run_bind, Sem.run_pure, Result.andThen_ok, h]) (k7w) ?_
          simp only [Act.put, List.setIfInBounds_toArray, List.set_cons_succ, List.set_cons_zero]
          refine takeH 8 (goInt st) rfl (by kernel_rfl) (by kernel_rfl) (by kernel_rfl) (fun _ _ _ h => h) (by rfl) (fun v hv => by go_simp) k7w ?_
          simp only [Act.put, List.setIfInBounds_toArray, List.set_cons_succ, List.set_cons_zero]
          refine writeH 9 rfl (by kernel_rfl) (by rfl) (v9) (by have h := hst9; unfold execOp; simp [Act.eval, Sem.run_bind, Sem.run_pure, Result.andThen_ok, h]) ((k7w.trans k9)) ?_
          simp only [Act.put, List.setIfInBounds_toArray, List.set_cons_succ, List.set_cons_zero]
          refine wpAnyH_done (by kernel_rfl) ?_ _
          have hN := hid (show SumI w v9 mb (i + 1) from ⟨hI.out.kept.trans' (k7w.trans k9) (fun x hx hm => by have := hI.out.mw; simp at hm; omega), sm9, hI.out.mw⟩)
          clear hst9 hst9' hlk hlk7 hsto hent sm9 sm9' hof
          go_wp2
          go_roundw
          case rel => exact ⟨i + 1, by omega, by go_num, hN⟩
          case measure => simp [intOf]; omega
        · simp only [Act.put, List.setIfInBounds_toArray, List.set_cons_succ, List.set_cons_zero]
          refine takeH 8 (goInt st) rfl (by kernel_rfl) (by kernel_rfl) (by kernel_rfl) (fun _ _ _ h => h) (by rfl) (fun v hv => by go_simp) k7w ?_
          simp only [Act.put, List.setIfInBounds_toArray, List.set_cons_succ, List.set_cons_zero]
          refine runH 5 rfl (by kernel_rfl) (by rfl) (.int .i64 m7) (v7) (by have h := hlk7; unfold execOp; simp [Act.eval, Sem.run_bind, Sem.run_pure, Result.andThen_ok, h]) (k7w) ?_
          simp only [Act.put, List.setIfInBounds_toArray, List.set_cons_succ, List.set_cons_zero]
          refine takeH 6 (.int .i64 (IntKind.i64.wrap (m7 + 1))) rfl (by kernel_rfl) (by kernel_rfl) (by kernel_rfl) (fun _ _ _ h => h) (by rfl) (fun v hv => by go_simp) k7w ?_
          simp only [Act.put, List.setIfInBounds_toArray, List.set_cons_succ, List.set_cons_zero]
          refine writeH 9 rfl (by kernel_rfl) (by rfl) (v9') (by have h := hst9'; unfold execOp; simp [Act.eval, Sem.run_bind, Sem.run_pure, Result.andThen_ok, h]) ((k7w.trans k9')) ?_
          simp only [Act.put, List.setIfInBounds_toArray, List.set_cons_succ, List.set_cons_zero]
          refine wpAnyH_done (by kernel_rfl) ?_ _
          have hN := hid (show SumI w v9' mb (i + 1) from ⟨hI.out.kept.trans' (k7w.trans k9') (fun x hx hm => by have := hI.out.mw; simp at hm; omega), sm9', hI.out.mw⟩)
          clear hst9 hst9' hlk hlk7 hsto hent sm9 sm9' hof
          go_wp2
          go_roundw
          case rel => exact ⟨i + 1, by omega, by go_num, hN⟩
          case measure => simp [intOf]; omega
      · obtain rfl : i = 32 := by omega
        clear hlt hi
        obtain ⟨sz, hlen, _, hdist⟩ := sm_len hI.out.sm 3
        have HD := hid hdist
        have kI := hid hI.out.kept
        clear hdist
        by_cases hsz : sz = 32
        · subst hsz
          have DS := hid (HD.out rfl)
          go_upto_region 13 with fail
          obtain ⟨rm, hrm⟩ : ∃ rm : Nat, (rm : Int) = room % 16 + 1 := ⟨(room % 16 + 1).toNat, by omega⟩
          have hba : bits .and .i64 room 15 = (rm : Int) - 1 := by rw [i64_and15]; omega
          have hwr : IntKind.i64.wrap (1 + ((rm : Int) - 1)) = (rm : Int) := by rw [IntWalk.i64_in _ (by omega)]; omega
          have RB := hid (show 1 ≤ rm ∧ rm ≤ 16 from by omega)
          clear hrm
          have hnew := hid (cs_new w wr kI.out HT.out rm (by have := RB.out; omega))
          have kI2 := kI.out.size
          clear hlen
          go_wp2_with fail
          clear hba
          refine hnew.out.mono ?_
          rintro e w5 ⟨rfl, k5, c5⟩
          obtain ⟨p, hp⟩ : ∃ p, p = wr.heap.size := ⟨_, rfl⟩
          rw [← hp] at c5 ⊢
          have hmx : max (rm : Int) 0 = (rm : Int) := by omega
          rw [hmx] at c5
          obtain ⟨w6, hw6⟩ : ∃ w6, w6 = w5.alloc (.cells #[] 5) := ⟨_, rfl⟩
          obtain ⟨g0, hg0⟩ : ∃ g, g = w5.heap.size := ⟨_, rfl⟩
          have hO0 := hid (show OI w w6 [p] p rm g0 (.slice (some ⟨g0, 0, none⟩) 0 0) [] from
            ⟨c5.keep0 (hw6 ▸ (Kept.refl [] w5).alloc _), by rw [hw6, hg0]; exact ln_new w5 _ c5.kept.size, by have := (c5.bound p (by simp)).2; simp; omega, fun a h => by simp at h, by simp, by simp⟩)
          have HW6 := hid hw6; have HG0 := hid hg0
          clear hnew k5 c5 hp hmx hwr hw6 hg0
          go_wp2_with fail
          rw [← HW6.out, ← HG0.out]
          go_loopw [8, 50] (fun s8 s50 wx => ∃ (i : Nat) (U : List Nat) (g : Nat) (line : List UInt8), i ≤ n ∧ s50 = .int .i64 i ∧ Hid (OI w wx U p rm g s8 line)) (fun _ s50 _ => n - (intOf s50).toNat)
          case atStart => exact ⟨0, [p], g0, [], Nat.zero_le _, rfl, hO0⟩
          case round =>
            clear hO0
            obtain ⟨i, U, g, line, hi, rfl, hO⟩ := hrel
            obtain ⟨V0, hV0⟩ : ∃ V, V = wr := ⟨_, rfl⟩
            subst hV0
            obtain ⟨off, cap, hv, hlc, hcm, hcell⟩ := ln_cell hO.out.ln
            obtain ⟨L, hL⟩ : ∃ L, L = line.length := ⟨_, rfl⟩
            rw [← hL] at hv hlc
            subst hv
            have HL := hid hL; have HC := hid hcell; have HCM := hid (And.intro hlc hcm)
            clear hL hcell
            by_cases hlt : i < n
            · obtain ⟨sb, hsb⟩ : ∃ o, steps[i]? = some o := ⟨steps[i]'(by rw [← HN.out]; exact hlt), by simp⟩
              obtain ⟨hrdS, hnS⟩ := reads_srcb HSR.out
              obtain ⟨x, rfl⟩ : ∃ x, a1 = some x := by
                cases a1 with
                | none => have h1 := hrdS.1 rfl; rw [h1] at hsb; simp at hsb
                | some x => exact ⟨x, rfl⟩
              have q0 := hrdS.2 x rfl i (B sb) (by simp [hsb])
              have g1 := (hO.out.cs.kept.cell (World.block_lt_of_cell? w _ q0) (by simp)).trans q0
              unfold B at g1
              obtain ⟨b8, hb8, hb32⟩ := u8_and31 sb
              clear q0 hrdS hnS hsb
              have hL16 : L ≤ 16 := by have h1 := hO.out.len; have h2 := HL.out; have h3 := RB.out; omega
              go_wp2_with fail
              go_loopw [12, 58] (fun s12 s58 wx => ∃ (j : Nat) (z : Int), j ≤ L ∧ s58 = .int .i64 j ∧ s12 = .int .i64 z ∧ Hid (AtI line j b8 z) ∧ V0 = wx) (fun _ s58 _ => L - (intOf s58).toNat)
              case atStart => exact ⟨0, -1, Nat.zero_le _, rfl, rfl, hid (Or.inl ⟨rfl, by simp⟩), rfl⟩
              case round =>
                obtain ⟨j, z, hj, rfl, rfl, hA, rfl⟩ := hrel
                by_cases hjl : j < L
                · obtain ⟨c, hc⟩ : ∃ o, line[j]? = some o := ⟨line[j]'(by rw [← HL.out]; exact hjl), by simp⟩
                  have q1 := HC.out j (B c) (by simp [hc])
                  unfold B at q1
                  by_cases hcb : c = b8
                  · subst hcb
                    have HA2 := hid (AtI.yes (j := j) hc)
                    clear hc
                    go_wp2
                    go_roundw
                    case rel => exact ⟨j + 1, j, by omega, by go_num, rfl, HA2, trivial⟩
                    case measure => simp [intOf]; omega
                  · have HA2 := hid (hA.out.no hc hcb)
                    have f1 : ((c.toNat : Int) == (b8.toNat : Int)) = false := by
                      have : c.toNat ≠ b8.toNat := fun e => hcb (UInt8.toNat_inj.1 e)
                      simp; omega
                    clear hc hcb
                    go_wp2
                    go_roundw
                    case rel => exact ⟨j + 1, z, by omega, by go_num, rfl, HA2, trivial⟩
                    case measure => simp [intOf]; omega
                · obtain rfl : L = j := by omega
                  have HZ := hid (show AtI line line.length b8 z from by rw [← HL.out]; exact hA.out)
                  clear hA hjl hj
                  obtain ⟨W1, hW1⟩ : ∃ W, W = V0.alloc (.cells #[.int .u8 (b8.toNat : Int)] 5) := ⟨_, rfl⟩
                  have hr1 : Reads W1 (some ⟨V0.heap.size, 0, none⟩) [b8] := hW1 ▸ reads_one V0 b8
                  have kW1 := hid (show Kept [] V0 W1 from hW1 ▸ (Kept.refl [] V0).alloc _)
                  obtain ⟨id, hid0⟩ : ∃ id, id = Sha.sum [b8] := ⟨_, rfl⟩
                  have L32 := hid (show id.length = 32 from by rw [hid0]; exact Sha.sum_len _)
                  have HID := hid hid0
                  have HW1 := hid hW1
                  have szl := hid (show szD (oL line) ≤ 100000000 ∧ (oL line).length ≤ 1000000 from by rw [oL_size, oL_len]; have := hO.out.len; have := RB.out; omega)
                  have C1 := hid (hO.out.cs.keep0 kW1.out)
                  have gg := hO.out.ln.lt
                  by_cases h128 : 128 ≤ sb.toNat
                  · have f128 : decide ((128 : Int) ≤ (sb.toNat : Int)) = true := decide_eq_true (by omega)
                    have hof := hid (refof_sum (some ⟨V0.heap.size, 0, none⟩) 1 [b8] W1 hr1 (by simp) (by simp))
                    rw [← hid0, show ([b8] : List UInt8).length = 1 from rfl] at hof
                    clear hr1 hW1 hid0
                    rcases HZ.out.last with ⟨rfl, hnot⟩ | ⟨k, rfl, hk⟩
                    · go_wp2_with fail
                      rw [← HW1.out]
                      refine hof.out.mono ?_
                      rintro e W2 ⟨rfl, k2⟩
                      have C2 := hid (C1.out.keep0 k2)
                      have hg := hid (cs_get C2.out szl.out.1 szl.out.2 id L32.out)
                      have kV2 := hid (kW1.out.trans k2)
                      clear hof k2
                      go_wp2_with fail
                      refine hg.out.mono ?_
                      rintro e W3 ⟨v, U3, rfl, k3, m3, c3, ha⟩
                      have e2 : getO id (oL line) = none := by rw [HID.out, oL_get DS.out hO.out.low b8 hb32, if_neg hnot]
                      have e3 : getL id (oL line) = oL line := by rw [HID.out, oL_got DS.out hO.out.low hO.out.nd b8 hb32, if_neg hnot]
                      rw [e2]
                      rw [e3] at c3
                      have hN := hid (show OI w W3 U3 p rm g (.slice (some ⟨g, off, none⟩) L cap) line from
                        ⟨c3, (hO.out.ln.kept kV2.out (by simp)).kept k3 hO.out.gU, fun h => by
                          rcases m3.1 _ h with h | h
                          · exact hO.out.gU h
                          · have h1 := kV2.out.size; omega, hO.out.low, hO.out.nd, hO.out.len⟩)
                      simp only [Option.isSome_none]
                      clear c3 ha e2 e3 k3 m3 hg
                      go_wp2
                      go_roundw
                      case rel => exact ⟨i + 1, U3, g, line, by omega, by go_num, hN⟩
                      case measure => simp [intOf]; omega
                    · go_wp2_with fail
                      rw [← HW1.out]
                      refine hof.out.mono ?_
                      rintro e W2 ⟨rfl, k2⟩
                      have C2 := hid (C1.out.keep0 k2)
                      have hg := hid (cs_get C2.out szl.out.1 szl.out.2 id L32.out)
                      have kV2 := hid (kW1.out.trans k2)
                      clear hof k2
                      go_wp2_with fail
                      refine hg.out.mono ?_
                      rintro e Z ⟨va, U3, rfl, k3, m3, c3, ha⟩
                      have hin : b8 ∈ line := List.mem_of_getElem? hk
                      have e2 : getO id (oL line) = some [b8] := by rw [HID.out, oL_get DS.out hO.out.low b8 hb32, if_pos hin]
                      have e3 : getL id (oL line) = oL (cutTo rm (moved line b8)) := by
                        rw [HID.out, oL_got DS.out hO.out.low hO.out.nd b8 hb32, if_pos hin]
                        unfold cutTo
                        rw [if_neg (by rw [moved_len b8 hin]; have := hO.out.len; omega)]
                      rw [e2]
                      rw [e3] at c3
                      have CZ := hid c3
                      have LNL := hid (show Ln w.heap.size g Z (.slice (some ⟨g, off, none⟩) L cap) line from (hO.out.ln.kept kV2.out (by simp)).kept k3 hO.out.gU)
                      have gUL := hid (show g ∉ U3 from fun h => by
                        rcases m3.1 _ h with h | h
                        · exact hO.out.gU h
                        · have h1 := kV2.out.size; omega)
                      simp only [Option.isSome_some]
                      clear c3 ha e2 e3 k3 m3 hg
                      have hkL := hid (show k < L from by have h1 := (List.getElem?_eq_some_iff.1 hk).1; have h2 := HL.out; omega)
                      have hcY := hid (fun v (hv : Kept [] Z v) j u (hj : (line.map B)[j]? = some u) => (show v.cell? ⟨g, off + j, none⟩ = some u from by
                        obtain ⟨off', cap', e, _, _, h1⟩ := ln_cell LNL.out
                        simp at e
                        obtain ⟨rfl, _, _⟩ := e
                        have h2 := h1 j u hj
                        exact (hv.cell (World.block_lt_of_cell? Z _ h2) (by simp)).trans h2))
                      obtain ⟨k1, hk1⟩ : ∃ k1, k1 = k + 1 := ⟨_, rfl⟩
                      have e7 : IntKind.i64.wrap ((k : Int) + 1) = (k1 : Int) := by have := hkL.out; rw [IntWalk.i64_in _ (by omega)]; omega
                      obtain ⟨j0, hj0, hz0, hz1, hz2⟩ := info_parts info_u8
                      obtain ⟨Z1, hZ1⟩ : ∃ W, W = Z.drew.alloc (.cells #[] 5) := ⟨_, rfl⟩
                      have kZ1 : Kept [] Z Z1 := hZ1 ▸ ((Kept.refl [] Z).drew).alloc _
                      have hkk := hkL.out
                      have hlc3 := HCM.out
                      obtain ⟨o8, ho8, hz8⟩ : ∃ o8, (if cap = k1 then some (⟨g, off, none⟩ : Addr) else some ⟨g, off + k1, none⟩) = some ⟨g, o8, none⟩ ∧ (k1 < L → o8 = off + k1) := by
                        by_cases h : cap = k1
                        · exact ⟨off, by rw [if_pos h], fun h2 => by omega⟩
                        · exact ⟨off + k1, by rw [if_neg h], fun _ => rfl⟩
                      have hnl : ¬ (L < k1) := by omega
                      have hnc : ¬ (cap < L) := by omega
                      have hck1 : ¬ (cap < k) := by omega
                      have hck2 : ¬ (cap = 0) := by omega
                      have HK1 := hid hk1
                      clear hk1
                      go_upto_region 34 with fail
                      have hH0 : Kept [] Z Z.drew := (Kept.refl [] Z).drew
                      refine wp_region_held_drew (S := fun v => Kept [] Z v) (by kernel_rfl) hH0 (fun hH => ?_)
                      refine takeH 1 (.slice (some ⟨g, off, none⟩) L cap) rfl (by kernel_rfl) (by kernel_rfl) (by kernel_rfl) (fun _ _ _ h => h) (by rfl) (fun v hv => by go_simp) hH ?_
                      simp only [Act.put, List.setIfInBounds_toArray, List.set_cons_succ, List.set_cons_zero]
                      refine takeH 2 (.int .i64 k) rfl (by kernel_rfl) (by kernel_rfl) (by kernel_rfl) (fun _ _ _ h => h) (by rfl) (fun v hv => by go_simp) hH ?_
                      simp only [Act.put, List.setIfInBounds_toArray, List.set_cons_succ, List.set_cons_zero]
                      refine takeH 3 (.slice (some ⟨g, off, none⟩) k cap) rfl (by kernel_rfl) (by kernel_rfl) (by kernel_rfl) (fun _ _ _ h => h) (by rfl) (fun v hv => by have h1 := hck1; have h2 := hck2; go_simp) hH ?_
                      simp only [Act.put, List.setIfInBounds_toArray, List.set_cons_succ, List.set_cons_zero]
                      refine takeH 5 (.slice (some ⟨g, off, none⟩) L cap) rfl (by kernel_rfl) (by kernel_rfl) (by kernel_rfl) (fun _ _ _ h => h) (by rfl) (fun v hv => by go_simp) hH ?_
                      simp only [Act.put, List.setIfInBounds_toArray, List.set_cons_succ, List.set_cons_zero]
                      refine takeH 6 (.int .i64 k) rfl (by kernel_rfl) (by kernel_rfl) (by kernel_rfl) (fun _ _ _ h => h) (by rfl) (fun v hv => by go_simp) hH ?_
                      simp only [Act.put, List.setIfInBounds_toArray, List.set_cons_succ, List.set_cons_zero]
                      refine takeH 7 (.int .i64 (k1 : Int)) rfl (by kernel_rfl) (by kernel_rfl) (by kernel_rfl) (fun _ _ _ h => h) (by rfl) (fun v hv => by go_simp) hH ?_
                      simp only [Act.put, List.setIfInBounds_toArray, List.set_cons_succ, List.set_cons_zero]
                      refine takeH 8 (.slice (some ⟨g, o8, none⟩) (L - k1) (cap - k1)) rfl (by kernel_rfl) (by kernel_rfl) (by kernel_rfl) (fun _ _ _ h => h) (by rfl) (fun v hv => by have h := ho8; have h2 := hnl; have h3 := hnc; go_simp) hH ?_
                      simp only [Act.put, List.setIfInBounds_toArray, List.set_cons_succ, List.set_cons_zero]
                      refine runH 0 rfl (by kernel_rfl) (by rfl) (.slice (some ⟨Z.heap.size, 0, none⟩) 0 0) (Z1) (by rw [hZ1]; go_simp) (kZ1) ?_
                      simp only [Act.put, List.setIfInBounds_toArray, List.set_cons_succ, List.set_cons_zero]
                      have tkl : (line.take k).length = k := by simp; have := HL.out; omega
                      have dpl : (line.drop k1).length = L - k1 := by simp; have := HL.out; omega
                      refine appendH 4 rfl (by kernel_rfl) rfl _ _ _ rfl Z.heap.size 5 j0 _ 1 Tryd.underlying30 hj0 hz0 hz1 hz2 rfl (.slice (some ⟨Z.heap.size, 0, none⟩) 0 0) 0 [] rfl (by rw [hZ1]; exact World.ownsRow_made Z.drew (base := Z.heap.size) (e := 5) (size := 1) #[] 0 (Nat.le_refl _) (by decide) (by simp)) ⟨g, off, none⟩ k cap ((line.take k).map B) rfl (fun j u hj => by
                        rw [Addr.add_lit]
                        refine hcY.out _ kZ1 j u ?_
                        rw [List.map_take] at hj
                        have h3 := (List.getElem?_eq_some_iff.1 hj).1
                        simp at h3
                        rw [List.getElem?_take_of_lt (by omega)] at hj
                        exact hj) (by simpa using tkl) (B_oneCell _) (by unfold maxLen; omega) (by omega) kZ1.size ?_
                      intro ba ca Z2 o2 g2 _
                      have kZ2 : Kept [] Z Z2 := kZ1.trans' (Kept.of_row g2) (fun y hy hm => by simp [Value.ownBlock] at hm; omega)
                      refine ⟨kZ2, ?_⟩
                      simp only [Nat.zero_add, List.nil_append] at o2 ⊢
                      simp only [Act.put, List.setIfInBounds_toArray, List.set_cons_succ, List.set_cons_zero]
                      refine appendH 9 rfl (by kernel_rfl) rfl _ _ _ rfl Z.heap.size 5 j0 _ 1 Tryd.underlying30 hj0 hz0 hz1 hz2 rfl (.slice ba k ca) k ((line.take k).map B) rfl o2 ⟨g, o8, none⟩ (L - k1) (cap - k1) ((line.drop k1).map B) rfl (fun j u hj => by
                        rw [Addr.add_lit]
                        have h3 := (List.getElem?_eq_some_iff.1 hj).1
                        simp at h3
                        rw [List.map_drop, List.getElem?_drop] at hj
                        have h4 := hcY.out _ kZ2 (k1 + j) u hj
                        rw [hz8 (by have := HL.out; omega), Nat.add_assoc]
                        exact h4) (by simpa using dpl) (B_oneCell _) (by unfold maxLen; omega) (by omega) kZ2.size ?_
                      intro bb cb Y o3 g3 _
                      have kZ3 : Kept [] Z Y := kZ2.trans' (Kept.of_row g3) (fun y hy hm => by
                        have h1 : (Value.slice ba k ca).ownBlock = some y := by simpa using hm
                        have h2 := own_block_ge o2 y h1
                        omega)
                      refine ⟨kZ3, ?_⟩
                      simp only [Act.put, List.setIfInBounds_toArray, List.set_cons_succ, List.set_cons_zero]
                      refine takeH 10 (.slice bb (k + (L - k1)) cb) rfl (by kernel_rfl) (by kernel_rfl) (by kernel_rfl) (fun _ _ _ h => h) (by rfl) (fun v hv => by go_simp) kZ3 ?_
                      simp only [Act.put, List.setIfInBounds_toArray, List.set_cons_succ, List.set_cons_zero]
                      refine wpAnyH_done (by kernel_rfl) ?_ _
                      have he : line.take k ++ line.drop k1 = line.erase b8 := by rw [HK1.out]; exact cut_erase hO.out.nd hk
                      rw [← List.map_append, he] at o3
                      obtain ⟨ga, LNa, hga⟩ := lq_own o3 (CZ.out.kept.size) g LNL.out.lt.1 (Nat.lt_of_lt_of_le LNL.out.lt.2 kZ3.size)
                      have LN1 := hid LNa
                      have CY := hid (CZ.out.keep0 kZ3)
                      have gU1 := hid (show ga ∉ U3 from fun h => by
                        rcases hga with h1 | rfl
                        · have h2 := (CZ.out.bound _ h).2; omega
                        · exact gUL.out h)
                      have HM := hid (show line.erase b8 ++ [b8] = moved line b8 from rfl)
                      have HL1 := hid (show (line.erase b8).length ≤ 100 from by have h1 := erase_len line b8; have := HL.out; omega)
                      clear kZ1 kZ2 kZ3 g2 g3 o2 o3 LNa hga hH0 hH hcY tkl dpl ho8 hz8 hnl hnc hck1 hck2 hZ1 e7
                      obtain ⟨Y1, hY1⟩ : ∃ W, W = Y.alloc (.cells #[.int .u8 (b8.toNat : Int)] 5) := ⟨_, rfl⟩
                      have hrY := reads_one Y b8
                      rw [← hY1] at hrY
                      have hcY : Y1.cell? ⟨Y.heap.size, 0, none⟩ = some (B b8) := by have h1 := hrY.2 _ rfl 0 (B b8) rfl; rw [Addr.add_lit] at h1; exact h1
                      have kY1 : Kept [] Y Y1 := hY1 ▸ (Kept.refl [] Y).alloc _
                      have CY1 := CY.out.keep0 kY1
                      obtain ⟨v2, g2, Y2, hap, LN2, kY2, hg2⟩ := lq_append (LN1.out.kept kY1 (by simp)) (by have := HL1.out; omega) Y.heap.size 0 1 b8 hcY 30
                      have CY2 := hid (CY1.keep kY2 (fun y hy hm => by simp at hm; subst hm; exact gU1.out hy) (fun y hy => by simp at hy; subst hy; exact LN1.out.lt.1))
                      have gU2 := hid (show g2 ∉ U3 from fun h => by
                        rcases hg2 with rfl | hg2
                        · exact gU1.out h
                        · have h1 := (CY1.bound _ h).2; omega)
                      rw [HM.out] at LN2
                      obtain ⟨off2, cap2, rfl, hlc2, hcm2, hcell2⟩ := ln_cell LN2
                      obtain ⟨ml, hml⟩ : ∃ ml, ml = (moved line b8).length := ⟨_, rfl⟩
                      rw [← hml] at hlc2 LN2 hap
                      have HML := hid hml
                      have hmb := hid (show ml ≤ rm + 1 ∧ 1 ≤ ml from by rw [hml]; unfold moved; have h1 := erase_len line b8; have h2 := hO.out.len; simp; omega)
                      have HAP := hid hap; have LNN := hid LN2; have HYY := hid hY1
                      have mk := hid (moved_keep hO.out.low hO.out.nd b8 hb32)
                      clear hrY hcY kY1 CY1 hap kY2 hg2 LN2 hcell2 hY1 hml
                      go_wp2_with (at_builtin; refine halt ?_)
                      refine Halt.mk ?_
                      rw [← HYY.out]
                      refine wpList_append_ln rfl _ _ _ rfl _ _ rfl rfl _ _ HAP.out ?_
                      have hRB := RB.out; have hmb2 := hmb.out
                      by_cases hcut : rm < ml
                      · have fc : decide ((rm : Int) < (ml : Int)) = true := decide_eq_true (by omega)
                        obtain ⟨a0, rest, har⟩ : ∃ a r, moved line b8 = a :: r := by
                          cases h : moved line b8 with
                          | nil => have h1 := HML.out; rw [h] at h1; simp at h1; omega
                          | cons a r => exact ⟨a, r, rfl⟩
                        have LT := LNN.out
                        rw [har] at LT
                        have LT := ln_tail LT
                        have hct : cutTo rm (moved line b8) = rest := by unfold cutTo; rw [← HML.out, if_pos hcut, har]; rfl
                        have hN := hid (show OI w Y2 U3 p rm g2 (.slice (some ⟨g2, off2 + 1, none⟩) (ml - 1) (cap2 - 1)) (cutTo rm (moved line b8)) from
                          ⟨CY2.out, by rw [hct]; exact LT, gU2.out, (cut_keep mk.out.1 mk.out.2 rm).1, (cut_keep mk.out.1 mk.out.2 rm).2, cut_len rm _ (by rw [← HML.out]; omega)⟩)
                        clear LT hct har
                        go_wp2
                        go_roundw
                        case rel => exact ⟨i + 1, U3, g2, _, by omega, by go_num, hN⟩
                        case measure => simp [intOf]; omega
                      · have fc : decide ((rm : Int) < (ml : Int)) = false := decide_eq_false (by omega)
                        have hct : cutTo rm (moved line b8) = moved line b8 := by unfold cutTo; rw [← HML.out, if_neg hcut]
                        have hN := hid (show OI w Y2 U3 p rm g2 (.slice (some ⟨g2, off2, none⟩) ml cap2) (cutTo rm (moved line b8)) from
                          ⟨CY2.out, by rw [hct]; exact LNN.out, gU2.out, (cut_keep mk.out.1 mk.out.2 rm).1, (cut_keep mk.out.1 mk.out.2 rm).2, cut_len rm _ (by rw [← HML.out]; omega)⟩)
                        clear hct
                        go_wp2
                        go_roundw
                        case rel => exact ⟨i + 1, U3, g2, _, by omega, by go_num, hN⟩
                        case measure => simp [intOf]; omega
                  · have f128 : decide ((128 : Int) ≤ (sb.toNat : Int)) = false := decide_eq_false (by omega)
                    have hpt := hid (cs_put C1.out szl.out.1 szl.out.2 (some ⟨V0.heap.size, 0, none⟩) 1 [b8] hr1 (fun _ y hy hm => by cases hy; have h1 := (hO.out.cs.bound _ hm).2; simp at h1) (by simp) (by simp) (by omega) (by simp))
                    rw [oL_put DS.out hO.out.low hO.out.nd b8 hb32 rm RB.out.1 hO.out.len, ← hid0, show ([b8] : List UInt8).length = 1 from rfl] at hpt
                    clear hr1 hW1 hid0
                    rcases HZ.out.last with ⟨rfl, hnot⟩ | ⟨k, rfl, hk⟩
                    · go_wp2_with fail
                      rw [← HW1.out]
                      refine hpt.out.mono ?_
                      rintro e Y ⟨rfl, k3, U3, m3, c3⟩
                      have CY := hid c3
                      have LN1 := hid (show Lq w.heap.size g Y (.slice (some ⟨g, off, none⟩) L cap) line from Or.inl ((hO.out.ln.kept kW1.out (by simp)).kept k3 hO.out.gU))
                      have gU1 := hid (show g ∉ U3 from fun h => by
                        rcases m3.1 _ h with h | h
                        · exact hO.out.gU h
                        · have h1 := kW1.out.size; omega)
                      have HM := hid (show line ++ [b8] = moved line b8 from by unfold moved; rw [List.erase_of_not_mem hnot])
                      have HL1 := hid (show line.length ≤ 100 from by have := HL.out; omega)
                      clear c3 k3 m3 hpt
                      obtain ⟨Y1, hY1⟩ : ∃ W, W = Y.alloc (.cells #[.int .u8 (b8.toNat : Int)] 5) := ⟨_, rfl⟩
                      have hrY := reads_one Y b8
                      rw [← hY1] at hrY
                      have hcY : Y1.cell? ⟨Y.heap.size, 0, none⟩ = some (B b8) := by have h1 := hrY.2 _ rfl 0 (B b8) rfl; rw [Addr.add_lit] at h1; exact h1
                      have kY1 : Kept [] Y Y1 := hY1 ▸ (Kept.refl [] Y).alloc _
                      have CY1 := CY.out.keep0 kY1
                      obtain ⟨v2, g2, Y2, hap, LN2, kY2, hg2⟩ := lq_append (LN1.out.kept kY1 (by simp)) (by have := HL1.out; omega) Y.heap.size 0 1 b8 hcY 30
                      have CY2 := hid (CY1.keep kY2 (fun y hy hm => by simp at hm; subst hm; exact gU1.out hy) (fun y hy => by simp at hy; subst hy; exact LN1.out.lt.1))
                      have gU2 := hid (show g2 ∉ U3 from fun h => by
                        rcases hg2 with rfl | hg2
                        · exact gU1.out h
                        · have h1 := (CY1.bound _ h).2; omega)
                      rw [HM.out] at LN2
                      obtain ⟨off2, cap2, rfl, hlc2, hcm2, hcell2⟩ := ln_cell LN2
                      obtain ⟨ml, hml⟩ : ∃ ml, ml = (moved line b8).length := ⟨_, rfl⟩
                      rw [← hml] at hlc2 LN2 hap
                      have HML := hid hml
                      have hmb := hid (show ml ≤ rm + 1 ∧ 1 ≤ ml from by rw [hml]; unfold moved; have h1 := erase_len line b8; have h2 := hO.out.len; simp; omega)
                      have HAP := hid hap; have LNN := hid LN2; have HYY := hid hY1
                      have mk := hid (moved_keep hO.out.low hO.out.nd b8 hb32)
                      clear hrY hcY kY1 CY1 hap kY2 hg2 LN2 hcell2 hY1 hml
                      go_wp2_with (at_builtin; refine halt ?_)
                      refine Halt.mk ?_
                      rw [← HYY.out]
                      refine wpList_append_ln rfl _ _ _ rfl _ _ rfl rfl _ _ HAP.out ?_
                      have hRB := RB.out; have hmb2 := hmb.out
                      by_cases hcut : rm < ml
                      · have fc : decide ((rm : Int) < (ml : Int)) = true := decide_eq_true (by omega)
                        obtain ⟨a0, rest, har⟩ : ∃ a r, moved line b8 = a :: r := by
                          cases h : moved line b8 with
                          | nil => have h1 := HML.out; rw [h] at h1; simp at h1; omega
                          | cons a r => exact ⟨a, r, rfl⟩
                        have LT := LNN.out
                        rw [har] at LT
                        have LT := ln_tail LT
                        have hct : cutTo rm (moved line b8) = rest := by unfold cutTo; rw [← HML.out, if_pos hcut, har]; rfl
                        have hN := hid (show OI w Y2 U3 p rm g2 (.slice (some ⟨g2, off2 + 1, none⟩) (ml - 1) (cap2 - 1)) (cutTo rm (moved line b8)) from
                          ⟨CY2.out, by rw [hct]; exact LT, gU2.out, (cut_keep mk.out.1 mk.out.2 rm).1, (cut_keep mk.out.1 mk.out.2 rm).2, cut_len rm _ (by rw [← HML.out]; omega)⟩)
                        clear LT hct har
                        go_wp2
                        go_roundw
                        case rel => exact ⟨i + 1, U3, g2, _, by omega, by go_num, hN⟩
                        case measure => simp [intOf]; omega
                      · have fc : decide ((rm : Int) < (ml : Int)) = false := decide_eq_false (by omega)
                        have hct : cutTo rm (moved line b8) = moved line b8 := by unfold cutTo; rw [← HML.out, if_neg hcut]
                        have hN := hid (show OI w Y2 U3 p rm g2 (.slice (some ⟨g2, off2, none⟩) ml cap2) (cutTo rm (moved line b8)) from
                          ⟨CY2.out, by rw [hct]; exact LNN.out, gU2.out, (cut_keep mk.out.1 mk.out.2 rm).1, (cut_keep mk.out.1 mk.out.2 rm).2, cut_len rm _ (by rw [← HML.out]; omega)⟩)
                        clear hct
                        go_wp2
                        go_roundw
                        case rel => exact ⟨i + 1, U3, g2, _, by omega, by go_num, hN⟩
                        case measure => simp [intOf]; omega
                    · go_wp2_with fail
                      rw [← HW1.out]
                      refine hpt.out.mono ?_
                      rintro e Z ⟨rfl, k3, U3, m3, c3⟩
                      have CZ := hid c3
                      have LNL := hid (show Ln w.heap.size g Z (.slice (some ⟨g, off, none⟩) L cap) line from (hO.out.ln.kept kW1.out (by simp)).kept k3 hO.out.gU)
                      have gUL := hid (show g ∉ U3 from fun h => by
                        rcases m3.1 _ h with h | h
                        · exact hO.out.gU h
                        · have h1 := kW1.out.size; omega)
                      clear c3 k3 m3 hpt
                      have hkL := hid (show k < L from by have h1 := (List.getElem?_eq_some_iff.1 hk).1; have h2 := HL.out; omega)
                      have hcY := hid (fun v (hv : Kept [] Z v) j u (hj : (line.map B)[j]? = some u) => (show v.cell? ⟨g, off + j, none⟩ = some u from by
                        obtain ⟨off', cap', e, _, _, h1⟩ := ln_cell LNL.out
                        simp at e
                        obtain ⟨rfl, _, _⟩ := e
                        have h2 := h1 j u hj
                        exact (hv.cell (World.block_lt_of_cell? Z _ h2) (by simp)).trans h2))
                      obtain ⟨k1, hk1⟩ : ∃ k1, k1 = k + 1 := ⟨_, rfl⟩
                      have e7 : IntKind.i64.wrap ((k : Int) + 1) = (k1 : Int) := by have := hkL.out; rw [IntWalk.i64_in _ (by omega)]; omega
                      obtain ⟨j0, hj0, hz0, hz1, hz2⟩ := info_parts info_u8
                      obtain ⟨Z1, hZ1⟩ : ∃ W, W = Z.drew.alloc (.cells #[] 5) := ⟨_, rfl⟩
                      have kZ1 : Kept [] Z Z1 := hZ1 ▸ ((Kept.refl [] Z).drew).alloc _
                      have hkk := hkL.out
                      have hlc3 := HCM.out
                      obtain ⟨o8, ho8, hz8⟩ : ∃ o8, (if cap = k1 then some (⟨g, off, none⟩ : Addr) else some ⟨g, off + k1, none⟩) = some ⟨g, o8, none⟩ ∧ (k1 < L → o8 = off + k1) := by
                        by_cases h : cap = k1
                        · exact ⟨off, by rw [if_pos h], fun h2 => by omega⟩
                        · exact ⟨off + k1, by rw [if_neg h], fun _ => rfl⟩
                      have hnl : ¬ (L < k1) := by omega
                      have hnc : ¬ (cap < L) := by omega
                      have hck1 : ¬ (cap < k) := by omega
                      have hck2 : ¬ (cap = 0) := by omega
                      have HK1 := hid hk1
                      clear hk1
                      go_upto_region 34 with fail
                      have hH0 : Kept [] Z Z.drew := (Kept.refl [] Z).drew
                      refine wp_region_held_drew (S := fun v => Kept [] Z v) (by kernel_rfl) hH0 (fun hH => ?_)
                      refine takeH 1 (.slice (some ⟨g, off, none⟩) L cap) rfl (by kernel_rfl) (by kernel_rfl) (by kernel_rfl) (fun _ _ _ h => h) (by rfl) (fun v hv => by go_simp) hH ?_
                      simp only [Act.put, List.setIfInBounds_toArray, List.set_cons_succ, List.set_cons_zero]
                      refine takeH 2 (.int .i64 k) rfl (by kernel_rfl) (by kernel_rfl) (by kernel_rfl) (fun _ _ _ h => h) (by rfl) (fun v hv => by go_simp) hH ?_
                      simp only [Act.put, List.setIfInBounds_toArray, List.set_cons_succ, List.set_cons_zero]
                      refine takeH 3 (.slice (some ⟨g, off, none⟩) k cap) rfl (by kernel_rfl) (by kernel_rfl) (by kernel_rfl) (fun _ _ _ h => h) (by rfl) (fun v hv => by have h1 := hck1; have h2 := hck2; go_simp) hH ?_
                      simp only [Act.put, List.setIfInBounds_toArray, List.set_cons_succ, List.set_cons_zero]
                      refine takeH 5 (.slice (some ⟨g, off, none⟩) L cap) rfl (by kernel_rfl) (by kernel_rfl) (by kernel_rfl) (fun _ _ _ h => h) (by rfl) (fun v hv => by go_simp) hH ?_
                      simp only [Act.put, List.setIfInBounds_toArray, List.set_cons_succ, List.set_cons_zero]
                      refine takeH 6 (.int .i64 k) rfl (by kernel_rfl) (by kernel_rfl) (by kernel_rfl) (fun _ _ _ h => h) (by rfl) (fun v hv => by go_simp) hH ?_
                      simp only [Act.put, List.setIfInBounds_toArray, List.set_cons_succ, List.set_cons_zero]
                      refine takeH 7 (.int .i64 (k1 : Int)) rfl (by kernel_rfl) (by kernel_rfl) (by kernel_rfl) (fun _ _ _ h => h) (by rfl) (fun v hv => by go_simp) hH ?_
                      simp only [Act.put, List.setIfInBounds_toArray, List.set_cons_succ, List.set_cons_zero]
                      refine takeH 8 (.slice (some ⟨g, o8, none⟩) (L - k1) (cap - k1)) rfl (by kernel_rfl) (by kernel_rfl) (by kernel_rfl) (fun _ _ _ h => h) (by rfl) (fun v hv => by have h := ho8; have h2 := hnl; have h3 := hnc; go_simp) hH ?_
                      simp only [Act.put, List.setIfInBounds_toArray, List.set_cons_succ, List.set_cons_zero]
                      refine runH 0 rfl (by kernel_rfl) (by rfl) (.slice (some ⟨Z.heap.size, 0, none⟩) 0 0) (Z1) (by rw [hZ1]; go_simp) (kZ1) ?_
                      simp only [Act.put, List.setIfInBounds_toArray, List.set_cons_succ, List.set_cons_zero]
                      have tkl : (line.take k).length = k := by simp; have := HL.out; omega
                      have dpl : (line.drop k1).length = L - k1 := by simp; have := HL.out; omega
                      refine appendH 4 rfl (by kernel_rfl) rfl _ _ _ rfl Z.heap.size 5 j0 _ 1 Tryd.underlying30 hj0 hz0 hz1 hz2 rfl (.slice (some ⟨Z.heap.size, 0, none⟩) 0 0) 0 [] rfl (by rw [hZ1]; exact World.ownsRow_made Z.drew (base := Z.heap.size) (e := 5) (size := 1) #[] 0 (Nat.le_refl _) (by decide) (by simp)) ⟨g, off, none⟩ k cap ((line.take k).map B) rfl (fun j u hj => by
                        rw [Addr.add_lit]
                        refine hcY.out _ kZ1 j u ?_
                        rw [List.map_take] at hj
                        have h3 := (List.getElem?_eq_some_iff.1 hj).1
                        simp at h3
                        rw [List.getElem?_take_of_lt (by omega)] at hj
                        exact hj) (by simpa using tkl) (B_oneCell _) (by unfold maxLen; omega) (by omega) kZ1.size ?_
                      intro ba ca Z2 o2 g2 _
                      have kZ2 : Kept [] Z Z2 := kZ1.trans' (Kept.of_row g2) (fun y hy hm => by simp [Value.ownBlock] at hm; omega)
                      refine ⟨kZ2, ?_⟩
                      simp only [Nat.zero_add, List.nil_append] at o2 ⊢
                      simp only [Act.put, List.setIfInBounds_toArray, List.set_cons_succ, List.set_cons_zero]
                      refine appendH 9 rfl (by kernel_rfl) rfl _ _ _ rfl Z.heap.size 5 j0 _ 1 Tryd.underlying30 hj0 hz0 hz1 hz2 rfl (.slice ba k ca) k ((line.take k).map B) rfl o2 ⟨g, o8, none⟩ (L - k1) (cap - k1) ((line.drop k1).map B) rfl (fun j u hj => by
                        rw [Addr.add_lit]
                        have h3 := (List.getElem?_eq_some_iff.1 hj).1
                        simp at h3
                        rw [List.map_drop, List.getElem?_drop] at hj
                        have h4 := hcY.out _ kZ2 (k1 + j) u hj
                        rw [hz8 (by have := HL.out; omega), Nat.add_assoc]
                        exact h4) (by simpa using dpl) (B_oneCell _) (by unfold maxLen; omega) (by omega) kZ2.size ?_
                      intro bb cb Y o3 g3 _
                      have kZ3 : Kept [] Z Y := kZ2.trans' (Kept.of_row g3) (fun y hy hm => by
                        have h1 : (Value.slice ba k ca).ownBlock = some y := by simpa using hm
                        have h2 := own_block_ge o2 y h1
                        omega)
                      refine ⟨kZ3, ?_⟩
                      simp only [Act.put, List.setIfInBounds_toArray, List.set_cons_succ, List.set_cons_zero]
                      refine takeH 10 (.slice bb (k + (L - k1)) cb) rfl (by kernel_rfl) (by kernel_rfl) (by kernel_rfl) (fun _ _ _ h => h) (by rfl) (fun v hv => by go_simp) kZ3 ?_
                      simp only [Act.put, List.setIfInBounds_toArray, List.set_cons_succ, List.set_cons_zero]
                      refine wpAnyH_done (by kernel_rfl) ?_ _
                      have he : line.take k ++ line.drop k1 = line.erase b8 := by rw [HK1.out]; exact cut_erase hO.out.nd hk
                      rw [← List.map_append, he] at o3
                      obtain ⟨ga, LNa, hga⟩ := lq_own o3 (CZ.out.kept.size) g LNL.out.lt.1 (Nat.lt_of_lt_of_le LNL.out.lt.2 kZ3.size)
                      have LN1 := hid LNa
                      have CY := hid (CZ.out.keep0 kZ3)
                      have gU1 := hid (show ga ∉ U3 from fun h => by
                        rcases hga with h1 | rfl
                        · have h2 := (CZ.out.bound _ h).2; omega
                        · exact gUL.out h)
                      have HM := hid (show line.erase b8 ++ [b8] = moved line b8 from rfl)
                      have HL1 := hid (show (line.erase b8).length ≤ 100 from by have h1 := erase_len line b8; have := HL.out; omega)
                      clear kZ1 kZ2 kZ3 g2 g3 o2 o3 LNa hga hH0 hH hcY tkl dpl ho8 hz8 hnl hnc hck1 hck2 hZ1 e7
                      obtain ⟨Y1, hY1⟩ : ∃ W, W = Y.alloc (.cells #[.int .u8 (b8.toNat : Int)] 5) := ⟨_, rfl⟩
                      have hrY := reads_one Y b8
                      rw [← hY1] at hrY
                      have hcY : Y1.cell? ⟨Y.heap.size, 0, none⟩ = some (B b8) := by have h1 := hrY.2 _ rfl 0 (B b8) rfl; rw [Addr.add_lit] at h1; exact h1
                      have kY1 : Kept [] Y Y1 := hY1 ▸ (Kept.refl [] Y).alloc _
                      have CY1 := CY.out.keep0 kY1
                      obtain ⟨v2, g2, Y2, hap, LN2, kY2, hg2⟩ := lq_append (LN1.out.kept kY1 (by simp)) (by have := HL1.out; omega) Y.heap.size 0 1 b8 hcY 30
                      have CY2 := hid (CY1.keep kY2 (fun y hy hm => by simp at hm; subst hm; exact gU1.out hy) (fun y hy => by simp at hy; subst hy; exact LN1.out.lt.1))
                      have gU2 := hid (show g2 ∉ U3 from fun h => by
                        rcases hg2 with rfl | hg2
                        · exact gU1.out h
                        · have h1 := (CY1.bound _ h).2; omega)
                      rw [HM.out] at LN2
                      obtain ⟨off2, cap2, rfl, hlc2, hcm2, hcell2⟩ := ln_cell LN2
                      obtain ⟨ml, hml⟩ : ∃ ml, ml = (moved line b8).length := ⟨_, rfl⟩
                      rw [← hml] at hlc2 LN2 hap
                      have HML := hid hml
                      have hmb := hid (show ml ≤ rm + 1 ∧ 1 ≤ ml from by rw [hml]; unfold moved; have h1 := erase_len line b8; have h2 := hO.out.len; simp; omega)
                      have HAP := hid hap; have LNN := hid LN2; have HYY := hid hY1
                      have mk := hid (moved_keep hO.out.low hO.out.nd b8 hb32)
                      clear hrY hcY kY1 CY1 hap kY2 hg2 LN2 hcell2 hY1 hml
                      go_wp2_with (at_builtin; refine halt ?_)
                      refine Halt.mk ?_
                      rw [← HYY.out]
                      refine wpList_append_ln rfl _ _ _ rfl _ _ rfl rfl _ _ HAP.out ?_
                      have hRB := RB.out; have hmb2 := hmb.out
                      by_cases hcut : rm < ml
                      · have fc : decide ((rm : Int) < (ml : Int)) = true := decide_eq_true (by omega)
                        obtain ⟨a0, rest, har⟩ : ∃ a r, moved line b8 = a :: r := by
                          cases h : moved line b8 with
                          | nil => have h1 := HML.out; rw [h] at h1; simp at h1; omega
                          | cons a r => exact ⟨a, r, rfl⟩
                        have LT := LNN.out
                        rw [har] at LT
                        have LT := ln_tail LT
                        have hct : cutTo rm (moved line b8) = rest := by unfold cutTo; rw [← HML.out, if_pos hcut, har]; rfl
                        have hN := hid (show OI w Y2 U3 p rm g2 (.slice (some ⟨g2, off2 + 1, none⟩) (ml - 1) (cap2 - 1)) (cutTo rm (moved line b8)) from
                          ⟨CY2.out, by rw [hct]; exact LT, gU2.out, (cut_keep mk.out.1 mk.out.2 rm).1, (cut_keep mk.out.1 mk.out.2 rm).2, cut_len rm _ (by rw [← HML.out]; omega)⟩)
                        clear LT hct har
                        go_wp2
                        go_roundw
                        case rel => exact ⟨i + 1, U3, g2, _, by omega, by go_num, hN⟩
                        case measure => simp [intOf]; omega
                      · have fc : decide ((rm : Int) < (ml : Int)) = false := decide_eq_false (by omega)
                        have hct : cutTo rm (moved line b8) = moved line b8 := by unfold cutTo; rw [← HML.out, if_neg hcut]
                        have hN := hid (show OI w Y2 U3 p rm g2 (.slice (some ⟨g2, off2, none⟩) ml cap2) (cutTo rm (moved line b8)) from
                          ⟨CY2.out, by rw [hct]; exact LNN.out, gU2.out, (cut_keep mk.out.1 mk.out.2 rm).1, (cut_keep mk.out.1 mk.out.2 rm).2, cut_len rm _ (by rw [← HML.out]; omega)⟩)
                        clear hct
                        go_wp2
                        go_roundw
                        case rel => exact ⟨i + 1, U3, g2, _, by omega, by go_num, hN⟩
                        case measure => simp [intOf]; omega
            · obtain ⟨ids, hids⟩ : ∃ ids : List (List UInt8), ids = line.map fun b => Sha.sum [b] := ⟨_, rfl⟩
              have hlen16 := hid (show line.length ≤ 16 from by have h1 := hO.out.len; have h3 := RB.out; omega)
              have e1 : ((oL line).map (·.1)).take 1000 = ids := by
                have h1 : (oL line).map (·.1) = ids := by rw [hids]; unfold oL; rw [List.map_map]; rfl
                rw [h1]
                exact List.take_of_length_le (by rw [hids]; simp; have := hlen16.out; omega)
              have hall := cs_all hO.out.cs (by rw [oL_len]; have := hlen16.out; omega) 1000 (by decide) (by decide)
              rw [e1] at hall
              have lids : ids.length = L := by rw [hids, HL.out]; simp
              rw [lids] at hall
              have hall := hid hall
              have h32 := hid (show ∀ id ∈ ids, id.length = 32 from fun id hm => by rw [hids] at hm; obtain ⟨b, _, rfl⟩ := List.mem_map.1 hm; exact Sha.sum_len _)
              have hat := hid (show ∀ (j : Nat) b, line[j]? = some b → ids[j]? = some (Sha.sum [b]) from fun j b hb => by rw [hids, List.getElem?_map, hb]; rfl)
              have HLI := hid lids
              clear lids e1 hids
              have hL16 : L ≤ 16 := by have h2 := HL.out; have h3 := hlen16.out; omega
              go_wp2_with fail
              refine hall.out.mono ?_
              rintro e w7 ⟨a2, c2, rfl, k7, ow7⟩
              rw [← HLI.out] at ow7
              obtain ⟨hI7, hb7⟩ := ids_of_row h32.out ow7
              have HI7 := hid hI7
              have LN7 := hid (hO.out.ln.kept k7 (by simp))
              have C7 := hid (hO.out.cs.keep0 k7)
              clear hall ow7 hI7 hb7 k7
              go_wp2_with fail
              go_loopw [120] (fun s120 wx => ∃ j : Nat, j ≤ L ∧ s120 = .int .i64 j ∧ Hid (Kept [] w7 wx)) (fun s120 _ => L - (intOf s120).toNat)
              case atStart => exact ⟨0, Nat.zero_le _, rfl, hid (Kept.refl _ _)⟩
              case round =>
                obtain ⟨j, hj, rfl, HK⟩ := hrel
                by_cases hjl : j < L
                · obtain ⟨b, hb⟩ : ∃ o, line[j]? = some o := ⟨line[j]'(by rw [← HL.out]; exact hjl), by simp⟩
                  obtain ⟨off', cap', e7, _, _, hc7⟩ := ln_cell LN7.out
                  simp at e7
                  obtain ⟨rfl, _, rfl⟩ := e7
                  have q1 := hc7 j (B b) (by simp [hb])
                  have q2 := (HK.out.cell (World.block_lt_of_cell? w7 _ q1) (by simp)).trans q1
                  unfold B at q2
                  obtain ⟨x, rfl⟩ : ∃ x, a2 = some x := by
                    cases a2 with
                    | none => have h1 := HI7.out.nil rfl; have h2 := HLI.out; rw [h1] at h2; simp at h2; omega
                    | some x => exact ⟨x, rfl⟩
                  obtain ⟨iv, hiv⟩ : ∃ iv, iv = ((Sha.sum [b]).map B).toArray := ⟨_, rfl⟩
                  have hHI := hid (show Kept [] w7 wr.drew from HK.out.drew)
                  have hH0 : Kept [] wr wr.drew := (Kept.refl [] wr).drew
                  have hld := hid (fun v (hv : Kept [] wr v) => (show (loadVar 34 (x.add (j * 32))).run Tryd.prog v = .ok (.agg iv) v from by
                    rw [hiv]
                    obtain ⟨_, hc⟩ := HI7.out.at_ x rfl j _ (hat.out j b hb)
                    exact ld_idA v _ _ (Sha.sum_len _) (fun k u hk => by
                      rw [List.getElem?_map] at hk
                      obtain ⟨y, hy, rfl⟩ := Option.map_eq_some_iff.1 hk
                      have h1 := hc k y hy
                      exact ((HK.out.trans hv).cell (World.block_lt_of_cell? w7 _ h1) (by simp)).trans h1)))
                  obtain ⟨V1, hV1⟩ : ∃ V, V = wr.drew.alloc (.cells #[.int .u8 (b.toNat : Int)] 5) := ⟨_, rfl⟩
                  have hk1 : Kept [] wr V1 := hV1 ▸ ((Kept.refl [] wr).drew).alloc _
                  have hrd : Reads V1 (some ⟨wr.heap.size, 0, none⟩) [b] := hV1 ▸ reads_one wr.drew b
                  have hof := hid (refof_sum (some ⟨wr.heap.size, 0, none⟩) 1 [b] V1 hrd (by simp) (by simp))
                  have e1 : ([b] : List UInt8).length = 1 := rfl
                  rw [e1, ← hiv] at hof
                  have heq := hid (show ∀ v : World, (Op.equalIn 10000 34 (.agg iv) (.agg iv)).run Tryd.prog v = .ok true v from fun v => by rw [hiv, id_equal _ _ (Sha.sum_len _) (Sha.sum_len _) v]; simp)
                  clear hc7 q1 hrd e1 hb hiv
                  go_upto_region 45 with fail
                  refine wp_region_held_drew (S := fun v => Kept [] wr v) (by kernel_rfl) hH0 (fun hH => ?_)
                  refine takeH 0 (.slice (some x) L c2) rfl (by kernel_rfl) (by kernel_rfl) (by kernel_rfl) (fun _ _ _ h => h) (by rfl) (fun v hv => by go_simp) hH ?_
                  simp only [Act.put, List.setIfInBounds_toArray, List.set_cons_succ, List.set_cons_zero]
                  refine takeH 1 (.int .i64 j) rfl (by kernel_rfl) (by kernel_rfl) (by kernel_rfl) (fun _ _ _ h => h) (by rfl) (fun v hv => by go_simp) hH ?_
                  simp only [Act.put, List.setIfInBounds_toArray, List.set_cons_succ, List.set_cons_zero]
                  refine takeH 2 (.pointer (some (x.add (j * 32)))) rfl (by kernel_rfl) (by kernel_rfl) (by kernel_rfl) (fun _ _ _ h => h) (by rfl) (fun v hv => by go_simp) hH ?_
                  simp only [Act.put, List.setIfInBounds_toArray, List.set_cons_succ, List.set_cons_zero]
                  refine takeH 3 (.agg iv) rfl (by kernel_rfl) (by kernel_rfl) (by kernel_rfl) (fun _ _ _ h => h) (by rfl) (fun v hv => by have h := hld.out v hv; unfold execOp; simp [Instr.loadAt, Instr.sureAddr, Sem.run_bind, Sem.run_pure, Result.andThen_ok, Act.eval, h]) hH ?_
                  simp only [Act.put, List.setIfInBounds_toArray, List.set_cons_succ, List.set_cons_zero]
                  refine takeH 4 (.int .u8 (b.toNat : Int)) rfl (by kernel_rfl) (by kernel_rfl) (by kernel_rfl) (fun _ _ _ h => h) (by rfl) (fun v hv => by go_simp) hH ?_
                  simp only [Act.put, List.setIfInBounds_toArray, List.set_cons_succ, List.set_cons_zero]
                  refine runH 5 rfl (by kernel_rfl) (by rfl) (.slice (some ⟨wr.heap.size, 0, none⟩) 1 1) (V1) (by rw [hV1]; go_simp) (hk1) ?_
                  simp only [Act.put, List.setIfInBounds_toArray, List.set_cons_succ, List.set_cons_zero]
                  refine callR 6 rfl (by kernel_rfl) (by rfl) 8 #[.slice (some ⟨wr.heap.size, 0, none⟩) 1 1] (by go_simp) (.agg iv) (fun v => Kept [] V1 v) (fun v h => hk1.trans h) (hof.out) ?_
                  rintro v2 k2
                  simp only [Act.put, List.setIfInBounds_toArray, List.set_cons_succ, List.set_cons_zero]
                  refine takeH 7 (.bool false) rfl (by kernel_rfl) (by kernel_rfl) (by kernel_rfl) (fun _ _ _ h => h) (by rfl) (fun v hv => by have h := heq.out v; go_simp) (hk1.trans k2) ?_
                  simp only [Act.put, List.setIfInBounds_toArray, List.set_cons_succ, List.set_cons_zero]
                  refine wpAnyH_done (by kernel_rfl) ?_ _
                  have HK2 := hid (HK.out.trans (hk1.trans k2))
                  clear hld hof heq hH0 hH hk1 hV1 k2 q2
                  go_wp2
                  go_roundw
                  case rel => exact ⟨j + 1, by omega, by go_num, HK2⟩
                  case measure => simp [intOf]; omega
                · obtain rfl : L = j := by omega
                  have hsi := cs_size (C7.out.keep0 HK.out)
                  rw [oL_size, ← HL.out] at hsi
                  have hsi := hid hsi
                  have hfin := hid (C7.out.keep0 HK.out).kept
                  clear hjl hj
                  go_wp2_with fail
                  refine hsi.out.mono ?_
                  rintro e w8 ⟨rfl, rfl⟩
                  go_wp2
                  go_ret
                  exact ⟨by simp, hfin.out⟩
        · have f1 : ((sz : Int) == 32) = false := by simp; omega
          go_wp2
          go_ret
          exact ⟨rfl, kI.out⟩
  · have f0 : decide ((60 : Int) < (n : Int)) = true := decide_eq_true (by omega)
    clear hn
    go_enter Tryd.func4, Tryd.ntmps4
    go_wp2_with fail
    refine hal.out.mono ?_
    rintro e w1 ⟨rfl, k1⟩
    go_wp2
    go_ret
    exact ⟨rfl, k1⟩
end Go.Proofs.YtmkdjonlfkfnlaaDoor
