
/- ColdYoungs. -/
import Derived.Test.YtnkolgamnakegaaYA
namespace Go.Proofs.Ytnkolgamnakegaa
open Go.RowKit Go.Lib Go.Maps

def nmY (i : Nat) : List UInt8 := [120, UInt8.ofNat (97 + i)]
theorem conv_rune_0 (W : World) : (convert 21 9 (.int .i32 (97 + ((0 : Nat) : Int)))).run Try.prog W = .ok (.string (S [UInt8.ofNat (97 + 0)])) W := by kernel_rfl
theorem conv_rune_1 (W : World) : (convert 21 9 (.int .i32 (97 + ((1 : Nat) : Int)))).run Try.prog W = .ok (.string (S [UInt8.ofNat (97 + 1)])) W := by kernel_rfl
theorem conv_rune_2 (W : World) : (convert 21 9 (.int .i32 (97 + ((2 : Nat) : Int)))).run Try.prog W = .ok (.string (S [UInt8.ofNat (97 + 2)])) W := by kernel_rfl
theorem conv_rune_3 (W : World) : (convert 21 9 (.int .i32 (97 + ((3 : Nat) : Int)))).run Try.prog W = .ok (.string (S [UInt8.ofNat (97 + 3)])) W := by kernel_rfl
theorem conv_rune_4 (W : World) : (convert 21 9 (.int .i32 (97 + ((4 : Nat) : Int)))).run Try.prog W = .ok (.string (S [UInt8.ofNat (97 + 4)])) W := by kernel_rfl
theorem conv_rune_5 (W : World) : (convert 21 9 (.int .i32 (97 + ((5 : Nat) : Int)))).run Try.prog W = .ok (.string (S [UInt8.ofNat (97 + 5)])) W := by kernel_rfl
theorem conv_rune_6 (W : World) : (convert 21 9 (.int .i32 (97 + ((6 : Nat) : Int)))).run Try.prog W = .ok (.string (S [UInt8.ofNat (97 + 6)])) W := by kernel_rfl
theorem conv_rune_7 (W : World) : (convert 21 9 (.int .i32 (97 + ((7 : Nat) : Int)))).run Try.prog W = .ok (.string (S [UInt8.ofNat (97 + 7)])) W := by kernel_rfl
theorem conv_rune_8 (W : World) : (convert 21 9 (.int .i32 (97 + ((8 : Nat) : Int)))).run Try.prog W = .ok (.string (S [UInt8.ofNat (97 + 8)])) W := by kernel_rfl
theorem conv_rune_9 (W : World) : (convert 21 9 (.int .i32 (97 + ((9 : Nat) : Int)))).run Try.prog W = .ok (.string (S [UInt8.ofNat (97 + 9)])) W := by kernel_rfl
theorem conv_rune_10 (W : World) : (convert 21 9 (.int .i32 (97 + ((10 : Nat) : Int)))).run Try.prog W = .ok (.string (S [UInt8.ofNat (97 + 10)])) W := by kernel_rfl
theorem conv_rune_11 (W : World) : (convert 21 9 (.int .i32 (97 + ((11 : Nat) : Int)))).run Try.prog W = .ok (.string (S [UInt8.ofNat (97 + 11)])) W := by kernel_rfl
theorem conv_rune_12 (W : World) : (convert 21 9 (.int .i32 (97 + ((12 : Nat) : Int)))).run Try.prog W = .ok (.string (S [UInt8.ofNat (97 + 12)])) W := by kernel_rfl
theorem conv_rune_13 (W : World) : (convert 21 9 (.int .i32 (97 + ((13 : Nat) : Int)))).run Try.prog W = .ok (.string (S [UInt8.ofNat (97 + 13)])) W := by kernel_rfl
theorem conv_rune_14 (W : World) : (convert 21 9 (.int .i32 (97 + ((14 : Nat) : Int)))).run Try.prog W = .ok (.string (S [UInt8.ofNat (97 + 14)])) W := by kernel_rfl
theorem conv_rune_15 (W : World) : (convert 21 9 (.int .i32 (97 + ((15 : Nat) : Int)))).run Try.prog W = .ok (.string (S [UInt8.ofNat (97 + 15)])) W := by kernel_rfl
theorem conv_rune_16 (W : World) : (convert 21 9 (.int .i32 (97 + ((16 : Nat) : Int)))).run Try.prog W = .ok (.string (S [UInt8.ofNat (97 + 16)])) W := by kernel_rfl
theorem conv_rune_17 (W : World) : (convert 21 9 (.int .i32 (97 + ((17 : Nat) : Int)))).run Try.prog W = .ok (.string (S [UInt8.ofNat (97 + 17)])) W := by kernel_rfl
theorem conv_rune_18 (W : World) : (convert 21 9 (.int .i32 (97 + ((18 : Nat) : Int)))).run Try.prog W = .ok (.string (S [UInt8.ofNat (97 + 18)])) W := by kernel_rfl
theorem conv_rune_19 (W : World) : (convert 21 9 (.int .i32 (97 + ((19 : Nat) : Int)))).run Try.prog W = .ok (.string (S [UInt8.ofNat (97 + 19)])) W := by kernel_rfl
theorem conv_rune (i : Nat) (hi : i < 20) (W : World) : (convert 21 9 (.int .i32 (97 + (i : Int)))).run Try.prog W = .ok (.string (S [UInt8.ofNat (97 + i)])) W := by
  match i, hi with
  | 0, _ => exact conv_rune_0 W
  | 1, _ => exact conv_rune_1 W
  | 2, _ => exact conv_rune_2 W
  | 3, _ => exact conv_rune_3 W
  | 4, _ => exact conv_rune_4 W
  | 5, _ => exact conv_rune_5 W
  | 6, _ => exact conv_rune_6 W
  | 7, _ => exact conv_rune_7 W
  | 8, _ => exact conv_rune_8 W
  | 9, _ => exact conv_rune_9 W
  | 10, _ => exact conv_rune_10 W
  | 11, _ => exact conv_rune_11 W
  | 12, _ => exact conv_rune_12 W
  | 13, _ => exact conv_rune_13 W
  | 14, _ => exact conv_rune_14 W
  | 15, _ => exact conv_rune_15 W
  | 16, _ => exact conv_rune_16 W
  | 17, _ => exact conv_rune_17 W
  | 18, _ => exact conv_rune_18 W
  | 19, _ => exact conv_rune_19 W
  | n + 20, h => exact absurd h (by omega)
theorem nmY_ok (i : Nat) (hi : i < 20) : okName (nmY i) = true := by
  match i, hi with
  | 0, _ | 1, _ | 2, _ | 3, _ | 4, _ | 5, _ | 6, _ | 7, _ | 8, _ | 9, _ | 10, _ | 11, _ | 12, _ | 13, _ | 14, _ | 15, _ | 16, _ | 17, _ | 18, _ | 19, _ => decide
  | n + 20, h => exact absurd h (by omega)
theorem nmY_inj {i j : Nat} (hi : i < 20) (hj : j < 20) (h : nmY i = nmY j) : i = j := by
  unfold nmY at h
  simp at h
  have h2 := congrArg UInt8.toNat h
  simp at h2
  omega
theorem del_ins_same (x : Ent) (es : List Ent) : delE x.name (insE x es) = delE x.name es := by
  induction es with
  | nil => simp [insE, delE]
  | cons e r ih =>
    unfold insE
    split
    · unfold delE
      rw [List.filter_cons]
      simp
    · unfold delE at ih ⊢
      rw [List.filter_cons, List.filter_cons, ih]
theorem del_put_same (x : Ent) {es : List Ent} (h : findE x.name es = none) : delE x.name (putE x es) = es := by
  unfold putE
  rw [del_none h, del_ins_same, del_none h]
theorem put_len_new (x : Ent) {es : List Ent} (h : findE x.name es = none) : (putE x es).length = es.length + 1 := by
  unfold putE
  rw [ins_len, del_none h]
theorem put_size_new (x : Ent) {es : List Ent} (h : findE x.name es = none) : sizeE (putE x es) = x.b.length + sizeE es := by
  unfold putE
  rw [ins_size, del_none h]
/-- Behind i rounds. -/
def YI (w1 wr : World) (p : Nat) (L : Int) (i lf : Nat) (want : Int) : Prop :=
  ∃ es ss Z k, Cw w1 wr Z p 1000 es ss [] k 2 5 L want ∧ lf = es.length ∧ k ≤ 2 * i ∧ es.length ≤ i ∧ sizeE es ≤ i ∧ 0 ≤ want ∧ want ≤ 256 * i ∧ ∀ e ∈ es, ∃ j, j < i ∧ e.name = nmY j
theorem gotE_put (x : Ent) (es : List Ent) : gotE [] (putE x es) x.name = 0 := by
  unfold gotE
  rw [find_put_same]
  rfl
set_option maxRecDepth 100000 in
set_option maxHeartbeats 4000000 in
theorem cold_youngs (a0 : Option Addr) (n c0 : Nat) (l0 : Int) (force : Bool) (w : World) (hr : ∀ i, i < n → ∃ x z, a0 = some x ∧ w.cell? (x.add i) = some (.int .i64 z)) (hn : n ≤ 9223372036854775807) :
    Calls Try.prog 5 #[.slice a0 n c0, .int .i64 l0, .bool force] w fun e w' => e = .returned (.bool true) ∧ Kept [] w w' := by
  have hal := hid (alive07 w)
  have HR := hid hr
  have hand1 := i64_and255 l0
  have hL1 : 0 ≤ l0 % 256 ∧ l0 % 256 ≤ 255 := by omega
  obtain ⟨L, hL⟩ : ∃ L, L = l0 % 256 := ⟨_, rfl⟩
  rw [← hL] at hand1 hL1
  obtain ⟨L1, L2⟩ := hL1
  clear hL hr
  by_cases hs1 : n ≤ 20
  · go_enter Try.func5, Try.ntmps5
    go_wp2_with fail
    refine hal.out.mono ?_
    rintro e w1 ⟨rfl, k1⟩
    have K1 := hid k1
    have hnew := hid (cw_new 1000 2 5 L w1 (by decide) (by decide) (by decide) (by decide) (by decide) (by decide) (by omega) (by omega))
    clear hal k1
    go_wp2_with fail
    refine hnew.out.mono ?_
    rintro e w2 ⟨p, rfl, c2⟩
    have hI0 := hid (show YI w1 w2 p L 0 0 0 from ⟨[], [], [p], 0, c2, rfl, by omega, by simp, by simp [sizeE], by omega, by omega, by simp⟩)
    clear hnew c2
    go_wp2_with fail
    go_loopw [9, 10, 30] (fun s9 s10 s30 wr => ∃ (i lf : Nat) (want : Int), i ≤ n ∧ s30 = .int .i64 i ∧ s10 = .int .i64 lf ∧ s9 = .int .i64 want ∧ Hid (YI w1 wr p L i lf want)) (fun _ _ s30 _ => n - (intOf s30).toNat)
    case atStart => exact ⟨0, 0, 0, Nat.zero_le _, rfl, rfl, rfl, hI0⟩
    case round =>
      clear hI0
      obtain ⟨i, lf, want, hi, rfl, rfl, rfl, hst⟩ := hrel
      obtain ⟨es, ss, Z, k, cw, hlf, hk, hel, hsz, hw0, hw1, hnm⟩ := hst.out
      by_cases hlt : i < n
      · obtain ⟨x, z, rfl, hc⟩ := HR.out i hlt
        have hi20 : i < 20 := by omega
        have hand2 := i64_and255 z
        have hA1 : 0 ≤ z % 256 ∧ z % 256 ≤ 255 := by omega
        obtain ⟨A, hA⟩ : ∃ A, A = z % 256 := ⟨_, rfl⟩
        rw [← hA] at hand2 hA1
        obtain ⟨A1, A2⟩ := hA1
        have hcell : wr.cell? (x.add i) = some (.int .i64 z) := ((K1.out.trans cw.kept).cell (World.block_lt_of_cell? w _ hc) (by simp)).trans hc
        have hrune := conv_rune i hi20
        have hnone : findE (nmY i) es = none := find_none.2 (fun e he hen => by
          obtain ⟨j, hj, hjn⟩ := hnm e he
          have := nmY_inj hi20 (by omega) (hen.symm.trans hjn)
          omega)
        have hsnone : findE (nmY i) ss = none := by
          have := names_find cw.small.2.1 (nmY i)
          rw [hnone] at this
          simpa using this
        have HN := hid hnone; have HSN := hid hsnone; have HNM := hid hnm; have HLF := hid hlf
        have hl0 : leftT ss (nmY i) (300 - A) L = 0 := by unfold leftT; rw [hsnone]
        have ka := hid (show Kept [] wr (wr.alloc (.cells #[.int .u8 1] 5)) from (Kept.refl [] wr).alloc _)
        have hput := hid (cw_put (cw.keep ka.out (by simp)) (by omega) (nmY i) (by show (2:Nat) ≤ _; decide) (some ⟨wr.heap.size, 0, none⟩) 1 1 [1] rfl (fun W hk => Or.inr ⟨_, _, rfl, fun j u hj => by
            have hrow := hk.at (show (wr.alloc (.cells #[.int .u8 1] 5)).heap[wr.heap.size]? = some (.cells #[.int .u8 1] 5 (0, 0)) from heap_alloc_at rfl) (by simp; have := (cw.low p cw.mem).2; omega)
            have e : (⟨wr.heap.size, 0, none⟩ : Addr).add j = ⟨wr.heap.size, j, none⟩ := by unfold Addr.add; split <;> simp_all
            rw [e]
            unfold World.cell?
            rw [hrow]
            simpa [B] using hj⟩) (by simp; omega) (300 - A) (by omega) (by omega) 0
          (putErr_ok_c rfl (nmY_ok i hi20) (by decide) (by simp [lookB, hnone]; omega) (Or.inr (by omega))))
        have e1 : IntKind.i64.wrap (300 - A) = 300 - A := by rw [IntKind.wrap_i64]; omega
        have e2 : IntKind.i64.wrap (300 - A + L) = 300 - A + L := by rw [IntKind.wrap_i64]; omega
        have e3 : IntKind.i64.wrap (300 - A + L - 300) = 300 - A + L - 300 := by rw [IntKind.wrap_i64]; omega
        have HW := hid hw1
        obtain ⟨nm, hnmv⟩ : ∃ nm, nm = nmY i := ⟨_, rfl⟩
        obtain ⟨ch, hch⟩ : ∃ ch, ch = UInt8.ofNat (97 + i) := ⟨_, rfl⟩
        have happ : (⟨#[120]⟩ : ByteArray) ++ S [ch] = S nm := by rw [hnmv, hch]; rfl
        have NMV := hid hnmv
        rw [← hch] at hrune
        rw [← hnmv] at hput hl0
        clear cw hst hnone hsnone hnm hlf hc hA hnmv hch
        go_wp2_with fail
        refine hput.out.mono ?_
        rintro e w3 ⟨v1, Z3, rfl, -, -, c3⟩
        have hn1 : findE nm es = none := by rw [NMV.out]; exact HN.out
        have hn2 : findE nm ss = none := by rw [NMV.out]; exact HSN.out
        have hwz : ifOK (0 : Int) (addT want (leftT ss nm (300 - A) L)) want = want := by
          show addT want (leftT ss nm (300 - A) L) = want
          rw [hl0]
          unfold addT
          omega
        rw [hwz] at c3
        have hmA : momT (300 - A) = 300 - A := mom_id (by omega) (by omega)
        rw [hmA] at c3
        have C3 := hid (show Cw w1 w3 Z3 p 1000 (putE ⟨nm, v1, [1]⟩ es) (putE (stE nm ⟨300 - A, false, 0⟩) ss) [] (k + 1) 2 5 L want from c3)
        clear c3 hput hwz hmA
        have hlv := hid (show leftT (putE (stE nm ⟨300 - A, false, 0⟩) ss) nm 300 L = max (300 - A + L - 300) 0 from by
          unfold leftT
          rw [show findE nm (putE (stE nm ⟨300 - A, false, 0⟩) ss) = some (stE nm ⟨300 - A, false, 0⟩) from find_put_same (stE nm ⟨300 - A, false, 0⟩) ss]
          show max (latT (300 - A) L - momT 300) 0 = _
          rw [lat_add (by omega) (by omega) (by omega) (by omega), mom_id (by decide) (by decide)])
        have hl1 := hid (cw_left C3.out nm (by rw [NMV.out]; show (2:Nat) ≤ _; decide) 300 (by decide) (by decide))
        rw [hlv.out] at hl1
        obtain ⟨Y, hY⟩ : ∃ Y, Y = max (300 - A + L - 300) 0 := ⟨_, rfl⟩
        have hY1 : 0 ≤ Y ∧ Y ≤ 255 := by omega
        rw [← hY] at hl1 hlv
        have hYr : max (300 - A + L - 300) 0 = Y := hY.symm
        obtain ⟨Y1, Y2⟩ := hY1
        clear hY hl0
        go_wp2_with fail
        refine hl1.out.mono ?_
        rintro e w4 ⟨rfl, k4⟩
        have C4 := hid (C3.out.keep k4 (by simp))
        clear hl1 k4 C3 happ
        cases force
        · by_cases hy0 : 0 < Y
          · have hd := hid (cw_drop C4.out (by omega) nm (by rw [NMV.out]; show (2:Nat) ≤ _; decide) 300 (by decide) (by decide) false 40 (by
              unfold dropC
              rw [if_pos ⟨rfl, by rw [hlv.out]; exact hy0⟩, if_pos (gotE_put ⟨nm, v1, [1]⟩ es)]))
            go_wp2_with fail
            refine hd.out.mono ?_
            rintro e w5 ⟨rfl, -, c5⟩
            have C5 : Cw w1 w5 Z3 p 1000 (putE ⟨nm, v1, [1]⟩ es) (putE (stE nm ⟨300 - A, false, 0⟩) ss) [] (k + 1 + 1) 2 5 L want := c5
            have hpl := put_len_new ⟨nm, v1, [1]⟩ hn1
            have hps := put_size_new ⟨nm, v1, [1]⟩ hn1
            have hI := hid (show YI w1 w5 p L (i + 1) (lf + 1) want from ⟨_, _, Z3, k + 1 + 1, C5, by rw [hpl, HLF.out], by omega, by rw [hpl]; omega, by rw [hps]; simp; omega, by omega, by omega, fun e he => by
              rcases mem_put.1 he with rfl | ⟨he, _⟩
              · exact ⟨i, by omega, NMV.out⟩
              · obtain ⟨j, hj, hjn⟩ := HNM.out e he
                exact ⟨j, by omega, hjn⟩⟩)
            have hlf3 : lf ≤ 20 := by rw [HLF.out]; omega
            clear hd c5 C5 hpl hps C4 hlv hn1 hn2
            go_wp2
            go_roundw
            case rel => exact ⟨i + 1, lf + 1, want, by omega, by go_num, by go_num, rfl, hI⟩
            case measure => simp [intOf]; omega
          · have hd := hid (cw_drop C4.out (by omega) nm (by rw [NMV.out]; show (2:Nat) ≤ _; decide) 300 (by decide) (by decide) false 0 (by
              unfold dropC
              rw [if_neg (by rintro ⟨_, h⟩; rw [hlv.out] at h; exact hy0 h)]
              exact gotE_put ⟨nm, v1, [1]⟩ es))
            go_wp2_with fail
            refine hd.out.mono ?_
            rintro e w5 ⟨rfl, -, c5⟩
            have he5 : ifOK (0 : Int) (delE nm (putE ⟨nm, v1, [1]⟩ es)) (putE ⟨nm, v1, [1]⟩ es) = es := del_put_same ⟨nm, v1, [1]⟩ hn1
            have hs5 : ifOK (0 : Int) (delE nm (putE (stE nm ⟨300 - A, false, 0⟩) ss)) (putE (stE nm ⟨300 - A, false, 0⟩) ss) = ss := del_put_same (stE nm ⟨300 - A, false, 0⟩) hn2
            have hw5 : ifOK (0 : Int) (addT want (leftT (putE (stE nm ⟨300 - A, false, 0⟩) ss) nm 300 L)) want = want + Y := by
              show addT want (leftT (putE (stE nm ⟨300 - A, false, 0⟩) ss) nm 300 L) = _
              rw [hlv.out]
              unfold addT
              omega
            rw [he5, hs5, hw5] at c5
            have hI := hid (show YI w1 w5 p L (i + 1) lf (want + Y) from ⟨es, ss, Z3, k + 1 + 1, c5, HLF.out, by omega, by omega, by omega, by omega, by omega, fun e he => by
              obtain ⟨j, hj, hjn⟩ := HNM.out e he
              exact ⟨j, by omega, hjn⟩⟩)
            have hwy : IntKind.i64.wrap (want + Y) = want + Y := by rw [IntKind.wrap_i64]; omega
            clear hd c5 he5 hs5 hw5 C4 hlv hn1 hn2
            go_wp2
            go_roundw
            case rel => exact ⟨i + 1, lf, want + Y, by omega, by go_num, rfl, rfl, hI⟩
            case measure => simp [intOf]; omega
        · by_cases hy0 : 0 < Y
          · have hd := hid (cw_drop C4.out (by omega) nm (by rw [NMV.out]; show (2:Nat) ≤ _; decide) 300 (by decide) (by decide) true 0 (by
              unfold dropC
              rw [if_neg (by rintro ⟨h, _⟩; cases h)]
              exact gotE_put ⟨nm, v1, [1]⟩ es))
            go_wp2_with fail
            refine hd.out.mono ?_
            rintro e w5 ⟨rfl, -, c5⟩
            have he5 : ifOK (0 : Int) (delE nm (putE ⟨nm, v1, [1]⟩ es)) (putE ⟨nm, v1, [1]⟩ es) = es := del_put_same ⟨nm, v1, [1]⟩ hn1
            have hs5 : ifOK (0 : Int) (delE nm (putE (stE nm ⟨300 - A, false, 0⟩) ss)) (putE (stE nm ⟨300 - A, false, 0⟩) ss) = ss := del_put_same (stE nm ⟨300 - A, false, 0⟩) hn2
            have hw5 : ifOK (0 : Int) (addT want (leftT (putE (stE nm ⟨300 - A, false, 0⟩) ss) nm 300 L)) want = want + Y := by
              show addT want (leftT (putE (stE nm ⟨300 - A, false, 0⟩) ss) nm 300 L) = _
              rw [hlv.out]
              unfold addT
              omega
            rw [he5, hs5, hw5] at c5
            have hI := hid (show YI w1 w5 p L (i + 1) lf (want + Y) from ⟨es, ss, Z3, k + 1 + 1, c5, HLF.out, by omega, by omega, by omega, by omega, by omega, fun e he => by
              obtain ⟨j, hj, hjn⟩ := HNM.out e he
              exact ⟨j, by omega, hjn⟩⟩)
            have hwy : IntKind.i64.wrap (want + Y) = want + Y := by rw [IntKind.wrap_i64]; omega
            clear hd c5 he5 hs5 hw5 C4 hlv hn1 hn2
            go_wp2
            go_roundw
            case rel => exact ⟨i + 1, lf, want + Y, by omega, by go_num, rfl, rfl, hI⟩
            case measure => simp [intOf]; omega
          · have hd := hid (cw_drop C4.out (by omega) nm (by rw [NMV.out]; show (2:Nat) ≤ _; decide) 300 (by decide) (by decide) true 0 (by
              unfold dropC
              rw [if_neg (by rintro ⟨h, _⟩; cases h)]
              exact gotE_put ⟨nm, v1, [1]⟩ es))
            go_wp2_with fail
            refine hd.out.mono ?_
            rintro e w5 ⟨rfl, -, c5⟩
            have he5 : ifOK (0 : Int) (delE nm (putE ⟨nm, v1, [1]⟩ es)) (putE ⟨nm, v1, [1]⟩ es) = es := del_put_same ⟨nm, v1, [1]⟩ hn1
            have hs5 : ifOK (0 : Int) (delE nm (putE (stE nm ⟨300 - A, false, 0⟩) ss)) (putE (stE nm ⟨300 - A, false, 0⟩) ss) = ss := del_put_same (stE nm ⟨300 - A, false, 0⟩) hn2
            have hw5 : ifOK (0 : Int) (addT want (leftT (putE (stE nm ⟨300 - A, false, 0⟩) ss) nm 300 L)) want = want + Y := by
              show addT want (leftT (putE (stE nm ⟨300 - A, false, 0⟩) ss) nm 300 L) = _
              rw [hlv.out]
              unfold addT
              omega
            rw [he5, hs5, hw5] at c5
            have hI := hid (show YI w1 w5 p L (i + 1) lf (want + Y) from ⟨es, ss, Z3, k + 1 + 1, c5, HLF.out, by omega, by omega, by omega, by omega, by omega, fun e he => by
              obtain ⟨j, hj, hjn⟩ := HNM.out e he
              exact ⟨j, by omega, hjn⟩⟩)
            have hwy : IntKind.i64.wrap (want + Y) = want + Y := by rw [IntKind.wrap_i64]; omega
            clear hd c5 he5 hs5 hw5 C4 hlv hn1 hn2
            go_wp2
            go_roundw
            case rel => exact ⟨i + 1, lf, want + Y, by omega, by go_num, rfl, rfl, hI⟩
            case measure => simp [intOf]; omega
      · obtain rfl : i = n := by omega
        have C1 := hid cw
        have hlo := hid (cw_lost cw)
        have hle := hid (cw_len cw)
        rw [← hlf] at hle
        clear cw hst hlt HR
        go_wp2_with fail
        refine hlo.out.mono ?_
        rintro e w9 ⟨rfl, rfl⟩
        go_wp2_with fail
        refine hle.out.mono ?_
        rintro e w9 ⟨rfl, rfl⟩
        go_wp2
        go_ret
        exact ⟨rfl, K1.out.trans C1.out.kept⟩
  · clear HR
    go_enter Try.func5, Try.ntmps5
    go_wp2_with fail
    refine hal.out.mono ?_
    rintro e w1 ⟨rfl, k1⟩
    have K1 := hid k1
    clear k1 hal
    go_wp2
    go_ret
    exact ⟨rfl, K1.out⟩
end Go.Proofs.Ytnkolgamnakegaa
