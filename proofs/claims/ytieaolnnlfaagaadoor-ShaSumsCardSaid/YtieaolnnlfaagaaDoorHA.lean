/- sha.Parse. -/
import Derived.Test.YtieaolnnlfaagaaDoorH9
namespace Go.Proofs.YtieaolnnlfaagaaDoor
open Go.RowKit

def okHex (bs : List UInt8) : Bool := bs.length == 64 && bs.all fun c => decide (0 ≤ dig c)
/-- The first i bytes that digits tell. -/
def unhex (bs : List UInt8) (i : Nat) : List UInt8 := (List.range i).map fun j => UInt8.ofNat (dig (bs.getD (2 * j) 0) * 16 + dig (bs.getD (2 * j + 1) 0)).toNat
def parsedL (bs : List UInt8) : List UInt8 := if okHex bs = true then unhex bs 32 else List.replicate 32 0
def parsedE (bs : List UInt8) : Int := if okHex bs = true then 0 else 21
theorem unhex_len (bs : List UInt8) (i : Nat) : (unhex bs i).length = i := by simp [unhex]
theorem unhex_succ (bs : List UInt8) (i : Nat) : unhex bs (i + 1) = unhex bs i ++ [UInt8.ofNat (dig (bs.getD (2 * i) 0) * 16 + dig (bs.getD (2 * i + 1) 0)).toNat] := by simp [unhex, List.range_succ]
/-- The first i bytes, and noughts. -/
def uL (bs : List UInt8) (i : Nat) : List UInt8 := unhex bs i ++ List.replicate (32 - i) 0
theorem uL_len (bs : List UInt8) (i : Nat) (h : i ≤ 32) : (uL bs i).length = 32 := by simp [uL, unhex_len]; omega
theorem uL_set (bs : List UInt8) (i : Nat) (h : i < 32) : (uL bs i).set i (UInt8.ofNat (dig (bs.getD (2 * i) 0) * 16 + dig (bs.getD (2 * i + 1) 0)).toNat) = uL bs (i + 1) := by
  unfold uL
  obtain ⟨m, hm⟩ : ∃ m, 32 - i = m + 1 := ⟨32 - i - 1, by omega⟩
  rw [hm, show 32 - (i + 1) = m by omega, List.set_append_right _ _ (by simp [unhex_len]), unhex_succ, List.replicate_succ, unhex_len, Nat.sub_self, List.set_cons_zero, List.append_assoc]
  rfl

theorem str_index (bs : List UInt8) (i : Nat) (hi : i < bs.length) (W : World) : (Instr.index 9 (.string ⟨bs.toArray⟩) (.int .i64 (i : Int))).run Tryd.prog W = .ok (.int .u8 ((bs.getD i 0).toNat : Int)) W := by
  have h : (⟨bs.toArray⟩ : ByteArray)[i]? = some (bs.getD i 0) := by
    rw [getElem?_pos (⟨bs.toArray⟩ : ByteArray) i (by show i < bs.toArray.size; simpa using hi)]
    simp [hi]
    rfl
  simp [Instr.index, asIntOf, run_underlying Tryd.underlying9, Sem.run_bind, h]

theorem or4_i64 (h l : Int) (h0 : 0 ≤ h) (h1 : h < 16) (l0 : 0 ≤ l) (l1 : l < 16) : bits .or .i64 (h * 16) l = h * 16 + l := by
  refine bits_join .i64 63 (by decide) (fun n h0 h1 => ?_) 4 (h * 16) l (by omega) (by omega) (by omega) l0 (by omega) (by omega)
  rw [IntKind.wrap_i64]
  omega

def PaRel (w : World) (bs : List UInt8) (i : Nat) (wr : World) : Prop :=
  Kept [] w wr ∧ wr.heap[w.heap.size]? = some (.cells ((List.replicate 32 (0 : UInt8)).map B).toArray 24 (0, 0)) ∧ wr.heap[w.heap.size + 1]? = some (.cells ((uL bs i).map B).toArray 24 (0, 0))
theorem PaRel.drew {w wr : World} {bs : List UInt8} {i : Nat} (h : PaRel w bs i wr) : PaRel w bs i wr.drew := ⟨h.1.drew, h.2⟩
theorem PaRel.step {w wr : World} {bs : List UInt8} {i : Nat} (h : PaRel w bs i wr) (hi : i < 32) : PaRel w bs (i + 1) (wr.setCell ⟨w.heap.size + 1, i, none⟩ (B (UInt8.ofNat (dig (bs.getD (2 * i) 0) * 16 + dig (bs.getD (2 * i + 1) 0)).toNat))) := by
  obtain ⟨h1, h2, h3⟩ := h
  refine ⟨h1.setCell (fun e => absurd e (by simp)) _, heap_setCell_other h2 (by simp), ?_⟩
  rw [Go.heap_setCell_same wr _ _ _ _ _ h3, ← uL_set bs i hi]
  simp

theorem digit_still (c : UInt8) (w : World) : Calls Tryd.prog 16 #[.int .u8 (c.toNat : Int)] w fun e w' => e = .returned (.int .i64 (dig c)) ∧ w' = w := (digit_any c w).mono fun _ _ h => ⟨h.1, h.2.symm⟩

theorem okHex_no (bs : List UInt8) (i : Nat) (hi : i < bs.length) (h : dig (bs.getD i 0) < 0) : okHex bs = false := by
  unfold okHex
  rw [Bool.and_eq_false_iff]
  right
  rw [List.all_eq_false]
  exact ⟨bs.getD i 0, by simp [hi], by simp; simpa [hi] using h⟩

theorem info_id : (Tryd.prog.info? 24).map (·.size) = some 32 := by kernel_rfl
theorem results_id_slot {fn : Func} {p q : Tmp} (h : fn.results = #[.cell p 24, .tmp q]) (tmps : Array Value) (w : World) (g : Nat) (t : TypeId) (cs : Array Value) (fr : Nat × Nat)
    (hp : tmps.getD p undef = .pointer (some ⟨g, 0, none⟩)) (hg : w.heap[g]? = some (.cells cs t fr)) (hi : cs.size = 32) :
    (results fn tmps).run Tryd.prog w = .ok (.tuple #[.agg cs, tmps.getD q undef]) w := by
  have hp' : tmps[p]?.getD undef = .pointer (some ⟨g, 0, none⟩) := by simpa using hp
  have hl := run_loadVar_row (P := Tryd.prog) w g t 24 cs fr _ hg Tryd.underlying24 rfl (by rw [hi]; exact info_id)
  simp [results, h, hp', asAddr, hl]

set_option maxRecDepth 100000 in
set_option maxHeartbeats 1000000 in
theorem parse_any (bs : List UInt8) (_ : bs.length ≤ 1000000000) (w : World) :
    Calls Tryd.prog 5 #[.string ⟨bs.toArray⟩] w fun e w' => e = .returned (.tuple #[.agg ((parsedL bs).map B).toArray, .int .i64 (parsedE bs)]) ∧ Kept [] w w' := by
  by_cases h64 : bs.length = 64
  · have h64i : (bs.length : Int) = 64 := by omega
    obtain ⟨Z, hZ⟩ : ∃ Z, Z = ((List.replicate 32 (0 : UInt8)).map B).toArray := ⟨_, rfl⟩
    have hzs : Z.size = 32 := by rw [hZ]; simp
    have hsz := hid (show (Tryd.prog.info? 24).map (·.size) = some Z.size by rw [hzs]; kernel_rfl)
    have hold := hid (show ((List.replicate 32 (0 : UInt8)).map B).toArray.size = Z.size by rw [hzs]; simp)
    have hone := hid (show Z.all (·.oneCell') = true by
      rw [hZ, Array.all_eq_true_iff_forall_mem]
      intro u hu
      exact B_one (List.replicate 32 0) u (by simpa using hu))
    have HZ := hid hZ
    have H64 := hid h64
    clear hZ hzs h64
    go_enter Tryd.func5, Tryd.ntmps5
    go_wp2_with fail
    have h0 : Hid (PaRel w bs 0 ((w.alloc (.cells ((List.replicate 32 (0 : UInt8)).map B).toArray 24)).alloc (.cells ((List.replicate 32 (0 : UInt8)).map B).toArray 24))) := hid
      ⟨((Kept.refl _ _).alloc _).alloc _, heap_alloc_old (heap_alloc_at rfl), by rw [show uL bs 0 = List.replicate 32 0 from rfl]; exact heap_alloc_at (show w.heap.size + 1 = (w.alloc _).heap.size by simp)⟩
    go_loopw [12] (fun j wr => ∃ i : Nat, i ≤ 32 ∧ j = .int .i64 i ∧ (∀ k, k < 2 * i → 0 ≤ dig (bs.getD k 0)) ∧ Hid (PaRel w bs i wr)) (fun j _ => 32 - (intOf j).toNat)
    case atStart => exact ⟨0, by omega, rfl, fun k hk => absurd hk (by omega), h0⟩
    case round =>
      clear h0 h64i
      obtain ⟨i, hi, rfl, hpos, hr⟩ := hrel
      have Hpos := hid hpos
      clear hpos
      by_cases hlt : i < 32
      · have hx1 := fun W => str_index bs (2 * i) (by rw [H64.out]; omega) W
        have hx2 := fun W => str_index bs (2 * i + 1) (by rw [H64.out]; omega) W
        have c1 : ((2 * i : Nat) : Int) = 2 * (i : Int) := by omega
        have c2 : ((2 * i + 1 : Nat) : Int) = 2 * (i : Int) + 1 := by omega
        rw [c1] at hx1; rw [c2] at hx2
        clear c1 c2
        have e1 : IntKind.i64.wrap (2 * (i : Int)) = 2 * (i : Int) := IntWalk.i64_in _ (by omega)
        have e2 : IntKind.i64.wrap (2 * (i : Int) + 1) = 2 * (i : Int) + 1 := IntWalk.i64_in _ (by omega)
        have hr1 := hid hr.out.drew
        have hstep := hid (hr.out.drew.step hlt)
        have hno1 := hid (okHex_no bs (2 * i) (by rw [H64.out]; omega))
        have hno2 := hid (okHex_no bs (2 * i + 1) (by rw [H64.out]; omega))
        have hl1 := dig_lt (bs.getD (2 * i) 0)
        have hl2 := dig_lt (bs.getD (2 * i + 1) 0)
        obtain ⟨c1, hc1⟩ : ∃ c, c = bs.getD (2 * i) 0 := ⟨_, rfl⟩
        obtain ⟨c2, hc2⟩ : ∃ c, c = bs.getD (2 * i + 1) 0 := ⟨_, rfl⟩
        rw [← hc1] at hx1 hstep hno1 hl1
        rw [← hc2] at hx2 hstep hno2 hl2
        have HC1 := hid hc1; have HC2 := hid hc2
        have hd1 := fun W => digit_still c1 W
        have hd2 := fun W => digit_still c2 W
        obtain ⟨H, hH⟩ : ∃ H, H = dig c1 := ⟨_, rfl⟩
        obtain ⟨L, hL⟩ : ∃ L, L = dig c2 := ⟨_, rfl⟩
        rw [← hH] at hd1 hstep hno1 hl1
        rw [← hL] at hd2 hstep hno2 hl2
        have HH := hid hH; have HL := hid hL
        have D1 := hid hd1; have D2 := hid hd2
        clear hc1 hc2 hH hL hd1 hd2 hr
        go_wp2_with fail
        refine wp_region_still_lit (by kernel_rfl) (by kernel_rfl) ?_
        change wpStill _ _ wr.drew _ _ _
        repeat still_step
        still_call (D1.out _)
        repeat still_step
        still_call (D2.out _)
        repeat still_step
        refine wpStill_nil ?_
        change Exit.then _ _ _ _ wr.drew
        clear hx1 hx2 e1 e2 D1 D2
        by_cases hneg : 0 ≤ H ∧ 0 ≤ L
        · obtain ⟨p1, p2⟩ := hneg
          have hor := or4_i64 H L p1 hl1 p2 hl2
          obtain ⟨hk1, hb1, hb2⟩ := hr1.out
          obtain ⟨v, gx⟩ : ∃ v, wr.drew.cell? ⟨w.heap.size + 1, i, none⟩ = some v := ⟨((uL bs i).map B).toArray[i]'(by simp [uL_len bs i hi]; omega), (cell_of_row _ _ _ _ _ _ hb2).trans (Array.getElem?_eq_getElem _)⟩
          have gf := frozen_of_row wr.drew _ i _ _ hb2
          rw [B_ofNat, show (((H * 16 + L).toNat : Nat) : Int) % 256 = H * 16 + L by omega] at hstep
          clear hk1 hb1 hb2
          go_wp2_with fail
          go_roundw
          case rel => exact ⟨i + 1, by omega, by go_num, fun k hk => by
            by_cases h1 : k < 2 * i
            · exact Hpos.out k h1
            · by_cases h2 : k = 2 * i
              · rw [h2, ← HC1.out, ← HH.out]; exact p1
              · rw [show k = 2 * i + 1 by omega, ← HC2.out, ← HL.out]; exact p2, hstep⟩
          case measure => simp [intOf]; omega
        · obtain ⟨hk1, hb1, -⟩ := hr1.out
          have hno : okHex bs = false := by
            by_cases h1 : H < 0
            · exact hno1.out h1
            · exact hno2.out (by omega)
          have he := hid (show parsedL bs = List.replicate 32 0 ∧ parsedE bs = 21 by unfold parsedL parsedE; rw [hno]; simp)
          have Hk1 := hid hk1; have Hb1 := hid hb1
          clear hno hk1 hb1 hstep hr1
          by_cases h1 : H < 0
          · clear hneg
            go_wp2_with (refine wpList_store_row rfl 24 (.tmp 2) (.tmp 32) rfl w.heap.size Z rfl ?cy _ _ Hb1.out hsz.out hold.out hone.out ?_)
            case cy => rw [HZ.out]; rfl
            refine bodyPost_ret (v := .tuple #[.agg Z, .int .i64 21]) (results_id_slot Tryd.results5 _ _ w.heap.size _ Z _ rfl (setRow_heap _ _ _ _ _ _ Hb1.out) (by rw [HZ.out]; simp)) rfl ⟨by rw [he.out.1, he.out.2, HZ.out], Hk1.out.setRow (fun h => absurd h (by omega)) _⟩
          · have h2 : 0 ≤ H := by omega
            have h3 : L < 0 := by omega
            clear hneg h1
            go_wp2_with (refine wpList_store_row rfl 24 (.tmp 2) (.tmp 32) rfl w.heap.size Z rfl ?cy _ _ Hb1.out hsz.out hold.out hone.out ?_)
            case cy => rw [HZ.out]; rfl
            refine bodyPost_ret (v := .tuple #[.agg Z, .int .i64 21]) (results_id_slot Tryd.results5 _ _ w.heap.size _ Z _ rfl (setRow_heap _ _ _ _ _ _ Hb1.out) (by rw [HZ.out]; simp)) rfl ⟨by rw [he.out.1, he.out.2, HZ.out], Hk1.out.setRow (fun h => absurd h (by omega)) _⟩
      · obtain rfl : i = 32 := by omega
        obtain ⟨hk1, hb1, hb2⟩ := hr.out
        have hyes : okHex bs = true := by
          unfold okHex
          rw [Bool.and_eq_true]
          refine ⟨by simp [H64.out], List.all_eq_true.2 fun c hc => ?_⟩
          obtain ⟨k, hk, rfl⟩ := List.getElem_of_mem hc
          have := Hpos.out k (by have := H64.out; omega)
          simpa [hk] using this
        have he := hid (show parsedL bs = uL bs 32 ∧ parsedE bs = 0 by unfold parsedL parsedE; rw [hyes]; simp [uL])
        obtain ⟨cs, hcs⟩ : ∃ cs, cs = ((uL bs 32).map B).toArray := ⟨_, rfl⟩
        rw [← hcs] at hb2
        have hcz : cs.size = 32 := by rw [hcs]; simp [uL_len]
        have hsz2 := hid (show (Tryd.prog.info? 24).map (·.size) = some cs.size by rw [hcz]; exact info_id)
        have hold2 := hid (show ((List.replicate 32 (0 : UInt8)).map B).toArray.size = cs.size by rw [hcz]; simp)
        have hone2 := hid (show cs.all (·.oneCell') = true by
          rw [hcs, Array.all_eq_true_iff_forall_mem]
          intro u hu
          exact B_one (uL bs 32) u (by simpa using hu))
        have Hcs := hid hcs; have Hcz := hid hcz
        have Hk1 := hid hk1; have Hb1 := hid hb1; have Hb2 := hid hb2
        clear hk1 hb1 hb2 hcs hcz hyes hr
        go_wp2_with (first
          | (refine wpList_load_row rfl 24 (.tmp 4) rfl (w.heap.size + 1) rfl _ _ _ _ Hb2.out Tryd.underlying24 rfl hsz2.out ?_)
          | (refine wpList_store_row rfl 24 (.tmp 2) (.tmp 41) rfl w.heap.size cs rfl rfl _ _ Hb1.out hsz2.out hold2.out hone2.out ?_))
        refine bodyPost_ret (v := .tuple #[.agg cs, .int .i64 0]) (results_id_slot Tryd.results5 _ _ w.heap.size _ cs _ rfl (setRow_heap _ _ _ _ _ _ Hb1.out) Hcz.out) rfl ⟨by rw [he.out.1, he.out.2, Hcs.out], Hk1.out.setRow (fun h => absurd h (by omega)) _⟩
  · have hno : okHex bs = false := by unfold okHex; simp [h64]
    have he := hid (show parsedL bs = List.replicate 32 0 ∧ parsedE bs = 21 by unfold parsedL parsedE; rw [hno]; simp)
    have hn : ((bs.length : Int) == 64) = false := by simp; omega
    have hs : (⟨bs.toArray⟩ : ByteArray).size = bs.length := by simp [ByteArray.size]
    clear hno
    go_enter Tryd.func5, Tryd.ntmps5
    obtain ⟨Z, hZ⟩ : ∃ Z, Z = ((List.replicate 32 (0 : UInt8)).map B).toArray := ⟨_, rfl⟩
    have hzs : Z.size = 32 := by rw [hZ]; simp
    have hb0 := hid (show ((w.alloc (.cells ((List.replicate 32 (0 : UInt8)).map B).toArray 24)).alloc (.cells ((List.replicate 32 (0 : UInt8)).map B).toArray 24)).heap[w.heap.size]? = some (.cells ((List.replicate 32 (0 : UInt8)).map B).toArray 24 (0, 0)) from heap_alloc_old (heap_alloc_at rfl))
    have hsz := hid (show (Tryd.prog.info? 24).map (·.size) = some Z.size by rw [hzs]; kernel_rfl)
    have hold := hid (show ((List.replicate 32 (0 : UInt8)).map B).toArray.size = Z.size by rw [hzs]; simp)
    have hone := hid (show Z.all (·.oneCell') = true by
      rw [hZ, Array.all_eq_true_iff_forall_mem]
      intro u hu
      exact B_one (List.replicate 32 0) u (by simpa using hu))
    have HZ := hid hZ
    clear hZ hzs
    go_wp2_with (refine wpList_store_row rfl 24 (.tmp 2) (.tmp 11) rfl w.heap.size Z rfl ?cy _ _ hb0.out hsz.out hold.out hone.out ?_)
    case cy => rw [HZ.out]; rfl
    refine bodyPost_ret (v := .tuple #[.agg Z, .int .i64 21]) (results_id_slot Tryd.results5 _ _ w.heap.size _ Z _ rfl (setRow_heap _ _ _ _ _ _ hb0.out) (by rw [HZ.out]; simp)) rfl ⟨by rw [he.out.1, he.out.2, HZ.out], ?_⟩
    exact (((Kept.refl [] w).alloc _).alloc _).setRow (fun h => absurd h (by omega)) _
end Go.Proofs.YtieaolnnlfaagaaDoor
