/- coldstorelaw04.SealSums: the walk. -/
import Derived.Test.YtijkpnggehnmcabDoorSN
import Derived.Deep.QuietTactic
import Derived.BigQuiet
import Derived.Deep.DeepCutAuto
import Derived.Deep.RegionHeld3
namespace Go.Proofs.YtijkpnggehnmcabDoor
open Go.RowKit Go.Lib

/-- An append of whatever slice, as one step of a region that draws its order. -/
theorem step_append_src {P : Program} {w : World} {ops : Array Oper} {o : Oper} {a : Act} {K : Act → World → Prop} {Q : Exit → Act → World → Prop} {E : Prop} (hgd : o.guard = none) (s x : Operand) (t : TypeId)
    (ho : o.op = .call { callee := .builtin .append, args := #[s, x], argTypes := #[t, t] }) (base : Nat) (e : TypeId) (i : TypeInfo) (z : Value) (bytes : Nat) (ht : P.underlying t = some (.slice e)) (hi : P.info? e = some i) (hz : i.zero = some z)
    (hsize : i.size = 1) (hby : i.bytes = bytes) (hzs : z.cells.size = 1) (v : Value) (n : Nat) (xs : List Value) (hs : a.eval s = v) (hown : w.ownsRow base e 1 v n xs)
    (sv : Value) (m : Nat) (news : List Value) (hx : a.eval x = sv) (hsrc : Src w sv m news) (hl : news.length = m) (h1 : ∀ u ∈ news, u.oneCell' = true)
    (h63 : n + m ≤ maxLen) (hbytes : (n + m) * bytes ≤ 140737488355328) (hbase : base ≤ w.heap.size)
    (h : ∀ b c w', w'.ownsRow base e 1 (.slice b (n + m) c) (n + m) (xs ++ news) → w.grownBy w' v.ownBlock → (∀ g, (Value.slice b (n + m) c).ownBlock = some g → v.ownBlock = some g ∨ w.heap.size ≤ g) → K (a.put o.dst (.slice b (n + m) c)) w') :
    if Region.wanted o (yielded ops a.tmps) = true then Oper.wp P o a w K Q else E := by
  have hw : Region.wanted o (yielded ops a.tmps) = true := by simp [Region.wanted, hgd]
  rw [if_pos hw]
  obtain ⟨v', w', hr, h2, h3, h4, h5⟩ := run_append_src (P := P) w t o.type base e i z bytes ht hi hz hsize hby hzs v n xs hown sv m news hsrc hl h1 h63 hbytes hbase
  obtain ⟨b, c, rfl⟩ : ∃ b c, v' = .slice b (n + m) c := by
    rcases h2.2 with ⟨rfl, h0⟩ | ⟨g, cap, _, rfl, _⟩
    · exact ⟨none, 0, by rw [h0]⟩
    · exact ⟨_, cap, rfl⟩
  unfold Oper.wp execOp
  simp only [ho, resolve, invoke, builtin, Sem.run_bind, Sem.run_pure, Result.andThen_ok, List.map_toArray, List.map_cons, List.map_nil, hs, hx, hr]
  exact h b c w' h2 h3 h5

theorem xors_snoc (xs ys : List UInt8) (i : Nat) (h1 : i < xs.length) (h2 : i < ys.length) : Crc.xors (xs.take (i + 1)) (ys.take (i + 1)) = Crc.xors (xs.take i) (ys.take i) ++ [xs[i] ^^^ ys[i]] := by
  unfold Crc.xors
  rw [List.take_succ_eq_append_getElem h1, List.take_succ_eq_append_getElem h2, List.zipWith_append (by simp; omega)]
  rfl

theorem le_cells (s : Nat) (h : s < 4294967296) : (#[.int .u8 ((s : Int) % 256), .int .u8 ((s : Int) / 256 % 256), .int .u8 ((s : Int) / 65536 % 256), .int .u8 ((s : Int) / 16777216)] : Array Value) = ((Crc.le s).map B).toArray := by
  unfold Crc.le
  simp only [List.map_cons, List.map_nil, B_ofNat]
  have e : ((s / 16777216 : Nat) : Int) % 256 = (s : Int) / 16777216 := by omega
  rw [e]
  rfl
theorem sum_both (xs ys : List UInt8) (h : xs.length = ys.length) : (((Crc.sum (Crc.xors xs ys)).toNat : Nat) : Int) = bits .xor .u32 (bits .xor .u32 (((Crc.sum xs).toNat : Nat) : Int) (((Crc.sum ys).toNat : Nat) : Int)) (((Crc.sum (List.replicate xs.length 0)).toNat : Nat) : Int) := by
  have h1 := (Crc.sum xs).isLt
  have h2 := (Crc.sum ys).isLt
  have h3 := (Crc.sum (List.replicate xs.length 0)).isLt
  have h12 : (Crc.sum xs).toNat ^^^ (Crc.sum ys).toNat < 2 ^ 32 := Nat.xor_lt_two_pow h1 h2
  rw [xor_u32 _ _ (by omega) (by omega), xor_u32 _ _ (by omega) (by omega), Crc.sum_xor xs ys h, BitVec.toNat_xor, BitVec.toNat_xor]

/-- What Sum wants of its argument, to say n. -/
def SumOk (W : World) (v : Value) (n : Int) : Prop := ∃ xs, SrcB W v xs ∧ Tab W ∧ xs.length ≤ 1000000000 ∧ n = (((Crc.sum xs).toNat : Nat) : Int)
theorem sum_ok {W : World} {v : Value} {n : Int} (h : SumOk W v n) : Calls Tryd.prog 13 #[v] W (fun e w' => e = .returned (.int .u32 n) ∧ W = w') := by
  obtain ⟨xs, h1, h2, h3, rfl⟩ := h
  exact sum_any v xs W h1 h2 h3

theorem made_zeros (i : Nat) : madeCells #[.int .u8 0] i = ((List.replicate i (0 : UInt8)).map B).toArray := by
  unfold madeCells
  apply Array.ext
  · simp
  · intro j h1 h2
    simp [B, Nat.mod_one]
theorem make_u8 (n : Nat) (W : World) (hn : n ≤ 1000000) : (Instr.makeSlice 22 (.int .i64 (n : Int)) (.int .i64 (n : Int))).run Tryd.prog W = .ok (.slice (some ⟨W.heap.size, 0, none⟩) n n) (W.alloc (.cells (madeCells #[.int .u8 0] n) 5)) := by
  obtain ⟨i0, hi0, hz0, hz1, hz2⟩ := info_parts info_u8
  have hr := run_make (P := Tryd.prog) W 22 5 i0 (.int .u8 0) Tryd.underlying22 hi0 hz0 .i64 .i64 n n (by omega) (by omega) (by rw [hz2]; omega) (by omega)
  simp only [Int.toNat_natCast, hz1, Nat.mul_one] at hr
  exact hr

set_option maxRecDepth 100000 in
set_option maxHeartbeats 4000000 in
theorem sealsums (a b : Option Addr) (c d : Nat) (us bs : List UInt8) (w : World) (ha : BSl w a c us) (hb : BSl w b d bs) (ht : Tab w) :
    Calls Tryd.prog 8 #[.slice a us.length c, .slice b bs.length d] w fun e w' => e = .returned (.bool true) ∧ Kept [] w w' := by
  have hal := hid (alive04 w ht)
  obtain ⟨i0, hi0, hz0, hz1, hz2⟩ := info_parts info_u8
  have Ht := hid ht
  have HA := hid ha; have HB := hid hb
  have hca := ha.le; have hcb := hb.le; have hma := ha.max; have hmb := hb.max
  unfold maxLen at hma hmb
  clear ht ha hb
  by_cases hl : 300 < us.length ∨ 300 < bs.length
  · have hcase : (300 : Int) < (us.length : Int) ∨ (¬ (300 : Int) < (us.length : Int) ∧ (300 : Int) < (bs.length : Int)) := by omega
    clear hl
    rcases hcase with h1 | ⟨h1, h2⟩
    all_goals
      go_enter Tryd.func8, Tryd.ntmps8
      go_wp2_with fail
      refine hal.out.mono ?_
      rintro e w1 ⟨rfl, hk1⟩
      have Hk1 := hid hk1
      clear hk1
      go_wp2
      go_ret
      exact ⟨rfl, Hk1.out⟩
  · have h1 : ¬ (300 : Int) < (us.length : Int) := by omega
    have h2 : ¬ (300 : Int) < (bs.length : Int) := by omega
    have hl300 : us.length ≤ 300 ∧ bs.length ≤ 300 := by omega
    -- what the two slices are cut to
    have hpre : ∃ n : Nat, n ≤ 300 ∧ n = min us.length bs.length := ⟨_, by omega, rfl⟩
    obtain ⟨n, hn300, hnm⟩ := hpre
    have hsx := hid (show SrcB w (.slice a n c) (us.take n) from HA.out.take (by omega))
    have hsy := hid (show SrcB w (.slice b n d) (bs.take n) from HB.out.take (by omega))
    have hlx : (us.take n).length = n := by simp; omega
    have hly : (bs.take n).length = n := by simp; omega
    obtain ⟨xs, hxs⟩ : ∃ xs, xs = us.take n := ⟨_, rfl⟩
    obtain ⟨ys, hys⟩ : ∃ ys, ys = bs.take n := ⟨_, rfl⟩
    rw [← hxs] at hsx hlx
    rw [← hys] at hsy hly
    have hcases : ((us.length : Int) < (bs.length : Int) ∧ ¬ (bs.length : Int) < (us.length : Int) ∧ n = us.length) ∨ ((bs.length : Int) < (us.length : Int) ∧ ¬ (us.length : Int) < (bs.length : Int) ∧ n = bs.length) ∨ (us.length = n ∧ bs.length = n) := by omega
    have hnil := hid (show (∀ (h : a = none), c = 0) ∧ (∀ (h : b = none), d = 0) from ⟨HA.out.nil, HB.out.nil⟩)
    have hnc : n ≤ c ∧ n ≤ d := by omega
    clear hl hxs hys hnm HA HB
    generalize us.length = la at *
    generalize bs.length = lb at *
    have hlenI : (n : Int) ≤ (c : Int) ∧ (n : Int) ≤ (d : Int) := by omega
    obtain ⟨hnc1, hnd1⟩ := hlenI
    go_enter Tryd.func8, Tryd.ntmps8
    go_wp2_with fail
    refine hal.out.mono ?_
    rintro e w1 ⟨rfl, hk1⟩
    have Hk1 := hid hk1
    clear hk1
    go_upto_region 5 with fail
    go_cut [5] (fun s5 wx => s5 = .int .i64 (n : Int) ∧ Hid (Kept [] w wx))
    case first =>
      rcases hcases with ⟨o1, o2, rfl⟩ | ⟨o1, o2, rfl⟩ | ⟨rfl, rfl⟩
      all_goals
        go_wp2_with fail
        go_meet
        exact ⟨rfl, Hk1⟩
    case rest =>
      obtain ⟨rfl, hk2⟩ := hcut
      clear hcases
      go_upto_region 6 with fail
      go_cut [0, 1] (fun s0 s1 wx => s0 = .slice a n c ∧ s1 = .slice b n d ∧ Hid (Kept [] w wx))
      case first =>
        rcases a with _ | x
        · have h0 := hnil.out.1 rfl
          subst h0
          obtain rfl : n = 0 := by omega
          rcases b with _ | y
          · have h00 := hnil.out.2 rfl
            subst h00
            go_quiet (fail)
            have hk3 := hid (hk2.out.drewN nq)
            go_wp2_with fail
            go_meet
            exact ⟨rfl, rfl, hk3⟩
          · skip
            go_quiet (fail)
            have hk3 := hid (hk2.out.drewN nq)
            go_wp2_with fail
            go_meet
            exact ⟨rfl, rfl, hk3⟩
        · rcases b with _ | y
          · have h00 := hnil.out.2 rfl
            subst h00
            obtain rfl : n = 0 := by omega
            go_quiet (fail)
            have hk3 := hid (hk2.out.drewN nq)
            go_wp2_with fail
            go_meet
            exact ⟨rfl, rfl, hk3⟩
          · skip
            go_quiet (fail)
            have hk3 := hid (hk2.out.drewN nq)
            go_wp2_with fail
            go_meet
            exact ⟨rfl, rfl, hk3⟩
      case rest =>
        obtain ⟨rfl, rfl, hk3⟩ := hcut
        have hsz := hid hk3.out.size
        have hfr := hid (show RowAt wc wc.heap.size (.slice (some ⟨wc.heap.size, 0, none⟩) 0 0) (Crc.xors (xs.take 0) (ys.take 0)) (wc.alloc (.cells #[] 5)) by simpa [Crc.xors] using RowAt.fresh wc)
        go_wp2_with fail
        go_loopg [6, 34] n (fun gg v s wr => ∃ i : Nat, i ≤ n ∧ gg = n - i ∧ s = .int .i64 i ∧ RowAt wc wc.heap.size v (Crc.xors (xs.take i) (ys.take i)) wr)
        case atStart => exact ⟨0, Nat.zero_le _, rfl, rfl, hfr.out⟩
        case round =>
          obtain ⟨i, hi, hgg, rfl, hr⟩ := hrel
          obtain ⟨bb, dd, rfl⟩ := owns_slice hr.2.2.2
          have HR := hid hr
          have hgg := hid hgg
          have hxl := hid (show (Crc.xors (xs.take i) (ys.take i)).length = i from by unfold Crc.xors; simp; omega)
          clear hr
          by_cases hlt : i < n
          · have hx := hid (hsx.out.kept (hk3.out.trans HR.out.1) (by simp))
            have hy := hid (hsy.out.kept (hk3.out.trans HR.out.1) (by simp))
            have hsn := hid (xors_snoc xs ys i (by omega) (by omega))
            rcases hx.out with ⟨h1', h2', _⟩ | ⟨ax, cx, h1', hcx⟩
            · have := hlx; omega
            rcases hy.out with ⟨h1'', h2'', _⟩ | ⟨ay, cy, h1'', hcy⟩
            · have := hly; omega
            simp at h1' h1''
            obtain ⟨rfl, -, rfl⟩ := h1'
            obtain ⟨rfl, -, rfl⟩ := h1''
            have gx : wr.drew.cell? (ax.add i) = some (.int .u8 (xs[i].toNat : Int)) := hcx i (B xs[i]) (by rw [List.getElem?_map, List.getElem?_eq_getElem (by omega)]; rfl)
            have gy : wr.drew.cell? (ay.add i) = some (.int .u8 (ys[i].toNat : Int)) := hcy i (B ys[i]) (by rw [List.getElem?_map, List.getElem?_eq_getElem (by omega)]; rfl)
            have hxor := hid (xor_u8 xs[i] ys[i])
            have hltI : (i : Int) < (n : Int) := by omega
            have hownD := hid (show wr.drew.ownsRow wc.heap.size 5 1 (.slice bb (Crc.xors (xs.take i) (ys.take i)).length dd) (Crc.xors (xs.take i) (ys.take i)).length ((Crc.xors (xs.take i) (ys.take i)).map B) from HR.out.2.2.2)
            have Hlx := hid hlx; have Hly := hid hly
            clear hcx hcy
            have hxi := hid (show xs[i]? = some xs[i] from List.getElem?_eq_getElem (by omega))
            have hyi := hid (show ys[i]? = some ys[i] from List.getElem?_eq_getElem (by omega))
            have hblk := hid (show ∀ i, i < n → ∀ xb yb, xs[i]? = some xb → ys[i]? = some yb → (ax.add i).block < wc.heap.size ∧ (ay.add i).block < wc.heap.size from fun i hi xb yb h1 h2 => by
              have k0 := (hsx.out.kept hk3.out (by simp))
              have k1 := (hsy.out.kept hk3.out (by simp))
              rcases k0 with ⟨q1, _⟩ | ⟨z, cz, q1, qc⟩
              · simp at q1
              rcases k1 with ⟨p1, _⟩ | ⟨z', cz', p1, pc⟩
              · simp at p1
              simp at q1 p1
              obtain ⟨rfl, _⟩ := q1
              obtain ⟨rfl, _⟩ := p1
              exact ⟨World.block_lt_of_cell? wc _ (qc i (B xb) (by rw [List.getElem?_map, h1]; rfl)), World.block_lt_of_cell? wc _ (pc i (B yb) (by rw [List.getElem?_map, h2]; rfl))⟩)
            have hnotown := hid (fun (k : Nat) (hk : k < wc.heap.size) => show k ∉ (Value.slice bb (Crc.xors (xs.take i) (ys.take i)).length dd).ownBlock.toList from fun hm => by
              simp at hm
              have := (own_block_ge HR.out.2.2.2 k hm).1
              omega)
            generalize xs[i] = xb at *
            generalize ys[i] = yb at *
            clear hlx hly h1 h2 hl300
            obtain ⟨WA, hWA⟩ : ∃ WA, WA = (wr.alloc (.cells #[.int .u8 (bits .xor .u8 (xb.toNat : Int) (yb.toNat : Int))] 5)).drew := ⟨_, rfl⟩
            have hkA := hid (show Kept [] wr WA from hWA ▸ ((Kept.refl [] wr).alloc _).drew)
            have lax := World.block_lt_of_cell? wr _ (show wr.cell? (ax.add i) = _ from gx)
            have lay := World.block_lt_of_cell? wr _ (show wr.cell? (ay.add i) = _ from gy)
            have gxA : WA.cell? (ax.add i) = some (.int .u8 (xb.toNat : Int)) := (hkA.out.cell lax (by simp)).trans gx
            have gyA : WA.cell? (ay.add i) = some (.int .u8 (yb.toNat : Int)) := (hkA.out.cell lay (by simp)).trans gy
            have hcA : ∀ (j : Nat) (u : Value), ([.int .u8 (bits .xor .u8 (xb.toNat : Int) (yb.toNat : Int))] : List Value)[j]? = some u → WA.cell? ((⟨wr.heap.size, 0, none⟩ : Addr).add j) = some u := by
              rw [hWA]
              exact cell_one_new wr _ _
            have lw : wc.heap.size ≤ WA.heap.size := Nat.le_trans HR.out.1.size hkA.out.size
            have hownA := hid (hkA.out.owns HR.out.2.2.2 (by simp))
            have laxw : (ax.add i).block < wc.heap.size ∧ (ay.add i).block < wc.heap.size := hblk.out i hlt xb yb hxi.out hyi.out
            have HcA := hid hcA; have HWA := hid hWA
            clear hcA
            go_wp2_with fail
            rw [hWA] at gxA gyA
            go_region_held3 (fun w' => w'.cell? (ax.add i) = some (.int .u8 (xb.toNat : Int)) ∧ w'.cell? (ay.add i) = some (.int .u8 (yb.toNat : Int))) (first | exact ⟨gx, gy⟩ | exact ⟨gxA, gyA⟩ | exact ⟨gx2, gy2⟩)
              ((first
                | (rw [← HWA.out]
                   refine step_append_src (by rfl) _ _ _ (by rfl) wc.heap.size 5 i0 _ 1 Tryd.underlying22 hi0 hz0 hz1 hz2 rfl (.slice bb (Crc.xors (xs.take i) (ys.take i)).length dd) (Crc.xors (xs.take i) (ys.take i)).length ((Crc.xors (xs.take i) (ys.take i)).map B) (by rfl) hownA.out (.slice (some ⟨wr.heap.size, 0, none⟩) 1 1) 1 [.int .u8 (bits .xor .u8 (xb.toNat : Int) (yb.toNat : Int))] (by rfl) (Or.inr ⟨_, _, rfl, HcA.out⟩) rfl (by simp [Value.oneCell']) (by have := hxl.out; unfold maxLen; omega) (by have := hxl.out; omega) lw ?_
                   intro b2 c2 w2 hown2 hgrow hf2
                   have gx2 : w2.cell? (ax.add i) = some (.int .u8 (xb.toNat : Int)) := ((Kept.of_row hgrow).cell (by have := hkA.out.size; omega) (hnotown.out _ laxw.1)).trans ((hkA.out.cell lax (by simp)).trans gx)
                   have gy2 : w2.cell? (ay.add i) = some (.int .u8 (yb.toNat : Int)) := ((Kept.of_row hgrow).cell (by have := hkA.out.size; omega) (hnotown.out _ laxw.2)).trans ((hkA.out.cell lay (by simp)).trans gy))))
            have hstep := hid (RowAt.step (ys := [xb ^^^ yb]) HR.out hkA.out (by have := hown2; rw [hxor.out] at this; simpa [B] using this) hgrow)
            clear hown2 hgrow hf2 gx gy gxA gyA gx2 gy2
            go_wp2
            go_roundg (n - (i + 1))
            case measure => have := hgg.out; omega
            case rel => exact ⟨i + 1, by omega, rfl, by go_num, by rw [hsn.out]; exact hstep.out⟩
          · have hin : i = n := by omega
            subst hin
            rw [List.take_of_length_le (by omega), List.take_of_length_le (by omega)] at hxl
            have hr0 := HR.out
            rw [List.take_of_length_le (by omega), List.take_of_length_le (by omega)] at hr0
            rw [List.take_of_length_le (by omega), List.take_of_length_le (by omega)]
            have HR0 := hid hr0
            have hkw := hid (show Kept [] w wr from hk3.out.trans HR.out.1)
            have hsx1 := hid (hsx.out.kept hkw.out (by simp))
            have hsy1 := hid (hsy.out.kept hkw.out (by simp))
            have hs := hid (sum_any (.slice a i c) xs wr hsx1.out (Ht.out.kept hkw.out (by simp)) (by omega))
            have hcl := (Crc.sum xs).isLt
            obtain ⟨sv, hsv⟩ : ∃ sv, sv = (Crc.sum xs).toNat := ⟨_, rfl⟩
            rw [← hsv] at hs hcl
            have Hsv := hid hsv
            have Hlx := hid hlx; have Hly := hid hly
            have hkn := hid (show (Crc.xors xs ys).length = i from hxl)
            rw [hkn.out]
            clear hr0 hsv hxl hlx hly hgg HR h1 h2 hl300 hlt hi
            go_wp2_with fail
            refine hs.out.mono ?_
            rintro e w5 ⟨rfl, rfl⟩
            go_wp2_with (at_builtin; refine halt ?_)
            refine Halt.mk ?_
            refine wpList_append_src _ rfl _ _ _ rfl wr.heap.size 5 i0 _ 1 Tryd.underlying22 hi0 hz0 hz1 hz2 rfl (.slice (some ⟨wr.heap.size, 0, none⟩) 0 0) ([] : List UInt8).length (([] : List UInt8).map B) rfl (RowAt.fresh wr).2.2.2 (.slice a i c) i (xs.map B) rfl (by have := (hsx1.out.kept ((Kept.refl [] wr).alloc (.cells #[] 5)) (by simp)); unfold SrcB at this; rwa [Hlx.out] at this) (by simp [Hlx.out]) (B_oneCell xs) ?_ ?_ ?_ ?_
            · unfold maxLen; simp; omega
            · simp; omega
            · simp
            intro v6 w6 hown6 hgrow6 _ hf6
            obtain ⟨a6, c6, rfl⟩ := owns_slice hown6
            have hr6 := hid (show RowAt wr wr.heap.size (.slice a6 i c6) ([] ++ xs) w6 from RowAt.step (ys := xs) (RowAt.fresh wr) (Kept.refl [] _) (by rw [show ([] ++ xs : List UInt8).length = i by simpa using Hlx.out]; simpa using hown6) hgrow6)
            clear hown6 hgrow6 hf6 hs
            simp only [List.length_nil, Nat.zero_add] at hr6 ⊢
            go_wp2_with (at_builtin; refine halt ?_)
            refine Halt.mk ?_
            rw [le_cells sv hcl]
            obtain ⟨W6, hW6⟩ : ∃ W6, W6 = w6.alloc (.cells ((Crc.le sv).map B).toArray 5) := ⟨_, rfl⟩
            rw [← hW6]
            have hkW6 := hid (show Kept [] w6 W6 from hW6 ▸ (Kept.refl [] w6).alloc _)
            have hs6 := hid (show SrcB W6 (.slice (some ⟨w6.heap.size, 0, none⟩) 4 4) (Crc.le sv) from hW6 ▸ src_alloc w6 (Crc.le sv) 4 (0, 0))
            have hxl6 := hid (show ([] ++ xs : List UInt8).length = i by simpa using Hlx.out)
            have ho6 := hid (hkW6.out.owns (show w6.ownsRow wr.heap.size 5 1 (.slice a6 i c6) i (([] ++ xs : List UInt8).map B) by have := hr6.out.2.2.2; rwa [hxl6.out] at this) (by simp))
            clear hW6
            refine wpList_append_src _ rfl _ _ _ rfl wr.heap.size 5 i0 _ 1 Tryd.underlying22 hi0 hz0 hz1 hz2 rfl (.slice a6 i c6) i (([] ++ xs : List UInt8).map B) rfl ho6.out (.slice (some ⟨w6.heap.size, 0, none⟩) 4 4) 4 ((Crc.le sv).map B) rfl hs6.out rfl (B_oneCell _) ?_ ?_ ?_ ?_
            · unfold maxLen; omega
            · omega
            · have := hr6.out.1.size; have := hkW6.out.size; omega
            intro v7 w7 hown7 hgrow7 _ hf7
            obtain ⟨a7, c7, rfl⟩ := owns_slice hown7
            have hr7 := hid (RowAt.step (ys := Crc.le sv) hr6.out hkW6.out (by rw [List.length_append, hxl6.out, List.map_append]; exact hown7) hgrow7)
            have hk7 := hid (show Kept [] w w7 from hkw.out.trans hr7.out.1)
            have hwl := hid (show (xs ++ Crc.le sv).length = i + 4 by rw [List.length_append, Hlx.out]; rfl)
            have hsb := sum_both xs ys (by rw [Hlx.out, Hly.out])
            rw [← Hsv.out, Hlx.out] at hsb
            obtain ⟨cy, hcy⟩ : ∃ cy : Int, cy = (((Crc.sum ys).toNat : Nat) : Int) := ⟨_, rfl⟩
            obtain ⟨c0, hc0⟩ : ∃ c0 : Int, c0 = (((Crc.sum (List.replicate i 0)).toNat : Nat) : Int) := ⟨_, rfl⟩
            obtain ⟨c4, hc4⟩ : ∃ c4 : Int, c4 = (((Crc.sum (List.replicate 4 0)).toNat : Nat) : Int) := ⟨_, rfl⟩
            rw [← hcy, ← hc0] at hsb
            have hZ := hid (fun (W : World) (hk : Kept [] w7 W) => show SumOk W (.slice bb i dd) (bits .xor .u32 (bits .xor .u32 (sv : Int) cy) c0) from
              ⟨_, (by have := HR0.out.src; rw [hkn.out] at this; exact this : SrcB wr (.slice bb i dd) (Crc.xors xs ys)).kept (hr7.out.1.trans hk) (by simp), Ht.out.kept (hk7.out.trans hk) (by simp), by rw [hkn.out]; omega, hsb.symm⟩)
            have hY := hid (fun (W : World) (hk : Kept [] w7 W) => show SumOk W (.slice b i d) cy from
              ⟨_, hsy1.out.kept (hr7.out.1.trans hk) (by simp), Ht.out.kept (hk7.out.trans hk) (by simp), by rw [Hly.out]; omega, hcy⟩)
            have hWh := hid (fun (W : World) (hk : Kept [] w7 W) => show SumOk W (.slice a7 (i + 4) c7) c4 from
              ⟨_, (by have := hr7.out.src; simpa [hwl.out] using this : SrcB w7 (.slice a7 (i + 4) c7) (xs ++ Crc.le sv)).kept hk (by simp), Ht.out.kept (hk7.out.trans hk) (by simp), by rw [hwl.out]; omega, by rw [hc4, Hsv.out, Crc.sum_whole]⟩)
            have hZ0 := hid (fun (W W' : World) (g : Nat) (hk : Kept [] (W.alloc (.cells (madeCells #[.int .u8 0] i) 5)) W') (hk1 : Kept [] w7 W) (hg : g = W.heap.size) => show SumOk W' (.slice (some ⟨g, 0, none⟩) i i) c0 from by
              subst hg
              have h0 := src_alloc W (List.replicate i 0) i (0, 0)
              rw [made_zeros] at hk
              rw [List.length_replicate] at h0
              exact ⟨_, h0.kept hk (by simp), Ht.out.kept (hk7.out.trans ((hk1.alloc _).trans hk)) (by simp), by rw [List.length_replicate]; omega, hc0⟩)
            have hZ4 := hid (fun (W W' : World) (g : Nat) (hk : Kept [] (W.alloc (.cells #[.int .u8 0, .int .u8 0, .int .u8 0, .int .u8 0] 5)) W') (hk1 : Kept [] w7 W) (hg : g = W.heap.size) => show SumOk W' (.slice (some ⟨g, 0, none⟩) 4 4) c4 from by
              subst hg
              have h0 := src_alloc W [0, 0, 0, 0] 4 (0, 0)
              exact ⟨_, h0.kept hk (by simp), Ht.out.kept (hk7.out.trans ((hk1.alloc _).trans hk)) (by simp), by decide, hc4⟩)
            clear hcy hc0 hc4 hsb
            have hmk : ∀ W : World, (Instr.makeSlice 22 (.int .i64 (i : Int)) (.int .i64 (i : Int))).run Tryd.prog W = .ok (.slice (some ⟨W.heap.size, 0, none⟩) i i) (W.alloc (.cells (madeCells #[.int .u8 0] i) 5)) := fun W => make_u8 i W (by omega)
            have hk77 : Kept [] w7 w7.drew := (Kept.refl _ _).drew
            have Hn300 := hid hn300
            clear hown7 hgrow7 hf7
            go_wp2_with fail
            go_region_held3 (fun w' => Kept [] w7 w') (repeat first | with_reducible assumption | with_reducible exact Kept.refl _ _ | with_reducible apply Kept.drew | with_reducible apply Kept.alloc)
              ((go_at_call 13
                refine (sum_ok (by first | exact hZ.out _ (by repeat first | with_reducible assumption | with_reducible exact Kept.refl _ _ | with_reducible apply Kept.drew | with_reducible apply Kept.alloc) | exact hY.out _ (by repeat first | with_reducible assumption | with_reducible exact Kept.refl _ _ | with_reducible apply Kept.drew | with_reducible apply Kept.alloc) | exact hWh.out _ (by repeat first | with_reducible assumption | with_reducible exact Kept.refl _ _ | with_reducible apply Kept.drew | with_reducible apply Kept.alloc) | exact hZ0.out _ _ _ (by repeat first | with_reducible assumption | with_reducible exact Kept.refl _ _ | with_reducible apply Kept.drew | with_reducible apply Kept.alloc) (by repeat first | with_reducible assumption | with_reducible exact Kept.refl _ _ | with_reducible apply Kept.drew | with_reducible apply Kept.alloc) rfl | exact hZ4.out _ _ _ (by repeat first | with_reducible assumption | with_reducible exact Kept.refl _ _ | with_reducible apply Kept.drew | with_reducible apply Kept.alloc) (by repeat first | with_reducible assumption | with_reducible exact Kept.refl _ _ | with_reducible apply Kept.drew | with_reducible apply Kept.alloc) (by first | rfl | simp))).mono ?_
                rintro e w' ⟨rfl, rfl⟩))
            all_goals
              go_wp2
              go_ret
              refine ⟨rfl, hk7.out.trans ?_⟩
              repeat first | with_reducible assumption | with_reducible exact Kept.refl _ _ | with_reducible apply Kept.drew | with_reducible apply Kept.alloc
end Go.Proofs.YtijkpnggehnmcabDoor
