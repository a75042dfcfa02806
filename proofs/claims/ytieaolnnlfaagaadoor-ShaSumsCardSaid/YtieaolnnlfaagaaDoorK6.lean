/- coldstoreref03.Of, its rows: the bytes, what ends them. -/
import Derived.Test.YtieaolnnlfaagaaDoorK3
import Derived.Test.YtieaolnnlfaagaaDoorH7
namespace Go.Proofs.YtieaolnnlfaagaaDoor
open Go.RowKit Go.Lib

theorem plain00 (g j : Nat) : (⟨g, 0, none⟩ : Addr).add j = ⟨g, j, none⟩ := by unfold Addr.add; split <;> simp_all
theorem RowV.lit {w wr : World} (e : TypeId) (x : Value) (hk : Kept [] w wr) : RowV w wr.heap.size e (.slice (some ⟨wr.heap.size, 0, none⟩) 1 1) [x] (wr.alloc (.cells #[x] e)) :=
  ⟨hk.alloc _, hk.size, by simp, by simp, Or.inr ⟨wr.heap.size, 1, #[x], rfl, Nat.le_refl _, heap_alloc_new' _ _, by simp, by unfold maxLen; omega, by simp, by simp⟩⟩
def slen : Value → Nat
  | .slice _ n _ => n
  | _ => 0
/-- The last bytes, as far as they are laid in front. -/
def lastB (n i : Nat) : List UInt8 := (List.range i).map fun j => UInt8.ofNat (n / 256 ^ (i - 1 - j))
theorem lastB_len (n i : Nat) : (lastB n i).length = i := by simp [lastB]
theorem lastB_succ (n i : Nat) : lastB n (i + 1) = UInt8.ofNat (n / 256 ^ i) :: lastB n i := by
  unfold lastB
  rw [List.range_succ_eq_map, List.map_cons, List.map_map]
  congr 1
  apply List.map_congr_left
  intro j hj
  have : j < i := by simpa using hj
  show UInt8.ofNat (n / 256 ^ (i + 1 - 1 - (j + 1))) = _
  rw [show i + 1 - 1 - (j + 1) = i - 1 - j by omega]
theorem pad_parts (n : Nat) : Sha.pad n = 128 :: List.replicate ((119 - n % 64) % 64) 0 ++ lastB (8 * n) 8 := by
  unfold Sha.pad lastB; simp
theorem src_reads {w : World} {a : Option Addr} {c : Nat} {ys : List UInt8} (h : Reads w a ys) (hn : a = none → c = 0) : Src w (.slice a ys.length c) ys.length (ys.map B) := by
  cases a with
  | none => have := h.1 rfl; subst this; rw [hn rfl]; exact Or.inl ⟨rfl, rfl, rfl⟩
  | some ad => exact Or.inr ⟨ad, c, rfl, fun j u hj => h.2 ad rfl j u hj⟩

theorem RowV.slice2 {w wr : World} {base : Nat} {e : TypeId} {v : Value} {xs : List Value} (h : RowV w base e v xs wr) (hx : xs ≠ []) : ∃ g c, v = .slice (some ⟨g, 0, none⟩) xs.length c ∧ xs.length ≤ c ∧ c ≤ maxLen ∧ base ≤ g ∧ g < wr.heap.size ∧ ∀ (j : Nat) u, xs[j]? = some u → wr.cell? ⟨g, j, none⟩ = some u := by
  obtain ⟨g, c, hv, h1, h2, h3⟩ := h.slice hx
  refine ⟨g, c, hv, ?_, ?_, h1, h2, h3⟩
  all_goals
    rcases h.2.2.2.2 with ⟨h0, _⟩ | ⟨g', cap, cur, h0, hb, hh, hnc, hcm, _⟩
    · rw [hv] at h0; simp at h0
    · rw [hv] at h0; simp at h0; omega
theorem elem_u8 : Tryd.prog.elem 22 = 5 := by simp [Program.elem, Tryd.underlying22]
theorem slice_blk (g m c i : Nat) (hj : i + 64 ≤ m) (hmc : m ≤ c) (W : World) : (Instr.sliceAt 22 (.slice (some ⟨g, 0, none⟩) m c) (some (.int .i64 (i : Int))) (some (.int .i64 ((i : Int) + 64))) none).run Tryd.prog W = .ok (.slice (some ⟨g, i, none⟩) 64 (c - i)) W := by
  rw [run_sliceAt_slice W 22 _ _ _ _ (by simp [Program.elem, Tryd.underlying22])]
  have hs : (sizeOf 5).run Tryd.prog W = .ok 1 W := by kernel_rfl
  rw [run_slice_lh W 22 _ _ _ (by simp [Program.elem, Tryd.underlying22]) .i64 .i64 (i : Int) ((i : Int) + 64) (by omega) (by omega) (by omega), elem_u8, hs]
  have e1 : ((i : Int) + 64).toNat = i + 64 := by omega
  have e2 : ((i : Int)).toNat = i := by omega
  have e3 : ¬ c = i := by omega
  simp [Result.andThen, sliced, e1, plain00, e3]

set_option maxRecDepth 100000 in
set_option maxHeartbeats 2000000 in
theorem refof_any (a : Option Addr) (c : Nat) (ys : List UInt8) (w : World) (hr : Reads w a ys) (hn : a = none → c = 0) (hl : ys.length ≤ 1000000)
    (hmix : ∀ (s : Sha.St) (b : List UInt8) (gh ch gk ck gb ob cb : Nat) (w : World), b.length = 64 → (∀ (j : Nat) u, (stL s)[j]? = some u → w.cell? ⟨gh, j, none⟩ = some u) → (∀ i, i < 64 → w.cell? ⟨gk, i, none⟩ = some (U (Sha.kAt i))) → (∀ j, j < 64 → w.cell? ⟨gb, ob + j, none⟩ = some (B (b.getD j 0))) →
      Calls Tryd.prog 19 #[.slice (some ⟨gh, 0, none⟩) 8 ch, .slice (some ⟨gk, 0, none⟩) 64 ck, .slice (some ⟨gb, ob, none⟩) 64 cb] w fun e w' => ∃ g c, e = .returned (.slice (some ⟨g, 0, none⟩) 8 c) ∧ Kept [] w w' ∧ w.heap.size ≤ g ∧ g < w'.heap.size ∧ (∀ (j : Nat) u, (stL (Sha.mix s b))[j]? = some u → w'.cell? ⟨g, j, none⟩ = some u)) :
    Calls Tryd.prog 8 #[.slice a ys.length c] w fun e w' => e = .returned (.agg ((Sha.sum ys).map B).toArray) ∧ Kept [] w w' := by
  obtain ⟨i0, hi0, hz0, hz1, hz2⟩ := info_parts info_u8
  have Hr := hid hr; have Hmix := hid hmix; have Hn := hid hn
  clear hr hmix hn
  obtain ⟨Z, hZ⟩ : ∃ Z, Z = ((List.replicate 32 (0 : UInt8)).map B).toArray := ⟨_, rfl⟩
  have HZ := hid hZ
  clear hZ
  go_enter Tryd.func8, Tryd.ntmps8
  go_wp2_with fail
  refine (first_any _).mono ?_
  rintro e W0 ⟨g1, g2, rfl, hk0, hg1, hg2, hc1, hc2⟩
  have Hres := hid (hk0.at (heap_alloc_at (w := w) (k := w.heap.size) rfl) (by simp))
  have Hk0 := hid (((Kept.refl [] w).alloc _).trans hk0)
  have Hc1 := hid hc1; have Hc2 := hid hc2
  have Hg := hid (show w.heap.size < g1 ∧ w.heap.size < g2 ∧ g1 < W0.heap.size ∧ g2 < W0.heap.size from ⟨by simp at hg1; omega, by simp at hg2; omega, World.block_lt_of_cell? W0 _ (hc1 0 _ rfl), World.block_lt_of_cell? W0 _ (hc2 0 (by omega))⟩)
  have hfr := hid (RowV.fresh 5 (Kept.refl [] W0))
  have hsrc := hid (src_reads ((Hr.out.kept Hk0.out (by simp)).kept ((Kept.refl [] W0).alloc (.cells #[] 5)) (by simp)) Hn.out)
  clear hk0 hg1 hg2 hc1 hc2
  go_wp2_with (at_builtin; refine halt ?_)
  refine Halt.mk ?_
  refine wpList_append_src _ rfl _ _ _ rfl W0.heap.size 5 i0 _ 1 Tryd.underlying22 hi0 hz0 hz1 hz2 rfl (.slice (some ⟨W0.heap.size, 0, none⟩) 0 0) 0 [] rfl hfr.out.2.2.2 (.slice a ys.length c) ys.length (ys.map B) rfl hsrc.out (by simp) (B_one ys) (by unfold maxLen; omega) (by omega) (by simp) ?_
  intro v5 W1 hown1 hgrow1 _ _
  obtain ⟨a5, c5, rfl⟩ := owns_slice hown1
  have HR1 := hid (show RowV W0 W0.heap.size 5 (.slice a5 ys.length c5) (ys.map B) W1 from by
    have := hfr.out.step (xs := []) (ys := ys.map B) (Kept.refl [] _) (by rw [List.nil_append, List.length_map]; simpa using hown1) hgrow1
    simpa using this)
  clear hown1 hgrow1 hfr hsrc
  rw [Nat.zero_add]
  have hown1 := hid (show (W1.alloc (.cells #[.int .u8 128] 5)).ownsRow W0.heap.size 5 1 (.slice a5 ys.length c5) ys.length (ys.map B) from by
    have := ((Kept.refl [] W1).alloc (.cells #[.int .u8 128] 5)).owns HR1.out.2.2.2 (by simp)
    simpa using this)
  go_wp2_with (at_builtin; refine halt ?_)
  refine Halt.mk ?_
  refine wpList_append_src _ rfl _ _ _ rfl W0.heap.size 5 i0 _ 1 Tryd.underlying22 hi0 hz0 hz1 hz2 rfl (.slice a5 ys.length c5) ys.length (ys.map B) rfl hown1.out (.slice (some ⟨W1.heap.size, 0, none⟩) 1 1) 1 [B 128] rfl (Or.inr ⟨_, _, rfl, cell_one_new _ _ _⟩) rfl (by intro u hu; simp at hu; subst hu; rfl) (by unfold maxLen; omega) (by omega) (by have := HR1.out.2.2.1; simp; omega) ?_
  intro v6 W2 hown2 hgrow2 _ _
  obtain ⟨a6, c6, rfl⟩ := owns_slice hown2
  have HR2 := hid (show RowV W0 W0.heap.size 5 (.slice a6 (ys.length + 1) c6) ((ys ++ 128 :: List.replicate 0 0).map B) W2 from by
    have := HR1.out.step (ys := [B 128]) ((Kept.refl [] W1).alloc (.cells #[.int .u8 128] 5)) (by simpa using hown2) hgrow2
    simpa using this)
  clear hown2 hgrow2 hown1 HR1
  obtain ⟨z, hz⟩ : ∃ z, z = (119 - ys.length % 64) % 64 := ⟨_, rfl⟩
  have hz64 : z < 64 := by omega
  have Hz := hid hz
  clear hz
  go_wp2_with fail
  go_loopw [5] (fun v wr => ∃ (k : Nat) (a7 : Option Addr) (c7 : Nat), k ≤ z ∧ v = .slice a7 (ys.length + 1 + k) c7 ∧ Hid (RowV W0 W0.heap.size 5 (.slice a7 (ys.length + 1 + k) c7) ((ys ++ 128 :: List.replicate k 0).map B) wr)) (fun v _ => ys.length + 1 + z - slen v)
  case atStart => exact ⟨0, a6, c6, by omega, rfl, HR2⟩
  case round =>
    clear HR2
    obtain ⟨k, a7, c7, hk, rfl, hrow⟩ := hrel
    have hlen : ((ys ++ 128 :: List.replicate k 0).map B).length = ys.length + 1 + k := by simp; omega
    by_cases hlt : k < z
    · have hz := Hz.out
      have htm : ((ys.length : Int) + 1 + (k : Int)).tmod 64 = (((ys.length + 1 + k) % 64 : Nat) : Int) := by rw [Int.tmod_eq_emod_of_nonneg (by omega)]; omega
      have hne : ((((ys.length + 1 + k) % 64 : Nat) : Int) == 56) = false := by simp; omega
      obtain ⟨m, hm⟩ : ∃ m, m = (ys.length + 1 + k) % 64 := ⟨_, rfl⟩
      rw [← hm] at htm hne
      clear hz
      have Hown := hid (show (wr.alloc (.cells #[.int .u8 0] 5)).ownsRow W0.heap.size 5 1 (.slice a7 (ys.length + 1 + k) c7) (ys.length + 1 + k) ((ys ++ 128 :: List.replicate k 0).map B) from by
        have := ((Kept.refl [] wr).alloc (.cells #[.int .u8 0] 5)).owns hrow.out.2.2.2 (by simp)
        rwa [hlen] at this)
      clear hm
      go_wp2_with (at_builtin; refine halt ?_)
      refine Halt.mk ?_
      refine wpList_append_src _ rfl _ _ _ rfl W0.heap.size 5 i0 _ 1 Tryd.underlying22 hi0 hz0 hz1 hz2 rfl (.slice a7 (ys.length + 1 + k) c7) (ys.length + 1 + k) ((ys ++ 128 :: List.replicate k 0).map B) rfl Hown.out (.slice (some ⟨wr.heap.size, 0, none⟩) 1 1) 1 [B 0] rfl (Or.inr ⟨_, _, rfl, cell_one_new _ _ _⟩) rfl (by intro u hu; simp at hu; subst hu; rfl) (by unfold maxLen; omega) (by omega) (by have := hrow.out.2.2.1; simp; omega) ?_
      intro v8 w8 hown8 hgrow8 _ _
      obtain ⟨a8, c8, rfl⟩ := owns_slice hown8
      have hstep := hid (show RowV W0 W0.heap.size 5 (.slice a8 (ys.length + 1 + (k + 1)) c8) ((ys ++ 128 :: List.replicate (k + 1) 0).map B) w8 from by
        have e : (ys ++ 128 :: List.replicate (k + 1) (0 : UInt8)).map B = (ys ++ 128 :: List.replicate k 0).map B ++ [B 0] := by rw [List.replicate_succ']; simp
        rw [e]
        exact hrow.out.step ((Kept.refl [] wr).alloc (.cells #[.int .u8 0] 5)) (by rw [List.length_append, hlen]; exact hown8) hgrow8)
      clear hown8 hgrow8 Hown htm hne
      go_wp2_with fail
      exact ⟨⟨k + 1, a8, c8, by omega, rfl, hstep⟩, by simp [slen]; omega⟩
    · obtain rfl : z = k := by omega
      have htm : ((ys.length : Int) + 1 + (z : Int)).tmod 64 = 56 := by have hz := Hz.out; rw [Int.tmod_eq_emod_of_nonneg (by omega)]; omega
      generalize wr = Wx at *
      obtain ⟨m, hm⟩ : ∃ m, m = 8 * ys.length := ⟨_, rfl⟩
      have hm8 : 8 * (ys.length : Int) = (m : Int) := by omega
      have hml : m ≤ 8000000 := by omega
      have Hm := hid hm
      have HA := hid hrow.out
      have hfr2 := hid (RowV.fresh 5 (Kept.refl [] Wx))
      clear hm hrow
      go_wp2_with fail
      go_loopw [6, 7, 8] (fun x v j wr => ∃ (i base : Nat) (a9 : Option Addr) (c9 : Nat), i ≤ 8 ∧ j = .int .i64 i ∧ x = .int .u64 ((m / 256 ^ i : Nat) : Int) ∧ v = .slice a9 i c9 ∧ Hid (RowV Wx base 5 (.slice a9 i c9) ((lastB m i).map B) wr)) (fun _ _ j _ => 8 - (intOf j).toNat)
      case atStart => exact ⟨0, Wx.heap.size, some ⟨Wx.heap.size, 0, none⟩, 0, by omega, rfl, by simp, rfl, by simpa [lastB] using hfr2⟩
      case round =>
        clear hfr2
        obtain ⟨i, base, a9, c9, hi, rfl, rfl, rfl, hrow⟩ := hrel
        have hl9 : ((lastB m i).map B).length = i := by simp [lastB_len]
        by_cases hlt8 : i < 8
        · obtain ⟨M, hM⟩ : ∃ M, M = m / 256 ^ i := ⟨_, rfl⟩
          have hMl : M ≤ 8000000 := by rw [hM]; exact Nat.le_trans (Nat.div_le_self _ _) hml
          have hM2 := hid (show M / 256 = m / 256 ^ (i + 1) by rw [hM, Nat.div_div_eq_div_mul, Nat.pow_succ])
          have hB := hid (show B (UInt8.ofNat (m / 256 ^ i)) = .int .u8 ((M : Int) % 256) by rw [B_ofNat, hM])
          rw [← hM]
          clear hM
          have hlit := hid (RowV.lit 5 (.int .u8 ((M : Int) % 256)) hrow.out.1)
          have hsrc := hid (show ∀ (j : Nat) u, ((lastB m i).map B)[j]? = some u → True from fun _ _ _ => trivial)
          have tm : (M : Int).tmod 256 = (M : Int) % 256 := by rw [Int.tmod_eq_emod_of_nonneg (by omega)]
          have td : (M : Int).tdiv 256 = ((M / 256 : Nat) : Int) := by rw [Int.tdiv_eq_ediv_of_nonneg (by omega)]; omega
          have hSrc := hid (show Src (wr.alloc (.cells #[.int .u8 ((M : Int) % 256)] 5)) (.slice a9 i c9) i ((lastB m i).map B) from by
            have ho := ((Kept.refl [] wr).alloc (.cells #[.int .u8 ((M : Int) % 256)] 5)).owns hrow.out.2.2.2 (by simp)
            rw [hl9] at ho
            rcases ho.2 with ⟨h1, h2⟩ | ⟨g', _, _, h1, _⟩
            · rw [h1]; left; refine ⟨rfl, h2, ?_⟩
              exact List.eq_nil_of_length_eq_zero (by rw [hl9]; exact h2)
            · right
              cases h1
              exact ⟨_, _, rfl, fun j u hj => ho.cells (g := g') rfl j u hj⟩)
          go_wp2_with (at_builtin; refine halt ?_)
          refine Halt.mk ?_
          refine wpList_append_src _ rfl _ _ _ rfl wr.heap.size 5 i0 _ 1 Tryd.underlying22 hi0 hz0 hz1 hz2 rfl (.slice (some ⟨wr.heap.size, 0, none⟩) 1 1) 1 [.int .u8 ((M : Int) % 256)] rfl hlit.out.2.2.2 (.slice a9 i c9) i ((lastB m i).map B) rfl hSrc.out hl9 (B_one _) (by unfold maxLen; omega) (by omega) (by simp) ?_
          intro v8 w8 hown8 hgrow8 _ _
          obtain ⟨a8, c8, rfl⟩ := owns_slice hown8
          have hstep := hid (show RowV Wx wr.heap.size 5 (.slice a8 (i + 1) c8) ((lastB m (i + 1)).map B) w8 from by
            have e : (lastB m (i + 1)).map B = [.int .u8 ((M : Int) % 256)] ++ (lastB m i).map B := by rw [lastB_succ, List.map_cons, hB.out]; rfl
            rw [e, Nat.add_comm i 1]
            exact hlit.out.step (Kept.refl [] _) (by rw [List.length_append, hl9]; exact hown8) hgrow8)
          rw [Nat.add_comm 1 i]
          clear hown8 hgrow8 hlit hSrc hsrc hrow
          go_wp2_with fail
          go_roundw
          case rel => exact ⟨i + 1, wr.heap.size, a8, c8, by omega, by go_num, by rw [← hM2.out]; congr 1, rfl, hstep⟩
          case measure => simp [intOf]; omega
        · obtain rfl : i = 8 := by omega
          have HA2 := hid (HA.out.next hrow.out.1)
          obtain ⟨X, hX⟩ : ∃ X, X = ys ++ Sha.pad ys.length := ⟨_, rfl⟩
          have hXm : X.map B = (ys ++ 128 :: List.replicate z 0).map B ++ (lastB m 8).map B := by rw [hX, pad_parts, Hm.out, Hz.out]; simp
          have hXl : X.length = ys.length + 1 + z + 8 := by
            have := congrArg List.length hXm
            rw [List.length_map, List.length_append, hlen, hl9] at this; exact this
          have hX64 : X.length % 64 = 0 := by rw [hX, List.length_append]; exact Sha.pad_whole _
          have hSrc := hid (show Src wr (.slice a9 8 c9) 8 ((lastB m 8).map B) from by
            have ho := hrow.out.2.2.2
            rw [hl9] at ho
            rcases ho.2 with ⟨h1, h2⟩ | ⟨g', _, _, h1, _⟩
            · omega
            · right
              cases h1
              exact ⟨_, _, rfl, fun j u hj => ho.cells (g := g') rfl j u hj⟩)
          have hown := hid (show wr.ownsRow W0.heap.size 5 1 (.slice a7 (ys.length + 1 + z) c7) (ys.length + 1 + z) ((ys ++ 128 :: List.replicate z 0).map B) from by
            have := HA2.out.2.2.2
            rwa [hlen] at this)
          have HX := hid hX; have HXm := hid hXm; have HXl := hid hXl; have HX64 := hid hX64
          clear hX hXm hXl hX64 htm
          go_wp2_with (at_builtin; refine halt ?_)
          refine Halt.mk ?_
          refine wpList_append_src _ rfl _ _ _ rfl W0.heap.size 5 i0 _ 1 Tryd.underlying22 hi0 hz0 hz1 hz2 rfl (.slice a7 (ys.length + 1 + z) c7) (ys.length + 1 + z) ((ys ++ 128 :: List.replicate z 0).map B) rfl hown.out (.slice a9 8 c9) 8 ((lastB m 8).map B) rfl hSrc.out hl9 (B_one _) (by unfold maxLen; omega) (by omega) (by have := HA2.out.2.2.1; omega) ?_
          intro v3 W3 hown3 hgrow3 _ _
          obtain ⟨a3, c3, rfl⟩ := owns_slice hown3
          have HR3 : RowV W0 W0.heap.size 5 (.slice a3 (ys.length + 1 + z + 8) c3) (X.map B) W3 := by
            rw [HXm.out]
            exact HA2.out.step (Kept.refl [] _) (by rw [List.length_append, hlen, hl9]; exact hown3) hgrow3
          obtain ⟨g3, c3', hv, hc3, hcm3, hg3, hgl3, hcell3⟩ := HR3.slice2 (fun e => by have h1 := congrArg List.length e; have h2 := HXl.out; rw [List.length_map, h2] at h1; simp at h1)
          obtain ⟨rfl, rfl⟩ : a3 = some ⟨g3, 0, none⟩ ∧ c3 = c3' := by simp at hv; exact ⟨hv.1, hv.2.2⟩
          rw [List.length_map, HXl.out] at hc3
          obtain ⟨N, hN⟩ : ∃ N, X.length = 64 * N := ⟨X.length / 64, by have := HX64.out; omega⟩
          have hL : ys.length + 1 + z + 8 = 64 * N := by rw [← HXl.out]; exact hN
          rw [hL] at hc3 ⊢
          have Hcell3 := hid (show ∀ j, j < 64 * N → W3.cell? ⟨g3, j, none⟩ = some (B (X.getD j 0)) from fun j hj => hcell3 j _ (by simp [show j < X.length by omega]))
          have Hk3 := hid HR3.1
          have HN := hid hN
          have hNl : 64 * N ≤ 2000000 := by omega
          have hcm : c3 ≤ 9223372036854775807 := by unfold maxLen at hcm3; omega
          clear hown3 hgrow3 HR3 hcell3 hv hown hSrc HA2 HA hrow hl9 hlen hcm3 hg3 hL hN
          go_wp2_with fail
          go_loopw [3, 9] (fun v j wr => ∃ (k gh ch : Nat), k ≤ N ∧ j = .int .i64 ((64 * k : Nat) : Int) ∧ v = .slice (some ⟨gh, 0, none⟩) 8 ch ∧ Hid (Kept [] W3 wr) ∧ Hid (w.heap.size < gh ∧ ∀ (j : Nat) u, (stL (Sha.stN X k))[j]? = some u → wr.cell? ⟨gh, j, none⟩ = some u)) (fun _ j _ => 64 * N - (intOf j).toNat)
          case atStart => exact ⟨0, g1, 8, by omega, rfl, rfl, hid (Kept.refl [] _), hid ⟨Hg.out.1, fun j u hj => (Hk3.out.cell (p := ⟨g1, j, none⟩) Hg.out.2.2.1 (by simp)).trans (Hc1.out j u hj)⟩⟩
          case round =>
            obtain ⟨k, gh, ch, hk', rfl, rfl, hkw, hh⟩ := hrel
            by_cases hltN : k < N
            · have hsl := fun W => slice_blk g3 (64 * N) c3 (64 * k) (by omega) hc3 W
              have hcell := fun (j : Nat) (hj : j < 64 * N) => (hkw.out.cell (p := ⟨g3, j, none⟩) hgl3 (by simp)).trans (Hcell3.out j hj)
              have hmx := hid (Hmix.out (Sha.stN X k) ((X.drop (64 * k)).take 64) gh ch g2 64 g3 (64 * k) (c3 - 64 * k) wr (by have := HN.out; simp; omega) hh.out.2
                (fun i hi => (hkw.out.cell (p := ⟨g2, i, none⟩) (Nat.lt_of_lt_of_le Hg.out.2.2.2 Hk3.out.size) (by simp)).trans ((Hk3.out.cell (p := ⟨g2, i, none⟩) Hg.out.2.2.2 (by simp)).trans (Hc2.out i hi)))
                (fun j hj => by
                  rw [hcell (64 * k + j) (by omega)]
                  simp [List.getD, List.getElem?_take, List.getElem?_drop, hj]))
              have e1 : Sha.stN X (k + 1) = Sha.mix (Sha.stN X k) ((X.drop (64 * k)).take 64) := by rw [Sha.stN]
              obtain ⟨st', hst'⟩ : ∃ s, s = Sha.stN X (k + 1) := ⟨_, rfl⟩
              rw [← e1, ← hst'] at hmx
              have Hst := hid hst'
              clear hst'
              have i1 : ((64 * k : Nat) : Int) < 64 * (N : Int) := by omega
              have iw : IntKind.i64.wrap (((64 * k : Nat) : Int) + 64) = ((64 * k : Nat) : Int) + 64 := IntWalk.i64_in _ (by omega)
              obtain ⟨q, hq⟩ : ∃ q, q = 64 * k := ⟨_, rfl⟩
              rw [← hq] at hsl hmx i1 iw ⊢
              have hq2 : q + 64 = 64 * (k + 1) := by omega
              have hql : q < 2000000 := by omega
              clear hcell e1 hq
              go_wp2_with fail
              refine hmx.out.mono ?_
              rintro e w6 ⟨gn, cn, rfl, hkn, hgn1, hgn2, hcn⟩
              have hkn' := hid (hkw.out.trans hkn)
              have hh' := hid (show w.heap.size < gn ∧ ∀ (j : Nat) u, (stL (Sha.stN X (k + 1)))[j]? = some u → w6.cell? ⟨gn, j, none⟩ = some u from by
               rw [← Hst.out]
               exact ⟨by
                have h1 := hkw.out.size; have h2 := Hg.out.1; have h3 := Hg.out.2.2.1; have h4 := Hk3.out.size; omega, fun j u hj => hcn j u hj⟩)
              clear hsl hmx hkn hgn1 hgn2 hcn
              go_wp2_with fail
              go_roundw
              case rel => exact ⟨k + 1, gn, cn, by omega, by rw [show ((64 * (k + 1) : Nat) : Int) = (q : Int) + 64 by omega], rfl, hkn', hh'⟩
              case measure => simp [intOf]; omega
            · obtain rfl : k = N := by omega
              obtain ⟨S, hS⟩ : ∃ S, S = Sha.stN X k := ⟨_, rfl⟩
              rw [← hS] at hh
              obtain ⟨l, hld⟩ : ∃ l, l = Sha.bytesOf S := ⟨_, rfl⟩
              have hsum := hid (show Sha.sum ys = l by
                rw [hld, hS]; unfold Sha.sum Sha.stOf
                rw [← HX.out, show X.length / 64 = k by have := HN.out; omega])
              have hll : l.length = 32 := by rw [hld]; simp [Sha.bytesOf]
              have hlget : ∀ i, i < 32 → l[i]? = some (UInt8.ofNat ((S.list.getD (i / 4) 0).toNat >>> (24 - i % 4 * 8))) := fun i hi => by rw [hld]; simp [Sha.bytesOf, hi]
              have Hlget := hid hlget
              have hkw0 := hid (Hk0.out.trans (Hk3.out.trans hkw.out))
              have hresW := hid (hkw.out.at (Hk3.out.at Hres.out (by simp)) (by simp))
              have hghl : gh < wr.heap.size := World.block_lt_of_cell? wr _ (hh.out.2 0 (U S.a) rfl)
              have hnewr := hid (show (wr.alloc (.cells Z 24)).heap[wr.heap.size]? = some (.cells Z 24 (0, 0)) from heap_alloc_at rfl)
              have hzs : Z.size = 32 := by rw [HZ.out]; simp
              have hsz := hid (show (Tryd.prog.info? 24).map (·.size) = some Z.size by rw [hzs]; kernel_rfl)
              have hone := hid (show Z.all (·.oneCell') = true by
                rw [HZ.out, Array.all_eq_true_iff_forall_mem]
                intro u hu
                exact B_one (List.replicate 32 0) u (by simpa using hu))
              have H0 : Hid (IdRel w gh wr.heap.size S l 0 (wr.alloc (.cells Z 24))) := hid
                ⟨hh.out.1, hghl, hkw0.out.alloc _, heap_alloc_old hresW.out, fun j hj => (((Kept.refl [] wr).alloc _).cell (p := ⟨gh, j, none⟩) hghl (by simp)).trans (hh.out.2 j _ (by
                  rcases j with _ | _ | _ | _ | _ | _ | _ | _ | j <;> first | rfl | omega)), by rw [show iL l 0 = List.replicate 32 0 by simp [iL], ← HZ.out]; exact heap_alloc_at rfl⟩
              clear hS hld hlget hh hkw hresW hzs hltN hk'
              go_wp2_with (refine wpList_store_row rfl 24 (.tmp 10) (.tmp 63) rfl wr.heap.size Z rfl (by rw [HZ.out]; rfl) _ _ (heap_alloc_at rfl) hsz.out (by rw [HZ.out]; rfl) hone.out ?_)
              rw [World.setRow_alloc_new]
              obtain ⟨W9, hW9⟩ : ∃ W, W = wr.alloc (.cells Z 24) := ⟨_, rfl⟩
              obtain ⟨r, hrr⟩ : ∃ r, r = wr.heap.size := ⟨_, rfl⟩
              rw [← hW9, ← hrr] at H0 ⊢
              clear hW9 hnewr hrr hghl
              go_loopw [11] (fun j wr => ∃ i : Nat, i ≤ 32 ∧ j = .int .i64 i ∧ Hid (IdRel w gh r S l i wr)) (fun j _ => 32 - (intOf j).toNat)
              case atStart => exact ⟨0, by omega, rfl, H0⟩
              case round =>
                clear H0
                obtain ⟨i, hi, rfl, hr⟩ := hrel
                by_cases hlt : i < 32
                · obtain ⟨_, _, _, _, hst, hid5⟩ := hr.out
                  have gs := hst (i / 4) (by omega)
                  obtain ⟨x, hx⟩ : ∃ x, x = S.list.getD (i / 4) 0 := ⟨_, rfl⟩
                  rw [← hx] at gs
                  have hget := hid (show l[i]? = some (UInt8.ofNat (x.toNat >>> (24 - i % 4 * 8))) by rw [hx]; exact Hlget.out i hlt)
                  have hr2 := hid (hr.out.step hll hlt _ hget.out)
                  rw [B_ofNat] at hr2
                  obtain ⟨v, gx⟩ : ∃ v, wr.cell? ⟨r, i, none⟩ = some v := ⟨((iL l i).map B).toArray[i]'(by simp [iL_len l i hll hi]; omega), (cell_of_row wr _ _ _ _ _ hid5).trans (Array.getElem?_eq_getElem _)⟩
                  have gf := frozen_of_row wr _ i _ _ hid5
                  obtain ⟨sh, hsh⟩ : ∃ sh, sh = 24 - i % 4 * 8 := ⟨_, rfl⟩
                  have hdiv := hid (show (x.toNat : Int) / 2 ^ sh = ((x.toNat >>> sh : Nat) : Int) by
                    rw [Nat.shiftRight_eq_div_pow, show (2 : Int) ^ sh = ((2 ^ sh : Nat) : Int) by simp]
                    exact (Int.natCast_ediv _ _).symm)
                  have k0 : (0 : Int) ≤ (i : Int) / 4 := by omega
                  have k1 : (i : Int) / 4 < 8 := by omega
                  have k2 : ((i : Int) / 4).toNat = i / 4 := by omega
                  have k3 : (0 : Int) ≤ 24 - 8 * ((i : Int) % 4) := by omega
                  have k4 : 24 - 8 * ((i : Int) % 4) ≤ 32 := by omega
                  have k5 : (24 - 8 * ((i : Int) % 4)).toNat = sh := by omega
                  have hr3 := hr2.out
                  rw [← hsh] at hr3
                  have Hr3 := hid hr3
                  clear hst hid5 hx hsh hr hr2 hr3 hget
                  go_wp2_with fail
                  rw [hdiv.out]
                  exact ⟨⟨i + 1, by omega, by go_num, Hr3⟩, by simp [intOf]; omega⟩
                · obtain rfl : i = 32 := by omega
                  obtain ⟨hq3, hr3, hk9, hres9, -, hids⟩ := hr.out
                  rw [iL_all l hll] at hids
                  obtain ⟨cs, hcs⟩ : ∃ cs, cs = (l.map B).toArray := ⟨_, rfl⟩
                  rw [← hcs] at hids
                  have hsz9 : cs.size = 32 := by rw [hcs]; simp [hll]
                  have Hsz9 := hid (show (Tryd.prog.info? 24).map (·.size) = some cs.size by rw [hsz9]; kernel_rfl)
                  have Hold9 := hid (show ((List.replicate 32 (0 : UInt8)).map B).toArray.size = cs.size by rw [hsz9]; simp)
                  have Hone9 := hid (show cs.all (·.oneCell') = true by
                    rw [hcs, Array.all_eq_true_iff_forall_mem]
                    intro u hu
                    exact B_one l u (by simpa using hu))
                  have Hcs := hid (show cs = ((Sha.sum ys).map B).toArray by rw [hcs, hsum.out])
                  have Hids := hid hids; have Hres9 := hid hres9; have Hk9 := hid hk9
                  clear hids hres9 hk9 hcs hsz9 hr
                  go_wp2_with (first
                    | (refine wpList_load_row rfl 24 (.tmp 10) rfl r rfl _ _ _ _ Hids.out Tryd.underlying24 rfl Hsz9.out ?_)
                    | (refine wpList_store_row rfl 24 (.tmp 2) (.tmp 81) rfl w.heap.size cs rfl rfl _ _ Hres9.out Hsz9.out Hold9.out Hone9.out ?_))
                  refine bodyPost_ret (v := .agg cs) (results_cell_row Tryd.results8 _ _ w.heap.size _ _ _ _ rfl (setRow_heap _ _ _ _ _ _ Hres9.out) Tryd.underlying24 rfl Hsz9.out) rfl ⟨by rw [Hcs.out], Hk9.out.setRow (fun h => absurd h (by omega)) _⟩
end Go.Proofs.YtieaolnnlfaagaaDoor
