/- coldstoreref03.Text. -/
import Derived.Test.YtieaolnnlfaagaaDoorK3
namespace Go.Proofs.YtieaolnnlfaagaaDoor
open Go.RowKit Go.Lib

theorem plain0 (g j : Nat) : (⟨g, 0, none⟩ : Addr).add j = ⟨g, j, none⟩ := by unfold Addr.add; split <;> simp_all
theorem two_cells' (w : World) (a b : Value) (t : TypeId) (j : Nat) (u : Value) (hj : [a, b][j]? = some u) : (w.alloc (.cells #[a, b] t)).cell? ((⟨w.heap.size, 0, none⟩ : Addr).add j) = some u := by
  rw [plain0, cell_of_row _ _ _ _ _ _ (heap_alloc_at rfl)]
  rcases j with _ | _ | j
  · simpa using hj
  · simpa using hj
  · simp at hj
set_option maxRecDepth 100000 in
set_option maxHeartbeats 1000000 in
theorem reftext_any (l : List UInt8) (hl : l.length = 32) (w : World) :
    Calls Tryd.prog 12 #[.agg (l.map B).toArray] w fun e w' => e = .returned (.string ⟨(hexOf l).toArray⟩) ∧ Kept [] w w' := by
  obtain ⟨X, hX⟩ : ∃ X, X = (l.map B).toArray := ⟨_, rfl⟩
  have HX := hid hX
  have hXs : X.size = 32 := by rw [hX]; simp [hl]
  rw [← hX]
  clear hX
  obtain ⟨i0, hi0, hz0, hz1, hz2⟩ := info_parts info_u8
  go_enter Tryd.func12, Tryd.ntmps12
  go_wp2_with fail
  have h0 : Hid (RowV w (w.heap.size + 1) 5 (.slice (some ⟨w.heap.size + 1, 0, none⟩) 0 0) ((hexOf (l.take 0)).map B) ((w.alloc (.cells X 24)).alloc (.cells #[] 5))) := hid (by
    have := RowV.fresh 5 ((Kept.refl [] w).alloc (.cells X 24))
    simpa [hexOf] using this)
  have hA0 : Hid (∀ (j : Nat) u, (l.map B)[j]? = some u → ((w.alloc (.cells X 24)).alloc (.cells #[] 5)).cell? ⟨w.heap.size, j, none⟩ = some u) := hid (fun j u hj => by
    rw [cell_of_row _ _ _ _ _ _ (heap_alloc_old (heap_alloc_at rfl)), HX.out]; simpa using hj)
  go_loopw [3, 4] (fun v j wr => ∃ i : Nat, i ≤ 32 ∧ j = .int .i64 i ∧ Hid (RowV w (w.heap.size + 1) 5 v ((hexOf (l.take i)).map B) wr) ∧ Hid (∀ (j : Nat) u, (l.map B)[j]? = some u → wr.cell? ⟨w.heap.size, j, none⟩ = some u)) (fun _ j _ => 32 - (intOf j).toNat)
  case atStart => exact ⟨0, by omega, rfl, h0, hA0⟩
  case round =>
    clear h0 hA0
    obtain ⟨i, hi, rfl, HO, HA⟩ := hrel
    have hol : ((hexOf (l.take i)).map B).length = 2 * i := by rw [List.length_map, hexOf_len]; simp; omega
    obtain ⟨ao, co, rfl⟩ := owns_slice HO.out.2.2.2
    rw [hol] at HO ⊢
    by_cases hlt : i < 32
    · obtain ⟨b, hb⟩ : ∃ b, l[i]? = some b := ⟨l[i]'(by omega), by simp⟩
      have b256 := b.toNat_lt
      obtain ⟨n, hn⟩ : ∃ n, n = b.toNat := ⟨_, rfl⟩
      have hbl : ∀ v, KG w w.heap.size (l.map B) v → v.cell? ⟨w.heap.size, i, none⟩ = some (.int .u8 (n : Int)) := fun v hv => by
        rw [hn]; exact hv.2 i _ (by simp [hb, B])
      rw [← hn] at b256
      obtain ⟨d1, hd1⟩ : ∃ d, d = (hexd (n / 16)).toNat := ⟨_, rfl⟩
      obtain ⟨d2, hd2⟩ : ∃ d, d = (hexd (n % 16)).toNat := ⟨_, rfl⟩
      have hV1 : Value.int .u8 (d1 : Int) = B (hexd (n / 16)) := by rw [hd1]; rfl
      have hV2 : Value.int .u8 (d2 : Int) = B (hexd (n % 16)) := by rw [hd2]; rfl
      have L1 := hid (fun W => letter_any (n / 16) (by omega) W)
      have L2 := hid (fun W => letter_any (n % 16) (by omega) W)
      rw [← hV1] at L1; rw [← hV2] at L2
      rw [show ((n / 16 : Nat) : Int) = (n : Int) / 16 by omega] at L1
      rw [show ((n % 16 : Nat) : Int) = (n : Int) % 16 by omega] at L2
      have Hsn := hid (show (hexOf (l.take (i + 1))).map B = (hexOf (l.take i)).map B ++ [.int .u8 (d1 : Int), .int .u8 (d2 : Int)] by
        have hi' : i < l.length := by omega
        have hb' : l[i] = b := by simpa [hi'] using hb
        rw [List.take_succ_eq_append_getElem hi', hexOf_snoc, hb', ← hn, hV1, hV2]; simp)
      have hVo : (Value.int .u8 (d1 : Int)).oneCell' = true ∧ (Value.int .u8 (d2 : Int)).oneCell' = true := ⟨rfl, rfl⟩
      have HVo := hid hVo
      have i0' : (0 : Int) ≤ (i : Int) := by omega
      have i32' : (i : Int) < 32 := by omega
      have td : ((n : Int)).tdiv 16 = (n : Int) / 16 := by rw [Int.tdiv_eq_ediv_of_nonneg (by omega)]
      have tm : ((n : Int)).tmod 16 = (n : Int) % 16 := by rw [Int.tmod_eq_emod_of_nonneg (by omega)]
      have wd : IntKind.u8.wrap ((n : Int) / 16) = (n : Int) / 16 := by rw [IntKind.wrap_u8]; omega
      have wm : IntKind.u8.wrap ((n : Int) % 16) = (n : Int) % 16 := by rw [IntKind.wrap_u8]; omega
      have Hown := hid (((Kept.of_drew [] wr).alloc (.cells #[.int .u8 (d1 : Int), .int .u8 (d2 : Int)] 5)).owns (by have := HO.out.2.2.2; rwa [hol] at this) (by simp))
      clear hn hb hV1 hV2 hVo hd1 hd2
      go_wp2_with fail
      refine wp_region_held_drew (S := KG w w.heap.size (l.map B)) (by kernel_rfl) ⟨HO.out.1.drew, HA.out⟩ (fun hH => ?_)
      refine takeH 0 (.slice ao (2 * i) co) rfl (by kernel_rfl) (by kernel_rfl) (by kernel_rfl) (fun _ _ _ h => h) (by rfl) (fun v hSw => by go_simp) hH ?_
      simp only [Act.put, List.setIfInBounds_toArray, List.set_cons_succ, List.set_cons_zero]
      refine takeH 1 (.int .i64 (i : Int)) rfl (by kernel_rfl) (by kernel_rfl) (by kernel_rfl) (fun _ _ _ h => h) (by rfl) (fun v hSw => by go_simp) hH ?_
      simp only [Act.put, List.setIfInBounds_toArray, List.set_cons_succ, List.set_cons_zero]
      refine takeH 2 (Value.pointer (some ⟨w.heap.size, i, none⟩)) rfl (by kernel_rfl) (by kernel_rfl) (by kernel_rfl) (fun _ _ _ h => h) (by rfl) (fun v hSw => by go_simp) hH ?_
      simp only [Act.put, List.setIfInBounds_toArray, List.set_cons_succ, List.set_cons_zero]
      refine takeH 3 (.int .u8 (n : Int)) rfl (by kernel_rfl) (by kernel_rfl) (by kernel_rfl) (fun _ _ _ h => h) (by rfl) (fun v hSw => by have g := hbl v hSw; go_simp) hH ?_
      simp only [Act.put, List.setIfInBounds_toArray, List.set_cons_succ, List.set_cons_zero]
      refine takeH 4 (.int .u8 ((n : Int) / 16)) rfl (by kernel_rfl) (by kernel_rfl) (by kernel_rfl) (fun _ _ _ h => h) (by rfl) (fun v hSw => by go_simp) hH ?_
      simp only [Act.put, List.setIfInBounds_toArray, List.set_cons_succ, List.set_cons_zero]
      refine takeH 6 (.int .i64 (i : Int)) rfl (by kernel_rfl) (by kernel_rfl) (by kernel_rfl) (fun _ _ _ h => h) (by rfl) (fun v hSw => by go_simp) hH ?_
      simp only [Act.put, List.setIfInBounds_toArray, List.set_cons_succ, List.set_cons_zero]
      refine takeH 7 (Value.pointer (some ⟨w.heap.size, i, none⟩)) rfl (by kernel_rfl) (by kernel_rfl) (by kernel_rfl) (fun _ _ _ h => h) (by rfl) (fun v hSw => by go_simp) hH ?_
      simp only [Act.put, List.setIfInBounds_toArray, List.set_cons_succ, List.set_cons_zero]
      refine takeH 8 (.int .u8 (n : Int)) rfl (by kernel_rfl) (by kernel_rfl) (by kernel_rfl) (fun _ _ _ h => h) (by rfl) (fun v hSw => by have g := hbl v hSw; go_simp) hH ?_
      simp only [Act.put, List.setIfInBounds_toArray, List.set_cons_succ, List.set_cons_zero]
      refine takeH 9 (.int .u8 ((n : Int) % 16)) rfl (by kernel_rfl) (by kernel_rfl) (by kernel_rfl) (fun _ _ _ h => h) (by rfl) (fun v hSw => by go_simp) hH ?_
      simp only [Act.put, List.setIfInBounds_toArray, List.set_cons_succ, List.set_cons_zero]
      refine callR 5 rfl (by kernel_rfl) (by rfl) 21 #[.int .u8 ((n : Int) / 16)] (by go_simp) ((.int .u8 (d1 : Int))) (fun v => wr.drew = v) (fun v h => h ▸ hH) (L1.out _) ?_
      rintro _ rfl
      simp only [Act.put, List.setIfInBounds_toArray, List.set_cons_succ, List.set_cons_zero]
      refine callR 10 rfl (by kernel_rfl) (by rfl) 21 #[.int .u8 ((n : Int) % 16)] (by go_simp) ((.int .u8 (d2 : Int))) (fun v => wr.drew = v) (fun v h => h ▸ hH) (L2.out _) ?_
      rintro _ rfl
      simp only [Act.put, List.setIfInBounds_toArray, List.set_cons_succ, List.set_cons_zero]
      refine runH 11 rfl (by kernel_rfl) (by rfl) (.slice (some ⟨wr.heap.size, 0, none⟩) 2 2) (wr.drew.alloc (.cells #[.int .u8 (d1 : Int), .int .u8 (d2 : Int)] 5)) (by go_simp) ⟨HO.out.1.drew.alloc _, fun j u hj => (((Kept.of_drew [] wr).alloc (.cells #[.int .u8 (d1 : Int), .int .u8 (d2 : Int)] 5)).cell (p := ⟨w.heap.size, j, none⟩) (World.block_lt_of_cell? wr _ (HA.out j u hj)) (by simp)).trans (HA.out j u hj)⟩ ?_
      simp only [Act.put, List.setIfInBounds_toArray, List.set_cons_succ, List.set_cons_zero]
      refine appendH 12 rfl (by kernel_rfl) rfl (.tmp 10) (.tmp 21) 22 rfl (w.heap.size + 1) 5 i0 _ 1 Tryd.underlying22 hi0 hz0 hz1 hz2 rfl (.slice ao (2 * i) co) (2 * i) ((hexOf (l.take i)).map B) rfl Hown.out ⟨wr.heap.size, 0, none⟩ 2 2 [.int .u8 (d1 : Int), .int .u8 (d2 : Int)] rfl (two_cells' wr.drew (.int .u8 (d1 : Int)) (.int .u8 (d2 : Int)) _) rfl (by intro u hu; simp at hu; rcases hu with rfl | rfl; exact HVo.out.1; exact HVo.out.2) (by unfold maxLen; omega) (by omega) (by have := HO.out.2.2.1; simp; omega) ?_
      intro a8 c8 w8 hown2 hgrow2 _
      have hk8 := (HO.out.next ((Kept.of_drew [] wr).alloc (.cells #[.int .u8 (d1 : Int), .int .u8 (d2 : Int)] 5))).kept_of hgrow2
      have hA8 : ∀ (j : Nat) u, (l.map B)[j]? = some u → w8.cell? ⟨w.heap.size, j, none⟩ = some u := fun j u hj => by
        have h1 := (((Kept.of_drew [] wr).alloc (.cells #[.int .u8 (d1 : Int), .int .u8 (d2 : Int)] 5)).cell (p := ⟨w.heap.size, j, none⟩) (World.block_lt_of_cell? wr _ (HA.out j u hj)) (by simp)).trans (HA.out j u hj)
        refine Eq.trans ?_ h1
        unfold World.cell?
        rw [hgrow2.block w.heap.size (Nat.lt_of_lt_of_le (World.block_lt_of_cell? wr _ (HA.out j u hj)) (by simp)) (fun e => by
          rcases Hown.out.2 with ⟨h0, _⟩ | ⟨g', _, _, h0, hb', _⟩
          · rw [h0] at e; simp [Value.ownBlock] at e
          · rw [h0] at e; simp [Value.ownBlock] at e; omega)]
      have hH8 : KG w w.heap.size (l.map B) w8 := ⟨hk8, hA8⟩
      refine ⟨hH8, ?_⟩
      simp only [Act.put, List.setIfInBounds_toArray, List.set_cons_succ, List.set_cons_zero]
      have hstep := hid (show RowV w (w.heap.size + 1) 5 (.slice a8 (2 * i + 2) c8) ((hexOf (l.take (i + 1))).map B) w8 from by
        rw [Hsn.out]
        exact HO.out.step ((Kept.of_drew [] wr).alloc (.cells #[.int .u8 (d1 : Int), .int .u8 (d2 : Int)] 5)) (by rw [List.length_append, hol]; simpa using hown2) hgrow2)
      clear hown2 hgrow2 hk8 Hown
      refine takeH 13 (.slice a8 (2 * i + 2) c8) rfl (by kernel_rfl) (by kernel_rfl) (by kernel_rfl) (fun _ _ _ h => h) (by rfl) (fun v hSw => by go_simp) hH8 ?_
      simp only [Act.put, List.setIfInBounds_toArray, List.set_cons_succ, List.set_cons_zero]
      refine wpAnyH_done (by kernel_rfl) ?_ _
      clear td tm wd wm hbl
      go_wp2_with fail
      exact ⟨⟨i + 1, by omega, by go_num, hstep, hid hA8⟩, by simp [intOf]; omega⟩
    · obtain rfl : i = 32 := by omega
      have hO := HO.out
      rw [List.take_of_length_le (by omega)] at hO
      have hl64 : ((hexOf l).map B).length = 64 := by rw [List.length_map, hexOf_len, hl]
      obtain ⟨g9, c9, hv, hg9, hl9, hc9⟩ := hO.slice (by intro e; rw [e] at hl64; simp at hl64)
      rw [hl64] at hv
      obtain ⟨rfl, rfl⟩ : ao = some ⟨g9, 0, none⟩ ∧ co = c9 := by simpa using hv
      have hconv := text_bytes wr ⟨g9, 0, none⟩ co (hexOf l) (fun j u hj => by rw [plain0]; exact hc9 j u hj)
      rw [show (hexOf l).length = 64 by rw [hexOf_len, hl]] at hconv
      have hk := hid hO.1
      clear hO HO HA hg9 hl9 hc9 hol hv
      go_wp2_with fail
      go_ret
      exact ⟨rfl, hk.out⟩
end Go.Proofs.YtieaolnnlfaagaaDoor
