import Derived.Test.YtcdbgijbfppmoaaDoorH8
import Derived.Deep.RegionLaw
import Derived.OpenShut

/- sha.Text. -/
namespace Go.Proofs.YtcdbgijbfppmoaaDoor
open Go.RowKit Go.Lib

/-- What has been written of a sum's digits. -/
def TxRel (w : World) (l : List UInt8) (i : Nat) (v : Value) (wr : World) : Prop :=
  Kept [] w wr ∧ wr.ownsRow w.heap.size 5 1 v (hexOf (l.take i)).length ((hexOf (l.take i)).map B)

theorem text_bytes (w : World) (x : Addr) (c : Nat) (ys : List UInt8) (hc : ∀ (j : Nat) u, (ys.map B)[j]? = some u → w.cell? (x.add j) = some u) :
    (convert 23 9 (.slice (some x) ys.length c)).run Tryd.prog w = .ok (.string ⟨ys.toArray⟩) w := by
  have hl : (loadCells x ys.length).run Tryd.prog w = .ok ((ys.map fun y => (y.toNat : Int)).map (Value.int .u8)).toArray w := by
    have := run_loadCells_list (P := Tryd.prog) w x (ys.map B) hc
    have eB : (ys.map fun y => (y.toNat : Int)).map (Value.int .u8) = ys.map B := by rw [List.map_map]; rfl
    rw [eB]
    simpa using this
  rw [run_convert_bytes_string w _ _ _ _ ys.length c Tryd.underlying23 Tryd.underlying5 Tryd.underlying9, run_bytesToString w _ ys.length c _ hl, foldl_push_bytes]
  have e : (ys.map fun y => (y.toNat : Int)).map (fun n => UInt8.ofNat n.toNat) = ys := by
    rw [List.map_map]
    conv => rhs; rw [← List.map_id ys]
    apply List.map_congr_left
    intro y _
    simp
  rw [e]
  simp [ByteArray.empty, ByteArray.emptyWithCapacity]
  rfl

theorem make_64 (W : World) : (Instr.makeSlice 23 (.int .i64 0) (.int .i64 64)).run Tryd.prog W = .ok (.slice (some ⟨W.heap.size, 0, none⟩) 0 64) (W.alloc (.cells (List.replicate 64 (B 0)).toArray 5)) := by
  obtain ⟨i0, hi0, hz0, hz1, hz2⟩ := info_parts sha_info_u8
  have := run_makeSlice (P := Tryd.prog) W 23 5 i0 (.int .u8 0) Tryd.underlying23 hi0 hz0 .i64 .i64 0 64 (by omega) (by omega) (by rw [hz1]; decide) (by rw [hz2]; omega) (by omega)
  rw [this]
  have e : ∀ n, madeCells (Value.int .u8 0).cells n = (List.replicate n (B 0)).toArray := fun n => by
    apply Array.ext
    · simp [madeCells, Value.cells]
    · intro j h1 h2
      simp [madeCells, Value.cells, B, Nat.mod_one]
  rw [e, hz1]
  rfl

theorem tx_next {w wr w2 : World} {l : List UInt8} {i g c c2 : Nat} {b2 : Option Addr} {x y : UInt8} {o : Obj} (hk0 : Kept [] w wr) (ho0 : wr.ownsRow w.heap.size 5 1 (.slice (some ⟨g, 0, none⟩) (2 * i) c) (2 * i) ((hexOf (l.take i)).map B))
    (hown2 : w2.ownsRow w.heap.size 5 1 (.slice b2 (2 * i + 2) c2) (2 * i + 2) ((hexOf (l.take i)).map B ++ [B x, B y])) (hgrow : (wr.alloc o).drew.grownBy w2 (Value.slice (some ⟨g, 0, none⟩) (2 * i) c).ownBlock)
    (hsn : hexOf (l.take (i + 1)) = hexOf (l.take i) ++ [x, y]) (hlen : (hexOf (l.take (i + 1))).length = 2 * i + 2) : ∃ g2, b2 = some ⟨g2, 0, none⟩ ∧ TxRel w l (i + 1) (.slice (some ⟨g2, 0, none⟩) (hexOf (l.take (i + 1))).length c2) w2 := by
  have hg : w.heap.size ≤ g := by
    rcases ho0.2 with ⟨h1, _⟩ | ⟨g', _, _, h1, h2, _⟩
    · simp at h1
    · simp at h1; omega
  obtain ⟨g2, hb2⟩ : ∃ g2, b2 = some ⟨g2, 0, none⟩ := by
    rcases hown2.2 with ⟨h1, h2⟩ | ⟨g', _, _, h1, h2, _⟩
    · omega
    · simp at h1; exact ⟨g', h1.1⟩
  subst hb2
  refine ⟨g2, rfl, ((hk0.alloc o).drew.trans' (Kept.of_row hgrow) (fun x hx hm => by simp [Value.ownBlock] at hm; omega)), ?_⟩
  rw [hlen, hsn, List.map_append]
  exact hown2

theorem two_cells (w : World) (u v : Value) : ∀ (j : Nat) (x : Value), [u, v][j]? = some x → (w.drew.alloc (.cells #[u, v] 5)).cell? ((⟨w.heap.size, 0, none⟩ : Addr).add j) = some x := by
  intro j x hj
  rw [plain_add, Nat.zero_add, cell_of_row _ _ _ _ _ _ (heap_alloc_at (by rfl))]
  rcases j with _ | _ | j
  · simpa using hj
  · simpa using hj
  · simp at hj

set_option maxRecDepth 100000 in
set_option maxHeartbeats 1000000 in
theorem sha_text_any (l : List UInt8) (hl : l.length = 32) (w : World) :
    Calls Tryd.prog 53 #[.agg (l.map B).toArray] w fun e w' => e = .returned (.string ⟨(hexOf l).toArray⟩) ∧ Kept [] w w' := by
  have hs0 : (l.map B).toArray.size = 32 := by simp [hl]
  have hsz := hid (show (Tryd.prog.info? 40).map (·.size) = some (l.map B).toArray.size by rw [hs0]; kernel_rfl)
  have hmk := make_64
  obtain ⟨Z, hZ⟩ : ∃ Z, Z = (List.replicate 64 (B 0)).toArray := ⟨_, rfl⟩
  have hZs : Z.size = 64 := by rw [hZ]; simp
  rw [← hZ] at hmk
  obtain ⟨wb, hwb⟩ : ∃ wb, wb = (w.alloc (.cells (l.map B).toArray 40)).alloc (.cells Z 5) := ⟨_, rfl⟩
  have hk := hid (show Kept [] w wb by rw [hwb]; exact ((Kept.refl _ _).alloc _).alloc _)
  have hb := hid (show wb.heap[w.heap.size]? = some (.cells (l.map B).toArray 40 (0, 0)) by rw [hwb]; exact heap_alloc_old (heap_alloc_at rfl))
  have h0 := hid (show TxRel w l 0 (.slice (some ⟨w.heap.size + 1, 0, none⟩) 0 64) wb from ⟨hk.out, by
    refine ⟨by simp [hexOf], Or.inr ⟨w.heap.size + 1, 64, Z, rfl, by omega, by rw [hwb]; exact heap_alloc_at (by simp), by simp [hexOf], by simp [maxLen], by simp [hZs], by simp [hexOf]⟩⟩⟩)
  have HW := hid hwb
  clear hZ hwb hs0
  go_enter Tryd.func53, Tryd.ntmps53
  have hbb := hid (show ((w.alloc (.cells (l.map B).toArray 40)).alloc (.cells Z 5)).heap[w.heap.size]? = some (.cells (l.map B).toArray 40 (0, 0)) from heap_alloc_old (heap_alloc_at rfl))
  go_wp2_with (refine wpList_load_row rfl 40 (.tmp 1) rfl w.heap.size rfl _ _ _ _ hbb.out Tryd.underlying40 rfl hsz.out ?_)
  rw [← HW.out]
  clear HW hbb hb hmk
  obtain ⟨i0, hi0, hz0, hz1, hz2⟩ := info_parts sha_info_u8
  go_loopw [3, 8] (fun v j wr => ∃ (i : Nat) (g c : Nat), i ≤ 32 ∧ j = .int .i64 i ∧ v = .slice (some ⟨g, 0, none⟩) (hexOf (l.take i)).length c ∧ Hid (TxRel w l i (.slice (some ⟨g, 0, none⟩) (hexOf (l.take i)).length c) wr)) (fun _ j _ => 32 - (intOf j).toNat)
  case atStart => exact ⟨0, w.heap.size + 1, 64, by omega, rfl, by simp [hexOf], by simpa [hexOf] using h0⟩
  case round =>
    clear h0 hk
    obtain ⟨i, g, c, hi, rfl, rfl, hr⟩ := hrel
    by_cases hlt : i < 32
    · obtain ⟨b, hb⟩ : ∃ b, l[i]? = some b := ⟨l[i]'(by omega), by simp⟩
      have hix := fun W => id_index l hl i hlt b hb W
      have hsn := hid (show hexOf (l.take (i + 1)) = hexOf (l.take i) ++ [hexd (b.toNat / 16), hexd (b.toNat % 16)] by
        have hi' : i < l.length := by omega
        have hb' : l[i] = b := by simpa [hi'] using hb
        rw [List.take_succ_eq_append_getElem hi', hexOf_snoc, hb'])
      have hlen := hexOf_len (l.take i)
      have hlt2 : (l.take i).length = i := by simp; omega
      rw [hlt2] at hlen
      rw [hlen] at hr ⊢
      have b256 := b.toNat_lt
      obtain ⟨n, hn⟩ : ∃ n, n = b.toNat := ⟨_, rfl⟩
      rw [← hn] at hix hsn b256
      have hand : bits .and .u8 (n : Int) 15 = (n : Int) % 16 := by rw [u8_and15 _ (by omega) (by omega)]
      have hdv : (n : Int) / 16 = ((n / 16 : Nat) : Int) := by omega
      have hx1 := fun W => hex_index (n / 16) (by omega) W
      have hx2 := fun W => hex_index (n % 16) (by omega) W
      rw [← hdv] at hx1
      have hmd : (n : Int) % 16 = ((n % 16 : Nat) : Int) := by omega
      rw [← hmd] at hx2
      have Hlen := hid hlen
      clear hn hb hlen hlt2 hdv hmd
      have hk0 := hid hr.out.1
      have ho0 := hid (show wr.ownsRow w.heap.size 5 1 (.slice (some ⟨g, 0, none⟩) (2 * i) c) (2 * i) ((hexOf (l.take i)).map B) from by have := hr.out.2; rw [Hlen.out] at this; exact this)
      have hz := hk0.out.size
      clear hr
      go_wp2_with fail
      go_region_law
        ((first
          | (refine step_append_src rfl (.tmp 11) (.tmp 18) 23 rfl w.heap.size 5 i0 (.int .u8 0) 1 Tryd.underlying23 hi0 hz0 hz1 hz2 rfl (.slice (some ⟨g, 0, none⟩) (2 * i) c) (2 * i) ((hexOf (l.take i)).map B) rfl
              (((Kept.of_drew [] wr).alloc (.cells #[.int .u8 ((hexd (n / 16)).toNat : Int), .int .u8 ((hexd (n % 16)).toNat : Int)] 5)).owns ho0.out (by simp))
              (.slice (some ⟨wr.heap.size, 0, none⟩) 2 2) 2 [B (hexd (n / 16)), B (hexd (n % 16))] rfl (Or.inr ⟨⟨wr.heap.size, 0, none⟩, 2, rfl, two_cells _ _ _⟩) rfl (by simp [B, Value.oneCell']) (by unfold maxLen; omega) (by omega) (by simp; omega) ?_
             intro b2 c2 w2 hown2 hgrow hf2)))
      all_goals
        have hlen2 : (hexOf (l.take (i + 1))).length = 2 * i + 2 := by rw [hsn.out, List.length_append, Hlen.out]; rfl
        obtain ⟨g2, rfl, hrel2⟩ := tx_next hk0.out ho0.out hown2 hgrow hsn.out hlen2
        have Hrel2 := hid hrel2
        have Hlen2 := hid hlen2
        clear hown2 hgrow hf2 hrel2 hlen2 hx1 hx2 hix hand
        go_wp2_with fail
        go_roundw
        case rel => exact ⟨i + 1, g2, c2, by omega, by go_num, by rw [Hlen2.out], Hrel2⟩
        case measure => simp [intOf]; omega
    · obtain rfl : i = 32 := by omega
      obtain ⟨hk, ho⟩ := hr.out
      rw [List.take_of_length_le (by omega)] at ho ⊢
      have hconv := text_bytes wr ⟨g, 0, none⟩ c (hexOf l) (ho.cells (g := g) rfl)
      have Hk := hid hk
      have Ho := hid ho
      clear ho hk hr
      go_wp2_with fail
      go_ret
      exact ⟨rfl, Hk.out⟩
end Go.Proofs.YtcdbgijbfppmoaaDoor
