/- coldstoreref03.mix: a state behind a block. -/
import Derived.Test.YtieaolnnlfaagaaDoorKH
namespace Go.Proofs.YtieaolnnlfaagaaDoor
open Go.RowKit Go.Lib


theorem plain0 (g j : Nat) : (⟨g, 0, none⟩ : Addr).add j = ⟨g, j, none⟩ := by unfold Addr.add; split <;> simp_all
theorem choice_sp (e f g : Sha.W) : bits .or .u32 (bits .and .u32 (e.toNat : Int) (f.toNat : Int)) (bits .and .u32 (bits .xor .u32 IntKind.u32.max (e.toNat : Int)) (g.toNat : Int)) = ((Sha.choice e f g).toNat : Int) := by
  rw [not_bv, and_bv, and_bv, or_bv, choice_or]
theorem major_sp (a b c : Sha.W) : bits .or .u32 (bits .or .u32 (bits .and .u32 (a.toNat : Int) (b.toNat : Int)) (bits .and .u32 (a.toNat : Int) (c.toNat : Int))) (bits .and .u32 (b.toNat : Int) (c.toNat : Int)) = ((Sha.major a b c).toNat : Int) := by
  rw [and_bv, and_bv, and_bv, or_bv, or_bv, major_or]
theorem sum1_sp (h e c k w : Sha.W) : ((((((h.toNat : Int) + bits .xor .u32 (bits .xor .u32 ((Sha.rotr e 6).toNat : Int) ((Sha.rotr e 11).toNat : Int)) ((Sha.rotr e 25).toNat : Int)) % 4294967296 + (c.toNat : Int)) % 4294967296 + (k.toNat : Int)) % 4294967296) + (w.toNat : Int)) % 4294967296 = ((h + Sha.sig e 6 11 25 + c + k + w).toNat : Int) := by
  rw [xor_bv, xor_bv, add_bv, add_bv, add_bv, add_bv]; rfl
theorem sum2_sp (a m : Sha.W) : (bits .xor .u32 (bits .xor .u32 ((Sha.rotr a 2).toNat : Int) ((Sha.rotr a 13).toNat : Int)) ((Sha.rotr a 22).toNat : Int) + (m.toNat : Int)) % 4294967296 = ((Sha.sig a 2 13 22 + m).toNat : Int) := by
  rw [xor_bv, xor_bv, add_bv]; rfl
/-- The words stand in the row gw. -/
def SrcW (w : World) (gw : Nat) (ws : List Sha.W) (v : World) : Prop := ∀ (j : Nat) u, (uL32 ws)[j]? = some u → v.cell? ⟨gw, j, none⟩ = some u
theorem SrcW.next {w v v' : World} {gw : Nat} {ws : List Sha.W} (h : SrcW w gw ws v) (hk : Kept [] v v') : SrcW w gw ws v' := fun j u hj =>
  (hk.cell (p := ⟨gw, j, none⟩) (World.block_lt_of_cell? v _ (h j u hj)) (by simp)).trans (h j u hj)
/-- A round's state: the words, and the eight words of the state in block ga. -/
def Rn (w : World) (gw : Nat) (ws : List Sha.W) (ga : Nat) (t : Sha.St) (v : World) : Prop :=
  Kept [] w v ∧ SrcW w gw ws v ∧ (∀ (j : Nat) u, (stL t)[j]? = some u → v.cell? ⟨ga, j, none⟩ = some u) ∧ w.heap.size ≤ ga
theorem Rn.next {w v v' : World} {gw ga : Nat} {ws : List Sha.W} {t : Sha.St} (h : Rn w gw ws ga t v) (hk : Kept [] v v') : Rn w gw ws ga t v' :=
  ⟨h.1.trans hk, h.2.1.next hk, fun j u hj => (hk.cell (p := ⟨ga, j, none⟩) (World.block_lt_of_cell? v _ (h.2.2.1 j u hj)) (by simp)).trans (h.2.2.1 j u hj), h.2.2.2⟩

theorem rn_right {w v : World} {gw ga : Nat} {ws : List Sha.W} {t : Sha.St} (h : Rn w gw ws ga t v) (x : Sha.W) (k : Int) (r : Sha.W) (hr : r = Sha.rotr x k.toNat) (hk : 1 ≤ k ∧ k ≤ 31) :
    Calls Tryd.prog 25 #[U x, .int .i64 k] v fun e w' => e = .returned (U r) ∧ Rn w gw ws ga t w' :=
  (right_k x k hk v).mono fun e w' ⟨he, m, hm⟩ => ⟨by rw [hr]; exact he, by rw [hm]; exact h.next ((Kept.refl [] v).drewN m)⟩

set_option maxRecDepth 100000 in
set_option maxHeartbeats 4000000 in
theorem refmix_any (s : Sha.St) (b : List UInt8) (gh ch gk ck gb ob cb : Nat) (w : World) (hb : b.length = 64)
    (hh : ∀ (j : Nat) u, (stL s)[j]? = some u → w.cell? ⟨gh, j, none⟩ = some u) (hk : ∀ i, i < 64 → w.cell? ⟨gk, i, none⟩ = some (U (Sha.kAt i))) (hbs : ∀ j, j < 64 → w.cell? ⟨gb, ob + j, none⟩ = some (B (b.getD j 0))) :
    Calls Tryd.prog 19 #[.slice (some ⟨gh, 0, none⟩) 8 ch, .slice (some ⟨gk, 0, none⟩) 64 ck, .slice (some ⟨gb, ob, none⟩) 64 cb] w fun e w' => ∃ g c, e = .returned (.slice (some ⟨g, 0, none⟩) 8 c) ∧ Kept [] w w' ∧ w.heap.size ≤ g ∧ g < w'.heap.size ∧ (∀ (j : Nat) u, (stL (Sha.mix s b))[j]? = some u → w'.cell? ⟨g, j, none⟩ = some u) := by
  obtain ⟨i0, hi0, hz0, hz1, hz2⟩ := info_parts info_u32
  have Hh := hid hh; have Hk := hid hk
  have Hbs := hid (fun v (hk : Kept [] w v) j (hj : j < 64) => show v.cell? ⟨gb, ob + j, none⟩ = some (.int .u8 ((b.getD j 0).toNat : Int)) from (hk.cell (p := ⟨gb, ob + j, none⟩) (World.block_lt_of_cell? w _ (hbs j hj)) (by simp)).trans (hbs j hj))
  clear hh hk hbs
  go_enter Tryd.func19, Tryd.ntmps19
  go_wp2_with fail
  have hfr := hid (RowV.fresh 35 (Kept.refl [] w))
  go_loopw [7, 8] (fun v s wr => ∃ i : Nat, i ≤ 64 ∧ s = .int .i64 i ∧ RowV w w.heap.size 35 v (uL32 (Sha.words b i)) wr) (fun _ s _ => 64 - (intOf s).toNat)
  case atStart => exact ⟨0, by omega, rfl, hfr.out⟩
  case round =>
    clear hfr
    obtain ⟨i, hi, rfl, hw⟩ := hrel
    have hwl : (uL32 (Sha.words b i)).length = i := by rw [uL32_len, Sha.words_len]
    obtain ⟨a7, c7, rfl⟩ := owns_slice hw.2.2.2
    rw [hwl] at hw ⊢
    have HW := hid hw
    clear hw
    by_cases h16 : i < 16
    · have hg0 := fun v hk => Hbs.out v hk (4 * i) (by omega)
      have hg1 := fun v hk => Hbs.out v hk (4 * i + 1) (by omega)
      have hg2 := fun v hk => Hbs.out v hk (4 * i + 2) (by omega)
      have hg3 := fun v hk => Hbs.out v hk (4 * i + 3) (by omega)
      have b0 := (b.getD (4 * i) 0).toNat_lt
      have b1 := (b.getD (4 * i + 1) 0).toNat_lt
      have b2 := (b.getD (4 * i + 2) 0).toNat_lt
      have b3 := (b.getD (4 * i + 3) 0).toNat_lt
      obtain ⟨x, hx⟩ : ∃ x, x = Sha.word b i := ⟨_, rfl⟩
      have hxs := word_sum b i
      rw [← hx] at hxs
      have Hx := hid hx
      generalize (b.getD (4 * i) 0).toNat = n0 at *
      generalize (b.getD (4 * i + 1) 0).toNat = n1 at *
      generalize (b.getD (4 * i + 2) 0).toNat = n2 at *
      generalize (b.getD (4 * i + 3) 0).toNat = n3 at *
      have m0 : ((4 : Int) * (i : Int)).toNat = 4 * i := by omega
      have m1 : ((4 : Int) * (i : Int) + 1).toNat = 4 * i + 1 := by omega
      have m2 : ((4 : Int) * (i : Int) + 2).toNat = 4 * i + 2 := by omega
      have m3 : ((4 : Int) * (i : Int) + 3).toNat = 4 * i + 3 := by omega
      have l0 : (0 : Int) ≤ 4 * (i : Int) := by omega
      have l1 : (0 : Int) ≤ 4 * (i : Int) + 1 := by omega
      have l2 : (0 : Int) ≤ 4 * (i : Int) + 2 := by omega
      have l3 : (0 : Int) ≤ 4 * (i : Int) + 3 := by omega
      have k0 : (4 : Int) * (i : Int) < 64 := by omega
      have k1 : (4 : Int) * (i : Int) + 1 < 64 := by omega
      have k2 : (4 : Int) * (i : Int) + 2 < 64 := by omega
      have k3 : (4 : Int) * (i : Int) + 3 < 64 := by omega
      have q0 : IntKind.i64.wrap ((4 : Int) * (i : Int)) = 4 * (i : Int) := IntWalk.i64_in _ (by omega)
      have q1 : IntKind.i64.wrap ((4 : Int) * (i : Int) + 1) = 4 * (i : Int) + 1 := IntWalk.i64_in _ (by omega)
      have q2 : IntKind.i64.wrap ((4 : Int) * (i : Int) + 2) = 4 * (i : Int) + 2 := IntWalk.i64_in _ (by omega)
      have q3 : IntKind.i64.wrap ((4 : Int) * (i : Int) + 3) = 4 * (i : Int) + 3 := IntWalk.i64_in _ (by omega)
      have a0 : IntKind.u32.wrap (n0 : Int) = n0 := by rw [IntKind.wrap_u32]; omega
      have a1 : IntKind.u32.wrap (n1 : Int) = n1 := by rw [IntKind.wrap_u32]; omega
      have a2 : IntKind.u32.wrap (n2 : Int) = n2 := by rw [IntKind.wrap_u32]; omega
      have a3 : IntKind.u32.wrap (n3 : Int) = n3 := by rw [IntKind.wrap_u32]; omega
      have p0 : IntKind.u32.wrap (16777216 * (n0 : Int)) = 16777216 * (n0 : Int) := by rw [IntKind.wrap_u32]; omega
      have p1 : IntKind.u32.wrap (65536 * (n1 : Int)) = 65536 * (n1 : Int) := by rw [IntKind.wrap_u32]; omega
      have p2 : IntKind.u32.wrap (256 * (n2 : Int)) = 256 * (n2 : Int) := by rw [IntKind.wrap_u32]; omega
      have s1 : IntKind.u32.wrap (16777216 * (n0 : Int) + 65536 * (n1 : Int)) = 16777216 * (n0 : Int) + 65536 * (n1 : Int) := by rw [IntKind.wrap_u32]; omega
      have s2 : IntKind.u32.wrap (16777216 * (n0 : Int) + 65536 * (n1 : Int) + 256 * (n2 : Int)) = 16777216 * (n0 : Int) + 65536 * (n1 : Int) + 256 * (n2 : Int) := by rw [IntKind.wrap_u32]; omega
      have s3 : IntKind.u32.wrap (16777216 * (n0 : Int) + 65536 * (n1 : Int) + 256 * (n2 : Int) + (n3 : Int)) = (x.toNat : Int) := by rw [IntKind.wrap_u32]; omega
      have Hown := hid (((Kept.of_drew [] wr).alloc (.cells #[U x] 35)).owns (by have := HW.out.2.2.2; rwa [hwl] at this) (by simp))
      clear hx hxs b0 b1 b2 b3
      go_wp2_with fail
      refine wp_region_held_drew (S := Kept [] w) (by kernel_rfl) HW.out.1.drew (fun hH => ?_)
      refine takeH 0 (.slice a7 i c7) rfl (by kernel_rfl) (by kernel_rfl) (by kernel_rfl) (fun _ _ _ h => h) (by rfl) (fun v hSw => by go_simp) hH ?_
      simp only [Act.put, List.setIfInBounds_toArray, List.set_cons_succ, List.set_cons_zero]
      refine takeH 1 (.slice (some ⟨gb, ob, none⟩) 64 cb) rfl (by kernel_rfl) (by kernel_rfl) (by kernel_rfl) (fun _ _ _ h => h) (by rfl) (fun v hSw => by go_simp) hH ?_
      simp only [Act.put, List.setIfInBounds_toArray, List.set_cons_succ, List.set_cons_zero]
      refine takeH 2 (.int .i64 (i : Int)) rfl (by kernel_rfl) (by kernel_rfl) (by kernel_rfl) (fun _ _ _ h => h) (by rfl) (fun v hSw => by go_simp) hH ?_
      simp only [Act.put, List.setIfInBounds_toArray, List.set_cons_succ, List.set_cons_zero]
      refine takeH 3 (.int .i64 (4 * (i : Int))) rfl (by kernel_rfl) (by kernel_rfl) (by kernel_rfl) (fun _ _ _ h => h) (by rfl) (fun v hSw => by go_simp) hH ?_
      simp only [Act.put, List.setIfInBounds_toArray, List.set_cons_succ, List.set_cons_zero]
      refine takeH 4 (Value.pointer (some ⟨gb, ob + 4 * i, none⟩)) rfl (by kernel_rfl) (by kernel_rfl) (by kernel_rfl) (fun _ _ _ h => h) (by rfl) (fun v hSw => by go_simp) hH ?_
      simp only [Act.put, List.setIfInBounds_toArray, List.set_cons_succ, List.set_cons_zero]
      refine takeH 5 (.int .u8 (n0 : Int)) rfl (by kernel_rfl) (by kernel_rfl) (by kernel_rfl) (fun _ _ _ h => h) (by rfl) (fun v hSw => by have g := hg0 v hSw; go_simp) hH ?_
      simp only [Act.put, List.setIfInBounds_toArray, List.set_cons_succ, List.set_cons_zero]
      refine takeH 6 (.int .u32 (n0 : Int)) rfl (by kernel_rfl) (by kernel_rfl) (by kernel_rfl) (fun _ _ _ h => h) (by rfl) (fun v hSw => by go_simp) hH ?_
      simp only [Act.put, List.setIfInBounds_toArray, List.set_cons_succ, List.set_cons_zero]
      refine takeH 7 (.int .u32 (16777216 * (n0 : Int))) rfl (by kernel_rfl) (by kernel_rfl) (by kernel_rfl) (fun _ _ _ h => h) (by rfl) (fun v hSw => by go_simp) hH ?_
      simp only [Act.put, List.setIfInBounds_toArray, List.set_cons_succ, List.set_cons_zero]
      refine takeH 8 (.slice (some ⟨gb, ob, none⟩) 64 cb) rfl (by kernel_rfl) (by kernel_rfl) (by kernel_rfl) (fun _ _ _ h => h) (by rfl) (fun v hSw => by go_simp) hH ?_
      simp only [Act.put, List.setIfInBounds_toArray, List.set_cons_succ, List.set_cons_zero]
      refine takeH 9 (.int .i64 (i : Int)) rfl (by kernel_rfl) (by kernel_rfl) (by kernel_rfl) (fun _ _ _ h => h) (by rfl) (fun v hSw => by go_simp) hH ?_
      simp only [Act.put, List.setIfInBounds_toArray, List.set_cons_succ, List.set_cons_zero]
      refine takeH 10 (.int .i64 (4 * (i : Int))) rfl (by kernel_rfl) (by kernel_rfl) (by kernel_rfl) (fun _ _ _ h => h) (by rfl) (fun v hSw => by go_simp) hH ?_
      simp only [Act.put, List.setIfInBounds_toArray, List.set_cons_succ, List.set_cons_zero]
      refine takeH 11 (.int .i64 (4 * (i : Int) + 1)) rfl (by kernel_rfl) (by kernel_rfl) (by kernel_rfl) (fun _ _ _ h => h) (by rfl) (fun v hSw => by go_simp) hH ?_
      simp only [Act.put, List.setIfInBounds_toArray, List.set_cons_succ, List.set_cons_zero]
      refine takeH 12 (Value.pointer (some ⟨gb, ob + (4 * i + 1), none⟩)) rfl (by kernel_rfl) (by kernel_rfl) (by kernel_rfl) (fun _ _ _ h => h) (by rfl) (fun v hSw => by go_simp) hH ?_
      simp only [Act.put, List.setIfInBounds_toArray, List.set_cons_succ, List.set_cons_zero]
      refine takeH 13 (.int .u8 (n1 : Int)) rfl (by kernel_rfl) (by kernel_rfl) (by kernel_rfl) (fun _ _ _ h => h) (by rfl) (fun v hSw => by have g := hg1 v hSw; go_simp) hH ?_
      simp only [Act.put, List.setIfInBounds_toArray, List.set_cons_succ, List.set_cons_zero]
      refine takeH 14 (.int .u32 (n1 : Int)) rfl (by kernel_rfl) (by kernel_rfl) (by kernel_rfl) (fun _ _ _ h => h) (by rfl) (fun v hSw => by go_simp) hH ?_
      simp only [Act.put, List.setIfInBounds_toArray, List.set_cons_succ, List.set_cons_zero]
      refine takeH 15 (.int .u32 (65536 * (n1 : Int))) rfl (by kernel_rfl) (by kernel_rfl) (by kernel_rfl) (fun _ _ _ h => h) (by rfl) (fun v hSw => by go_simp) hH ?_
      simp only [Act.put, List.setIfInBounds_toArray, List.set_cons_succ, List.set_cons_zero]
      refine takeH 16 (.int .u32 (16777216 * (n0 : Int) + 65536 * (n1 : Int))) rfl (by kernel_rfl) (by kernel_rfl) (by kernel_rfl) (fun _ _ _ h => h) (by rfl) (fun v hSw => by go_simp) hH ?_
      simp only [Act.put, List.setIfInBounds_toArray, List.set_cons_succ, List.set_cons_zero]
      refine takeH 17 (.slice (some ⟨gb, ob, none⟩) 64 cb) rfl (by kernel_rfl) (by kernel_rfl) (by kernel_rfl) (fun _ _ _ h => h) (by rfl) (fun v hSw => by go_simp) hH ?_
      simp only [Act.put, List.setIfInBounds_toArray, List.set_cons_succ, List.set_cons_zero]
      refine takeH 18 (.int .i64 (i : Int)) rfl (by kernel_rfl) (by kernel_rfl) (by kernel_rfl) (fun _ _ _ h => h) (by rfl) (fun v hSw => by go_simp) hH ?_
      simp only [Act.put, List.setIfInBounds_toArray, List.set_cons_succ, List.set_cons_zero]
      refine takeH 19 (.int .i64 (4 * (i : Int))) rfl (by kernel_rfl) (by kernel_rfl) (by kernel_rfl) (fun _ _ _ h => h) (by rfl) (fun v hSw => by go_simp) hH ?_
      simp only [Act.put, List.setIfInBounds_toArray, List.set_cons_succ, List.set_cons_zero]
      refine takeH 20 (.int .i64 (4 * (i : Int) + 2)) rfl (by kernel_rfl) (by kernel_rfl) (by kernel_rfl) (fun _ _ _ h => h) (by rfl) (fun v hSw => by go_simp) hH ?_
      simp only [Act.put, List.setIfInBounds_toArray, List.set_cons_succ, List.set_cons_zero]
      refine takeH 21 (Value.pointer (some ⟨gb, ob + (4 * i + 2), none⟩)) rfl (by kernel_rfl) (by kernel_rfl) (by kernel_rfl) (fun _ _ _ h => h) (by rfl) (fun v hSw => by go_simp) hH ?_
      simp only [Act.put, List.setIfInBounds_toArray, List.set_cons_succ, List.set_cons_zero]
      refine takeH 22 (.int .u8 (n2 : Int)) rfl (by kernel_rfl) (by kernel_rfl) (by kernel_rfl) (fun _ _ _ h => h) (by rfl) (fun v hSw => by have g := hg2 v hSw; go_simp) hH ?_
      simp only [Act.put, List.setIfInBounds_toArray, List.set_cons_succ, List.set_cons_zero]
      refine takeH 23 (.int .u32 (n2 : Int)) rfl (by kernel_rfl) (by kernel_rfl) (by kernel_rfl) (fun _ _ _ h => h) (by rfl) (fun v hSw => by go_simp) hH ?_
      simp only [Act.put, List.setIfInBounds_toArray, List.set_cons_succ, List.set_cons_zero]
      refine takeH 24 (.int .u32 (256 * (n2 : Int))) rfl (by kernel_rfl) (by kernel_rfl) (by kernel_rfl) (fun _ _ _ h => h) (by rfl) (fun v hSw => by go_simp) hH ?_
      simp only [Act.put, List.setIfInBounds_toArray, List.set_cons_succ, List.set_cons_zero]
      refine takeH 25 (.int .u32 (16777216 * (n0 : Int) + 65536 * (n1 : Int) + 256 * (n2 : Int))) rfl (by kernel_rfl) (by kernel_rfl) (by kernel_rfl) (fun _ _ _ h => h) (by rfl) (fun v hSw => by go_simp) hH ?_
      simp only [Act.put, List.setIfInBounds_toArray, List.set_cons_succ, List.set_cons_zero]
      refine takeH 26 (.slice (some ⟨gb, ob, none⟩) 64 cb) rfl (by kernel_rfl) (by kernel_rfl) (by kernel_rfl) (fun _ _ _ h => h) (by rfl) (fun v hSw => by go_simp) hH ?_
      simp only [Act.put, List.setIfInBounds_toArray, List.set_cons_succ, List.set_cons_zero]
      refine takeH 27 (.int .i64 (i : Int)) rfl (by kernel_rfl) (by kernel_rfl) (by kernel_rfl) (fun _ _ _ h => h) (by rfl) (fun v hSw => by go_simp) hH ?_
      simp only [Act.put, List.setIfInBounds_toArray, List.set_cons_succ, List.set_cons_zero]
      refine takeH 28 (.int .i64 (4 * (i : Int))) rfl (by kernel_rfl) (by kernel_rfl) (by kernel_rfl) (fun _ _ _ h => h) (by rfl) (fun v hSw => by go_simp) hH ?_
      simp only [Act.put, List.setIfInBounds_toArray, List.set_cons_succ, List.set_cons_zero]
      refine takeH 29 (.int .i64 (4 * (i : Int) + 3)) rfl (by kernel_rfl) (by kernel_rfl) (by kernel_rfl) (fun _ _ _ h => h) (by rfl) (fun v hSw => by go_simp) hH ?_
      simp only [Act.put, List.setIfInBounds_toArray, List.set_cons_succ, List.set_cons_zero]
      refine takeH 30 (Value.pointer (some ⟨gb, ob + (4 * i + 3), none⟩)) rfl (by kernel_rfl) (by kernel_rfl) (by kernel_rfl) (fun _ _ _ h => h) (by rfl) (fun v hSw => by go_simp) hH ?_
      simp only [Act.put, List.setIfInBounds_toArray, List.set_cons_succ, List.set_cons_zero]
      refine takeH 31 (.int .u8 (n3 : Int)) rfl (by kernel_rfl) (by kernel_rfl) (by kernel_rfl) (fun _ _ _ h => h) (by rfl) (fun v hSw => by have g := hg3 v hSw; go_simp) hH ?_
      simp only [Act.put, List.setIfInBounds_toArray, List.set_cons_succ, List.set_cons_zero]
      refine takeH 32 (.int .u32 (n3 : Int)) rfl (by kernel_rfl) (by kernel_rfl) (by kernel_rfl) (fun _ _ _ h => h) (by rfl) (fun v hSw => by go_simp) hH ?_
      simp only [Act.put, List.setIfInBounds_toArray, List.set_cons_succ, List.set_cons_zero]
      refine takeH 33 (U x) rfl (by kernel_rfl) (by kernel_rfl) (by kernel_rfl) (fun _ _ _ h => h) (by rfl) (fun v hSw => by go_simp) hH ?_
      simp only [Act.put, List.setIfInBounds_toArray, List.set_cons_succ, List.set_cons_zero]
      refine runH 34 rfl (by kernel_rfl) (by rfl) (.slice (some ⟨wr.heap.size, 0, none⟩) 1 1) (wr.drew.alloc (.cells #[U x] 35)) (by go_simp) (HW.out.1.drew.alloc _) ?_
      simp only [Act.put, List.setIfInBounds_toArray, List.set_cons_succ, List.set_cons_zero]
      refine appendH 35 rfl (by kernel_rfl) rfl (.tmp 26) (.tmp 60) 46 rfl w.heap.size 35 i0 _ 4 Tryd.underlying46 hi0 hz0 hz1 hz2 rfl (.slice a7 i c7) i (uL32 (Sha.words b i)) rfl Hown.out ⟨wr.heap.size, 0, none⟩ 1 1 [U x] rfl (cell_one_new wr.drew (U x) _) rfl (by intro u hu; simp at hu; subst hu; rfl) (by unfold maxLen; omega) (by omega) (by have := HW.out.2.2.1; simp; omega) ?_
      intro a8 c8 w2 hown2 hgrow2 _
      have hk2 := (HW.out.next ((Kept.of_drew [] wr).alloc (.cells #[U x] 35))).kept_of hgrow2
      refine ⟨hk2, ?_⟩
      simp only [Act.put, List.setIfInBounds_toArray, List.set_cons_succ, List.set_cons_zero]
      have hstep := hid (show RowV w w.heap.size 35 (.slice a8 (i + 1) c8) (uL32 (Sha.words b (i + 1))) w2 from by
        have e : uL32 (Sha.words b (i + 1)) = uL32 (Sha.words b i) ++ [U x] := by rw [words_word b i h16, ← Hx.out]; simp [uL32]
        rw [e]
        exact HW.out.step ((Kept.of_drew [] wr).alloc (.cells #[U x] 35)) (by simpa [hwl] using hown2) hgrow2)
      have hH := hk2
      clear hown2 hgrow2 hk2 Hown
      refine takeH 36 (.slice a8 (i + 1) c8) rfl (by kernel_rfl) (by kernel_rfl) (by kernel_rfl) (fun _ _ _ h => h) (by rfl) (fun v hSw => by go_simp) hH ?_
      simp only [Act.put, List.setIfInBounds_toArray, List.set_cons_succ, List.set_cons_zero]
      refine wpAnyH_done (by kernel_rfl) ?_ _
      go_wp2_with fail
      exact ⟨⟨i + 1, by omega, by go_num, hstep.out⟩, by simp [intOf]; omega⟩
    · have hil : i < 64 ∨ i = 64 := by omega
      by_cases h64 : i < 64
      · have hne : uL32 (Sha.words b i) ≠ [] := fun e => by rw [e] at hwl; simp at hwl; omega
        obtain ⟨g, cg, hv, hgb, hgl, hgc⟩ := HW.out.slice hne
        rw [hwl] at hv
        cases hv
        have hcw := fun (j : Nat) (hj : j < i) => hgc j (U ((Sha.words b i).getD j 0)) (uL32_get _ j (by rw [Sha.words_len]; exact hj))
        have Hcell := hid (fun v (h : KG w g (uL32 (Sha.words b i)) v) (j : Nat) (hj : j < i) => h.2 j (U ((Sha.words b i).getD j 0)) (uL32_get _ j (by rw [Sha.words_len]; exact hj)))
        obtain ⟨e, he⟩ : ∃ e, e = (Sha.words b i).getD (i - 15) 0 := ⟨_, rfl⟩
        obtain ⟨f, hf⟩ : ∃ f, f = (Sha.words b i).getD (i - 2) 0 := ⟨_, rfl⟩
        obtain ⟨c, hc⟩ : ∃ c, c = (Sha.words b i).getD (i - 16) 0 := ⟨_, rfl⟩
        obtain ⟨d, hd⟩ : ∃ d, d = (Sha.words b i).getD (i - 7) 0 := ⟨_, rfl⟩
        have g15 := hcw (i - 15) (by omega)
        have g2 := hcw (i - 2) (by omega)
        rw [← he] at g15; rw [← hf] at g2
        have hg16 := fun v h => Hcell.out v h (i - 16) (by omega)
        have hg7 := fun v h => Hcell.out v h (i - 7) (by omega)
        rw [← hc] at hg16; rw [← hd] at hg7
        obtain ⟨X, hX⟩ : ∃ X, X = Sha.rotr e 7 ^^^ Sha.rotr e 18 ^^^ (e >>> 3) := ⟨_, rfl⟩
        obtain ⟨Y, hY⟩ : ∃ Y, Y = Sha.rotr f 17 ^^^ Sha.rotr f 19 ^^^ (f >>> 10) := ⟨_, rfl⟩
        have hxs := x_spelled e
        have hys := y_spelled f
        rw [← hX] at hxs; rw [← hY] at hys
        obtain ⟨x, hx⟩ : ∃ x, x = Sha.nextW (Sha.words b i) := ⟨_, rfl⟩
        have hsum : x = c + X + d + Y := by rw [hx, next_sum, Sha.words_len, ← he, ← hf, ← hc, ← hd, ← hX, ← hY]
        obtain ⟨y1, hy1⟩ : ∃ y, y = c + X := ⟨_, rfl⟩
        obtain ⟨y2, hy2⟩ : ∃ y, y = y1 + d := ⟨_, rfl⟩
        have t1 : IntKind.u32.wrap ((c.toNat : Int) + (X.toNat : Int)) = (y1.toNat : Int) := by rw [IntKind.wrap_u32, add_bv, hy1]
        have t2 : IntKind.u32.wrap ((y1.toNat : Int) + (d.toNat : Int)) = (y2.toNat : Int) := by rw [IntKind.wrap_u32, add_bv, hy2]
        have t3 : IntKind.u32.wrap ((y2.toNat : Int) + (Y.toNat : Int)) = (x.toNat : Int) := by rw [IntKind.wrap_u32, add_bv, hsum, hy2, hy1]
        have T1 := hid t1; have T2 := hid t2; have T3 := hid t3
        have Hx := hid hx; have Hxs := hid hxs; have Hys := hid hys
        have l15 : (15 : Int) ≤ (i : Int) := by omega
        have n15 : ((i : Int) - 15).toNat = i - 15 := by omega
        have k15 : (i : Int) - 15 < (i : Int) := by omega
        have n2 : ((i : Int) - 2).toNat = i - 2 := by omega
        have l2 : (2 : Int) ≤ (i : Int) := by omega
        have k2 : (i : Int) - 2 < (i : Int) := by omega
        have w2 : IntKind.i64.wrap ((i : Int) - 2) = (i : Int) - 2 := IntWalk.i64_in _ (by omega)
        have w15 : IntKind.i64.wrap ((i : Int) - 15) = (i : Int) - 15 := IntWalk.i64_in _ (by omega)
        have n7 : ((i : Int) - 7).toNat = i - 7 := by omega
        have n16 : ((i : Int) - 16).toNat = i - 16 := by omega
        have i64' : (i : Int) < 64 := by omega
        have i16' : ¬ (i : Int) < 16 := by omega
        clear he hf hc hd hX hY hx hsum hxs hys t1 t2 t3 hcw hy1 hy2
        have Hgc := hid hgc
        clear hgc
        go_wp2_with fail
        have hs3 : (7 : Int).toNat = 7 := rfl
        go_quiet ((go_at_call 25; exact Calls.quiet_of (right_k _ _ (by decide) _)))
        rw [Hxs.out]
        obtain ⟨W7, hW7, hP7, hG7⟩ : ∃ W7, wr.drewN nq = W7 ∧ RowV w w.heap.size 35 (.slice (some ⟨g, 0, none⟩) i c7) (uL32 (Sha.words b i)) W7 ∧ KG w g (uL32 (Sha.words b i)) W7 :=
          ⟨_, rfl, HW.out.next ((Kept.refl [] wr).drewN nq), (HW.out.next ((Kept.refl [] wr).drewN nq)).1, Hgc.out⟩
        rw [hW7]
        have g2' : W7.cell? ⟨g, i - 2, none⟩ = some (U f) := by rw [← hW7]; exact g2
        have HP7 := hid hP7; have HG7 := hid hG7
        clear hW7 hP7 hG7 g2 g15
        go_wp2_with fail
        go_quiet ((go_at_call 25; exact Calls.quiet_of (right_k _ _ (by decide) _)))
        rw [Hys.out]
        obtain ⟨W8, hW8, hP8, hG8⟩ : ∃ W8, W7.drewN nq = W8 ∧ RowV w w.heap.size 35 (.slice (some ⟨g, 0, none⟩) i c7) (uL32 (Sha.words b i)) W8 ∧ KG w g (uL32 (Sha.words b i)) W8 :=
          ⟨_, rfl, HP7.out.next ((Kept.refl [] W7).drewN nq), (HP7.out.next ((Kept.refl [] W7).drewN nq)).1, HG7.out.2⟩
        rw [hW8]
        have HP8 := hid hP8; have HG8 := hid hG8
        clear hW8 hP8 hG8 g2' HP7 HG7 w2 w15
        have w7 : IntKind.i64.wrap ((i : Int) - 7) = (i : Int) - 7 := IntWalk.i64_in _ (by omega)
        have w16 : IntKind.i64.wrap ((i : Int) - 16) = (i : Int) - 16 := IntWalk.i64_in _ (by omega)
        have k7 : (i : Int) - 7 < (i : Int) := by omega
        have k16 : (i : Int) - 16 < (i : Int) := by omega
        have l7 : (7 : Int) ≤ (i : Int) := by omega
        have l16 : (16 : Int) ≤ (i : Int) := by omega
        have t1 := T1.out
        have t2 := T2.out
        have t3 := T3.out
        have Hown := hid (((Kept.of_drew [] W8).alloc (.cells #[U x] 35)).owns (by have := HP8.out.2.2.2; rwa [hwl] at this) (by simp))
        go_wp2_with fail
        refine wp_region_held_drew (S := KG w g (uL32 (Sha.words b i))) (by kernel_rfl) ⟨HG8.out.1.drew, HG8.out.2⟩ (fun hH => ?_)
        refine takeH 0 (.slice (some ⟨g, 0, none⟩) i c7) rfl (by kernel_rfl) (by kernel_rfl) (by kernel_rfl) (fun _ _ _ h => h) (by rfl) (fun v hSw => by go_simp) hH ?_
        simp only [Act.put, List.setIfInBounds_toArray, List.set_cons_succ, List.set_cons_zero]
        refine takeH 1 (.slice (some ⟨g, 0, none⟩) i c7) rfl (by kernel_rfl) (by kernel_rfl) (by kernel_rfl) (fun _ _ _ h => h) (by rfl) (fun v hSw => by go_simp) hH ?_
        simp only [Act.put, List.setIfInBounds_toArray, List.set_cons_succ, List.set_cons_zero]
        refine takeH 2 (.int .i64 (i : Int)) rfl (by kernel_rfl) (by kernel_rfl) (by kernel_rfl) (fun _ _ _ h => h) (by rfl) (fun v hSw => by go_simp) hH ?_
        simp only [Act.put, List.setIfInBounds_toArray, List.set_cons_succ, List.set_cons_zero]
        refine takeH 3 (.int .i64 ((i : Int) - 16)) rfl (by kernel_rfl) (by kernel_rfl) (by kernel_rfl) (fun _ _ _ h => h) (by rfl) (fun v hSw => by go_simp) hH ?_
        simp only [Act.put, List.setIfInBounds_toArray, List.set_cons_succ, List.set_cons_zero]
        refine takeH 4 (Value.pointer (some ⟨g, i - 16, none⟩)) rfl (by kernel_rfl) (by kernel_rfl) (by kernel_rfl) (fun _ _ _ h => h) (by rfl) (fun v hSw => by go_simp) hH ?_
        simp only [Act.put, List.setIfInBounds_toArray, List.set_cons_succ, List.set_cons_zero]
        refine takeH 5 (U c) rfl (by kernel_rfl) (by kernel_rfl) (by kernel_rfl) (fun _ _ _ h => h) (by rfl) (fun v hSw => by have g := hg16 v hSw; go_simp) hH ?_
        simp only [Act.put, List.setIfInBounds_toArray, List.set_cons_succ, List.set_cons_zero]
        refine takeH 6 (U X) rfl (by kernel_rfl) (by kernel_rfl) (by kernel_rfl) (fun _ _ _ h => h) (by rfl) (fun v hSw => by go_simp) hH ?_
        simp only [Act.put, List.setIfInBounds_toArray, List.set_cons_succ, List.set_cons_zero]
        refine takeH 7 (U y1) rfl (by kernel_rfl) (by kernel_rfl) (by kernel_rfl) (fun _ _ _ h => h) (by rfl) (fun v hSw => by go_simp) hH ?_
        simp only [Act.put, List.setIfInBounds_toArray, List.set_cons_succ, List.set_cons_zero]
        refine takeH 8 (.slice (some ⟨g, 0, none⟩) i c7) rfl (by kernel_rfl) (by kernel_rfl) (by kernel_rfl) (fun _ _ _ h => h) (by rfl) (fun v hSw => by go_simp) hH ?_
        simp only [Act.put, List.setIfInBounds_toArray, List.set_cons_succ, List.set_cons_zero]
        refine takeH 9 (.int .i64 (i : Int)) rfl (by kernel_rfl) (by kernel_rfl) (by kernel_rfl) (fun _ _ _ h => h) (by rfl) (fun v hSw => by go_simp) hH ?_
        simp only [Act.put, List.setIfInBounds_toArray, List.set_cons_succ, List.set_cons_zero]
        refine takeH 10 (.int .i64 ((i : Int) - 7)) rfl (by kernel_rfl) (by kernel_rfl) (by kernel_rfl) (fun _ _ _ h => h) (by rfl) (fun v hSw => by go_simp) hH ?_
        simp only [Act.put, List.setIfInBounds_toArray, List.set_cons_succ, List.set_cons_zero]
        refine takeH 11 (Value.pointer (some ⟨g, i - 7, none⟩)) rfl (by kernel_rfl) (by kernel_rfl) (by kernel_rfl) (fun _ _ _ h => h) (by rfl) (fun v hSw => by go_simp) hH ?_
        simp only [Act.put, List.setIfInBounds_toArray, List.set_cons_succ, List.set_cons_zero]
        refine takeH 12 (U d) rfl (by kernel_rfl) (by kernel_rfl) (by kernel_rfl) (fun _ _ _ h => h) (by rfl) (fun v hSw => by have g := hg7 v hSw; go_simp) hH ?_
        simp only [Act.put, List.setIfInBounds_toArray, List.set_cons_succ, List.set_cons_zero]
        refine takeH 13 (U y2) rfl (by kernel_rfl) (by kernel_rfl) (by kernel_rfl) (fun _ _ _ h => h) (by rfl) (fun v hSw => by go_simp) hH ?_
        simp only [Act.put, List.setIfInBounds_toArray, List.set_cons_succ, List.set_cons_zero]
        refine takeH 14 (U Y) rfl (by kernel_rfl) (by kernel_rfl) (by kernel_rfl) (fun _ _ _ h => h) (by rfl) (fun v hSw => by go_simp) hH ?_
        simp only [Act.put, List.setIfInBounds_toArray, List.set_cons_succ, List.set_cons_zero]
        refine takeH 15 (U x) rfl (by kernel_rfl) (by kernel_rfl) (by kernel_rfl) (fun _ _ _ h => h) (by rfl) (fun v hSw => by go_simp) hH ?_
        simp only [Act.put, List.setIfInBounds_toArray, List.set_cons_succ, List.set_cons_zero]
        refine runH 16 rfl (by kernel_rfl) (by rfl) (.slice (some ⟨W8.heap.size, 0, none⟩) 1 1) (W8.drew.alloc (.cells #[U x] 35)) (by go_simp) ⟨HG8.out.1.drew.alloc _, fun j u hj => (((Kept.of_drew [] W8).alloc (.cells #[U x] 35)).cell (p := ⟨g, j, none⟩) (World.block_lt_of_cell? W8 _ (HG8.out.2 j u hj)) (by simp)).trans (HG8.out.2 j u hj)⟩ ?_
        simp only [Act.put, List.setIfInBounds_toArray, List.set_cons_succ, List.set_cons_zero]
        refine appendH 17 rfl (by kernel_rfl) rfl (.tmp 102) (.tmp 118) 46 rfl w.heap.size 35 i0 _ 4 Tryd.underlying46 hi0 hz0 hz1 hz2 rfl (.slice (some ⟨g, 0, none⟩) i c7) i (uL32 (Sha.words b i)) rfl Hown.out ⟨W8.heap.size, 0, none⟩ 1 1 [U x] rfl (cell_one_new W8.drew (U x) _) rfl (by intro u hu; simp at hu; subst hu; rfl) (by unfold maxLen; omega) (by omega) (by have := HP8.out.2.2.1; simp; omega) ?_
        intro a8 c8 w2 hown2 hgrow2 hold2
        have hk2 := (HP8.out.next ((Kept.of_drew [] W8).alloc (.cells #[U x] 35))).kept_of hgrow2
        have hH2 : KG w g (uL32 (Sha.words b i)) w2 := ⟨hk2, hold2 g c7 rfl⟩
        refine ⟨hH2, ?_⟩
        simp only [Act.put, List.setIfInBounds_toArray, List.set_cons_succ, List.set_cons_zero]
        have hstep := hid (show RowV w w.heap.size 35 (.slice a8 (i + 1) c8) (uL32 (Sha.words b (i + 1))) w2 from by
          have e : uL32 (Sha.words b (i + 1)) = uL32 (Sha.words b i) ++ [U x] := by rw [words_next b i (by omega), ← Hx.out]; simp [uL32]
          rw [e]
          exact HP8.out.step ((Kept.of_drew [] W8).alloc (.cells #[U x] 35)) (by simpa [hwl] using hown2) hgrow2)
        clear hown2 hgrow2 hk2 Hown hold2
        refine takeH 18 (.slice a8 (i + 1) c8) rfl (by kernel_rfl) (by kernel_rfl) (by kernel_rfl) (fun _ _ _ h => h) (by rfl) (fun v hSw => by go_simp) hH2 ?_
        simp only [Act.put, List.setIfInBounds_toArray, List.set_cons_succ, List.set_cons_zero]
        refine wpAnyH_done (by kernel_rfl) ?_ _
        clear t1 t2 t3 w7 w16
        go_wp2_with fail
        exact ⟨⟨i + 1, by omega, by go_num, hstep.out⟩, by simp [intOf]; omega⟩
      · obtain rfl : i = 64 := by omega
        have hne : uL32 (Sha.words b 64) ≠ [] := fun e => by rw [e] at hwl; simp at hwl
        obtain ⟨gw, cw, hv, hgwb, hgwl, hgwc⟩ := HW.out.slice hne
        rw [hwl] at hv
        cases hv
        have Hgwc := hid hgwc
        have hfr2 := hid (RowV.fresh 35 HW.out.1)
        have hkw := hid (show Kept [] wr (wr.alloc (.cells #[] 35)) from (Kept.refl [] wr).alloc _)
        clear hgwc
        go_wp2_with (at_builtin; refine halt ?_)
        refine Halt.mk ?_
        refine wpList_append_src _ rfl _ _ _ rfl wr.heap.size 35 i0 _ 4 Tryd.underlying46 hi0 hz0 hz1 hz2 rfl (.slice (some ⟨wr.heap.size, 0, none⟩) 0 0) 0 [] rfl hfr2.out.2.2.2 (.slice (some ⟨gh, 0, none⟩) 8 ch) 8 (stL s) rfl (Or.inr ⟨⟨gh, 0, none⟩, ch, rfl, fun j u hj => by rw [plain0]; exact ((hfr2.out.1).cell (p := ⟨gh, j, none⟩) (World.block_lt_of_cell? w _ (Hh.out j u hj)) (by simp)).trans (Hh.out j u hj)⟩) rfl (stL_one s) (by unfold maxLen; omega) (by omega) (by simp) ?_
        intro v2 w2 hown2 hgrow2 _ _
        obtain ⟨a2, c2, rfl⟩ := owns_slice hown2
        have hk2 := hfr2.out.kept_of hgrow2
        have hW2 : RowV w wr.heap.size 35 (.slice a2 8 c2) (stL s) w2 := by
          have := hfr2.out.step (xs := []) (ys := stL s) (Kept.refl [] _) (by rw [List.nil_append, show (stL s).length = 8 from rfl]; simpa using hown2) hgrow2
          simpa using this
        obtain ⟨ga, ca, hv, hgab, hgal, hgac⟩ := hW2.slice (by simp [stL])
        cases hv
        have hsw : SrcW w gw (Sha.words b 64) w2 := fun j u hj => by
          have hc := Hgwc.out j u hj
          have h1 := (hkw.out.cell (p := ⟨gw, j, none⟩) hgwl (by simp)).trans hc
          refine Eq.trans ?_ h1
          unfold World.cell?
          rw [hgrow2.block gw (Nat.lt_of_lt_of_le hgwl hkw.out.size) (fun e => by simp [Value.ownBlock] at e; omega)]
        have HR0 := hid (show Rn w gw (Sha.words b 64) ga (Sha.rnds s (Sha.words b 64) 0) w2 from ⟨hk2, hsw, hgac, Nat.le_trans HW.out.1.size hgab⟩)
        clear hown2 hgrow2 hk2 hW2 hgac hsw hfr2 hkw
        go_wp2_with fail
        go_loopw [11, 12] (fun v j wr => ∃ (i ga ca : Nat), i ≤ 64 ∧ j = .int .i64 i ∧ v = .slice (some ⟨ga, 0, none⟩) 8 ca ∧ Hid (Rn w gw (Sha.words b 64) ga (Sha.rnds s (Sha.words b 64) i) wr)) (fun _ j _ => 64 - (intOf j).toNat)
        case atStart => exact ⟨0, ga, c2, by omega, rfl, rfl, HR0⟩
        case round =>
          clear HR0 HW Hgwc hgwb hgwl hgab hgal hwl hne hi h16
          obtain ⟨i, ga, ca, hi, rfl, rfl, hr⟩ := hrel
          by_cases hlt : i < 64
          · obtain ⟨t, ht⟩ : ∃ t, t = Sha.rnds s (Sha.words b 64) i := ⟨_, rfl⟩
            rw [← ht] at hr
            have Ht := hid ht
            clear ht
            obtain ⟨ta, tb, tc, td, te, tf, tg, th⟩ := t
            obtain ⟨kk, hkk⟩ : ∃ k, k = Sha.kAt i := ⟨_, rfl⟩
            obtain ⟨ww, hww⟩ : ∃ k, k = (Sha.words b 64).getD i 0 := ⟨_, rfl⟩
            have hcl : ∀ v, Rn w gw (Sha.words b 64) ga ⟨ta, tb, tc, td, te, tf, tg, th⟩ v → ∀ (j : Nat) u, ([U ta, U tb, U tc, U td, U te, U tf, U tg, U th] : List Value)[j]? = some u → v.cell? ⟨ga, j, none⟩ = some u := fun v hv j u hj => hv.2.2.1 j u hj
            have hkl : ∀ v, Rn w gw (Sha.words b 64) ga ⟨ta, tb, tc, td, te, tf, tg, th⟩ v → v.cell? ⟨gk, i, none⟩ = some (U kk) := fun v hv => by
              rw [hkk]; exact (hv.1.cell (p := ⟨gk, i, none⟩) (World.block_lt_of_cell? w _ (Hk.out i hlt)) (by simp)).trans (Hk.out i hlt)
            have hwl : ∀ v, Rn w gw (Sha.words b 64) ga ⟨ta, tb, tc, td, te, tf, tg, th⟩ v → v.cell? ⟨gw, i, none⟩ = some (U ww) := fun v hv => by
              rw [hww]; exact hv.2.1 i _ (uL32_get _ i (by rw [Sha.words_len]; exact hlt))
            obtain ⟨n1, hn1⟩ : ∃ x, x = te &&& tf := ⟨_, rfl⟩
            obtain ⟨nn, hnn⟩ : ∃ x, x = ~~~ te := ⟨_, rfl⟩
            obtain ⟨n2, hn2⟩ : ∃ x, x = nn &&& tg := ⟨_, rfl⟩
            obtain ⟨ch1, hch0⟩ : ∃ x, x = n1 ||| n2 := ⟨_, rfl⟩
            obtain ⟨m1, hm1⟩ : ∃ x, x = ta &&& tb := ⟨_, rfl⟩
            obtain ⟨m2, hm2⟩ : ∃ x, x = ta &&& tc := ⟨_, rfl⟩
            obtain ⟨m3, hm3⟩ : ∃ x, x = m1 ||| m2 := ⟨_, rfl⟩
            obtain ⟨m4, hm4⟩ : ∃ x, x = tb &&& tc := ⟨_, rfl⟩
            obtain ⟨mj, hmj0⟩ : ∃ x, x = m3 ||| m4 := ⟨_, rfl⟩
            have hch1 : ch1 = Sha.choice te tf tg := by rw [hch0, hn1, hn2, hnn, choice_or]
            have hmj : mj = Sha.major ta tb tc := by rw [hmj0, hm3, hm1, hm2, hm4, major_or]
            have F1 := hid (show bits .and .u32 (te.toNat : Int) (tf.toNat : Int) = (n1.toNat : Int) by rw [and_bv, hn1])
            have F2 := hid (show bits .xor .u32 IntKind.u32.max (te.toNat : Int) = (nn.toNat : Int) by rw [not_bv, hnn])
            have F3 := hid (show bits .and .u32 (nn.toNat : Int) (tg.toNat : Int) = (n2.toNat : Int) by rw [and_bv, hn2])
            have F4 := hid (show bits .or .u32 (n1.toNat : Int) (n2.toNat : Int) = (ch1.toNat : Int) by rw [or_bv, hch0])
            have M1 := hid (show bits .and .u32 (ta.toNat : Int) (tb.toNat : Int) = (m1.toNat : Int) by rw [and_bv, hm1])
            have M2 := hid (show bits .and .u32 (ta.toNat : Int) (tc.toNat : Int) = (m2.toNat : Int) by rw [and_bv, hm2])
            have M3 := hid (show bits .or .u32 (m1.toNat : Int) (m2.toNat : Int) = (m3.toNat : Int) by rw [or_bv, hm3])
            have M4 := hid (show bits .and .u32 (tb.toNat : Int) (tc.toNat : Int) = (m4.toNat : Int) by rw [and_bv, hm4])
            have M5 := hid (show bits .or .u32 (m3.toNat : Int) (m4.toNat : Int) = (mj.toNat : Int) by rw [or_bv, hmj0])
            clear hch0 hn1 hn2 hnn hmj0 hm1 hm2 hm3 hm4
            obtain ⟨r1, hr1⟩ : ∃ x, x = Sha.rotr te 6 := ⟨_, rfl⟩
            obtain ⟨r2, hr2⟩ : ∃ x, x = Sha.rotr te 11 := ⟨_, rfl⟩
            obtain ⟨r3, hr3⟩ : ∃ x, x = Sha.rotr te 25 := ⟨_, rfl⟩
            obtain ⟨z1, hz1'⟩ : ∃ x, x = r1 ^^^ r2 := ⟨_, rfl⟩
            obtain ⟨z2, hz2'⟩ : ∃ x, x = z1 ^^^ r3 := ⟨_, rfl⟩
            obtain ⟨v1, hv1⟩ : ∃ x, x = th + z2 := ⟨_, rfl⟩
            obtain ⟨v2, hv2⟩ : ∃ x, x = v1 + ch1 := ⟨_, rfl⟩
            obtain ⟨v3, hv3⟩ : ∃ x, x = v2 + kk := ⟨_, rfl⟩
            obtain ⟨x1, hx1⟩ : ∃ x, x = v3 + ww := ⟨_, rfl⟩
            obtain ⟨q1, hq1⟩ : ∃ x, x = Sha.rotr ta 2 := ⟨_, rfl⟩
            obtain ⟨q2, hq2⟩ : ∃ x, x = Sha.rotr ta 13 := ⟨_, rfl⟩
            obtain ⟨q3, hq3⟩ : ∃ x, x = Sha.rotr ta 22 := ⟨_, rfl⟩
            obtain ⟨y1, hy1⟩ : ∃ x, x = q1 ^^^ q2 := ⟨_, rfl⟩
            obtain ⟨y2, hy2⟩ : ∃ x, x = y1 ^^^ q3 := ⟨_, rfl⟩
            obtain ⟨x2, hx2⟩ : ∃ x, x = y2 + mj := ⟨_, rfl⟩
            obtain ⟨na, hna⟩ : ∃ x, x = x1 + x2 := ⟨_, rfl⟩
            obtain ⟨ne, hne⟩ : ∃ x, x = td + x1 := ⟨_, rfl⟩
            have R1 := hid (fun v (h : Rn w gw (Sha.words b 64) ga ⟨ta, tb, tc, td, te, tf, tg, th⟩ v) => rn_right h te 6 r1 hr1 (by decide))
            have R2 := hid (fun v (h : Rn w gw (Sha.words b 64) ga ⟨ta, tb, tc, td, te, tf, tg, th⟩ v) => rn_right h te 11 r2 hr2 (by decide))
            have R3 := hid (fun v (h : Rn w gw (Sha.words b 64) ga ⟨ta, tb, tc, td, te, tf, tg, th⟩ v) => rn_right h te 25 r3 hr3 (by decide))
            have Q1 := hid (fun v (h : Rn w gw (Sha.words b 64) ga ⟨ta, tb, tc, td, te, tf, tg, th⟩ v) => rn_right h ta 2 q1 hq1 (by decide))
            have Q2 := hid (fun v (h : Rn w gw (Sha.words b 64) ga ⟨ta, tb, tc, td, te, tf, tg, th⟩ v) => rn_right h ta 13 q2 hq2 (by decide))
            have Q3 := hid (fun v (h : Rn w gw (Sha.words b 64) ga ⟨ta, tb, tc, td, te, tf, tg, th⟩ v) => rn_right h ta 22 q3 hq3 (by decide))
            have b1 : bits .xor .u32 (r1.toNat : Int) (r2.toNat : Int) = (z1.toNat : Int) := by rw [xor_bv, hz1']
            have b2 : bits .xor .u32 (z1.toNat : Int) (r3.toNat : Int) = (z2.toNat : Int) := by rw [xor_bv, hz2']
            have b3 : bits .xor .u32 (q1.toNat : Int) (q2.toNat : Int) = (y1.toNat : Int) := by rw [xor_bv, hy1]
            have b4 : bits .xor .u32 (y1.toNat : Int) (q3.toNat : Int) = (y2.toNat : Int) := by rw [xor_bv, hy2]
            have a1 : IntKind.u32.wrap ((th.toNat : Int) + (z2.toNat : Int)) = (v1.toNat : Int) := by rw [IntKind.wrap_u32, add_bv, hv1]
            have a2 : IntKind.u32.wrap ((v1.toNat : Int) + (ch1.toNat : Int)) = (v2.toNat : Int) := by rw [IntKind.wrap_u32, add_bv, hv2]
            have a3 : IntKind.u32.wrap ((v2.toNat : Int) + (kk.toNat : Int)) = (v3.toNat : Int) := by rw [IntKind.wrap_u32, add_bv, hv3]
            have a4 : IntKind.u32.wrap ((v3.toNat : Int) + (ww.toNat : Int)) = (x1.toNat : Int) := by rw [IntKind.wrap_u32, add_bv, hx1]
            have a5 : IntKind.u32.wrap ((y2.toNat : Int) + (mj.toNat : Int)) = (x2.toNat : Int) := by rw [IntKind.wrap_u32, add_bv, hx2]
            have a6 : IntKind.u32.wrap ((x1.toNat : Int) + (x2.toNat : Int)) = (na.toNat : Int) := by rw [IntKind.wrap_u32, add_bv, hna]
            have a7 : IntKind.u32.wrap ((td.toNat : Int) + (x1.toNat : Int)) = (ne.toNat : Int) := by rw [IntKind.wrap_u32, add_bv, hne]
            have Hst := hid (show Sha.rnds s (Sha.words b 64) (i + 1) = ⟨na, ta, tb, tc, ne, te, tf, tg⟩ by
              rw [Sha.rnds, ← Ht.out, ← hkk, ← hww, hne, hna, hx2, hy2, hy1, hq1, hq2, hq3, hx1, hv3, hv2, hv1, hz2', hz1', hr1, hr2, hr3, hch1, hmj]; rfl)
            have i0' : (0 : Int) ≤ (i : Int) := by omega
            have i64' : (i : Int) < 64 := by omega
            have B1 := hid b1; have B2 := hid b2; have B3 := hid b3; have B4 := hid b4
            have A1 := hid a1; have A2 := hid a2; have A3 := hid a3; have A4 := hid a4; have A5 := hid a5; have A6 := hid a6; have A7 := hid a7
            clear hkk hww hch1 hmj hr1 hr2 hr3 hz1' hz2' hv1 hv2 hv3 hx1 hq1 hq2 hq3 hy1 hy2 hx2 hna hne b1 b2 b3 b4 a1 a2 a3 a4 a5 a6 a7 Ht
            have Hcl := hid hcl; have Hkl := hid hkl; have Hwl := hid hwl
            clear hcl hkl hwl
            have hcl := Hcl.out
            have f1 := F1.out; have f2 := F2.out; have f3 := F3.out; have f4 := F4.out
            have hsg : IntKind.u32.signed = false := rfl
            go_wp2_with fail
            refine wp_region_held_drew (S := Rn w gw (Sha.words b 64) ga ⟨ta, tb, tc, td, te, tf, tg, th⟩) (by kernel_rfl) (hr.out.next (Kept.of_drew [] wr)) (fun hH => ?_)
            refine takeH 0 (Value.slice (some ⟨ga, 0, none⟩) 8 ca) rfl (by kernel_rfl) (by kernel_rfl) (by kernel_rfl) (fun _ _ _ h => h) (by rfl) (fun v hSw => by go_simp) hH ?_
            simp only [Act.put, List.setIfInBounds_toArray, List.set_cons_succ, List.set_cons_zero]
            refine takeH 1 (Value.pointer (some ⟨ga, 4, none⟩)) rfl (by kernel_rfl) (by kernel_rfl) (by kernel_rfl) (fun _ _ _ h => h) (by rfl) (fun v hSw => by go_simp) hH ?_
            simp only [Act.put, List.setIfInBounds_toArray, List.set_cons_succ, List.set_cons_zero]
            refine takeH 2 (U te) rfl (by kernel_rfl) (by kernel_rfl) (by kernel_rfl) (fun _ _ _ h => h) (by rfl) (fun v hSw => by have g := hcl v hSw 4 (U te) rfl; go_simp) hH ?_
            simp only [Act.put, List.setIfInBounds_toArray, List.set_cons_succ, List.set_cons_zero]
            refine takeH 3 (Value.slice (some ⟨ga, 0, none⟩) 8 ca) rfl (by kernel_rfl) (by kernel_rfl) (by kernel_rfl) (fun _ _ _ h => h) (by rfl) (fun v hSw => by go_simp) hH ?_
            simp only [Act.put, List.setIfInBounds_toArray, List.set_cons_succ, List.set_cons_zero]
            refine takeH 4 (Value.pointer (some ⟨ga, 5, none⟩)) rfl (by kernel_rfl) (by kernel_rfl) (by kernel_rfl) (fun _ _ _ h => h) (by rfl) (fun v hSw => by go_simp) hH ?_
            simp only [Act.put, List.setIfInBounds_toArray, List.set_cons_succ, List.set_cons_zero]
            refine takeH 5 (U tf) rfl (by kernel_rfl) (by kernel_rfl) (by kernel_rfl) (fun _ _ _ h => h) (by rfl) (fun v hSw => by have g := hcl v hSw 5 (U tf) rfl; go_simp) hH ?_
            simp only [Act.put, List.setIfInBounds_toArray, List.set_cons_succ, List.set_cons_zero]
            refine takeH 6 (U n1) rfl (by kernel_rfl) (by kernel_rfl) (by kernel_rfl) (fun _ _ _ h => h) (by rfl) (fun v hSw => by go_simp) hH ?_
            simp only [Act.put, List.setIfInBounds_toArray, List.set_cons_succ, List.set_cons_zero]
            refine takeH 7 (Value.slice (some ⟨ga, 0, none⟩) 8 ca) rfl (by kernel_rfl) (by kernel_rfl) (by kernel_rfl) (fun _ _ _ h => h) (by rfl) (fun v hSw => by go_simp) hH ?_
            simp only [Act.put, List.setIfInBounds_toArray, List.set_cons_succ, List.set_cons_zero]
            refine takeH 8 (Value.pointer (some ⟨ga, 4, none⟩)) rfl (by kernel_rfl) (by kernel_rfl) (by kernel_rfl) (fun _ _ _ h => h) (by rfl) (fun v hSw => by go_simp) hH ?_
            simp only [Act.put, List.setIfInBounds_toArray, List.set_cons_succ, List.set_cons_zero]
            refine takeH 9 (U te) rfl (by kernel_rfl) (by kernel_rfl) (by kernel_rfl) (fun _ _ _ h => h) (by rfl) (fun v hSw => by have g := hcl v hSw 4 (U te) rfl; go_simp) hH ?_
            simp only [Act.put, List.setIfInBounds_toArray, List.set_cons_succ, List.set_cons_zero]
            refine takeH 10 (U nn) rfl (by kernel_rfl) (by kernel_rfl) (by kernel_rfl) (fun _ _ _ h => h) (by rfl) (fun v hSw => by go_simp) hH ?_
            simp only [Act.put, List.setIfInBounds_toArray, List.set_cons_succ, List.set_cons_zero]
            refine takeH 11 (Value.slice (some ⟨ga, 0, none⟩) 8 ca) rfl (by kernel_rfl) (by kernel_rfl) (by kernel_rfl) (fun _ _ _ h => h) (by rfl) (fun v hSw => by go_simp) hH ?_
            simp only [Act.put, List.setIfInBounds_toArray, List.set_cons_succ, List.set_cons_zero]
            refine takeH 12 (Value.pointer (some ⟨ga, 6, none⟩)) rfl (by kernel_rfl) (by kernel_rfl) (by kernel_rfl) (fun _ _ _ h => h) (by rfl) (fun v hSw => by go_simp) hH ?_
            simp only [Act.put, List.setIfInBounds_toArray, List.set_cons_succ, List.set_cons_zero]
            refine takeH 13 (U tg) rfl (by kernel_rfl) (by kernel_rfl) (by kernel_rfl) (fun _ _ _ h => h) (by rfl) (fun v hSw => by have g := hcl v hSw 6 (U tg) rfl; go_simp) hH ?_
            simp only [Act.put, List.setIfInBounds_toArray, List.set_cons_succ, List.set_cons_zero]
            refine takeH 14 (U n2) rfl (by kernel_rfl) (by kernel_rfl) (by kernel_rfl) (fun _ _ _ h => h) (by rfl) (fun v hSw => by go_simp) hH ?_
            simp only [Act.put, List.setIfInBounds_toArray, List.set_cons_succ, List.set_cons_zero]
            refine takeH 15 (U ch1) rfl (by kernel_rfl) (by kernel_rfl) (by kernel_rfl) (fun _ _ _ h => h) (by rfl) (fun v hSw => by go_simp) hH ?_
            simp only [Act.put, List.setIfInBounds_toArray, List.set_cons_succ, List.set_cons_zero]
            refine takeH 16 (U ch1) rfl (by kernel_rfl) (by kernel_rfl) (by kernel_rfl) (fun _ _ _ h => h) (by rfl) (fun v hSw => by go_simp) hH ?_
            simp only [Act.put, List.setIfInBounds_toArray, List.set_cons_succ, List.set_cons_zero]
            refine wpAnyH_done (by kernel_rfl) ?_ _
            clear f1 f2 f3 f4 hsg hcl hr
            have HR3 := hid hH
            clear hH
            have hcl := Hcl.out
            have m1' := M1.out; have m2' := M2.out; have m3' := M3.out; have m4' := M4.out; have m5' := M5.out
            go_wp2_with fail
            refine wp_region_held_drew (S := Rn w gw (Sha.words b 64) ga ⟨ta, tb, tc, td, te, tf, tg, th⟩) (by kernel_rfl) (HR3.out.next (Kept.of_drew [] wr.drew)) (fun hH => ?_)
            refine takeH 0 (Value.slice (some ⟨ga, 0, none⟩) 8 ca) rfl (by kernel_rfl) (by kernel_rfl) (by kernel_rfl) (fun _ _ _ h => h) (by rfl) (fun v hSw => by go_simp) hH ?_
            simp only [Act.put, List.setIfInBounds_toArray, List.set_cons_succ, List.set_cons_zero]
            refine takeH 1 (Value.pointer (some ⟨ga, 0, none⟩)) rfl (by kernel_rfl) (by kernel_rfl) (by kernel_rfl) (fun _ _ _ h => h) (by rfl) (fun v hSw => by go_simp) hH ?_
            simp only [Act.put, List.setIfInBounds_toArray, List.set_cons_succ, List.set_cons_zero]
            refine takeH 2 (U ta) rfl (by kernel_rfl) (by kernel_rfl) (by kernel_rfl) (fun _ _ _ h => h) (by rfl) (fun v hSw => by have g := hcl v hSw 0 (U ta) rfl; go_simp) hH ?_
            simp only [Act.put, List.setIfInBounds_toArray, List.set_cons_succ, List.set_cons_zero]
            refine takeH 3 (Value.slice (some ⟨ga, 0, none⟩) 8 ca) rfl (by kernel_rfl) (by kernel_rfl) (by kernel_rfl) (fun _ _ _ h => h) (by rfl) (fun v hSw => by go_simp) hH ?_
            simp only [Act.put, List.setIfInBounds_toArray, List.set_cons_succ, List.set_cons_zero]
            refine takeH 4 (Value.pointer (some ⟨ga, 1, none⟩)) rfl (by kernel_rfl) (by kernel_rfl) (by kernel_rfl) (fun _ _ _ h => h) (by rfl) (fun v hSw => by go_simp) hH ?_
            simp only [Act.put, List.setIfInBounds_toArray, List.set_cons_succ, List.set_cons_zero]
            refine takeH 5 (U tb) rfl (by kernel_rfl) (by kernel_rfl) (by kernel_rfl) (fun _ _ _ h => h) (by rfl) (fun v hSw => by have g := hcl v hSw 1 (U tb) rfl; go_simp) hH ?_
            simp only [Act.put, List.setIfInBounds_toArray, List.set_cons_succ, List.set_cons_zero]
            refine takeH 6 (U m1) rfl (by kernel_rfl) (by kernel_rfl) (by kernel_rfl) (fun _ _ _ h => h) (by rfl) (fun v hSw => by go_simp) hH ?_
            simp only [Act.put, List.setIfInBounds_toArray, List.set_cons_succ, List.set_cons_zero]
            refine takeH 7 (Value.slice (some ⟨ga, 0, none⟩) 8 ca) rfl (by kernel_rfl) (by kernel_rfl) (by kernel_rfl) (fun _ _ _ h => h) (by rfl) (fun v hSw => by go_simp) hH ?_
            simp only [Act.put, List.setIfInBounds_toArray, List.set_cons_succ, List.set_cons_zero]
            refine takeH 8 (Value.pointer (some ⟨ga, 0, none⟩)) rfl (by kernel_rfl) (by kernel_rfl) (by kernel_rfl) (fun _ _ _ h => h) (by rfl) (fun v hSw => by go_simp) hH ?_
            simp only [Act.put, List.setIfInBounds_toArray, List.set_cons_succ, List.set_cons_zero]
            refine takeH 9 (U ta) rfl (by kernel_rfl) (by kernel_rfl) (by kernel_rfl) (fun _ _ _ h => h) (by rfl) (fun v hSw => by have g := hcl v hSw 0 (U ta) rfl; go_simp) hH ?_
            simp only [Act.put, List.setIfInBounds_toArray, List.set_cons_succ, List.set_cons_zero]
            refine takeH 10 (Value.slice (some ⟨ga, 0, none⟩) 8 ca) rfl (by kernel_rfl) (by kernel_rfl) (by kernel_rfl) (fun _ _ _ h => h) (by rfl) (fun v hSw => by go_simp) hH ?_
            simp only [Act.put, List.setIfInBounds_toArray, List.set_cons_succ, List.set_cons_zero]
            refine takeH 11 (Value.pointer (some ⟨ga, 2, none⟩)) rfl (by kernel_rfl) (by kernel_rfl) (by kernel_rfl) (fun _ _ _ h => h) (by rfl) (fun v hSw => by go_simp) hH ?_
            simp only [Act.put, List.setIfInBounds_toArray, List.set_cons_succ, List.set_cons_zero]
            refine takeH 12 (U tc) rfl (by kernel_rfl) (by kernel_rfl) (by kernel_rfl) (fun _ _ _ h => h) (by rfl) (fun v hSw => by have g := hcl v hSw 2 (U tc) rfl; go_simp) hH ?_
            simp only [Act.put, List.setIfInBounds_toArray, List.set_cons_succ, List.set_cons_zero]
            refine takeH 13 (U m2) rfl (by kernel_rfl) (by kernel_rfl) (by kernel_rfl) (fun _ _ _ h => h) (by rfl) (fun v hSw => by go_simp) hH ?_
            simp only [Act.put, List.setIfInBounds_toArray, List.set_cons_succ, List.set_cons_zero]
            refine takeH 14 (U m3) rfl (by kernel_rfl) (by kernel_rfl) (by kernel_rfl) (fun _ _ _ h => h) (by rfl) (fun v hSw => by go_simp) hH ?_
            simp only [Act.put, List.setIfInBounds_toArray, List.set_cons_succ, List.set_cons_zero]
            refine takeH 15 (Value.slice (some ⟨ga, 0, none⟩) 8 ca) rfl (by kernel_rfl) (by kernel_rfl) (by kernel_rfl) (fun _ _ _ h => h) (by rfl) (fun v hSw => by go_simp) hH ?_
            simp only [Act.put, List.setIfInBounds_toArray, List.set_cons_succ, List.set_cons_zero]
            refine takeH 16 (Value.pointer (some ⟨ga, 1, none⟩)) rfl (by kernel_rfl) (by kernel_rfl) (by kernel_rfl) (fun _ _ _ h => h) (by rfl) (fun v hSw => by go_simp) hH ?_
            simp only [Act.put, List.setIfInBounds_toArray, List.set_cons_succ, List.set_cons_zero]
            refine takeH 17 (U tb) rfl (by kernel_rfl) (by kernel_rfl) (by kernel_rfl) (fun _ _ _ h => h) (by rfl) (fun v hSw => by have g := hcl v hSw 1 (U tb) rfl; go_simp) hH ?_
            simp only [Act.put, List.setIfInBounds_toArray, List.set_cons_succ, List.set_cons_zero]
            refine takeH 18 (Value.slice (some ⟨ga, 0, none⟩) 8 ca) rfl (by kernel_rfl) (by kernel_rfl) (by kernel_rfl) (fun _ _ _ h => h) (by rfl) (fun v hSw => by go_simp) hH ?_
            simp only [Act.put, List.setIfInBounds_toArray, List.set_cons_succ, List.set_cons_zero]
            refine takeH 19 (Value.pointer (some ⟨ga, 2, none⟩)) rfl (by kernel_rfl) (by kernel_rfl) (by kernel_rfl) (fun _ _ _ h => h) (by rfl) (fun v hSw => by go_simp) hH ?_
            simp only [Act.put, List.setIfInBounds_toArray, List.set_cons_succ, List.set_cons_zero]
            refine takeH 20 (U tc) rfl (by kernel_rfl) (by kernel_rfl) (by kernel_rfl) (fun _ _ _ h => h) (by rfl) (fun v hSw => by have g := hcl v hSw 2 (U tc) rfl; go_simp) hH ?_
            simp only [Act.put, List.setIfInBounds_toArray, List.set_cons_succ, List.set_cons_zero]
            refine takeH 21 (U m4) rfl (by kernel_rfl) (by kernel_rfl) (by kernel_rfl) (fun _ _ _ h => h) (by rfl) (fun v hSw => by go_simp) hH ?_
            simp only [Act.put, List.setIfInBounds_toArray, List.set_cons_succ, List.set_cons_zero]
            refine takeH 22 (U mj) rfl (by kernel_rfl) (by kernel_rfl) (by kernel_rfl) (fun _ _ _ h => h) (by rfl) (fun v hSw => by go_simp) hH ?_
            simp only [Act.put, List.setIfInBounds_toArray, List.set_cons_succ, List.set_cons_zero]
            refine takeH 23 (U mj) rfl (by kernel_rfl) (by kernel_rfl) (by kernel_rfl) (fun _ _ _ h => h) (by rfl) (fun v hSw => by go_simp) hH ?_
            simp only [Act.put, List.setIfInBounds_toArray, List.set_cons_succ, List.set_cons_zero]
            refine wpAnyH_done (by kernel_rfl) ?_ _
            clear m1' m2' m3' m4' m5' hcl HR3
            have HR4 := hid hH
            clear hH
            have hcl := Hcl.out; have hkl := Hkl.out; have hwl := Hwl.out
            have b1 := B1.out; have b2 := B2.out; have a1 := A1.out; have a2 := A2.out; have a3 := A3.out; have a4 := A4.out
            go_wp2_with fail
            refine wp_region_held_drew (S := Rn w gw (Sha.words b 64) ga ⟨ta, tb, tc, td, te, tf, tg, th⟩) (by kernel_rfl) (HR4.out.next (Kept.of_drew [] wr.drew.drew)) (fun hH => ?_)
            refine takeH 0 (Value.slice (some ⟨ga, 0, none⟩) 8 ca) rfl (by kernel_rfl) (by kernel_rfl) (by kernel_rfl) (fun _ _ _ h => h) (by rfl) (fun v hSw => by go_simp) hH ?_
            simp only [Act.put, List.setIfInBounds_toArray, List.set_cons_succ, List.set_cons_zero]
            refine takeH 1 (Value.pointer (some ⟨ga, 7, none⟩)) rfl (by kernel_rfl) (by kernel_rfl) (by kernel_rfl) (fun _ _ _ h => h) (by rfl) (fun v hSw => by go_simp) hH ?_
            simp only [Act.put, List.setIfInBounds_toArray, List.set_cons_succ, List.set_cons_zero]
            refine takeH 2 (U th) rfl (by kernel_rfl) (by kernel_rfl) (by kernel_rfl) (fun _ _ _ h => h) (by rfl) (fun v hSw => by have g := hcl v hSw 7 (U th) rfl; go_simp) hH ?_
            simp only [Act.put, List.setIfInBounds_toArray, List.set_cons_succ, List.set_cons_zero]
            refine takeH 3 (Value.slice (some ⟨ga, 0, none⟩) 8 ca) rfl (by kernel_rfl) (by kernel_rfl) (by kernel_rfl) (fun _ _ _ h => h) (by rfl) (fun v hSw => by go_simp) hH ?_
            simp only [Act.put, List.setIfInBounds_toArray, List.set_cons_succ, List.set_cons_zero]
            refine takeH 4 (Value.pointer (some ⟨ga, 4, none⟩)) rfl (by kernel_rfl) (by kernel_rfl) (by kernel_rfl) (fun _ _ _ h => h) (by rfl) (fun v hSw => by go_simp) hH ?_
            simp only [Act.put, List.setIfInBounds_toArray, List.set_cons_succ, List.set_cons_zero]
            refine takeH 5 (U te) rfl (by kernel_rfl) (by kernel_rfl) (by kernel_rfl) (fun _ _ _ h => h) (by rfl) (fun v hSw => by have g := hcl v hSw 4 (U te) rfl; go_simp) hH ?_
            simp only [Act.put, List.setIfInBounds_toArray, List.set_cons_succ, List.set_cons_zero]
            refine takeH 7 (Value.slice (some ⟨ga, 0, none⟩) 8 ca) rfl (by kernel_rfl) (by kernel_rfl) (by kernel_rfl) (fun _ _ _ h => h) (by rfl) (fun v hSw => by go_simp) hH ?_
            simp only [Act.put, List.setIfInBounds_toArray, List.set_cons_succ, List.set_cons_zero]
            refine takeH 8 (Value.pointer (some ⟨ga, 4, none⟩)) rfl (by kernel_rfl) (by kernel_rfl) (by kernel_rfl) (fun _ _ _ h => h) (by rfl) (fun v hSw => by go_simp) hH ?_
            simp only [Act.put, List.setIfInBounds_toArray, List.set_cons_succ, List.set_cons_zero]
            refine takeH 9 (U te) rfl (by kernel_rfl) (by kernel_rfl) (by kernel_rfl) (fun _ _ _ h => h) (by rfl) (fun v hSw => by have g := hcl v hSw 4 (U te) rfl; go_simp) hH ?_
            simp only [Act.put, List.setIfInBounds_toArray, List.set_cons_succ, List.set_cons_zero]
            refine takeH 12 (Value.slice (some ⟨ga, 0, none⟩) 8 ca) rfl (by kernel_rfl) (by kernel_rfl) (by kernel_rfl) (fun _ _ _ h => h) (by rfl) (fun v hSw => by go_simp) hH ?_
            simp only [Act.put, List.setIfInBounds_toArray, List.set_cons_succ, List.set_cons_zero]
            refine takeH 13 (Value.pointer (some ⟨ga, 4, none⟩)) rfl (by kernel_rfl) (by kernel_rfl) (by kernel_rfl) (fun _ _ _ h => h) (by rfl) (fun v hSw => by go_simp) hH ?_
            simp only [Act.put, List.setIfInBounds_toArray, List.set_cons_succ, List.set_cons_zero]
            refine takeH 14 (U te) rfl (by kernel_rfl) (by kernel_rfl) (by kernel_rfl) (fun _ _ _ h => h) (by rfl) (fun v hSw => by have g := hcl v hSw 4 (U te) rfl; go_simp) hH ?_
            simp only [Act.put, List.setIfInBounds_toArray, List.set_cons_succ, List.set_cons_zero]
            refine takeH 18 (U ch1) rfl (by kernel_rfl) (by kernel_rfl) (by kernel_rfl) (fun _ _ _ h => h) (by rfl) (fun v hSw => by go_simp) hH ?_
            simp only [Act.put, List.setIfInBounds_toArray, List.set_cons_succ, List.set_cons_zero]
            refine takeH 20 (.slice (some ⟨gk, 0, none⟩) 64 ck) rfl (by kernel_rfl) (by kernel_rfl) (by kernel_rfl) (fun _ _ _ h => h) (by rfl) (fun v hSw => by go_simp) hH ?_
            simp only [Act.put, List.setIfInBounds_toArray, List.set_cons_succ, List.set_cons_zero]
            refine takeH 21 (.int .i64 (i : Int)) rfl (by kernel_rfl) (by kernel_rfl) (by kernel_rfl) (fun _ _ _ h => h) (by rfl) (fun v hSw => by go_simp) hH ?_
            simp only [Act.put, List.setIfInBounds_toArray, List.set_cons_succ, List.set_cons_zero]
            refine takeH 22 (Value.pointer (some ⟨gk, i, none⟩)) rfl (by kernel_rfl) (by kernel_rfl) (by kernel_rfl) (fun _ _ _ h => h) (by rfl) (fun v hSw => by go_simp) hH ?_
            simp only [Act.put, List.setIfInBounds_toArray, List.set_cons_succ, List.set_cons_zero]
            refine takeH 23 (U kk) rfl (by kernel_rfl) (by kernel_rfl) (by kernel_rfl) (fun _ _ _ h => h) (by rfl) (fun v hSw => by have g := hkl v hSw; go_simp) hH ?_
            simp only [Act.put, List.setIfInBounds_toArray, List.set_cons_succ, List.set_cons_zero]
            refine takeH 25 (.slice (some ⟨gw, 0, none⟩) 64 c7) rfl (by kernel_rfl) (by kernel_rfl) (by kernel_rfl) (fun _ _ _ h => h) (by rfl) (fun v hSw => by go_simp) hH ?_
            simp only [Act.put, List.setIfInBounds_toArray, List.set_cons_succ, List.set_cons_zero]
            refine takeH 26 (.int .i64 (i : Int)) rfl (by kernel_rfl) (by kernel_rfl) (by kernel_rfl) (fun _ _ _ h => h) (by rfl) (fun v hSw => by go_simp) hH ?_
            simp only [Act.put, List.setIfInBounds_toArray, List.set_cons_succ, List.set_cons_zero]
            refine takeH 27 (Value.pointer (some ⟨gw, i, none⟩)) rfl (by kernel_rfl) (by kernel_rfl) (by kernel_rfl) (fun _ _ _ h => h) (by rfl) (fun v hSw => by go_simp) hH ?_
            simp only [Act.put, List.setIfInBounds_toArray, List.set_cons_succ, List.set_cons_zero]
            refine takeH 28 (U ww) rfl (by kernel_rfl) (by kernel_rfl) (by kernel_rfl) (fun _ _ _ h => h) (by rfl) (fun v hSw => by have g := hwl v hSw; go_simp) hH ?_
            simp only [Act.put, List.setIfInBounds_toArray, List.set_cons_succ, List.set_cons_zero]
            refine callH 6 rfl (by kernel_rfl) (by rfl) 25 #[U te, .int .i64 6] (by go_simp) (U r1) hH (R1.out _) ?_
            clear hH
            intro vv hH
            simp only [Act.put, List.setIfInBounds_toArray, List.set_cons_succ, List.set_cons_zero]
            refine callH 10 rfl (by kernel_rfl) (by rfl) 25 #[U te, .int .i64 11] (by go_simp) (U r2) hH (R2.out _) ?_
            clear hH
            intro vv hH
            simp only [Act.put, List.setIfInBounds_toArray, List.set_cons_succ, List.set_cons_zero]
            refine takeH 11 (U z1) rfl (by kernel_rfl) (by kernel_rfl) (by kernel_rfl) (fun _ _ _ h => h) (by rfl) (fun v hSw => by go_simp) hH ?_
            simp only [Act.put, List.setIfInBounds_toArray, List.set_cons_succ, List.set_cons_zero]
            refine callH 15 rfl (by kernel_rfl) (by rfl) 25 #[U te, .int .i64 25] (by go_simp) (U r3) hH (R3.out _) ?_
            clear hH
            intro vv hH
            simp only [Act.put, List.setIfInBounds_toArray, List.set_cons_succ, List.set_cons_zero]
            refine takeH 16 (U z2) rfl (by kernel_rfl) (by kernel_rfl) (by kernel_rfl) (fun _ _ _ h => h) (by rfl) (fun v hSw => by go_simp) hH ?_
            simp only [Act.put, List.setIfInBounds_toArray, List.set_cons_succ, List.set_cons_zero]
            refine takeH 17 (U v1) rfl (by kernel_rfl) (by kernel_rfl) (by kernel_rfl) (fun _ _ _ h => h) (by rfl) (fun v hSw => by go_simp) hH ?_
            simp only [Act.put, List.setIfInBounds_toArray, List.set_cons_succ, List.set_cons_zero]
            refine takeH 19 (U v2) rfl (by kernel_rfl) (by kernel_rfl) (by kernel_rfl) (fun _ _ _ h => h) (by rfl) (fun v hSw => by go_simp) hH ?_
            simp only [Act.put, List.setIfInBounds_toArray, List.set_cons_succ, List.set_cons_zero]
            refine takeH 24 (U v3) rfl (by kernel_rfl) (by kernel_rfl) (by kernel_rfl) (fun _ _ _ h => h) (by rfl) (fun v hSw => by go_simp) hH ?_
            simp only [Act.put, List.setIfInBounds_toArray, List.set_cons_succ, List.set_cons_zero]
            refine takeH 29 (U x1) rfl (by kernel_rfl) (by kernel_rfl) (by kernel_rfl) (fun _ _ _ h => h) (by rfl) (fun v hSw => by go_simp) hH ?_
            simp only [Act.put, List.setIfInBounds_toArray, List.set_cons_succ, List.set_cons_zero]
            refine takeH 30 (U x1) rfl (by kernel_rfl) (by kernel_rfl) (by kernel_rfl) (fun _ _ _ h => h) (by rfl) (fun v hSw => by go_simp) hH ?_
            simp only [Act.put, List.setIfInBounds_toArray, List.set_cons_succ, List.set_cons_zero]
            refine wpAnyH_done (by kernel_rfl) ?_ _
            clear b1 b2 a1 a2 a3 a4 hcl hkl hwl HR4
            have HR5 := hid hH
            clear hH
            have hcl := Hcl.out
            have b3 := B3.out; have b4 := B4.out; have a5 := A5.out
            go_wp2_with fail
            refine wp_region_held_drew (S := Rn w gw (Sha.words b 64) ga ⟨ta, tb, tc, td, te, tf, tg, th⟩) (by kernel_rfl) (HR5.out.next (Kept.of_drew [] vv)) (fun hH => ?_)
            refine takeH 0 (Value.slice (some ⟨ga, 0, none⟩) 8 ca) rfl (by kernel_rfl) (by kernel_rfl) (by kernel_rfl) (fun _ _ _ h => h) (by rfl) (fun v hSw => by go_simp) hH ?_
            simp only [Act.put, List.setIfInBounds_toArray, List.set_cons_succ, List.set_cons_zero]
            refine takeH 1 (Value.pointer (some ⟨ga, 0, none⟩)) rfl (by kernel_rfl) (by kernel_rfl) (by kernel_rfl) (fun _ _ _ h => h) (by rfl) (fun v hSw => by go_simp) hH ?_
            simp only [Act.put, List.setIfInBounds_toArray, List.set_cons_succ, List.set_cons_zero]
            refine takeH 2 (U ta) rfl (by kernel_rfl) (by kernel_rfl) (by kernel_rfl) (fun _ _ _ h => h) (by rfl) (fun v hSw => by have g := hcl v hSw 0 (U ta) rfl; go_simp) hH ?_
            simp only [Act.put, List.setIfInBounds_toArray, List.set_cons_succ, List.set_cons_zero]
            refine takeH 4 (Value.slice (some ⟨ga, 0, none⟩) 8 ca) rfl (by kernel_rfl) (by kernel_rfl) (by kernel_rfl) (fun _ _ _ h => h) (by rfl) (fun v hSw => by go_simp) hH ?_
            simp only [Act.put, List.setIfInBounds_toArray, List.set_cons_succ, List.set_cons_zero]
            refine takeH 5 (Value.pointer (some ⟨ga, 0, none⟩)) rfl (by kernel_rfl) (by kernel_rfl) (by kernel_rfl) (fun _ _ _ h => h) (by rfl) (fun v hSw => by go_simp) hH ?_
            simp only [Act.put, List.setIfInBounds_toArray, List.set_cons_succ, List.set_cons_zero]
            refine takeH 6 (U ta) rfl (by kernel_rfl) (by kernel_rfl) (by kernel_rfl) (fun _ _ _ h => h) (by rfl) (fun v hSw => by have g := hcl v hSw 0 (U ta) rfl; go_simp) hH ?_
            simp only [Act.put, List.setIfInBounds_toArray, List.set_cons_succ, List.set_cons_zero]
            refine takeH 9 (Value.slice (some ⟨ga, 0, none⟩) 8 ca) rfl (by kernel_rfl) (by kernel_rfl) (by kernel_rfl) (fun _ _ _ h => h) (by rfl) (fun v hSw => by go_simp) hH ?_
            simp only [Act.put, List.setIfInBounds_toArray, List.set_cons_succ, List.set_cons_zero]
            refine takeH 10 (Value.pointer (some ⟨ga, 0, none⟩)) rfl (by kernel_rfl) (by kernel_rfl) (by kernel_rfl) (fun _ _ _ h => h) (by rfl) (fun v hSw => by go_simp) hH ?_
            simp only [Act.put, List.setIfInBounds_toArray, List.set_cons_succ, List.set_cons_zero]
            refine takeH 11 (U ta) rfl (by kernel_rfl) (by kernel_rfl) (by kernel_rfl) (fun _ _ _ h => h) (by rfl) (fun v hSw => by have g := hcl v hSw 0 (U ta) rfl; go_simp) hH ?_
            simp only [Act.put, List.setIfInBounds_toArray, List.set_cons_succ, List.set_cons_zero]
            refine takeH 14 (U mj) rfl (by kernel_rfl) (by kernel_rfl) (by kernel_rfl) (fun _ _ _ h => h) (by rfl) (fun v hSw => by go_simp) hH ?_
            simp only [Act.put, List.setIfInBounds_toArray, List.set_cons_succ, List.set_cons_zero]
            refine callH 3 rfl (by kernel_rfl) (by rfl) 25 #[U ta, .int .i64 2] (by go_simp) (U q1) hH (Q1.out _) ?_
            clear hH
            intro vv hH
            simp only [Act.put, List.setIfInBounds_toArray, List.set_cons_succ, List.set_cons_zero]
            refine callH 7 rfl (by kernel_rfl) (by rfl) 25 #[U ta, .int .i64 13] (by go_simp) (U q2) hH (Q2.out _) ?_
            clear hH
            intro vv hH
            simp only [Act.put, List.setIfInBounds_toArray, List.set_cons_succ, List.set_cons_zero]
            refine takeH 8 (U y1) rfl (by kernel_rfl) (by kernel_rfl) (by kernel_rfl) (fun _ _ _ h => h) (by rfl) (fun v hSw => by go_simp) hH ?_
            simp only [Act.put, List.setIfInBounds_toArray, List.set_cons_succ, List.set_cons_zero]
            refine callH 12 rfl (by kernel_rfl) (by rfl) 25 #[U ta, .int .i64 22] (by go_simp) (U q3) hH (Q3.out _) ?_
            clear hH
            intro vv hH
            simp only [Act.put, List.setIfInBounds_toArray, List.set_cons_succ, List.set_cons_zero]
            refine takeH 13 (U y2) rfl (by kernel_rfl) (by kernel_rfl) (by kernel_rfl) (fun _ _ _ h => h) (by rfl) (fun v hSw => by go_simp) hH ?_
            simp only [Act.put, List.setIfInBounds_toArray, List.set_cons_succ, List.set_cons_zero]
            refine takeH 15 (U x2) rfl (by kernel_rfl) (by kernel_rfl) (by kernel_rfl) (fun _ _ _ h => h) (by rfl) (fun v hSw => by go_simp) hH ?_
            simp only [Act.put, List.setIfInBounds_toArray, List.set_cons_succ, List.set_cons_zero]
            refine takeH 16 (U x2) rfl (by kernel_rfl) (by kernel_rfl) (by kernel_rfl) (fun _ _ _ h => h) (by rfl) (fun v hSw => by go_simp) hH ?_
            simp only [Act.put, List.setIfInBounds_toArray, List.set_cons_succ, List.set_cons_zero]
            refine wpAnyH_done (by kernel_rfl) ?_ _
            clear b3 b4 a5 hcl HR5
            have HR6 := hid hH
            clear hH
            have hcl := Hcl.out
            have a6 := A6.out; have a7 := A7.out
            go_wp2_with fail
            refine wp_region_held_drew (S := Rn w gw (Sha.words b 64) ga ⟨ta, tb, tc, td, te, tf, tg, th⟩) (by kernel_rfl) (HR6.out.next (Kept.of_drew [] vv)) (fun hH => ?_)
            refine takeH 0 (U x1) rfl (by kernel_rfl) (by kernel_rfl) (by kernel_rfl) (fun _ _ _ h => h) (by rfl) (fun v hSw => by go_simp) hH ?_
            simp only [Act.put, List.setIfInBounds_toArray, List.set_cons_succ, List.set_cons_zero]
            refine takeH 1 (U x2) rfl (by kernel_rfl) (by kernel_rfl) (by kernel_rfl) (fun _ _ _ h => h) (by rfl) (fun v hSw => by go_simp) hH ?_
            simp only [Act.put, List.setIfInBounds_toArray, List.set_cons_succ, List.set_cons_zero]
            refine takeH 2 (U na) rfl (by kernel_rfl) (by kernel_rfl) (by kernel_rfl) (fun _ _ _ h => h) (by rfl) (fun v hSw => by go_simp) hH ?_
            simp only [Act.put, List.setIfInBounds_toArray, List.set_cons_succ, List.set_cons_zero]
            refine takeH 3 (Value.slice (some ⟨ga, 0, none⟩) 8 ca) rfl (by kernel_rfl) (by kernel_rfl) (by kernel_rfl) (fun _ _ _ h => h) (by rfl) (fun v hSw => by go_simp) hH ?_
            simp only [Act.put, List.setIfInBounds_toArray, List.set_cons_succ, List.set_cons_zero]
            refine takeH 4 (Value.pointer (some ⟨ga, 0, none⟩)) rfl (by kernel_rfl) (by kernel_rfl) (by kernel_rfl) (fun _ _ _ h => h) (by rfl) (fun v hSw => by go_simp) hH ?_
            simp only [Act.put, List.setIfInBounds_toArray, List.set_cons_succ, List.set_cons_zero]
            refine takeH 5 (U ta) rfl (by kernel_rfl) (by kernel_rfl) (by kernel_rfl) (fun _ _ _ h => h) (by rfl) (fun v hSw => by have g := hcl v hSw 0 (U ta) rfl; go_simp) hH ?_
            simp only [Act.put, List.setIfInBounds_toArray, List.set_cons_succ, List.set_cons_zero]
            refine takeH 6 (Value.slice (some ⟨ga, 0, none⟩) 8 ca) rfl (by kernel_rfl) (by kernel_rfl) (by kernel_rfl) (fun _ _ _ h => h) (by rfl) (fun v hSw => by go_simp) hH ?_
            simp only [Act.put, List.setIfInBounds_toArray, List.set_cons_succ, List.set_cons_zero]
            refine takeH 7 (Value.pointer (some ⟨ga, 1, none⟩)) rfl (by kernel_rfl) (by kernel_rfl) (by kernel_rfl) (fun _ _ _ h => h) (by rfl) (fun v hSw => by go_simp) hH ?_
            simp only [Act.put, List.setIfInBounds_toArray, List.set_cons_succ, List.set_cons_zero]
            refine takeH 8 (U tb) rfl (by kernel_rfl) (by kernel_rfl) (by kernel_rfl) (fun _ _ _ h => h) (by rfl) (fun v hSw => by have g := hcl v hSw 1 (U tb) rfl; go_simp) hH ?_
            simp only [Act.put, List.setIfInBounds_toArray, List.set_cons_succ, List.set_cons_zero]
            refine takeH 9 (Value.slice (some ⟨ga, 0, none⟩) 8 ca) rfl (by kernel_rfl) (by kernel_rfl) (by kernel_rfl) (fun _ _ _ h => h) (by rfl) (fun v hSw => by go_simp) hH ?_
            simp only [Act.put, List.setIfInBounds_toArray, List.set_cons_succ, List.set_cons_zero]
            refine takeH 10 (Value.pointer (some ⟨ga, 2, none⟩)) rfl (by kernel_rfl) (by kernel_rfl) (by kernel_rfl) (fun _ _ _ h => h) (by rfl) (fun v hSw => by go_simp) hH ?_
            simp only [Act.put, List.setIfInBounds_toArray, List.set_cons_succ, List.set_cons_zero]
            refine takeH 11 (U tc) rfl (by kernel_rfl) (by kernel_rfl) (by kernel_rfl) (fun _ _ _ h => h) (by rfl) (fun v hSw => by have g := hcl v hSw 2 (U tc) rfl; go_simp) hH ?_
            simp only [Act.put, List.setIfInBounds_toArray, List.set_cons_succ, List.set_cons_zero]
            refine takeH 12 (Value.slice (some ⟨ga, 0, none⟩) 8 ca) rfl (by kernel_rfl) (by kernel_rfl) (by kernel_rfl) (fun _ _ _ h => h) (by rfl) (fun v hSw => by go_simp) hH ?_
            simp only [Act.put, List.setIfInBounds_toArray, List.set_cons_succ, List.set_cons_zero]
            refine takeH 13 (Value.pointer (some ⟨ga, 3, none⟩)) rfl (by kernel_rfl) (by kernel_rfl) (by kernel_rfl) (fun _ _ _ h => h) (by rfl) (fun v hSw => by go_simp) hH ?_
            simp only [Act.put, List.setIfInBounds_toArray, List.set_cons_succ, List.set_cons_zero]
            refine takeH 14 (U td) rfl (by kernel_rfl) (by kernel_rfl) (by kernel_rfl) (fun _ _ _ h => h) (by rfl) (fun v hSw => by have g := hcl v hSw 3 (U td) rfl; go_simp) hH ?_
            simp only [Act.put, List.setIfInBounds_toArray, List.set_cons_succ, List.set_cons_zero]
            refine takeH 15 (U x1) rfl (by kernel_rfl) (by kernel_rfl) (by kernel_rfl) (fun _ _ _ h => h) (by rfl) (fun v hSw => by go_simp) hH ?_
            simp only [Act.put, List.setIfInBounds_toArray, List.set_cons_succ, List.set_cons_zero]
            refine takeH 16 (U ne) rfl (by kernel_rfl) (by kernel_rfl) (by kernel_rfl) (fun _ _ _ h => h) (by rfl) (fun v hSw => by go_simp) hH ?_
            simp only [Act.put, List.setIfInBounds_toArray, List.set_cons_succ, List.set_cons_zero]
            refine takeH 17 (Value.slice (some ⟨ga, 0, none⟩) 8 ca) rfl (by kernel_rfl) (by kernel_rfl) (by kernel_rfl) (fun _ _ _ h => h) (by rfl) (fun v hSw => by go_simp) hH ?_
            simp only [Act.put, List.setIfInBounds_toArray, List.set_cons_succ, List.set_cons_zero]
            refine takeH 18 (Value.pointer (some ⟨ga, 4, none⟩)) rfl (by kernel_rfl) (by kernel_rfl) (by kernel_rfl) (fun _ _ _ h => h) (by rfl) (fun v hSw => by go_simp) hH ?_
            simp only [Act.put, List.setIfInBounds_toArray, List.set_cons_succ, List.set_cons_zero]
            refine takeH 19 (U te) rfl (by kernel_rfl) (by kernel_rfl) (by kernel_rfl) (fun _ _ _ h => h) (by rfl) (fun v hSw => by have g := hcl v hSw 4 (U te) rfl; go_simp) hH ?_
            simp only [Act.put, List.setIfInBounds_toArray, List.set_cons_succ, List.set_cons_zero]
            refine takeH 20 (Value.slice (some ⟨ga, 0, none⟩) 8 ca) rfl (by kernel_rfl) (by kernel_rfl) (by kernel_rfl) (fun _ _ _ h => h) (by rfl) (fun v hSw => by go_simp) hH ?_
            simp only [Act.put, List.setIfInBounds_toArray, List.set_cons_succ, List.set_cons_zero]
            refine takeH 21 (Value.pointer (some ⟨ga, 5, none⟩)) rfl (by kernel_rfl) (by kernel_rfl) (by kernel_rfl) (fun _ _ _ h => h) (by rfl) (fun v hSw => by go_simp) hH ?_
            simp only [Act.put, List.setIfInBounds_toArray, List.set_cons_succ, List.set_cons_zero]
            refine takeH 22 (U tf) rfl (by kernel_rfl) (by kernel_rfl) (by kernel_rfl) (fun _ _ _ h => h) (by rfl) (fun v hSw => by have g := hcl v hSw 5 (U tf) rfl; go_simp) hH ?_
            simp only [Act.put, List.setIfInBounds_toArray, List.set_cons_succ, List.set_cons_zero]
            refine takeH 23 (Value.slice (some ⟨ga, 0, none⟩) 8 ca) rfl (by kernel_rfl) (by kernel_rfl) (by kernel_rfl) (fun _ _ _ h => h) (by rfl) (fun v hSw => by go_simp) hH ?_
            simp only [Act.put, List.setIfInBounds_toArray, List.set_cons_succ, List.set_cons_zero]
            refine takeH 24 (Value.pointer (some ⟨ga, 6, none⟩)) rfl (by kernel_rfl) (by kernel_rfl) (by kernel_rfl) (fun _ _ _ h => h) (by rfl) (fun v hSw => by go_simp) hH ?_
            simp only [Act.put, List.setIfInBounds_toArray, List.set_cons_succ, List.set_cons_zero]
            refine takeH 25 (U tg) rfl (by kernel_rfl) (by kernel_rfl) (by kernel_rfl) (fun _ _ _ h => h) (by rfl) (fun v hSw => by have g := hcl v hSw 6 (U tg) rfl; go_simp) hH ?_
            simp only [Act.put, List.setIfInBounds_toArray, List.set_cons_succ, List.set_cons_zero]
            refine runH 26 rfl (by kernel_rfl) (by rfl) (.slice (some ⟨vv.heap.size, 0, none⟩) 8 8) (vv.drew.alloc (.cells #[U na, U ta, U tb, U tc, U ne, U te, U tf, U tg] 35)) (by go_simp) (HR6.out.next ((Kept.of_drew [] vv).alloc _)) ?_
            simp only [Act.put, List.setIfInBounds_toArray, List.set_cons_succ, List.set_cons_zero]
            have hk7 : Kept [] vv (vv.drew.alloc (.cells #[U na, U ta, U tb, U tc, U ne, U te, U tf, U tg] 35)) := (Kept.of_drew [] vv).alloc _
            refine takeH 27 (.slice (some ⟨vv.heap.size, 0, none⟩) 8 8) rfl (by kernel_rfl) (by kernel_rfl) (by kernel_rfl) (fun _ _ _ h => h) (by rfl) (fun v hSw => by go_simp) (HR6.out.next hk7) ?_
            simp only [Act.put, List.setIfInBounds_toArray, List.set_cons_succ, List.set_cons_zero]
            refine wpAnyH_done (by kernel_rfl) ?_ _
            have hnew : Hid (Rn w gw (Sha.words b 64) vv.heap.size (Sha.rnds s (Sha.words b 64) (i + 1)) (vv.drew.alloc (.cells #[U na, U ta, U tb, U tc, U ne, U te, U tf, U tg] 35))) := hid (by
              refine ⟨HR6.out.1.trans hk7, HR6.out.2.1.next hk7, fun j u hj => ?_, by have := HR6.out.1.size; omega⟩
              have hh := heap_alloc_at (w := vv.drew) (o := .cells #[U na, U ta, U tb, U tc, U ne, U te, U tf, U tg] 35) (k := vv.heap.size) rfl
              rw [cell_of_row _ vv.heap.size j _ _ _ hh]
              have e : stL (Sha.rnds s (Sha.words b 64) (i + 1)) = [U na, U ta, U tb, U tc, U ne, U te, U tf, U tg] := by
                rw [Hst.out]; rfl
              rw [e] at hj; simpa using hj)
            clear hk7 hH hcl a6 a7
            go_wp2_with fail
            exact ⟨⟨i + 1, vv.heap.size, 8, by omega, by go_num, rfl, hnew⟩, by simp [intOf]; omega⟩
          · obtain rfl : i = 64 := by omega
            have hrr := hr.out
            obtain ⟨r64, h64'⟩ : ∃ r, r = Sha.rnds s (Sha.words b 64) 64 := ⟨_, rfl⟩
            rw [← h64'] at hrr
            have hmx : ∀ i, i < 8 → (stL (Sha.mix s b))[i]? = some (U (s.list.getD i 0 + r64.list.getD i 0)) := fun i hi => by
              have e : Sha.mix s b = r64.add s := by rw [h64']; rfl
              rw [e]
              rcases i with _ | _ | _ | _ | _ | _ | _ | _ | i <;> first | omega | (simp [stL, Sha.St.add, Sha.St.list, BitVec.add_comm])
            have hls : ∀ (t : Sha.St) i, i < 8 → (stL t)[i]? = some (U (t.list.getD i 0)) := fun t i hi => by
              rcases i with _ | _ | _ | _ | _ | _ | _ | _ | i <;> first | omega | rfl
            have Hrk := hid hrr.1
            have HA0 := hid hrr.2.2.1
            have Hga := hid (show ga < wr.heap.size from World.block_lt_of_cell? wr _ (hrr.2.2.1 0 _ rfl))
            have Hmx := hid hmx; have Hls := hid hls
            clear hrr hr h64' hmx hls
            obtain ⟨b3, hb3⟩ : ∃ b, b = wr.heap.size := ⟨_, rfl⟩
            have hfr3 := hid (show RowV w b3 35 (.slice (some ⟨wr.heap.size, 0, none⟩) 0 0) [] (wr.alloc (.cells #[] 35)) by rw [hb3]; exact RowV.fresh 35 Hrk.out)
            have HA1 := hid (show ∀ (j : Nat) u, (stL r64)[j]? = some u → (wr.alloc (.cells #[] 35)).cell? ⟨ga, j, none⟩ = some u from fun j u hj => (((Kept.refl [] wr).alloc _).cell (p := ⟨ga, j, none⟩) Hga.out (by simp)).trans (HA0.out j u hj))
            have HB3 := hid (show ga < b3 by rw [hb3]; exact Hga.out)
            clear hb3 Hga HA0 Hrk
            go_wp2_with fail
            go_loopw [17, 18] (fun v j wr => ∃ i : Nat, i ≤ 8 ∧ j = .int .i64 i ∧ Hid (RowV w b3 35 v ((stL (Sha.mix s b)).take i) wr) ∧ Hid (∀ (j : Nat) u, (stL r64)[j]? = some u → wr.cell? ⟨ga, j, none⟩ = some u)) (fun _ j _ => 8 - (intOf j).toNat)
            case atStart => exact ⟨0, by omega, rfl, hid (by simpa using hfr3.out), HA1⟩
            case round =>
              clear hfr3 HA1
              obtain ⟨i, hi, rfl, HO, HA⟩ := hrel
              have hol : ((stL (Sha.mix s b)).take i).length = i := by simp [stL]; omega
              by_cases hlt : i < 8
              · obtain ⟨ao, co, rfl⟩ := owns_slice HO.out.2.2.2
                rw [hol] at HO ⊢
                obtain ⟨hi1, hhi⟩ : ∃ x, x = s.list.getD i 0 := ⟨_, rfl⟩
                obtain ⟨ai1, hai⟩ : ∃ x, x = r64.list.getD i 0 := ⟨_, rfl⟩
                obtain ⟨su, hsu0⟩ : ∃ x, x = hi1 + ai1 := ⟨_, rfl⟩
                have hsu : IntKind.u32.wrap ((hi1.toNat : Int) + (ai1.toNat : Int)) = (su.toNat : Int) := by rw [IntKind.wrap_u32, add_bv, hsu0]
                have hhl : ∀ v, KG w ga (stL r64) v → v.cell? ⟨gh, i, none⟩ = some (U hi1) := fun v hv => by
                  have h1 := Hh.out i _ (Hls.out s i hlt)
                  rw [hhi]; exact (hv.1.cell (p := ⟨gh, i, none⟩) (World.block_lt_of_cell? w _ h1) (by simp)).trans h1
                have hal : ∀ v, KG w ga (stL r64) v → v.cell? ⟨ga, i, none⟩ = some (U ai1) := fun v hv => by
                  rw [hai]; exact hv.2 i _ (Hls.out r64 i hlt)
                have Hsn := hid (show (stL (Sha.mix s b)).take (i + 1) = (stL (Sha.mix s b)).take i ++ [U su] by
                  rw [List.take_add_one, Hmx.out i hlt, hsu0, hhi, hai]; rfl)
                have Hown := hid (((Kept.of_drew [] wr).alloc (.cells #[U su] 35)).owns (by have := HO.out.2.2.2; rwa [hol] at this) (by simp))
                have i0' : (0 : Int) ≤ (i : Int) := by omega
                have i8' : (i : Int) < 8 := by omega
                clear hhi hai hsu0
                go_wp2_with fail
                refine wp_region_held_drew (S := KG w ga (stL r64)) (by kernel_rfl) ⟨HO.out.1.drew, HA.out⟩ (fun hH => ?_)
                refine takeH 0 (.slice ao i co) rfl (by kernel_rfl) (by kernel_rfl) (by kernel_rfl) (fun _ _ _ h => h) (by rfl) (fun v hSw => by go_simp) hH ?_
                simp only [Act.put, List.setIfInBounds_toArray, List.set_cons_succ, List.set_cons_zero]
                refine takeH 1 (.slice (some ⟨gh, 0, none⟩) 8 ch) rfl (by kernel_rfl) (by kernel_rfl) (by kernel_rfl) (fun _ _ _ h => h) (by rfl) (fun v hSw => by go_simp) hH ?_
                simp only [Act.put, List.setIfInBounds_toArray, List.set_cons_succ, List.set_cons_zero]
                refine takeH 2 (.int .i64 (i : Int)) rfl (by kernel_rfl) (by kernel_rfl) (by kernel_rfl) (fun _ _ _ h => h) (by rfl) (fun v hSw => by go_simp) hH ?_
                simp only [Act.put, List.setIfInBounds_toArray, List.set_cons_succ, List.set_cons_zero]
                refine takeH 3 (Value.pointer (some ⟨gh, i, none⟩)) rfl (by kernel_rfl) (by kernel_rfl) (by kernel_rfl) (fun _ _ _ h => h) (by rfl) (fun v hSw => by go_simp) hH ?_
                simp only [Act.put, List.setIfInBounds_toArray, List.set_cons_succ, List.set_cons_zero]
                refine takeH 4 (U hi1) rfl (by kernel_rfl) (by kernel_rfl) (by kernel_rfl) (fun _ _ _ h => h) (by rfl) (fun v hSw => by have g := hhl v hSw; go_simp) hH ?_
                simp only [Act.put, List.setIfInBounds_toArray, List.set_cons_succ, List.set_cons_zero]
                refine takeH 5 (.slice (some ⟨ga, 0, none⟩) 8 ca) rfl (by kernel_rfl) (by kernel_rfl) (by kernel_rfl) (fun _ _ _ h => h) (by rfl) (fun v hSw => by go_simp) hH ?_
                simp only [Act.put, List.setIfInBounds_toArray, List.set_cons_succ, List.set_cons_zero]
                refine takeH 6 (.int .i64 (i : Int)) rfl (by kernel_rfl) (by kernel_rfl) (by kernel_rfl) (fun _ _ _ h => h) (by rfl) (fun v hSw => by go_simp) hH ?_
                simp only [Act.put, List.setIfInBounds_toArray, List.set_cons_succ, List.set_cons_zero]
                refine takeH 7 (Value.pointer (some ⟨ga, i, none⟩)) rfl (by kernel_rfl) (by kernel_rfl) (by kernel_rfl) (fun _ _ _ h => h) (by rfl) (fun v hSw => by go_simp) hH ?_
                simp only [Act.put, List.setIfInBounds_toArray, List.set_cons_succ, List.set_cons_zero]
                refine takeH 8 (U ai1) rfl (by kernel_rfl) (by kernel_rfl) (by kernel_rfl) (fun _ _ _ h => h) (by rfl) (fun v hSw => by have g := hal v hSw; go_simp) hH ?_
                simp only [Act.put, List.setIfInBounds_toArray, List.set_cons_succ, List.set_cons_zero]
                refine takeH 9 (U su) rfl (by kernel_rfl) (by kernel_rfl) (by kernel_rfl) (fun _ _ _ h => h) (by rfl) (fun v hSw => by go_simp) hH ?_
                simp only [Act.put, List.setIfInBounds_toArray, List.set_cons_succ, List.set_cons_zero]
                refine runH 10 rfl (by kernel_rfl) (by rfl) (.slice (some ⟨wr.heap.size, 0, none⟩) 1 1) (wr.drew.alloc (.cells #[U su] 35)) (by go_simp) ⟨HO.out.1.drew.alloc _, fun j u hj => (((Kept.of_drew [] wr).alloc (.cells #[U su] 35)).cell (p := ⟨ga, j, none⟩) (World.block_lt_of_cell? wr _ (HA.out j u hj)) (by simp)).trans (HA.out j u hj)⟩ ?_
                simp only [Act.put, List.setIfInBounds_toArray, List.set_cons_succ, List.set_cons_zero]
                refine appendH 11 rfl (by kernel_rfl) rfl (.tmp 244) (.tmp 254) 46 rfl b3 35 i0 _ 4 Tryd.underlying46 hi0 hz0 hz1 hz2 rfl (.slice ao i co) i ((stL (Sha.mix s b)).take i) rfl Hown.out ⟨wr.heap.size, 0, none⟩ 1 1 [U su] rfl (cell_one_new wr.drew (U su) _) rfl (by intro u hu; simp at hu; subst hu; rfl) (by unfold maxLen; omega) (by omega) (by have := HO.out.2.2.1; simp; omega) ?_
                intro a8 c8 w8 hown2 hgrow2 _
                have hk8 := (HO.out.next ((Kept.of_drew [] wr).alloc (.cells #[U su] 35))).kept_of hgrow2
                have hA8 : ∀ (j : Nat) u, (stL r64)[j]? = some u → w8.cell? ⟨ga, j, none⟩ = some u := fun j u hj => by
                  have h1 := (((Kept.of_drew [] wr).alloc (.cells #[U su] 35)).cell (p := ⟨ga, j, none⟩) (World.block_lt_of_cell? wr _ (HA.out j u hj)) (by simp)).trans (HA.out j u hj)
                  refine Eq.trans ?_ h1
                  unfold World.cell?
                  rw [hgrow2.block ga (Nat.lt_of_lt_of_le (World.block_lt_of_cell? wr _ (HA.out j u hj)) (by simp)) (fun e => by
                    rcases Hown.out.2 with ⟨h0, _⟩ | ⟨g', _, _, h0, hb', _⟩
                    · rw [h0] at e; simp [Value.ownBlock] at e
                    · rw [h0] at e; simp [Value.ownBlock] at e; have := HB3.out; omega)]
                have hH8 : KG w ga (stL r64) w8 := ⟨hk8, hA8⟩
                refine ⟨hH8, ?_⟩
                simp only [Act.put, List.setIfInBounds_toArray, List.set_cons_succ, List.set_cons_zero]
                have hstep := hid (show RowV w b3 35 (.slice a8 (i + 1) c8) ((stL (Sha.mix s b)).take (i + 1)) w8 from by
                  rw [Hsn.out]
                  exact HO.out.step ((Kept.of_drew [] wr).alloc (.cells #[U su] 35)) (by rw [List.length_append, hol]; simpa using hown2) hgrow2)
                clear hown2 hgrow2 hk8 Hown
                refine takeH 12 (.slice a8 (i + 1) c8) rfl (by kernel_rfl) (by kernel_rfl) (by kernel_rfl) (fun _ _ _ h => h) (by rfl) (fun v hSw => by go_simp) hH8 ?_
                simp only [Act.put, List.setIfInBounds_toArray, List.set_cons_succ, List.set_cons_zero]
                refine wpAnyH_done (by kernel_rfl) ?_ _
                clear hsu
                go_wp2_with fail
                exact ⟨⟨i + 1, by omega, by go_num, hstep, hid hA8⟩, by simp [intOf]; omega⟩
              · obtain rfl : i = 8 := by omega
                have hO := HO.out
                rw [List.take_of_length_le (by simp [stL])] at hO
                obtain ⟨g9, c9, hv, hg9, hl9, hc9⟩ := hO.slice (by simp [stL])
                subst hv
                have hfin := hid (show Kept [] w wr ∧ w.heap.size ≤ g9 ∧ g9 < wr.heap.size ∧ ∀ (j : Nat) u, (stL (Sha.mix s b))[j]? = some u → wr.cell? ⟨g9, j, none⟩ = some u from ⟨hO.1, Nat.le_trans hO.2.1 hg9, hl9, hc9⟩)
                clear hO HO HA hg9 hl9 hc9
                go_wp2
                go_ret
                exact ⟨g9, c9, rfl, hfin.out⟩
end Go.Proofs.YtieaolnnlfaagaaDoor
