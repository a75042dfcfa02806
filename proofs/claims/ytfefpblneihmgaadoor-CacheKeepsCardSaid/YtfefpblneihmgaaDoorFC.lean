import Derived.Test.YtfefpblneihmgaaDoorFB

/- cache: Spoil. -/
namespace Go.Proofs.YtfefpblneihmgaaDoor
open Go.RowKit Go.Lib Go.Maps
def flipB (bs : List UInt8) (at_ : Nat) : List UInt8 := bs.set (at_ / 8) (bs.getD (at_ / 8) 0 ^^^ UInt8.ofNat (2 ^ (at_ % 8)))
def bitAt (bit : Int) (bs : List UInt8) : Nat := (bit % ((8 * bs.length : Nat) : Int)).toNat
def spoilL (id : List UInt8) (bit : Int) (l : List (List UInt8 × List UInt8)) : Option (List (List UInt8 × List UInt8)) := match findD id l with
  | some bs => if bs = [] then none else some (l.map fun e => if e.1 = id then (e.1, flipB e.2 (bitAt bit bs)) else e)
  | none => none
theorem sh_u8 (r : Nat) (h : r < 8) : ∃ m : UInt8, m = UInt8.ofNat (2 ^ r) ∧ ∀ w : World, (Op.shift .shl .u8 1 .i64 (r : Int)).run Tryd.prog w = .ok (.int .u8 (m.toNat : Int)) w :=
  match r, h with
  | 0, _ => ⟨1, rfl, fun _ => by kernel_rfl⟩
  | 1, _ => ⟨2, rfl, fun _ => by kernel_rfl⟩
  | 2, _ => ⟨4, rfl, fun _ => by kernel_rfl⟩
  | 3, _ => ⟨8, rfl, fun _ => by kernel_rfl⟩
  | 4, _ => ⟨16, rfl, fun _ => by kernel_rfl⟩
  | 5, _ => ⟨32, rfl, fun _ => by kernel_rfl⟩
  | 6, _ => ⟨64, rfl, fun _ => by kernel_rfl⟩
  | 7, _ => ⟨128, rfl, fun _ => by kernel_rfl⟩
theorem po_8 (r : Nat) (h : r < 8) : (2 : Int) ^ min r 8 % 256 = ((UInt8.ofNat (2 ^ r)).toNat : Int) := by
  have : ∀ k : Fin 8, (2 : Int) ^ min k.val 8 % 256 = ((UInt8.ofNat (2 ^ k.val)).toNat : Int) := by decide
  exact this ⟨r, h⟩
theorem xo_8 (a b : UInt8) : bits .xor .u8 (a.toNat : Int) (b.toNat : Int) = (((a ^^^ b).toNat : Nat) : Int) := by
  have ha := a.toNat_lt
  have hb := b.toNat_lt
  have key : (BitVec.ofInt 8 (a.toNat : Int) ^^^ BitVec.ofInt 8 (b.toNat : Int)).toNat = a.toNat ^^^ b.toNat := by
    rw [BitVec.toNat_xor, BitVec.toNat_ofInt, BitVec.toNat_ofInt]
    have h1 : ((a.toNat : Int) % ((2 ^ 8 : Nat) : Int)).toNat = a.toNat := by omega
    have h2 : ((b.toNat : Int) % ((2 ^ 8 : Nat) : Int)).toNat = b.toNat := by omega
    rw [h1, h2]
  have hx : a.toNat ^^^ b.toNat < 2 ^ 8 := Nat.xor_lt_two_pow (by omega) (by omega)
  show IntKind.u8.wrap ((BitVec.ofInt 8 (a.toNat : Int) ^^^ BitVec.ofInt 8 (b.toNat : Int)).toNat : Nat) = _
  rw [key, UInt8.toNat_xor, IntKind.wrap_u8]
  omega
theorem rem_twice (bit : Int) (N : Int) (h : 0 < N) : (bit.tmod N + N).tmod N = bit % N := by
  have h0 : -N < bit.tmod N := Int.lt_tmod_of_pos bit h
  rw [Int.tmod_eq_emod_of_nonneg (by omega), Int.add_emod_right, Int.tmod_eq_emod]
  split
  · simp
  · have : (N.natAbs : Int) = N := Int.natAbs_of_nonneg (by omega)
    rw [this, Int.sub_emod, Int.emod_self, Int.sub_zero, Int.emod_emod, Int.emod_emod]

theorem own_sb {w : World} {base g n c : Nat} {xs : List UInt8} (h : w.ownsRow base 5 1 (.slice (some ⟨g, 0, none⟩) n c) n (xs.map B)) (i : Nat) (b : UInt8) :
    (w.setCell ⟨g, i, none⟩ (B b)).ownsRow base 5 1 (.slice (some ⟨g, 0, none⟩) n c) n ((xs.set i b).map B) := by
  have := (h.stored i (B b)).1
  rwa [← List.map_set] at this
theorem Lk.turn {w : World} {pv nx : Option Nat} {n : Kn} {bs : List UInt8} (A C : List Kn) (h : Lk w pv (A ++ n :: C) nx) : Lk w pv (A ++ { n with bs := bs } :: C) nx := by
  obtain ⟨h1, h2, h3⟩ := Lk.app.1 h
  exact Lk.app.2 ⟨h1, h2, h3⟩
/-- A blob's bytes are turned in place. -/
theorem ca_turn {D : Nat} {w w' : World} {U : List Nat} {p : Nat} {lim : Int} {A C : List Kn} {n : Kn} {bs : List UInt8} {g : Nat} (h : Ca D w U p lim (A ++ n :: C)) (hk : Kept [g] w w') (hg : n.v.ownBlock = some g) (hl : bs.length = n.bs.length)
    (hr : w'.ownsRow D 5 1 n.v bs.length (bs.map B)) : Ca D w' U p lim (A ++ { n with bs := bs } :: C) := by
  obtain ⟨⟨mv, h1, h2, h3⟩, h4, h5, h6, h7, h8, h9, h10⟩ := h
  obtain ⟨cur, hc⟩ := ow_type (h5 n (by simp)).1 hg
  have hgp : p ≠ g := fun e => by
    have h1' := h1
    unfold CaAt at h1'
    rw [e, hc] at h1'
    simp at h1'
  have hgn : ∀ y ∈ A ++ n :: C, y.b ≠ g := fun y hy e => by
    obtain ⟨a, b, h11⟩ := h4.mem hy
    have h12 := h11.2
    rw [e, hc] at h12
    simp at h12
  have hgm : ∀ b, mv = .map (some b) → b ≠ g := fun b hb e => by
    subst hb
    rcases h2 with ⟨h2, _⟩ | ⟨b', hb', _, _, Dm, ho, _⟩
    · cases h2
    · cases hb'
      obtain ⟨es, clock, hm, _⟩ := ho
      rw [e, hc] at hm
      simp at hm
  have hsz : sizeK (A ++ { n with bs := bs } :: C) = sizeK (A ++ n :: C) := by rw [sizeK_mid, sizeK_mid, hl]
  have hf : fstP (A ++ { n with bs := bs } :: C) none = fstP (A ++ n :: C) none := by rw [fst_app, fst_app]; rfl
  have hls : lstP none (A ++ { n with bs := bs } :: C) = lstP none (A ++ n :: C) := by rw [lst_app, lst_app]; rfl
  have hpk : pairK (A ++ { n with bs := bs } :: C) = pairK (A ++ n :: C) := by unfold pairK; simp
  have hoth : ∀ m ∈ A ++ C, ∀ x, m.v.ownBlock = some x → x ≠ g := fun m hm x hx e => by
    rw [List.pairwise_append, List.pairwise_cons] at h6
    subst e
    rcases List.mem_append.1 hm with hm | hm
    · exact h6.2.2 m hm n (by simp) x hx hg
    · exact h6.2.1.1 m hm x hg hx
  have hap : (A ++ { n with bs := bs } :: C).Pairwise (fun a b => ∀ g, a.v.ownBlock = some g → b.v.ownBlock ≠ some g) := by
    rw [List.pairwise_append, List.pairwise_cons] at h6 ⊢
    refine ⟨h6.1, ⟨h6.2.1.1, h6.2.1.2⟩, fun a ha b hb => ?_⟩
    rcases List.mem_cons.1 hb with rfl | hb
    · exact h6.2.2 a ha n (by simp)
    · exact h6.2.2 a ha b (by simp [hb])
  refine ⟨⟨mv, by rw [hsz, hf, hls]; exact hk.at h1 (by simpa using hgp), by rw [hpk]; exact h2.kept hk (fun b hb => by simpa using hgm b hb), h3⟩, (h4.kept hk (fun y hy => by simpa using hgn y hy)).turn, fun m hm => ?_, hap, h7, fun y hy => ?_, fun x hx => ⟨(h9 x hx).1, Nat.lt_of_lt_of_le (h9 x hx).2 hk.size⟩, h10⟩
  · rcases List.mem_append.1 hm with hm | hm
    · exact ⟨hk.owns (h5 m (by simp [hm])).1 (fun x hx hm2 => hoth m (by simp [hm]) x hx (by simpa using hm2)), (h5 m (by simp [hm])).2⟩
    · rcases List.mem_cons.1 hm with rfl | hm
      · exact ⟨hr, (h5 n (by simp)).2⟩
      · exact ⟨hk.owns (h5 m (by simp [hm])).1 (fun x hx hm2 => hoth m (by simp [hm]) x hx (by simpa using hm2)), (h5 m (by simp [hm])).2⟩
  · rcases List.mem_append.1 hy with hy | hy
    · exact h8 y (by simp [hy])
    · rcases List.mem_cons.1 hy with rfl | hy
      · exact h8 n (by simp)
      · exact h8 y (by simp [hy])
set_option maxRecDepth 100000 in
set_option maxHeartbeats 8000000 in
theorem ca_spoil_some (D : Nat) (w : World) (U : List Nat) (p : Nat) (lim : Int) (A : List Kn) (n : Kn) (C : List Kn) (h : Ca D w U p lim (A ++ n :: C)) (hz : sizeK (A ++ n :: C) ≤ 100000000) (hne : n.bs ≠ []) (bit : Int) (hb1 : -9223372036854775808 ≤ bit) (hb2 : bit ≤ 9223372036854775807) :
    Calls Tryd.prog 18 #[.pointer (some ⟨p, 0, none⟩), .agg (n.id.map B).toArray, .int .i64 bit] w fun e w' => e = .returned (.bool true) ∧ Kept U w w' ∧ Ca D w' U p lim (A ++ { n with bs := flipB n.bs (bitAt bit n.bs) } :: C) := by
  have hids := h.ids
  have HC := hid h
  obtain ⟨⟨mv, h1, h2, h3⟩, h4, h5, h6, h7, h8, h9, h10⟩ := h
  have hln := (Lk.app.1 h4).2.1
  have h32 := hln.1
  obtain ⟨W, hW⟩ : ∃ W, W = w.alloc (.cells (n.id.map B).toArray 34) := ⟨_, rfl⟩
  have hk := hid (show Kept [] w W from hW ▸ (Kept.refl [] w).alloc _)
  have hb := hid (show W.heap[w.heap.size]? = some (.cells (n.id.map B).toArray 34 (0, 0)) from hW ▸ heap_alloc_at rfl)
  have HW := hid hW
  have hmv := hid (fun v (hv : Kept [] W v) => (ca_cells (show CaAt v p lim (sizeK (A ++ n :: C)) mv (fstP (A ++ n :: C) none) (lstP none (A ++ n :: C)) from (hk.out.trans hv).at h1 (by simp))).2.2.1)
  have hld := hid (fun v (hv : Kept [] W v) => ld_idB v w.heap.size n.id h32 (hv.at hb.out (by simp)))
  have hlk := hid (fun v (hv : Kept [] W v) => (show (Instr.lookup 62 mv (.agg (n.id.map B).toArray) true).run Tryd.prog v = .ok (.tuple #[.pointer (some ⟨n.b, 0, none⟩), .bool true]) v from by
    have := im_look (h2.kept (hk.out.trans hv) (fun b _ => by simp)) n.id h32
    rw [find_here hids] at this
    exact this))
  have hrow := (h5 n (by simp)).1
  have hnl : n.bs.length ≤ 100000000 := by have h1 := sizeK_mid A C n; omega
  have hn0 : 0 < n.bs.length := List.length_pos_iff.2 hne
  obtain ⟨g, vc, hv0⟩ : ∃ g c, n.v = .slice (some ⟨g, 0, none⟩) n.bs.length c := by
    rcases hrow.2 with ⟨_, h0⟩ | ⟨g, cap, cur, hv, _⟩
    · omega
    · exact ⟨g, cap, hv⟩
  have HV := hid hv0
  obtain ⟨k, hkl⟩ : ∃ k, k = n.bs.length := ⟨_, rfl⟩
  have HKL := hid hkl
  obtain ⟨u, hu⟩ : ∃ u, u = bitAt bit n.bs := ⟨_, rfl⟩
  have hul : u < 8 * k ∧ (u : Int) = bit % ((8 * k : Nat) : Int) := by
    have e1 : (0 : Int) ≤ bit % ((8 * n.bs.length : Nat) : Int) := Int.emod_nonneg _ (by omega)
    have e2 : bit % ((8 * n.bs.length : Nat) : Int) < ((8 * n.bs.length : Nat) : Int) := Int.emod_lt_of_pos _ (by omega)
    unfold bitAt at hu
    rw [hkl]
    omega
  have HU := hid hu
  obtain ⟨d, hd⟩ : ∃ d : Nat, d = 8 * k := ⟨_, rfl⟩
  have w1 : IntKind.i64.wrap (8 * (k : Int)) = (d : Int) := by rw [IntKind.wrap_i64]; omega
  have hd0 : ((d : Int) == 0) = false := by simp; omega
  have hd1 : ¬ (d : Int) = 0 := by omega
  have hr1 : -(d : Int) < bit.tmod (d : Int) := Int.lt_tmod_of_pos bit (by omega)
  have hr2 : bit.tmod (d : Int) < (d : Int) := Int.tmod_lt_of_pos bit (by omega)
  obtain ⟨r, hr⟩ : ∃ r : Int, r = bit.tmod (d : Int) := ⟨_, rfl⟩
  have w2 : IntKind.i64.wrap (bit.tmod (d : Int)) = r := by rw [← hr, IntKind.wrap_i64]; omega
  obtain ⟨rd, hrd⟩ : ∃ rd : Int, rd = r + (d : Int) := ⟨_, rfl⟩
  have w3 : IntKind.i64.wrap (r + (d : Int)) = rd := by rw [hrd, IntKind.wrap_i64]; omega
  have w4 : rd.tmod (d : Int) = (u : Int) := by rw [hrd, hr, rem_twice bit _ (by omega), hul.2, hd]
  have w5 : IntKind.i64.wrap (u : Int) = (u : Int) := by rw [IntKind.wrap_i64]; omega
  have hr' := hr.symm
  obtain ⟨iv, hiv⟩ : ∃ iv, iv = (n.id.map B).toArray := ⟨_, rfl⟩
  have hcd := hid (fun V (hV : Kept [] w V) => (show V.cell? ⟨n.b, 32, none⟩ = some (.slice (some ⟨g, 0, none⟩) k vc) from by
    have h1 := (kn_cells h32 (hV.at hln.2 (by simp))).1
    rw [hv0, ← hkl] at h1
    exact h1))
  rw [← hiv] at hld hlk HW ⊢
  have HNL := hid hnl
  have HUL := hid hul; have HD := hid hd; have HROW := hid hrow
  have hk0 : ((k : Int) == 0) = false := by simp; omega
  clear h1 h2 h3 h4 h5 h6 h7 h8 h9 h10 hW hiv hb hids hln hrow hnl hn0 hv0 hkl hu hul hd hr1 hr2 hr hrd
  go_enter Tryd.func18, Tryd.ntmps18
  go_wp2_with fail
  rw [← HW.out]
  have hH0 : Kept [] W W.drew := (Kept.refl [] W).drew
  refine wp_region_held_drew (S := fun v => Kept [] W v) (by kernel_rfl) hH0 (fun hH => ?_)
  refine takeH 0 (.pointer (some ⟨p, 0, none⟩)) rfl (by kernel_rfl) (by kernel_rfl) (by kernel_rfl) (fun _ _ _ h => h) (by rfl) (fun v hv => by go_simp) hH ?_
  simp only [Act.put, List.setIfInBounds_toArray, List.set_cons_succ, List.set_cons_zero]
  refine takeH 1 (.pointer (some ⟨p, 0, none⟩)) rfl (by kernel_rfl) (by kernel_rfl) (by kernel_rfl) (fun _ _ _ h => h) (by rfl) (fun v hv => by go_simp) hH ?_
  simp only [Act.put, List.setIfInBounds_toArray, List.set_cons_succ, List.set_cons_zero]
  refine takeH 2 (.pointer (some ⟨p, 2, none⟩)) rfl (by kernel_rfl) (by kernel_rfl) (by kernel_rfl) (fun _ _ _ h => h) (by rfl) (fun v hv => by go_simp) hH ?_
  simp only [Act.put, List.setIfInBounds_toArray, List.set_cons_succ, List.set_cons_zero]
  refine takeH 3 (mv) rfl (by kernel_rfl) (by kernel_rfl) (by kernel_rfl) (fun _ _ _ h => h) (by rfl) (fun v hv => by have h := hmv.out v hv; go_simp) hH ?_
  simp only [Act.put, List.setIfInBounds_toArray, List.set_cons_succ, List.set_cons_zero]
  refine takeH 4 (.agg iv) rfl (by kernel_rfl) (by kernel_rfl) (by kernel_rfl) (fun _ _ _ h => h) (by rfl) (fun v hv => by have h := hld.out v hv; unfold execOp; simp [Instr.loadAt, Instr.sureAddr, Sem.run_bind, Sem.run_pure, Result.andThen_ok, Act.eval, h]) hH ?_
  simp only [Act.put, List.setIfInBounds_toArray, List.set_cons_succ, List.set_cons_zero]
  refine takeH 5 (.tuple #[.pointer (some ⟨n.b, 0, none⟩), .bool true]) rfl (by kernel_rfl) (by kernel_rfl) (by kernel_rfl) (fun _ _ _ h => h) (by rfl) (fun v hv => by have h := hlk.out v hv; unfold execOp; simp [Act.eval, Sem.run_bind, Sem.run_pure, Result.andThen_ok, h]) hH ?_
  simp only [Act.put, List.setIfInBounds_toArray, List.set_cons_succ, List.set_cons_zero]
  refine takeH 6 (.tuple #[.pointer (some ⟨n.b, 0, none⟩), .bool true]) rfl (by kernel_rfl) (by kernel_rfl) (by kernel_rfl) (fun _ _ _ h => h) (by rfl) (fun v hv => by go_simp) hH ?_
  simp only [Act.put, List.setIfInBounds_toArray, List.set_cons_succ, List.set_cons_zero]
  refine takeH 7 (.pointer (some ⟨n.b, 0, none⟩)) rfl (by kernel_rfl) (by kernel_rfl) (by kernel_rfl) (fun _ _ _ h => h) (by rfl) (fun v hv => by go_simp) hH ?_
  simp only [Act.put, List.setIfInBounds_toArray, List.set_cons_succ, List.set_cons_zero]
  refine takeH 8 (.bool true) rfl (by kernel_rfl) (by kernel_rfl) (by kernel_rfl) (fun _ _ _ h => h) (by rfl) (fun v hv => by go_simp) hH ?_
  simp only [Act.put, List.setIfInBounds_toArray, List.set_cons_succ, List.set_cons_zero]
  refine takeH 9 (.pointer (some ⟨n.b, 0, none⟩)) rfl (by kernel_rfl) (by kernel_rfl) (by kernel_rfl) (fun _ _ _ h => h) (by rfl) (fun v hv => by go_simp) hH ?_
  simp only [Act.put, List.setIfInBounds_toArray, List.set_cons_succ, List.set_cons_zero]
  refine takeH 10 (.bool true) rfl (by kernel_rfl) (by kernel_rfl) (by kernel_rfl) (fun _ _ _ h => h) (by rfl) (fun v hv => by go_simp) hH ?_
  simp only [Act.put, List.setIfInBounds_toArray, List.set_cons_succ, List.set_cons_zero]
  refine wpAnyH_done (by kernel_rfl) ?_ _
  have hK1 := hid (hk.out.trans hH0)
  have c32 : W.drew.cell? ⟨n.b, 32, none⟩ = some (.slice (some ⟨g, 0, none⟩) k vc) := hcd.out _ hK1.out
  clear hmv hld hlk
  generalize W.drew = W1 at *
  go_wp2_with fail
  have hul2 := HUL.out.1
  have hk8 : k ≤ 100000000 := by have h1 := HNL.out; have h2 := HKL.out; omega
  have hrw := hK1.out.owns HROW.out (by simp)
  rw [HV.out] at hrw
  obtain ⟨sb, hsb⟩ : ∃ sb, n.bs[u / 8]? = some sb := ⟨n.bs[u / 8]'(by rw [← HKL.out]; omega), by simp⟩
  have gl := hrw.cellAt (u / 8) (by rw [← HKL.out]; omega)
  rw [List.getElem?_map, hsb] at gl
  have gld : W1.drew.cell? ⟨g, u / 8, none⟩ = some (.int .u8 (sb.toNat : Int)) := gl
  have gfd : W1.drew.frozen? ⟨g, u / 8, none⟩ = false := hrw.frozenAt _
  have c32d : W1.drew.cell? ⟨n.b, 32, none⟩ = some (.slice (some ⟨g, 0, none⟩) k vc) := c32
  have HRW := hid hrw; have Hsb := hid hsb
  obtain ⟨kk, hkk⟩ : ∃ kk, kk = u / 8 := ⟨_, rfl⟩
  obtain ⟨rr, hr8⟩ : ∃ rr, rr = u % 8 := ⟨_, rfl⟩
  obtain ⟨m, hm2, hsh⟩ := sh_u8 rr (by omega)
  rw [← hkk] at gld gfd
  have f1 : (0 : Int) ≤ (kk : Int) := by omega
  have f2 : (kk : Int) < (k : Int) := by omega
  have f3 : kk < k := by omega
  obtain ⟨Z, hZ⟩ : ∃ Z : Int, Z = (u : Int) := ⟨_, rfl⟩
  have hZ0 : 0 ≤ Z := by omega
  have d2 : Z.tdiv 8 = (kk : Int) := by rw [Int.tdiv_eq_ediv_of_nonneg hZ0]; omega
  have d3 : Z.tmod 8 = (rr : Int) := by rw [Int.tmod_eq_emod_of_nonneg hZ0]; omega
  have e2 : IntKind.i64.wrap (Z.tdiv 8) = (kk : Int) := by rw [d2]; exact IntWalk.i64_in _ (by omega)
  have e4 : IntKind.i64.wrap (Z.tmod 8) = (rr : Int) := by rw [d3]; exact IntWalk.i64_in _ (by omega)
  rw [← hZ]
  have HKK := hid hkk; have HR8 := hid hr8; have HM2 := hid hm2; have HR9 := hid (show rr < 8 by omega)
  have E2 := hid e2
  clear d2 hZ hul2 hrw hsb gl c32 hkk hr8 hm2 w1 w2 w3 w4 w5 hd0 hd1 hr' hk0 hH hH0
  refine wp_region_still_tail 12 (by kernel_rfl) (by kernel_rfl) ?_
  simp only [List.take_succ_cons, List.take_zero, List.drop_succ_cons, List.drop_zero]
  change wpStill _ _ W1.drew _ _ _
  repeat still_step
  refine wpStill_nil ?_
  go_wp2_with fail
  have hxv := xo_8 sb m
  have hp8 : (2 : Int) ^ min rr 8 % 256 = (m.toNat : Int) := by rw [HM2.out]; exact po_8 rr HR9.out
  rw [hp8, hxv]
  go_ret
  obtain ⟨V, hV⟩ : ∃ V, V = (W1.setCell ⟨g, kk, none⟩ (.int .u8 ((sb ^^^ m).toNat : Int))).drew := ⟨_, rfl⟩
  rw [← hV]
  have hkg : Kept [g] W1 V := by rw [hV]; exact (kset W1 g kk _).drew
  have C1 := HC.out.kept hK1.out (by simp)
  have hrowV : V.ownsRow D 5 1 n.v (n.bs.set kk (sb ^^^ m)).length ((n.bs.set kk (sb ^^^ m)).map B) := by
    rw [hV, HV.out, List.length_set]
    exact own_sb (w := W1) HRW.out kk (sb ^^^ m)
  have hflip : flipB n.bs (bitAt bit n.bs) = n.bs.set kk (sb ^^^ m) := by
    unfold flipB
    rw [← HU.out, ← HKK.out, HM2.out, HR8.out]
    have h1 := Hsb.out
    rw [← HKK.out] at h1
    rw [List.getD_eq_getElem?_getD, h1]
    rfl
  have hg : n.v.ownBlock = some g := by rw [HV.out]; rfl
  have hgU : g ∈ U := (C1.data n (by simp)).2 g hg
  refine ⟨rfl, (hK1.out.wider (fun x _ hx => by simp at hx)).trans (hkg.wider (fun x _ hx => by simp at hx; subst hx; exact hgU)), ?_⟩
  rw [hflip]
  exact ca_turn C1 hkg hg (by simp) hrowV
end Go.Proofs.YtfefpblneihmgaaDoor
