import Derived.Test.YtmkdjonlfkfnlaaDoorMT

/- cache: keep. -/
namespace Go.Proofs.YtmkdjonlfkfnlaaDoor
open Go.RowKit Go.Lib Go.Maps
theorem eqm_in (d : Nat) (w : World) (p : Option Nat) : (Op.equalIn (d + 1) 56 (.map p) (.map none)).run Tryd.prog w = .ok p.isNone w := by
  cases p <;> simp [Op.equalIn, run_underlying Tryd.underlying56]
theorem eqm_any (w : World) (p : Option Nat) : (binOp .eql 56 (.map p) (.map none)).run Tryd.prog w = .ok (.bool p.isNone) w := by
  simp only [binOp]
  simp [show Op.equal 56 (.map p) (.map none) = Op.equalIn (9999 + 1) 56 (.map p) (.map none) from rfl, eqm_in 9999 w p]
theorem kn_id_cells {w : World} {n : Kn} {a b : Value} (h : w.heap[n.b]? = some (.cells (knL n a b).toArray 72 (0, 0))) (h32 : n.id.length = 32) : (loadVar 34 ⟨n.b, 0, none⟩).run Tryd.prog w = .ok (.agg (n.id.map B).toArray) w := ld_idA w _ n.id h32 (kn_ids h)
theorem sizeK_app (A : List Kn) (n : Kn) : sizeK (A ++ [n]) = sizeK A + n.bs.length := by unfold sizeK; simp
theorem pairK_app (A : List Kn) (n : Kn) : pairK (A ++ [n]) = pairK A ++ [(n.id, n.b)] := by unfold pairK; simp

def KeepQ (D : Nat) (w : World) (U : List Nat) (p : Nat) (lim : Int) (ns : List Kn) (n : Kn) (e : Ending) (w' : World) : Prop :=
  e = .returned (.tuple #[]) ∧ ∃ S U', Kept S w w' ∧ (∀ x ∈ S, x ∈ U ∨ x = n.b) ∧ (∀ x ∈ U', x ∈ U ∨ x = n.b ∨ n.v.ownBlock = some x ∨ (w.heap.size ≤ x ∧ x < w'.heap.size)) ∧ (∀ x ∈ U, x ∈ U') ∧ Ca D w' U' p lim (ns ++ [n])
/-- The cache whose map is made, as the rest of keep finds it. -/
structure KeepI (D : Nat) (w W : World) (U U1 : List Nat) (p : Nat) (lim : Int) (mb : Nat) (ns : List Kn) (n : Kn) : Prop where
  ca : Ca D W U1 p lim ns
  kept : Kept U w W
  UU : (∀ x ∈ U, x ∈ U1) ∧ ∀ x ∈ U1, x ∈ U ∨ (w.heap.size ≤ x ∧ x < W.heap.size)
  row : CaAt W p lim (sizeK ns) (.map (some mb)) (fstP ns none) (lstP none ns)
  im : IMb W mb (pairK ns)
  mb : mb ∈ U1
set_option maxRecDepth 100000 in
set_option maxHeartbeats 8000000 in
theorem ca_keep_some (D : Nat) (w : World) (U : List Nat) (p : Nat) (lim : Int) (ns : List Kn) (n : Kn) (a b : Value) (h : Ca D w U p lim ns) (h0 : Ca D w U p lim ns) (mb : Nat) (hm : CaAt w p lim (sizeK ns) (.map (some mb)) (fstP ns none) (lstP none ns)) (h32 : n.id.length = 32) (hn : w.heap[n.b]? = some (.cells (knL n a b).toArray 72 (0, 0))) (hD : D ≤ n.b)
    (hdat : w.ownsRow D 5 1 n.v n.bs.length (n.bs.map B)) (hap : ∀ m ∈ ns, ∀ g, m.v.ownBlock = some g → n.v.ownBlock ≠ some g) (hidn : n.id ∉ ns.map (·.id)) (hz : sizeK ns + n.bs.length ≤ 1000000000000) (hlen : ns.length ≤ 1000000000) :
    Calls Tryd.prog 28 #[.pointer (some ⟨p, 0, none⟩), .pointer (some ⟨n.b, 0, none⟩)] w (KeepQ D w U p lim ns n) := by
  have HNL := hid (lt_of_block hn)
  have hI : KeepI D w w U U p lim mb ns n := by
    obtain ⟨⟨mv, h1, h2, h3⟩, _⟩ := h
    have h1' := h1
    unfold CaAt at h1 hm
    rw [h1] at hm
    have hmv : mv = .map (some mb) := by simpa [caL] using hm
    subst hmv
    have him : IMb w mb (pairK ns) := by
      rcases h2 with ⟨h2, _⟩ | ⟨b, hb, h2⟩
      · cases h2
      · cases hb; exact h2
    exact ⟨h0, Kept.refl _ _, ⟨fun _ h => h, fun x hx => Or.inl hx⟩, h1', him, h3 mb rfl⟩
  have c2 := (ca_cells hm).2.2.1
  have heq := fun W : World => eqm_any W (some mb)
  clear h hm h0
  go_enter Tryd.func28, Tryd.ntmps28
  go_wp2
  clear c2 heq
  obtain ⟨hca, hkw, ⟨hu1, hu2⟩, hrow, him, hmbU⟩ := hI
  have hpm : p ≠ mb := fun e => by
    obtain ⟨_, _, Dm, ho, _⟩ := him
    obtain ⟨es, clock, hm, _⟩ := ho
    have h1 := hrow
    unfold CaAt at h1
    rw [e, hm] at h1
    simp at h1
  have hnm : n.b ≠ mb := fun e => by
    obtain ⟨_, _, Dm, ho, _⟩ := him
    obtain ⟨es, clock, hm, _⟩ := ho
    rw [← e, hn] at hm
    simp at hm
  have hlnm : ∀ y ∈ ns, y.b ≠ mb := fun y hy e => by
    obtain ⟨a, b, h1⟩ := hca.links.mem hy
    obtain ⟨_, _, Dm, ho, _⟩ := him
    obtain ⟨es, clock, hm, _⟩ := ho
    rw [← e, h1.2] at hm
    simp at hm
  have hnx : ∀ y ∈ ns, y.b ≠ n.b := fun y hy e => by
    obtain ⟨a', b', h1⟩ := hca.links.mem hy
    have h2 := h1.2
    rw [e, hn] at h2
    simp [knL] at h2
    have h4 := congrArg (List.take 32) h2
    rw [List.take_left' (by simp [h32]), List.take_left' (by simp [h1.1])] at h4
    have h5 : n.id = y.id := List.map_inj_right (fun a b h => by
      unfold B at h
      have : (a.toNat : Int) = b.toNat := by simpa using h
      exact UInt8.toNat_inj.1 (by omega)) |>.1 h4
    exact hidn (by rw [h5]; exact List.mem_map_of_mem hy)
  have hob : ∀ m ∈ ns ++ [n], m.v.ownBlock ≠ some mb ∧ m.v.ownBlock ≠ some p ∧ m.v.ownBlock ≠ some n.b ∧ ∀ y ∈ ns, m.v.ownBlock ≠ some y.b := fun m hm => by
    have hr : w.ownsRow D 5 1 m.v m.bs.length (m.bs.map B) := by
      rcases List.mem_append.1 hm with hm | hm
      · exact (hca.data m hm).1
      · simp at hm; subst hm; exact hdat
    refine ⟨fun e => ?_, fun e => ?_, fun e => ?_, fun y hy e => ?_⟩ <;> obtain ⟨cur, hc⟩ := ow_type hr e
    · obtain ⟨_, _, Dm, ho, _⟩ := him
      obtain ⟨es, clock, hm, _⟩ := ho
      rw [hc] at hm
      simp at hm
    · have h1 := hrow
      unfold CaAt at h1
      rw [h1] at hc
      simp at hc
    · rw [hn] at hc
      simp at hc
    · obtain ⟨a, b, h11⟩ := hca.links.mem hy
      rw [h11.2] at hc
      simp at hc
  have hnd : ((ns ++ [n]).map (·.b)).Nodup := by
    rw [List.map_append, List.map_cons, List.map_nil, List.nodup_append]
    refine ⟨hca.nd, by simp, fun x hx y hy => ?_⟩
    simp at hy
    subst hy
    obtain ⟨z, hz, rfl⟩ := List.mem_map.1 hx
    exact hnx z hz
  obtain ⟨V, hput, hkV, himV⟩ := im_put (w := w.drew) (b := mb) (es := pairK ns) (by
    obtain ⟨q1, q2, Dm, q3, q4⟩ := him
    exact ⟨q1, q2, Dm, q3.drew, q4⟩) n.id h32 n.b (find_not hidn) (by simpa [pairK] using hlen)
  have hkWV : Kept [mb] w V := (((Kept.refl [] w).drew).wider (fun x _ hx => by simp at hx)).trans hkV
  have hadd := hid (row_add V p lim (sizeK ns) (.map (some mb)) ns n a b (hkWV.at hrow (by simpa using hpm)) (hca.links.kept hkWV (fun y hy => by simpa using hlnm y hy)) h32 (hkWV.at hn (by simpa using hnm)) hnd)
  obtain ⟨iv, hiv⟩ : ∃ iv, iv = (n.id.map B).toArray := ⟨_, rfl⟩
  have hmv := hid (fun v (hv : Kept [mb] w v) => (ca_cells (show CaAt v p lim (sizeK ns) (.map (some mb)) (fstP ns none) (lstP none ns) from hv.at hrow (by simpa using hpm))).2.2.1)
  have hld := hid (fun v (hv : Kept [mb] w v) => kn_id_cells (hv.at hn (by simpa using hnm)) h32)
  rw [← hiv] at hld hput
  obtain ⟨S0, hS0⟩ : ∃ S0 : Int, S0 = sizeK ns := ⟨_, rfl⟩
  rw [← hS0] at hadd
  obtain ⟨va, vc, hv⟩ : ∃ a c, n.v = .slice a n.bs.length c := by obtain ⟨a, c, e⟩ := owns_slice hdat; exact ⟨a, c, e⟩
  obtain ⟨sz, hsz⟩ : ∃ sz : Int, sz = sizeK (ns ++ [n]) := ⟨_, rfl⟩
  have hsum := hid (show IntKind.i64.wrap (S0 + (n.bs.length : Int)) = sz from by rw [hsz, sizeK_app, hS0, IntKind.wrap_i64]; omega)
  have HSZ := hid hsz
  have hHH := hid (And.intro hpm (And.intro hnm (And.intro hlnm (And.intro hnx (And.intro hob (And.intro hu1 hu2))))))
  have HCA := hid hca; have HKW := hid hkw; have HIM := hid himV; have HKWV := hid hkWV; have HDAT := hid hdat; have HMBU := hid hmbU; have HND := hid hnd; have HAP := hid hap; have HDN := hid hD
  clear hca hkw hu1 hu2 hrow him hmbU hpm hnm hlnm hnx hob hnd hkV himV hkWV hiv hS0 hsz hn hdat hidn hlen hz hap hD
  have hH1 : Kept [mb] w w.drew := (Kept.refl [mb] w).drew
  refine wp_region_held_drew (S := fun v => Kept [mb] w v) (by kernel_rfl) hH1 (fun hH => ?_)
  refine takeH 0 (.pointer (some ⟨p, 0, none⟩)) rfl (by kernel_rfl) (by kernel_rfl) (by kernel_rfl) (fun _ _ _ h => h) (by rfl) (fun v hv => by go_simp) hH ?_
  simp only [Act.put, List.setIfInBounds_toArray, List.set_cons_succ, List.set_cons_zero]
  refine takeH 1 (.pointer (some ⟨p, 0, none⟩)) rfl (by kernel_rfl) (by kernel_rfl) (by kernel_rfl) (fun _ _ _ h => h) (by rfl) (fun v hv => by go_simp) hH ?_
  simp only [Act.put, List.setIfInBounds_toArray, List.set_cons_succ, List.set_cons_zero]
  refine takeH 2 (.pointer (some ⟨p, 2, none⟩)) rfl (by kernel_rfl) (by kernel_rfl) (by kernel_rfl) (fun _ _ _ h => h) (by rfl) (fun v hv => by go_simp) hH ?_
  simp only [Act.put, List.setIfInBounds_toArray, List.set_cons_succ, List.set_cons_zero]
  refine takeH 3 (.map (some mb)) rfl (by kernel_rfl) (by kernel_rfl) (by kernel_rfl) (fun _ _ _ h => h) (by rfl) (fun v hv => by have h := hmv.out v hv; go_simp) hH ?_
  simp only [Act.put, List.setIfInBounds_toArray, List.set_cons_succ, List.set_cons_zero]
  refine takeH 4 (.pointer (some ⟨n.b, 0, none⟩)) rfl (by kernel_rfl) (by kernel_rfl) (by kernel_rfl) (fun _ _ _ h => h) (by rfl) (fun v hv => by go_simp) hH ?_
  simp only [Act.put, List.setIfInBounds_toArray, List.set_cons_succ, List.set_cons_zero]
  refine takeH 5 (.pointer (some ⟨n.b, 0, none⟩)) rfl (by kernel_rfl) (by kernel_rfl) (by kernel_rfl) (fun _ _ _ h => h) (by rfl) (fun v hv => by go_simp) hH ?_
  simp only [Act.put, List.setIfInBounds_toArray, List.set_cons_succ, List.set_cons_zero]
  refine takeH 6 (.pointer (some ⟨n.b, 0, none⟩)) rfl (by kernel_rfl) (by kernel_rfl) (by kernel_rfl) (fun _ _ _ h => h) (by rfl) (fun v hv => by go_simp) hH ?_
  simp only [Act.put, List.setIfInBounds_toArray, List.set_cons_succ, List.set_cons_zero]
  refine takeH 7 (.agg iv) rfl (by kernel_rfl) (by kernel_rfl) (by kernel_rfl) (fun _ _ _ h => h) (by rfl) (fun v hv => by have h := hld.out v hv; unfold execOp; simp [Instr.loadAt, Instr.sureAddr, Sem.run_bind, Sem.run_pure, Result.andThen_ok, Act.eval, h]) hH ?_
  simp only [Act.put, List.setIfInBounds_toArray, List.set_cons_succ, List.set_cons_zero]
  refine takeH 8 (.pointer (some ⟨n.b, 0, none⟩)) rfl (by kernel_rfl) (by kernel_rfl) (by kernel_rfl) (fun _ _ _ h => h) (by rfl) (fun v hv => by go_simp) hH ?_
  simp only [Act.put, List.setIfInBounds_toArray, List.set_cons_succ, List.set_cons_zero]
  refine writeH 9 rfl (by kernel_rfl) (by rfl) (V) (by have h := hput; unfold execOp; simp [Act.eval, Sem.run_bind, Sem.run_pure, Result.andThen_ok, h]) (HKWV.out) ?_
  simp only [Act.put, List.setIfInBounds_toArray, List.set_cons_succ, List.set_cons_zero]
  refine wpAnyH_done (by kernel_rfl) ?_ _
  go_wp2_with fail
  refine hadd.out.mono ?_
  rintro e V3 ⟨rfl, k3, hca3, hl3⟩
  have hn3 : KnAt V3 n (lstP none ns) none := by have h1 := (Lk.app.1 hl3).2.1; exact h1
  have d1 : V3.drew.cell? ⟨p, 1, none⟩ = some (.int .i64 S0) := (ca_cells hca3).2.1
  have d2 : V3.drew.cell? ⟨n.b, 32, none⟩ = some (.slice va n.bs.length vc) := by have h1 := (kn_cells hn3.1 hn3.2).1; rw [hv] at h1; exact h1
  have d3 : V3.drew.frozen? ⟨p, 1, none⟩ = false := free_row hca3 1
  have hsum2 := hsum.out
  have K3 := hid k3; have CA3 := hid hca3; have L3 := hid hl3; have HV := hid hv
  clear k3 hca3 hl3 hn3 hv hadd hput hH1
  go_wp2_with fail
  refine wp_region_still_tail 10 (by kernel_rfl) (by kernel_rfl) ?_
  simp only [List.take_succ_cons, List.take_zero, List.drop_succ_cons, List.drop_zero]
  change wpStill _ _ V3.drew _ _ _
  repeat still_step
  refine wpStill_nil ?_
  go_wp2
  go_end0
  rw [HSZ.out]
  have kz : Kept [p] V3 (V3.setCell ⟨p, 1, none⟩ (.int .i64 (sizeK (ns ++ [n]) : Int))).drew := (kset V3 p 1 _).drew
  have kall : Kept (mb :: p :: n.b :: ns.map (·.b)) w (V3.setCell ⟨p, 1, none⟩ (.int .i64 (sizeK (ns ++ [n]) : Int))).drew :=
    ((HKWV.out.wider (fun x _ hx => by simp at hx; simp [hx])).trans (K3.out.wider (fun x _ hx => by simp only [List.mem_cons] at hx ⊢; exact Or.inr hx))).trans (kz.wider (fun x _ hx => by simp at hx; simp [hx]))
  obtain ⟨hpm, hnm, hlnm, hnx, hob, hu1, hu2⟩ := hHH.out
  have hC := HCA.out
  have hsz3 := kall.size
  have hszw := HKW.out.size
  have HQ : KeepQ D w U p lim ns n (.returned (.tuple #[])) (V3.setCell ⟨p, 1, none⟩ (.int .i64 (sizeK (ns ++ [n]) : Int))).drew := by
    refine ⟨rfl, n.b :: U, n.b :: (n.v.ownBlock.toList ++ U), ?_, fun x hx => ?_, fun x hx => ?_, fun x hx => ?_, ?_⟩
    · refine (HKW.out.wider (fun x _ hx => List.mem_cons_of_mem _ hx)).trans' kall (fun x hx hm => ?_)
      simp only [List.mem_cons] at hm ⊢
      rcases hm with rfl | rfl | rfl | hm
      · rcases hu2 _ HMBU.out with h | h
        · exact Or.inr h
        · omega
      · rcases hu2 _ hC.pU with h | h
        · exact Or.inr h
        · omega
      · exact Or.inl rfl
      · obtain ⟨y, hy, rfl⟩ := List.mem_map.1 hm
        rcases hu2 _ (hC.nU y hy) with h | h
        · exact Or.inr h
        · omega
    · simp only [List.mem_cons] at hx
      rcases hx with rfl | hx
      · exact Or.inr rfl
      · exact Or.inl hx
    · simp only [List.mem_cons, List.mem_append, Option.mem_toList] at hx
      rcases hx with rfl | hx | hx
      · exact Or.inr (Or.inl rfl)
      · exact Or.inr (Or.inr (Or.inl hx))
      · rcases hu2 x (by first | exact hx | simpa using hx) with h | h
        · exact Or.inl h
        · exact Or.inr (Or.inr (Or.inr ⟨h.1, by omega⟩))
    · exact List.mem_cons_of_mem _ (List.mem_append_right _ (hu1 x hx))
    · have hca := set_any (j := 1) (v := .int .i64 (sizeK (ns ++ [n]) : Int)) CA3.out
      have hIM : IM (V3.setCell ⟨p, 1, none⟩ (.int .i64 (sizeK (ns ++ [n]) : Int))).drew (.map (some mb)) (pairK (ns ++ [n])) := by
        rw [pairK_app]
        exact ((show IM V (.map (some mb)) (pairK ns ++ [(n.id, n.b)]) from Or.inr ⟨mb, rfl, HIM.out⟩).kept K3.out (fun b hb hm => by
          cases hb
          simp only [List.mem_cons] at hm
          rcases hm with rfl | rfl | hm
          · exact hpm rfl
          · exact hnm rfl
          · obtain ⟨y, hy, e⟩ := List.mem_map.1 hm
            exact hlnm y hy e)).kept kz (fun b hb hm => by
          cases hb
          simp at hm
          exact hpm hm.symm)
      have hlast : lstP none (ns ++ [n]) = some n.b := by rw [lst_app]; rfl
      have hrowF : ∀ m ∈ ns ++ [n], w.ownsRow D 5 1 m.v m.bs.length (m.bs.map B) := fun m hm => by
        rcases List.mem_append.1 hm with hm | hm
        · exact (hC.data m hm).1
        · simp at hm; subst hm; exact HDAT.out
      refine ⟨⟨.map (some mb), by rw [hlast]; exact hca, hIM, fun b hb => by cases hb; exact List.mem_cons_of_mem _ (List.mem_append_right _ HMBU.out)⟩, L3.out.kept kz (fun y hy hm => ?_), fun m hm => ⟨kall.owns (hrowF m hm) (fun g hg hm2 => ?_), fun g hg => ?_⟩, ?_, List.mem_cons_of_mem _ (List.mem_append_right _ hC.pU), fun y hy => ?_, fun x hx => ?_, hC.lim0⟩
      · simp at hm
        obtain ⟨a, b, h1⟩ := L3.out.mem hy
        exact CA3.out.far h1.2 hm
      · simp only [List.mem_cons] at hm2
        obtain ⟨o1, o2, o3, o4⟩ := hob m hm
        rcases hm2 with rfl | rfl | rfl | hm2
        · exact o1 hg
        · exact o2 hg
        · exact o3 hg
        · obtain ⟨y, hy, rfl⟩ := List.mem_map.1 hm2
          exact o4 y hy hg
      · rcases List.mem_append.1 hm with hm | hm
        · exact List.mem_cons_of_mem _ (List.mem_append_right _ ((hC.data m hm).2 g hg))
        · simp at hm; subst hm; simp [hg]
      · rw [List.pairwise_append]
        refine ⟨hC.apart, by simp, fun x hx y hy => ?_⟩
        simp at hy
        subst hy
        exact HAP.out x hx
      · rcases List.mem_append.1 hy with hy | hy
        · exact List.mem_cons_of_mem _ (List.mem_append_right _ (hC.nU y hy))
        · simp at hy; subst hy; simp
      · simp only [List.mem_cons, List.mem_append, Option.mem_toList] at hx
        rcases hx with rfl | hx | hx
        · exact ⟨HDN.out, Nat.lt_of_lt_of_le HNL.out (Nat.le_trans hszw hsz3)⟩
        · have h1 := own_block_ge HDAT.out x hx
          obtain ⟨cur, h2⟩ := ow_type HDAT.out hx
          exact ⟨h1.1, Nat.lt_of_lt_of_le (lt_of_block h2) hsz3⟩
        · have hb := hC.bound x (by first | exact hx | simpa using hx)
          exact ⟨hb.1, Nat.lt_of_lt_of_le hb.2 hsz3⟩
  exact HQ
set_option maxRecDepth 100000 in
set_option maxHeartbeats 8000000 in
theorem ca_keep_none (D : Nat) (w : World) (U : List Nat) (p : Nat) (lim : Int) (ns : List Kn) (n : Kn) (a b : Value) (h : Ca D w U p lim ns) (hm : CaAt w p lim (sizeK ns) (.map none) (fstP ns none) (lstP none ns)) (h32 : n.id.length = 32) (hn : w.heap[n.b]? = some (.cells (knL n a b).toArray 72 (0, 0))) (hD : D ≤ n.b)
    (hdat : w.ownsRow D 5 1 n.v n.bs.length (n.bs.map B)) (hap : ∀ m ∈ ns, ∀ g, m.v.ownBlock = some g → n.v.ownBlock ≠ some g) (hidn : n.id ∉ ns.map (·.id)) (hz : sizeK ns + n.bs.length ≤ 1000000000000) (hlen : ns.length ≤ 1000000000) :
    Calls Tryd.prog 28 #[.pointer (some ⟨p, 0, none⟩), .pointer (some ⟨n.b, 0, none⟩)] w (KeepQ D w U p lim ns n) := by
  have HNL := hid (lt_of_block hn)
  have hrow0 : CaAt w p lim (sizeK ns) (.map none) (fstP ns none) (lstP none ns) := hm
  have hz2 := free_row ((Kept.refl [] w).alloc (.map #[] 0) |>.at hm (by simp)) 2
  have hz3 := (ca_cells (show CaAt (w.alloc (.map #[] 0)) p lim (sizeK ns) (.map none) (fstP ns none) (lstP none ns) from ((Kept.refl [] w).alloc (.map #[] 0)).at hm (by simp))).2.2.1
  have hns : ns = [] := by
    obtain ⟨⟨mv, h1, h2, h3⟩, _⟩ := h
    unfold CaAt at h1 hm
    rw [h1] at hm
    have hmv : mv = .map none := by simpa [caL] using hm
    subst hmv
    rcases h2 with ⟨_, h2⟩ | ⟨b, hb, h2⟩
    · simpa [pairK] using h2
    · cases hb
  have c2 := (ca_cells hm).2.2.1
  have heq := fun W : World => eqm_any W none
  have hmk : ∀ W : World, (Instr.makeMap 56 none).run Tryd.prog W = .ok (.map (some W.heap.size)) (W.alloc (.map #[] 0)) := fun _ => rfl
  obtain ⟨mb, hmb⟩ : ∃ mb, mb = w.heap.size := ⟨_, rfl⟩
  obtain ⟨W, hW⟩ : ∃ W, W = (w.alloc (.map #[] 0)).setCell ⟨p, 2, none⟩ (.map (some mb)) := ⟨_, rfl⟩
  have hkA : Kept [] w (w.alloc (.map #[] 0)) := (Kept.refl [] w).alloc _
  have hkp : Kept [p] w W := by rw [hW]; exact (hkA.wider (fun x _ hx => by simp at hx)).trans (kset _ p 2 _)
  have hpmb : p ≠ mb := by have := lt_of_block hm; omega
  have hI : KeepI D w W U (mb :: U) p lim mb ns n := by
    subst hns
    have him : IMb W mb (pairK []) := by
      have h1 := im_made w
      rw [← hmb] at h1
      obtain ⟨q1, q2, Dm, q3, q4⟩ := h1
      rw [hW]
      exact ⟨q1, q2, Dm, (kset (w.alloc (.map #[] 0)) p 2 (.map (some mb))).ownsMap q3 (by simp; exact fun e => hpmb e.symm), q4⟩
    have hr2 : CaAt W p lim (sizeK []) (.map (some mb)) none none := by
      rw [hW]
      exact set_any (j := 2) (v := .map (some mb)) (hkA.at hm (by simp))
    refine ⟨⟨⟨.map (some mb), hr2, Or.inr ⟨mb, rfl, him⟩, fun b hb => by cases hb; simp⟩, trivial, by simp, by simp, List.mem_cons_of_mem _ h.pU, by simp, fun x hx => ?_, h.lim0⟩, hkp.wider (fun x _ hx => by simp at hx; subst hx; exact h.pU), ⟨fun x hx => List.mem_cons_of_mem _ hx, fun x hx => ?_⟩, hr2, him, by simp⟩
    · simp only [List.mem_cons] at hx
      rcases hx with rfl | hx
      · exact ⟨by have := (h.bound p h.pU); omega, by have h5 := him.lt; exact h5⟩
      · exact ⟨(h.bound x hx).1, Nat.lt_of_lt_of_le (h.bound x hx).2 hkp.size⟩
    · simp only [List.mem_cons] at hx
      rcases hx with rfl | hx
      · exact Or.inr ⟨by omega, him.lt⟩
      · exact Or.inl hx
  have hn1 := hkp.at hn (by simpa using CaAt.far hm hn)
  have hdat1 := hkp.owns hdat (fun g hg hm2 => by
    simp at hm2
    subst hm2
    obtain ⟨cur, hc⟩ := ow_type hdat hg
    unfold CaAt at hm
    rw [hm] at hc
    simp at hc)
  have HW := hid hW; have HMB := hid hmb
  clear h hm hn hdat hrow0 hns hkA hkp hpmb hW hmb
  go_enter Tryd.func28, Tryd.ntmps28
  go_wp2
  rw [← HMB.out, ← HW.out]
  clear c2 heq hz2 hz3 hmk
  have hn := hn1; have hdat := hdat1
  clear hn1 hdat1
  obtain ⟨hca, hkw, ⟨hu1, hu2⟩, hrow, him, hmbU⟩ := hI
  have hpm : p ≠ mb := fun e => by
    obtain ⟨_, _, Dm, ho, _⟩ := him
    obtain ⟨es, clock, hm, _⟩ := ho
    have h1 := hrow
    unfold CaAt at h1
    rw [e, hm] at h1
    simp at h1
  have hnm : n.b ≠ mb := fun e => by
    obtain ⟨_, _, Dm, ho, _⟩ := him
    obtain ⟨es, clock, hm, _⟩ := ho
    rw [← e, hn] at hm
    simp at hm
  have hlnm : ∀ y ∈ ns, y.b ≠ mb := fun y hy e => by
    obtain ⟨a, b, h1⟩ := hca.links.mem hy
    obtain ⟨_, _, Dm, ho, _⟩ := him
    obtain ⟨es, clock, hm, _⟩ := ho
    rw [← e, h1.2] at hm
    simp at hm
  have hnx : ∀ y ∈ ns, y.b ≠ n.b := fun y hy e => by
    obtain ⟨a', b', h1⟩ := hca.links.mem hy
    have h2 := h1.2
    rw [e, hn] at h2
    simp [knL] at h2
    have h4 := congrArg (List.take 32) h2
    rw [List.take_left' (by simp [h32]), List.take_left' (by simp [h1.1])] at h4
    have h5 : n.id = y.id := List.map_inj_right (fun a b h => by
      unfold B at h
      have : (a.toNat : Int) = b.toNat := by simpa using h
      exact UInt8.toNat_inj.1 (by omega)) |>.1 h4
    exact hidn (by rw [h5]; exact List.mem_map_of_mem hy)
  have hob : ∀ m ∈ ns ++ [n], m.v.ownBlock ≠ some mb ∧ m.v.ownBlock ≠ some p ∧ m.v.ownBlock ≠ some n.b ∧ ∀ y ∈ ns, m.v.ownBlock ≠ some y.b := fun m hm => by
    have hr : W.ownsRow D 5 1 m.v m.bs.length (m.bs.map B) := by
      rcases List.mem_append.1 hm with hm | hm
      · exact (hca.data m hm).1
      · simp at hm; subst hm; exact hdat
    refine ⟨fun e => ?_, fun e => ?_, fun e => ?_, fun y hy e => ?_⟩ <;> obtain ⟨cur, hc⟩ := ow_type hr e
    · obtain ⟨_, _, Dm, ho, _⟩ := him
      obtain ⟨es, clock, hm, _⟩ := ho
      rw [hc] at hm
      simp at hm
    · have h1 := hrow
      unfold CaAt at h1
      rw [h1] at hc
      simp at hc
    · rw [hn] at hc
      simp at hc
    · obtain ⟨a, b, h11⟩ := hca.links.mem hy
      rw [h11.2] at hc
      simp at hc
  have hnd : ((ns ++ [n]).map (·.b)).Nodup := by
    rw [List.map_append, List.map_cons, List.map_nil, List.nodup_append]
    refine ⟨hca.nd, by simp, fun x hx y hy => ?_⟩
    simp at hy
    subst hy
    obtain ⟨z, hz, rfl⟩ := List.mem_map.1 hx
    exact hnx z hz
  obtain ⟨V, hput, hkV, himV⟩ := im_put (w := W.drew) (b := mb) (es := pairK ns) (by
    obtain ⟨q1, q2, Dm, q3, q4⟩ := him
    exact ⟨q1, q2, Dm, q3.drew, q4⟩) n.id h32 n.b (find_not hidn) (by simpa [pairK] using hlen)
  have hkWV : Kept [mb] W V := (((Kept.refl [] W).drew).wider (fun x _ hx => by simp at hx)).trans hkV
  have hadd := hid (row_add V p lim (sizeK ns) (.map (some mb)) ns n a b (hkWV.at hrow (by simpa using hpm)) (hca.links.kept hkWV (fun y hy => by simpa using hlnm y hy)) h32 (hkWV.at hn (by simpa using hnm)) hnd)
  obtain ⟨iv, hiv⟩ : ∃ iv, iv = (n.id.map B).toArray := ⟨_, rfl⟩
  have hmv := hid (fun v (hv : Kept [mb] W v) => (ca_cells (show CaAt v p lim (sizeK ns) (.map (some mb)) (fstP ns none) (lstP none ns) from hv.at hrow (by simpa using hpm))).2.2.1)
  have hld := hid (fun v (hv : Kept [mb] W v) => kn_id_cells (hv.at hn (by simpa using hnm)) h32)
  rw [← hiv] at hld hput
  obtain ⟨S0, hS0⟩ : ∃ S0 : Int, S0 = sizeK ns := ⟨_, rfl⟩
  rw [← hS0] at hadd
  obtain ⟨va, vc, hv⟩ : ∃ a c, n.v = .slice a n.bs.length c := by obtain ⟨a, c, e⟩ := owns_slice hdat; exact ⟨a, c, e⟩
  obtain ⟨sz, hsz⟩ : ∃ sz : Int, sz = sizeK (ns ++ [n]) := ⟨_, rfl⟩
  have hsum := hid (show IntKind.i64.wrap (S0 + (n.bs.length : Int)) = sz from by rw [hsz, sizeK_app, hS0, IntKind.wrap_i64]; omega)
  have HSZ := hid hsz
  have hHH := hid (And.intro hpm (And.intro hnm (And.intro hlnm (And.intro hnx (And.intro hob (And.intro hu1 hu2))))))
  have HCA := hid hca; have HKW := hid hkw; have HIM := hid himV; have HKWV := hid hkWV; have HDAT := hid hdat; have HMBU := hid hmbU; have HND := hid hnd; have HAP := hid hap; have HDN := hid hD
  clear hca hkw hu1 hu2 hrow him hmbU hpm hnm hlnm hnx hob hnd hkV himV hkWV hiv hS0 hsz hn hdat hidn hlen hz hap hD
  have hH1 : Kept [mb] W W.drew := (Kept.refl [mb] W).drew
  refine wp_region_held_drew (S := fun v => Kept [mb] W v) (by kernel_rfl) hH1 (fun hH => ?_)
  refine takeH 0 (.pointer (some ⟨p, 0, none⟩)) rfl (by kernel_rfl) (by kernel_rfl) (by kernel_rfl) (fun _ _ _ h => h) (by rfl) (fun v hv => by go_simp) hH ?_
  simp only [Act.put, List.setIfInBounds_toArray, List.set_cons_succ, List.set_cons_zero]
  refine takeH 1 (.pointer (some ⟨p, 0, none⟩)) rfl (by kernel_rfl) (by kernel_rfl) (by kernel_rfl) (fun _ _ _ h => h) (by rfl) (fun v hv => by go_simp) hH ?_
  simp only [Act.put, List.setIfInBounds_toArray, List.set_cons_succ, List.set_cons_zero]
  refine takeH 2 (.pointer (some ⟨p, 2, none⟩)) rfl (by kernel_rfl) (by kernel_rfl) (by kernel_rfl) (fun _ _ _ h => h) (by rfl) (fun v hv => by go_simp) hH ?_
  simp only [Act.put, List.setIfInBounds_toArray, List.set_cons_succ, List.set_cons_zero]
  refine takeH 3 (.map (some mb)) rfl (by kernel_rfl) (by kernel_rfl) (by kernel_rfl) (fun _ _ _ h => h) (by rfl) (fun v hv => by have h := hmv.out v hv; go_simp) hH ?_
  simp only [Act.put, List.setIfInBounds_toArray, List.set_cons_succ, List.set_cons_zero]
  refine takeH 4 (.pointer (some ⟨n.b, 0, none⟩)) rfl (by kernel_rfl) (by kernel_rfl) (by kernel_rfl) (fun _ _ _ h => h) (by rfl) (fun v hv => by go_simp) hH ?_
  simp only [Act.put, List.setIfInBounds_toArray, List.set_cons_succ, List.set_cons_zero]
  refine takeH 5 (.pointer (some ⟨n.b, 0, none⟩)) rfl (by kernel_rfl) (by kernel_rfl) (by kernel_rfl) (fun _ _ _ h => h) (by rfl) (fun v hv => by go_simp) hH ?_
  simp only [Act.put, List.setIfInBounds_toArray, List.set_cons_succ, List.set_cons_zero]
  refine takeH 6 (.pointer (some ⟨n.b, 0, none⟩)) rfl (by kernel_rfl) (by kernel_rfl) (by kernel_rfl) (fun _ _ _ h => h) (by rfl) (fun v hv => by go_simp) hH ?_
  simp only [Act.put, List.setIfInBounds_toArray, List.set_cons_succ, List.set_cons_zero]
  refine takeH 7 (.agg iv) rfl (by kernel_rfl) (by kernel_rfl) (by kernel_rfl) (fun _ _ _ h => h) (by rfl) (fun v hv => by have h := hld.out v hv; unfold execOp; simp [Instr.loadAt, Instr.sureAddr, Sem.run_bind, Sem.run_pure, Result.andThen_ok, Act.eval, h]) hH ?_
  simp only [Act.put, List.setIfInBounds_toArray, List.set_cons_succ, List.set_cons_zero]
  refine takeH 8 (.pointer (some ⟨n.b, 0, none⟩)) rfl (by kernel_rfl) (by kernel_rfl) (by kernel_rfl) (fun _ _ _ h => h) (by rfl) (fun v hv => by go_simp) hH ?_
  simp only [Act.put, List.setIfInBounds_toArray, List.set_cons_succ, List.set_cons_zero]
  refine writeH 9 rfl (by kernel_rfl) (by rfl) (V) (by have h := hput; unfold execOp; simp [Act.eval, Sem.run_bind, Sem.run_pure, Result.andThen_ok, h]) (HKWV.out) ?_
  simp only [Act.put, List.setIfInBounds_toArray, List.set_cons_succ, List.set_cons_zero]
  refine wpAnyH_done (by kernel_rfl) ?_ _
  go_wp2_with fail
  refine hadd.out.mono ?_
  rintro e V3 ⟨rfl, k3, hca3, hl3⟩
  have hn3 : KnAt V3 n (lstP none ns) none := by have h1 := (Lk.app.1 hl3).2.1; exact h1
  have d1 : V3.drew.cell? ⟨p, 1, none⟩ = some (.int .i64 S0) := (ca_cells hca3).2.1
  have d2 : V3.drew.cell? ⟨n.b, 32, none⟩ = some (.slice va n.bs.length vc) := by have h1 := (kn_cells hn3.1 hn3.2).1; rw [hv] at h1; exact h1
  have d3 : V3.drew.frozen? ⟨p, 1, none⟩ = false := free_row hca3 1
  have hsum2 := hsum.out
  have K3 := hid k3; have CA3 := hid hca3; have L3 := hid hl3; have HV := hid hv
  clear k3 hca3 hl3 hn3 hv hadd hput hH1
  go_wp2_with fail
  refine wp_region_still_tail 10 (by kernel_rfl) (by kernel_rfl) ?_
  simp only [List.take_succ_cons, List.take_zero, List.drop_succ_cons, List.drop_zero]
  change wpStill _ _ V3.drew _ _ _
  repeat still_step
  refine wpStill_nil ?_
  go_wp2
  go_end0
  rw [HSZ.out]
  have kz : Kept [p] V3 (V3.setCell ⟨p, 1, none⟩ (.int .i64 (sizeK (ns ++ [n]) : Int))).drew := (kset V3 p 1 _).drew
  have kall : Kept (mb :: p :: n.b :: ns.map (·.b)) W (V3.setCell ⟨p, 1, none⟩ (.int .i64 (sizeK (ns ++ [n]) : Int))).drew :=
    ((HKWV.out.wider (fun x _ hx => by simp at hx; simp [hx])).trans (K3.out.wider (fun x _ hx => by simp only [List.mem_cons] at hx ⊢; exact Or.inr hx))).trans (kz.wider (fun x _ hx => by simp at hx; simp [hx]))
  obtain ⟨hpm, hnm, hlnm, hnx, hob, hu1, hu2⟩ := hHH.out
  have hC := HCA.out
  have hsz3 := kall.size
  have hszw := HKW.out.size
  have HQ : KeepQ D w U p lim ns n (.returned (.tuple #[])) (V3.setCell ⟨p, 1, none⟩ (.int .i64 (sizeK (ns ++ [n]) : Int))).drew := by
    refine ⟨rfl, n.b :: U, n.b :: (n.v.ownBlock.toList ++ (mb :: U)), ?_, fun x hx => ?_, fun x hx => ?_, fun x hx => ?_, ?_⟩
    · refine (HKW.out.wider (fun x _ hx => List.mem_cons_of_mem _ hx)).trans' kall (fun x hx hm => ?_)
      simp only [List.mem_cons] at hm ⊢
      rcases hm with rfl | rfl | rfl | hm
      · rcases hu2 _ HMBU.out with h | h
        · exact Or.inr h
        · omega
      · rcases hu2 _ hC.pU with h | h
        · exact Or.inr h
        · omega
      · exact Or.inl rfl
      · obtain ⟨y, hy, rfl⟩ := List.mem_map.1 hm
        rcases hu2 _ (hC.nU y hy) with h | h
        · exact Or.inr h
        · omega
    · simp only [List.mem_cons] at hx
      rcases hx with rfl | hx
      · exact Or.inr rfl
      · exact Or.inl hx
    · simp only [List.mem_cons, List.mem_append, Option.mem_toList] at hx
      rcases hx with rfl | hx | hx
      · exact Or.inr (Or.inl rfl)
      · exact Or.inr (Or.inr (Or.inl hx))
      · rcases hu2 x (by first | exact hx | simpa using hx) with h | h
        · exact Or.inl h
        · exact Or.inr (Or.inr (Or.inr ⟨h.1, by omega⟩))
    · exact List.mem_cons_of_mem _ (List.mem_append_right _ (hu1 x hx))
    · have hca := set_any (j := 1) (v := .int .i64 (sizeK (ns ++ [n]) : Int)) CA3.out
      have hIM : IM (V3.setCell ⟨p, 1, none⟩ (.int .i64 (sizeK (ns ++ [n]) : Int))).drew (.map (some mb)) (pairK (ns ++ [n])) := by
        rw [pairK_app]
        exact ((show IM V (.map (some mb)) (pairK ns ++ [(n.id, n.b)]) from Or.inr ⟨mb, rfl, HIM.out⟩).kept K3.out (fun b hb hm => by
          cases hb
          simp only [List.mem_cons] at hm
          rcases hm with rfl | rfl | hm
          · exact hpm rfl
          · exact hnm rfl
          · obtain ⟨y, hy, e⟩ := List.mem_map.1 hm
            exact hlnm y hy e)).kept kz (fun b hb hm => by
          cases hb
          simp at hm
          exact hpm hm.symm)
      have hlast : lstP none (ns ++ [n]) = some n.b := by rw [lst_app]; rfl
      have hrowF : ∀ m ∈ ns ++ [n], W.ownsRow D 5 1 m.v m.bs.length (m.bs.map B) := fun m hm => by
        rcases List.mem_append.1 hm with hm | hm
        · exact (hC.data m hm).1
        · simp at hm; subst hm; exact HDAT.out
      refine ⟨⟨.map (some mb), by rw [hlast]; exact hca, hIM, fun b hb => by cases hb; exact List.mem_cons_of_mem _ (List.mem_append_right _ HMBU.out)⟩, L3.out.kept kz (fun y hy hm => ?_), fun m hm => ⟨kall.owns (hrowF m hm) (fun g hg hm2 => ?_), fun g hg => ?_⟩, ?_, List.mem_cons_of_mem _ (List.mem_append_right _ hC.pU), fun y hy => ?_, fun x hx => ?_, hC.lim0⟩
      · simp at hm
        obtain ⟨a, b, h1⟩ := L3.out.mem hy
        exact CA3.out.far h1.2 hm
      · simp only [List.mem_cons] at hm2
        obtain ⟨o1, o2, o3, o4⟩ := hob m hm
        rcases hm2 with rfl | rfl | rfl | hm2
        · exact o1 hg
        · exact o2 hg
        · exact o3 hg
        · obtain ⟨y, hy, rfl⟩ := List.mem_map.1 hm2
          exact o4 y hy hg
      · rcases List.mem_append.1 hm with hm | hm
        · exact List.mem_cons_of_mem _ (List.mem_append_right _ ((hC.data m hm).2 g hg))
        · simp at hm; subst hm; simp [hg]
      · rw [List.pairwise_append]
        refine ⟨hC.apart, by simp, fun x hx y hy => ?_⟩
        simp at hy
        subst hy
        exact HAP.out x hx
      · rcases List.mem_append.1 hy with hy | hy
        · exact List.mem_cons_of_mem _ (List.mem_append_right _ (hC.nU y hy))
        · simp at hy; subst hy; simp
      · simp only [List.mem_cons, List.mem_append, Option.mem_toList] at hx
        rcases hx with rfl | hx | hx
        · exact ⟨HDN.out, Nat.lt_of_lt_of_le HNL.out (Nat.le_trans hszw hsz3)⟩
        · have h1 := own_block_ge HDAT.out x hx
          obtain ⟨cur, h2⟩ := ow_type HDAT.out hx
          exact ⟨h1.1, Nat.lt_of_lt_of_le (lt_of_block h2) hsz3⟩
        · have hb := hC.bound x (by first | exact hx | simpa using hx)
          exact ⟨hb.1, Nat.lt_of_lt_of_le hb.2 hsz3⟩
  exact HQ
theorem ca_keep (D : Nat) (w : World) (U : List Nat) (p : Nat) (lim : Int) (ns : List Kn) (n : Kn) (a b : Value) (h : Ca D w U p lim ns) (h32 : n.id.length = 32) (hn : w.heap[n.b]? = some (.cells (knL n a b).toArray 72 (0, 0))) (hD : D ≤ n.b)
    (hdat : w.ownsRow D 5 1 n.v n.bs.length (n.bs.map B)) (hap : ∀ m ∈ ns, ∀ g, m.v.ownBlock = some g → n.v.ownBlock ≠ some g) (hidn : n.id ∉ ns.map (·.id)) (hz : sizeK ns + n.bs.length ≤ 1000000000000) (hlen : ns.length ≤ 1000000000) :
    Calls Tryd.prog 28 #[.pointer (some ⟨p, 0, none⟩), .pointer (some ⟨n.b, 0, none⟩)] w (KeepQ D w U p lim ns n) := by
  obtain ⟨mv, h1, h2, h3⟩ := h.row
  rcases h2 with ⟨rfl, _⟩ | ⟨mb, rfl, _⟩
  · exact ca_keep_none D w U p lim ns n a b h h1 h32 hn hD hdat hap hidn hz hlen
  · exact ca_keep_some D w U p lim ns n a b h h mb h1 h32 hn hD hdat hap hidn hz hlen
end Go.Proofs.YtmkdjonlfkfnlaaDoor
