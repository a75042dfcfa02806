import Derived.Test.YtmkdjonlfkfnlaaDoorMF
import Derived.Test.YtmkdjonlfkfnlaaDoorMS
import Derived.Test.YtmkdjonlfkfnlaaDoorMI
import Derived.Test.YtmkdjonlfkfnlaaDoorHY
import Derived.StillTailTactics

/- cache: the state; New, Len, Size, drop. -/
namespace Go.Proofs.YtmkdjonlfkfnlaaDoor
open Go.RowKit Go.Lib Go.Maps
/-- The block of a row has its type. -/
theorem ow_type {w : World} {base : Nat} {e : TypeId} {size : Nat} {v : Value} {n : Nat} {xs : List Value} (h : w.ownsRow base e size v n xs) {g : Nat} (hg : v.ownBlock = some g) : ∃ cur, w.heap[g]? = some (.cells cur e (0, 0)) := by
  rcases h.2 with ⟨rfl, _⟩ | ⟨g', cap, cur, rfl, _, hh, _⟩
  · simp [Value.ownBlock] at hg
  · simp [Value.ownBlock] at hg; subst hg; exact ⟨cur, hh⟩
def sizeK (ns : List Kn) : Nat := (ns.map (·.bs.length)).sum
def pairK (ns : List Kn) : List (List UInt8 × Nat) := ns.map fun n => (n.id, n.b)
/-- A cache at p; U: its blocks, none below D. -/
structure Ca (D : Nat) (w : World) (U : List Nat) (p : Nat) (lim : Int) (ns : List Kn) : Prop where
  row : ∃ mv, CaAt w p lim (sizeK ns) mv (fstP ns none) (lstP none ns) ∧ IM w mv (pairK ns) ∧ ∀ b, mv = .map (some b) → b ∈ U
  links : Lk w none ns none
  data : ∀ n ∈ ns, w.ownsRow D 5 1 n.v n.bs.length (n.bs.map B) ∧ ∀ g, n.v.ownBlock = some g → g ∈ U
  apart : ns.Pairwise (fun a b => ∀ g, a.v.ownBlock = some g → b.v.ownBlock ≠ some g)
  pU : p ∈ U
  nU : ∀ n ∈ ns, n.b ∈ U
  bound : ∀ x ∈ U, D ≤ x ∧ x < w.heap.size
  lim0 : 0 ≤ lim ∧ lim ≤ 9223372036854775807
theorem Ca.kept {D : Nat} {w w' : World} {U S : List Nat} {p : Nat} {lim : Int} {ns : List Kn} (h : Ca D w U p lim ns) (hk : Kept S w w') (hd : ∀ x ∈ U, x ∉ S) : Ca D w' U p lim ns := by
  obtain ⟨⟨mv, h1, h2, h3⟩, h4, h5, h6, h7, h8, h9, h10⟩ := h
  exact ⟨⟨mv, hk.at h1 (hd p h7), h2.kept hk (fun b hb => hd b (h3 b hb)), h3⟩, h4.kept hk (fun n hn => hd _ (h8 n hn)), fun n hn => ⟨hk.owns (h5 n hn).1 (fun g hg => hd g ((h5 n hn).2 g hg)), (h5 n hn).2⟩, h6, h7, h8, fun x hx => ⟨(h9 x hx).1, Nat.lt_of_lt_of_le (h9 x hx).2 hk.size⟩, h10⟩
theorem Ca.ids {D : Nat} {w : World} {U : List Nat} {p : Nat} {lim : Int} {ns : List Kn} (h : Ca D w U p lim ns) : (ns.map (·.id)).Nodup := by
  obtain ⟨⟨mv, _, h2, _⟩, _⟩ := h
  rcases h2 with ⟨_, h2⟩ | ⟨b, _, h2⟩
  · cases ns with
    | nil => simp
    | cons n r => simp [pairK] at h2
  · have := h2.2.1
    simpa [pairK, List.map_map, Function.comp_def] using this
theorem lk_nd {w : World} {ns : List Kn} (hl : Lk w none ns none) (hi : (ns.map (·.id)).Nodup) : (ns.map (·.b)).Nodup := by
  rw [List.Nodup, List.pairwise_map] at hi ⊢
  refine List.Pairwise.imp_of_mem (fun {x y} hx hy hne e => ?_) hi
  obtain ⟨a, b, h1⟩ := hl.mem hx
  obtain ⟨c, d, h2⟩ := hl.mem hy
  have h3 := h1.2
  rw [e, h2.2] at h3
  simp [knL] at h3
  have h4 := congrArg (List.take 32) h3
  rw [List.take_left' (by simp [h2.1]), List.take_left' (by simp [h1.1])] at h4
  exact hne (List.map_inj_right (fun a b h => by
    unfold B at h
    have : (a.toNat : Int) = b.toNat := by simpa using h
    exact UInt8.toNat_inj.1 (by omega)) |>.1 h4).symm
theorem Ca.nd {D : Nat} {w : World} {U : List Nat} {p : Nat} {lim : Int} {ns : List Kn} (h : Ca D w U p lim ns) : (ns.map (·.b)).Nodup := lk_nd h.links h.ids
theorem info_idN : (Tryd.prog.info? 34).map (·.size) = some 32 := by kernel_rfl
theorem ld_idA (W : World) (x : Addr) (id : List UInt8) (h32 : id.length = 32) (h : ∀ (j : Nat) v, (id.map B)[j]? = some v → W.cell? (x.add j) = some v) : (loadVar 34 x).run Tryd.prog W = .ok (.agg (id.map B).toArray) W :=
  run_loadVar_cells W _ _ (id.map B) _ Tryd.underlying34 rfl (by rw [List.length_map, h32]; exact info_idN) h
theorem ld_idB (W : World) (g : Nat) (id : List UInt8) (h32 : id.length = 32) (h : W.heap[g]? = some (.cells (id.map B).toArray 34 (0, 0))) : (loadVar 34 ⟨g, 0, none⟩).run Tryd.prog W = .ok (.agg (id.map B).toArray) W :=
  ld_idA W _ id h32 (fun j v hj => by
    have e : (⟨g, 0, none⟩ : Addr).add j = ⟨g, j, none⟩ := by unfold Addr.add; split <;> simp_all
    rw [e, cell_of_row _ _ j _ _ _ h]; simpa using hj)

theorem ca_fresh (D : Nat) (lim : Int) (h0 : 0 ≤ lim ∧ lim ≤ 9223372036854775807) (w : World) (hD : D ≤ w.heap.size) :
    Ca D (w.alloc (.cells #[.int .i64 lim, .int .i64 0, .map none, .pointer none, .pointer none] 61)) [w.heap.size] w.heap.size lim [] := by
  refine ⟨⟨.map none, ?_, Or.inl ⟨rfl, rfl⟩, by simp⟩, trivial, by simp, by simp, by simp, by simp, fun x hx => ?_, h0⟩
  · exact heap_alloc_at rfl
  · simp at hx
    subst hx
    simp
    exact hD
theorem ca_new (D : Nat) (l : Int) (hl : l ≤ 9223372036854775807) (w : World) (hD : D ≤ w.heap.size) :
    Calls Tryd.prog 7 #[.int .i64 l] w fun e w' => e = .returned (.pointer (some ⟨w.heap.size, 0, none⟩)) ∧ Kept [] w w' ∧ Ca D w' [w.heap.size] w.heap.size (max l 0) [] := by
  rcases Int.lt_or_le 0 l with h | h
  · have e : max l 0 = l := by omega
    have hf := ca_fresh D l (by omega) w hD
    rw [e]
    go_enter Tryd.func7, Tryd.ntmps7
    go_wp2
    go_ret
    exact ⟨rfl, (Kept.refl [] w).alloc _, hf⟩
  · have e : max l 0 = 0 := by omega
    have hf := ca_fresh D 0 (by omega) w hD
    rw [e]
    go_enter Tryd.func7, Tryd.ntmps7
    go_wp2
    · go_ret
      exact ⟨rfl, (Kept.refl [] w).alloc _, hf⟩
    · have hl0 : l = 0 := by omega
      subst hl0
      go_ret
      exact ⟨rfl, (Kept.refl [] w).alloc _, hf⟩
theorem ca_len (D : Nat) (w : World) (U : List Nat) (p : Nat) (lim : Int) (ns : List Kn) (h : Ca D w U p lim ns) :
    Calls Tryd.prog 19 #[.pointer (some ⟨p, 0, none⟩)] w fun e w' => e = .returned (.int .i64 ns.length) ∧ w = w' := by
  obtain ⟨⟨mv, h1, h2, _⟩, _⟩ := h
  obtain ⟨_, _, c2, _⟩ := ca_cells h1
  have hl := fun ty => im_len h2 ty
  have e : (pairK ns).length = ns.length := by simp [pairK]
  rw [e] at hl
  clear h1 h2 e
  go_enter Tryd.func19, Tryd.ntmps19
  go_wp2
  go_ret
  exact ⟨rfl, rfl⟩
theorem ca_size (D : Nat) (w : World) (U : List Nat) (p : Nat) (lim : Int) (ns : List Kn) (h : Ca D w U p lim ns) :
    Calls Tryd.prog 20 #[.pointer (some ⟨p, 0, none⟩)] w fun e w' => e = .returned (.int .i64 (sizeK ns)) ∧ w = w' := by
  obtain ⟨⟨mv, h1, h2, _⟩, _⟩ := h
  obtain ⟨_, c1, _⟩ := ca_cells h1
  clear h1 h2
  go_enter Tryd.func20, Tryd.ntmps20
  go_wp2
  go_ret
  exact ⟨rfl, rfl⟩
end Go.Proofs.YtmkdjonlfkfnlaaDoor


/- cache: drop. -/
namespace Go.Proofs.YtmkdjonlfkfnlaaDoor
open Go.RowKit Go.Lib Go.Maps
theorem find_here {A C : List Kn} {n : Kn} (h : ((A ++ n :: C).map (·.id)).Nodup) : findI n.id (pairK (A ++ n :: C)) = some n.b := by
  rw [List.map_append, List.map_cons] at h
  have h1 := (List.nodup_append.1 h).2.2
  unfold pairK
  rw [List.map_append, find_app]
  have e : findI n.id (A.map fun n => (n.id, n.b)) = none := find_mem.2 (by
    rw [List.map_map]
    intro hm
    obtain ⟨x, hx, e⟩ := List.mem_map.1 hm
    exact h1 x.id (List.mem_map_of_mem hx) n.id (by simp) e)
  rw [e]
  simp [findI]
theorem del_here {A C : List Kn} {n : Kn} (h : ((A ++ n :: C).map (·.id)).Nodup) : delI n.id (pairK (A ++ n :: C)) = pairK (A ++ C) := by
  rw [List.map_append, List.map_cons] at h
  have h1 := (List.nodup_append.1 h).2.2
  have h2 := (List.nodup_cons.1 (List.nodup_append.1 h).2.1).1
  unfold pairK delI
  rw [List.map_append, List.map_append, List.map_cons, List.filter_append, List.filter_cons, if_neg (by simp)]
  have e1 : (A.map fun n => (n.id, n.b)).filter (fun e => decide (e.1 ≠ n.id)) = A.map fun n => (n.id, n.b) := List.filter_eq_self.2 (fun x hx => by
    obtain ⟨y, hy, rfl⟩ := List.mem_map.1 hx
    simpa using h1 y.id (List.mem_map_of_mem hy) n.id (by simp))
  have e2 : (C.map fun n => (n.id, n.b)).filter (fun e => decide (e.1 ≠ n.id)) = C.map fun n => (n.id, n.b) := List.filter_eq_self.2 (fun x hx => by
    obtain ⟨y, hy, rfl⟩ := List.mem_map.1 hx
    have : y.id ≠ n.id := fun e => h2 (by rw [← e]; exact List.mem_map_of_mem hy)
    simpa using this)
  rw [e1, e2]
theorem find_not {ns : List Kn} {id : List UInt8} (h : id ∉ ns.map (·.id)) : findI id (pairK ns) = none := find_mem.2 (by
  unfold pairK
  rw [List.map_map]
  exact h)
theorem sizeK_mid (A C : List Kn) (n : Kn) : sizeK (A ++ n :: C) = sizeK (A ++ C) + n.bs.length := by unfold sizeK; simp; omega

set_option maxRecDepth 100000 in
set_option maxHeartbeats 4000000 in
theorem ca_drop_none (D : Nat) (w : World) (U : List Nat) (p : Nat) (lim : Int) (ns : List Kn) (h : Ca D w U p lim ns) (id : List UInt8) (h32 : id.length = 32) (hf : id ∉ ns.map (·.id)) :
    Calls Tryd.prog 27 #[.pointer (some ⟨p, 0, none⟩), .agg (id.map B).toArray] w fun e w' => e = .returned (.tuple #[]) ∧ Kept [] w w' := by
  obtain ⟨⟨mv, h1, h2, h3⟩, _⟩ := h
  obtain ⟨W, hW⟩ : ∃ W, W = w.alloc (.cells (id.map B).toArray 34) := ⟨_, rfl⟩
  have hk := hid (show Kept [] w W from hW ▸ (Kept.refl [] w).alloc _)
  have hb := hid (show W.heap[w.heap.size]? = some (.cells (id.map B).toArray 34 (0, 0)) from hW ▸ heap_alloc_at rfl)
  have HW := hid hW
  have hmv := hid (fun v (hv : Kept [] W v) => (ca_cells (show CaAt v p lim (sizeK ns) mv (fstP ns none) (lstP none ns) from (hk.out.trans hv).at h1 (by simp))).2.2.1)
  have hld := hid (fun v (hv : Kept [] W v) => ld_idB v w.heap.size id h32 (hv.at hb.out (by simp)))
  have hlk := hid (fun v (hv : Kept [] W v) => (show (Instr.lookup 56 mv (.agg (id.map B).toArray) true).run Tryd.prog v = .ok (.tuple #[.pointer none, .bool false]) v from by
    have := im_look (h2.kept (hk.out.trans hv) (fun b _ => by simp)) id h32
    rw [find_not hf] at this
    exact this))
  obtain ⟨iv, hiv⟩ : ∃ iv, iv = (id.map B).toArray := ⟨_, rfl⟩
  rw [← hiv] at hld hlk HW ⊢
  clear h1 h2 h3 hW hf hiv hb
  go_enter Tryd.func27, Tryd.ntmps27
  go_wp2_with fail
  rw [← HW.out]
  have hH0 : Kept [] W W.drew := (Kept.refl [] W).drew
  refine wp_region_held_drew (S := fun v => Kept [] W v) (by kernel_rfl) hH0 (fun hH => ?_)
  refine takeH 0 (.pointer (some ⟨p, 0, none⟩)) rfl (by kernel_rfl) (by kernel_rfl) (by kernel_rfl) (fun _ _ _ h => h) (by rfl) (fun v hv => by go_simp) hH ?_
  simp only [Act.put, List.setIfInBounds_toArray, List.set_cons_succ, List.set_cons_zero]
  refine takeH 1 (.pointer (some ⟨p, 0, none⟩)) rfl (by kernel_rfl) (by kernel_rfl) (by kernel_rfl) (fun _ _ _ h => h) (by rfl) (fun v hv => by go_simp) hH ?_
  simp only [Act.put, List.setIfInBounds_toArray, List.set_cons_succ, List.set_cons_zero]
  refine takeH 2 (.pointer (some ⟨p, 2, none⟩)) rfl (by kernel_rfl) (by kernel_rfl) (by kernel_rfl) (fun _ _ _ h => h) (by rfl) (fun v hv => by go_simp) hH ?_
  simp only [Act.put, List.setIfInBounds_toArray, List.set_cons_succ, List.set_cons_zero]
  refine takeH 3 (mv) rfl (by kernel_rfl) (by kernel_rfl) (by kernel_rfl) (fun _ _ _ h => h) (by rfl) (fun v hv => by have h := hmv.out v hv; go_simp) hH ?_
  simp only [Act.put, List.setIfInBounds_toArray, List.set_cons_succ, List.set_cons_zero]
  refine takeH 4 (.agg iv) rfl (by kernel_rfl) (by kernel_rfl) (by kernel_rfl) (fun _ _ _ h => h) (by rfl) (fun v hv => by have h := hld.out v hv; unfold execOp; simp [Instr.loadAt, Instr.sureAddr, Sem.run_bind, Sem.run_pure, Result.andThen_ok, Act.eval, h]) hH ?_
  simp only [Act.put, List.setIfInBounds_toArray, List.set_cons_succ, List.set_cons_zero]
  refine takeH 5 (.tuple #[.pointer none, .bool false]) rfl (by kernel_rfl) (by kernel_rfl) (by kernel_rfl) (fun _ _ _ h => h) (by rfl) (fun v hv => by have h := hlk.out v hv; unfold execOp; simp [Act.eval, Sem.run_bind, Sem.run_pure, Result.andThen_ok, h]) hH ?_
  simp only [Act.put, List.setIfInBounds_toArray, List.set_cons_succ, List.set_cons_zero]
  refine takeH 6 (.tuple #[.pointer none, .bool false]) rfl (by kernel_rfl) (by kernel_rfl) (by kernel_rfl) (fun _ _ _ h => h) (by rfl) (fun v hv => by go_simp) hH ?_
  simp only [Act.put, List.setIfInBounds_toArray, List.set_cons_succ, List.set_cons_zero]
  refine takeH 7 (.pointer none) rfl (by kernel_rfl) (by kernel_rfl) (by kernel_rfl) (fun _ _ _ h => h) (by rfl) (fun v hv => by go_simp) hH ?_
  simp only [Act.put, List.setIfInBounds_toArray, List.set_cons_succ, List.set_cons_zero]
  refine takeH 8 (.bool false) rfl (by kernel_rfl) (by kernel_rfl) (by kernel_rfl) (fun _ _ _ h => h) (by rfl) (fun v hv => by go_simp) hH ?_
  simp only [Act.put, List.setIfInBounds_toArray, List.set_cons_succ, List.set_cons_zero]
  refine takeH 9 (.pointer none) rfl (by kernel_rfl) (by kernel_rfl) (by kernel_rfl) (fun _ _ _ h => h) (by rfl) (fun v hv => by go_simp) hH ?_
  simp only [Act.put, List.setIfInBounds_toArray, List.set_cons_succ, List.set_cons_zero]
  refine takeH 10 (.bool false) rfl (by kernel_rfl) (by kernel_rfl) (by kernel_rfl) (fun _ _ _ h => h) (by rfl) (fun v hv => by go_simp) hH ?_
  simp only [Act.put, List.setIfInBounds_toArray, List.set_cons_succ, List.set_cons_zero]
  refine wpAnyH_done (by kernel_rfl) ?_ _
  go_wp2
  exact bodyPost_ret (v := .tuple #[]) (results_none rfl _ _ _) rfl ⟨rfl, hk.out.trans hH0⟩

set_option maxRecDepth 100000 in
set_option maxHeartbeats 4000000 in
theorem ca_drop_some (D : Nat) (w : World) (U : List Nat) (p : Nat) (lim : Int) (A : List Kn) (n : Kn) (C : List Kn) (h : Ca D w U p lim (A ++ n :: C)) (hz : sizeK (A ++ n :: C) ≤ 1000000000000) :
    Calls Tryd.prog 27 #[.pointer (some ⟨p, 0, none⟩), .agg (n.id.map B).toArray] w fun e w' => e = .returned (.tuple #[]) ∧ ∃ S, Kept S w w' ∧ (∀ x ∈ S, x ∈ U ∧ x ≠ n.b ∧ ∀ m ∈ A ++ n :: C, m.v.ownBlock ≠ some x) ∧ Ca D w' U p lim (A ++ C) := by
  have hids := h.ids
  have hnd := h.nd
  have HC := hid h
  obtain ⟨⟨mv, h1, h2, h3⟩, h4, h5, h6, h7, h8, h9, h10⟩ := h
  obtain ⟨hlA, hln, hlC⟩ := Lk.app.1 h4
  have h32 := hln.1
  obtain ⟨mb, rfl⟩ : ∃ b, mv = .map (some b) := by
    rcases h2 with ⟨_, h2⟩ | ⟨b, hb, _⟩
    · simp [pairK] at h2
    · exact ⟨b, hb⟩
  have him : IMb w mb (pairK (A ++ n :: C)) := by
    rcases h2 with ⟨h2, _⟩ | ⟨b, hb, h2⟩
    · cases h2
    · cases hb; exact h2
  obtain ⟨W, hW⟩ : ∃ W, W = w.alloc (.cells (n.id.map B).toArray 34) := ⟨_, rfl⟩
  have hk := hid (show Kept [] w W from hW ▸ (Kept.refl [] w).alloc _)
  have hb := hid (show W.heap[w.heap.size]? = some (.cells (n.id.map B).toArray 34 (0, 0)) from hW ▸ heap_alloc_at rfl)
  have HW := hid hW
  have hmv := hid (fun v (hv : Kept [] W v) => (ca_cells (show CaAt v p lim (sizeK (A ++ n :: C)) (.map (some mb)) (fstP (A ++ n :: C) none) (lstP none (A ++ n :: C)) from (hk.out.trans hv).at h1 (by simp))).2.2.1)
  have hld := hid (fun v (hv : Kept [] W v) => ld_idB v w.heap.size n.id h32 (hv.at hb.out (by simp)))
  have hlk := hid (fun v (hv : Kept [] W v) => (show (Instr.lookup 56 (.map (some mb)) (.agg (n.id.map B).toArray) true).run Tryd.prog v = .ok (.tuple #[.pointer (some ⟨n.b, 0, none⟩), .bool true]) v from by
    have := im_look (h2.kept (hk.out.trans hv) (fun b _ => by simp)) n.id h32
    rw [find_here hids] at this
    exact this))
  have hwd : Kept [] w W.drew.drew := hk.out.trans (((Kept.refl [] W).drew).trans ((Kept.refl [] W.drew).drew))
  obtain ⟨V, hdel, hkV, himV⟩ := im_drop (w := W.drew.drew) (b := mb) (es := pairK (A ++ n :: C)) (by
    rcases (IM.kept h2 hwd (fun b _ => by simp)) with ⟨h2, _⟩ | ⟨b, hb, h2⟩
    · cases h2
    · cases hb; exact h2) n.id h32
  rw [del_here hids] at himV
  have hpm : p ≠ mb := fun e => by
    obtain ⟨_, _, Dm, ho, _⟩ := him
    obtain ⟨es, clock, hm, _⟩ := ho
    rw [← e, h1] at hm
    simp at hm
  have hmv2 := hid (fun v (hv : Kept [mb] W v) => (ca_cells (show CaAt v p lim (sizeK (A ++ n :: C)) (.map (some mb)) (fstP (A ++ n :: C) none) (lstP none (A ++ n :: C)) from hv.at (hk.out.at h1 (by simp)) (by simpa using hpm))).2.2.1)
  have hqm : w.heap.size ≠ mb := fun e => by have := him.lt; omega
  have hld2 := hid (fun v (hv : Kept [mb] W v) => ld_idB v w.heap.size n.id h32 (hv.at hb.out (by simpa using hqm)))
  have hkwV : Kept [mb] w V := (hwd.wider (fun x _ hx => by simp at hx)).trans hkV
  have mbn : ∀ x ∈ A ++ n :: C, x.b ≠ mb := fun x hx e => by
    obtain ⟨a, b, h11⟩ := h4.mem hx
    obtain ⟨_, _, Dm, ho, _⟩ := him
    obtain ⟨es, clock, hm, _⟩ := ho
    rw [← e, h11.2] at hm
    simp at hm
  have hcaV : CaAt V p lim (sizeK (A ++ n :: C)) (.map (some mb)) (fstP (A ++ n :: C) none) (lstP none (A ++ n :: C)) := hkwV.at h1 (by simpa using hpm)
  have hlV : Lk V none (A ++ n :: C) none := h4.kept hkwV (fun x hx => by simpa using mbn x hx)
  have hrm := hid (row_remove V p lim (sizeK (A ++ n :: C)) (.map (some mb)) A n C hcaV hlV hnd)
  obtain ⟨sz, hsz⟩ : ∃ sz : Nat, sz = sizeK (A ++ C) := ⟨_, rfl⟩
  have hmid := sizeK_mid A C n
  rw [← hsz] at hmid
  have hnb : n.b ∉ p :: (A ++ C).map (·.b) := by
    simp only [List.mem_cons, not_or]
    refine ⟨h1.far hln.2, fun hm => ?_⟩
    obtain ⟨hA, hC⟩ := nd_far hnd
    obtain ⟨x, hx, e⟩ := List.mem_map.1 hm
    rcases List.mem_append.1 hx with hx | hx
    · exact (hA x hx).1 e
    · exact hC x hx e.symm
  have HNB := hid hnb
  have hlnV := hid ((Lk.app.1 hlV).2.1)
  obtain ⟨iv, hiv⟩ : ∃ iv, iv = (n.id.map B).toArray := ⟨_, rfl⟩
  obtain ⟨S0, hS0⟩ : ∃ S0 : Int, S0 = sizeK (A ++ n :: C) := ⟨_, rfl⟩
  obtain ⟨va, vc, hv⟩ : ∃ a c, n.v = .slice a n.bs.length c := by obtain ⟨a, c, e⟩ := owns_slice (h5 n (by simp)).1; exact ⟨a, c, e⟩
  have hsub := hid (show IntKind.i64.wrap (S0 - (n.bs.length : Int)) = (sz : Int) from by rw [hS0, hmid, IntKind.wrap_i64]; omega)
  have HS0 := hid hS0
  rw [← hS0] at hrm
  rw [← hiv] at hld hlk HW hdel hld2 ⊢
  have hkWV := hid (show Kept [mb] W V from ((((Kept.refl [] W).drew).trans ((Kept.refl [] W.drew).drew)).wider (fun x _ hx => by simp at hx)).trans hkV)
  have hdel2 := hdel 0
  have HKV := hid hkwV
  have HIM := hid himV
  have HOB := hid (show ∀ m ∈ A ++ n :: C, m.v.ownBlock ≠ some mb ∧ m.v.ownBlock ≠ some p ∧ ∀ y ∈ A ++ n :: C, m.v.ownBlock ≠ some y.b from fun m hm => by
    refine ⟨fun e => ?_, fun e => ?_, fun y hy e => ?_⟩
    · obtain ⟨cur, hc⟩ := ow_type (h5 m hm).1 e
      obtain ⟨_, _, Dm, ho, _⟩ := him
      obtain ⟨es, clock, hm, _⟩ := ho
      rw [hc] at hm
      simp at hm
    · obtain ⟨cur, hc⟩ := ow_type (h5 m hm).1 e
      rw [h1] at hc
      simp at hc
    · obtain ⟨cur, hc⟩ := ow_type (h5 m hm).1 e
      obtain ⟨a, b, h11⟩ := h4.mem hy
      rw [h11.2] at hc
      simp at hc)
  have HHH := hid (And.intro mbn (And.intro hpm h3))
  clear h1 h2 h3 h4 h5 h6 h7 h8 h9 h10 hW hiv hb hids hnd hlA hln hlC him hwd hdel hkV himV hkwV mbn hcaV hlV hnb hz hS0 hmid hpm
  go_enter Tryd.func27, Tryd.ntmps27
  go_wp2_with fail
  rw [← HW.out]
  have hH0 : Kept [] W W.drew := (Kept.refl [] W).drew
  refine wp_region_held_drew (S := fun v => Kept [] W v) (by kernel_rfl) hH0 (fun hH => ?_)
  refine takeH 0 (.pointer (some ⟨p, 0, none⟩)) rfl (by kernel_rfl) (by kernel_rfl) (by kernel_rfl) (fun _ _ _ h => h) (by rfl) (fun v hv => by go_simp) hH ?_
  simp only [Act.put, List.setIfInBounds_toArray, List.set_cons_succ, List.set_cons_zero]
  refine takeH 1 (.pointer (some ⟨p, 0, none⟩)) rfl (by kernel_rfl) (by kernel_rfl) (by kernel_rfl) (fun _ _ _ h => h) (by rfl) (fun v hv => by go_simp) hH ?_
  simp only [Act.put, List.setIfInBounds_toArray, List.set_cons_succ, List.set_cons_zero]
  refine takeH 2 (.pointer (some ⟨p, 2, none⟩)) rfl (by kernel_rfl) (by kernel_rfl) (by kernel_rfl) (fun _ _ _ h => h) (by rfl) (fun v hv => by go_simp) hH ?_
  simp only [Act.put, List.setIfInBounds_toArray, List.set_cons_succ, List.set_cons_zero]
  refine takeH 3 (.map (some mb)) rfl (by kernel_rfl) (by kernel_rfl) (by kernel_rfl) (fun _ _ _ h => h) (by rfl) (fun v hv => by have h := hmv.out v hv; go_simp) hH ?_
  simp only [Act.put, List.setIfInBounds_toArray, List.set_cons_succ, List.set_cons_zero]
  refine takeH 4 (.agg iv) rfl (by kernel_rfl) (by kernel_rfl) (by kernel_rfl) (fun _ _ _ h => h) (by rfl) (fun v hv => by have h := hld.out v hv; unfold execOp; simp [Instr.loadAt, Instr.sureAddr, Sem.run_bind, Sem.run_pure, Result.andThen_ok, Act.eval, h]) hH ?_
  simp only [Act.put, List.setIfInBounds_toArray, List.set_cons_succ, List.set_cons_zero]
  refine takeH 5 (.tuple #[.pointer (some ⟨n.b, 0, none⟩), .bool true]) rfl (by kernel_rfl) (by kernel_rfl) (by kernel_rfl) (fun _ _ _ h => h) (by rfl) (fun v hv => by have h := hlk.out v hv; unfold execOp; simp [Act.eval, Sem.run_bind, Sem.run_pure, Result.andThen_ok, h]) hH ?_
  simp only [Act.put, List.setIfInBounds_toArray, List.set_cons_succ, List.set_cons_zero]
  refine takeH 6 (.tuple #[.pointer (some ⟨n.b, 0, none⟩), .bool true]) rfl (by kernel_rfl) (by kernel_rfl) (by kernel_rfl) (fun _ _ _ h => h) (by rfl) (fun v hv => by go_simp) hH ?_
  simp only [Act.put, List.setIfInBounds_toArray, List.set_cons_succ, List.set_cons_zero]
  refine takeH 7 (.pointer (some ⟨n.b, 0, none⟩)) rfl (by kernel_rfl) (by kernel_rfl) (by kernel_rfl) (fun _ _ _ h => h) (by rfl) (fun v hv => by go_simp) hH ?_
  simp only [Act.put, List.setIfInBounds_toArray, List.set_cons_succ, List.set_cons_zero]
  refine takeH 8 (.bool true) rfl (by kernel_rfl) (by kernel_rfl) (by kernel_rfl) (fun _ _ _ h => h) (by rfl) (fun v hv => by go_simp) hH ?_
  simp only [Act.put, List.setIfInBounds_toArray, List.set_cons_succ, List.set_cons_zero]
  refine takeH 9 (.pointer (some ⟨n.b, 0, none⟩)) rfl (by kernel_rfl) (by kernel_rfl) (by kernel_rfl) (fun _ _ _ h => h) (by rfl) (fun v hv => by go_simp) hH ?_
  simp only [Act.put, List.setIfInBounds_toArray, List.set_cons_succ, List.set_cons_zero]
  refine takeH 10 (.bool true) rfl (by kernel_rfl) (by kernel_rfl) (by kernel_rfl) (fun _ _ _ h => h) (by rfl) (fun v hv => by go_simp) hH ?_
  simp only [Act.put, List.setIfInBounds_toArray, List.set_cons_succ, List.set_cons_zero]
  refine wpAnyH_done (by kernel_rfl) ?_ _
  go_wp2
  have hH1 : Kept [mb] W W.drew.drew := ((Kept.refl [mb] W).drew).drew
  refine wp_region_held_drew (S := fun v => Kept [mb] W v) (by kernel_rfl) hH1 (fun hH => ?_)
  refine takeH 0 (.pointer (some ⟨p, 0, none⟩)) rfl (by kernel_rfl) (by kernel_rfl) (by kernel_rfl) (fun _ _ _ h => h) (by rfl) (fun v hv => by go_simp) hH ?_
  simp only [Act.put, List.setIfInBounds_toArray, List.set_cons_succ, List.set_cons_zero]
  refine takeH 1 (.pointer (some ⟨p, 0, none⟩)) rfl (by kernel_rfl) (by kernel_rfl) (by kernel_rfl) (fun _ _ _ h => h) (by rfl) (fun v hv => by go_simp) hH ?_
  simp only [Act.put, List.setIfInBounds_toArray, List.set_cons_succ, List.set_cons_zero]
  refine takeH 2 (.pointer (some ⟨p, 2, none⟩)) rfl (by kernel_rfl) (by kernel_rfl) (by kernel_rfl) (fun _ _ _ h => h) (by rfl) (fun v hv => by go_simp) hH ?_
  simp only [Act.put, List.setIfInBounds_toArray, List.set_cons_succ, List.set_cons_zero]
  refine takeH 3 (.map (some mb)) rfl (by kernel_rfl) (by kernel_rfl) (by kernel_rfl) (fun _ _ _ h => h) (by rfl) (fun v hv => by have h := hmv2.out v hv; go_simp) hH ?_
  simp only [Act.put, List.setIfInBounds_toArray, List.set_cons_succ, List.set_cons_zero]
  refine takeH 4 (.agg iv) rfl (by kernel_rfl) (by kernel_rfl) (by kernel_rfl) (fun _ _ _ h => h) (by rfl) (fun v hv => by have h := hld2.out v hv; unfold execOp; simp [Instr.loadAt, Instr.sureAddr, Sem.run_bind, Sem.run_pure, Result.andThen_ok, Act.eval, h]) hH ?_
  simp only [Act.put, List.setIfInBounds_toArray, List.set_cons_succ, List.set_cons_zero]
  refine runH 5 rfl (by kernel_rfl) (by rfl) (.tuple #[]) (V) (by have h := hdel2; unfold execOp; simp [Act.eval, resolve, invoke, builtin, Sem.run_bind, Sem.run_pure, Result.andThen_ok, h]) (hkWV.out) ?_
  simp only [Act.put, List.setIfInBounds_toArray, List.set_cons_succ, List.set_cons_zero]
  refine wpAnyH_done (by kernel_rfl) ?_ _
  go_wp2_with fail
  refine hrm.out.mono ?_
  rintro e V3 ⟨rfl, k3, hca3, hl3⟩
  have hn3 := hlnV.out.kept k3 HNB.out
  have d1 : V3.drew.cell? ⟨p, 1, none⟩ = some (.int .i64 S0) := (ca_cells hca3).2.1
  have d2 : V3.drew.cell? ⟨n.b, 32, none⟩ = some (.slice va n.bs.length vc) := by have h1 := (kn_cells hn3.1 hn3.2).1; rw [hv] at h1; exact h1
  have d3 : V3.drew.frozen? ⟨p, 1, none⟩ = false := free_row hca3 1
  have hsub2 := hsub.out
  have K3 := hid k3; have CA3 := hid hca3; have L3 := hid hl3
  clear k3 hca3 hl3 hn3 hv hrm hlnV hdel2 hH0 hH1
  go_wp2_with fail
  refine wp_region_still_tail 10 (by kernel_rfl) (by kernel_rfl) ?_
  simp only [List.take_succ_cons, List.take_zero, List.drop_succ_cons, List.drop_zero]
  change wpStill _ _ V3.drew _ _ _
  repeat still_step
  refine wpStill_nil ?_
  go_wp2
  go_end0
  have kz : Kept [p] V3 (V3.setCell ⟨p, 1, none⟩ (.int .i64 (sizeK (A ++ C) : Int))).drew := (kset V3 p 1 _).drew
  have kall : Kept (mb :: p :: (A ++ C).map (·.b)) w (V3.setCell ⟨p, 1, none⟩ (.int .i64 (sizeK (A ++ C) : Int))).drew :=
    ((HKV.out.wider (fun x _ hx => by simp at hx; simp [hx])).trans (K3.out.wider (fun x _ hx => by simp only [List.mem_cons] at hx ⊢; exact Or.inr hx))).trans (kz.wider (fun x _ hx => by simp at hx; simp [hx]))
  obtain ⟨mbn, hpm, h3⟩ := HHH.out
  have hsub3 : ∀ x ∈ A ++ C, x ∈ A ++ n :: C := fun x hx => by simp at hx ⊢; rcases hx with hx | hx <;> simp [hx]
  have hC := HC.out
  refine ⟨rfl, _, kall, fun x hx => ?_, ?_⟩
  · simp only [List.mem_cons] at hx
    rcases hx with rfl | rfl | hx
    · exact ⟨h3 _ rfl, fun e => mbn n (by simp) e.symm, fun m hm => (HOB.out m hm).1⟩
    · exact ⟨hC.pU, fun e => HNB.out (by rw [e]; simp), fun m hm => (HOB.out m hm).2.1⟩
    · obtain ⟨y, hy, rfl⟩ := List.mem_map.1 hx
      exact ⟨hC.nU y (hsub3 y hy), fun e => HNB.out (by rw [← e]; exact List.mem_cons_of_mem _ hx), fun m hm => (HOB.out m hm).2.2 y (hsub3 y hy)⟩
  · have hca := set_any (j := 1) (v := .int .i64 (sizeK (A ++ C) : Int)) CA3.out
    have hIM : IM (V3.setCell ⟨p, 1, none⟩ (.int .i64 (sizeK (A ++ C) : Int))).drew (.map (some mb)) (pairK (A ++ C)) :=
      ((show IM V (.map (some mb)) (pairK (A ++ C)) from Or.inr ⟨mb, rfl, HIM.out⟩).kept K3.out (fun b hb hm => by
        cases hb
        simp only [List.mem_cons] at hm
        rcases hm with rfl | hm
        · exact hpm rfl
        · obtain ⟨y, hy, e⟩ := List.mem_map.1 hm
          exact mbn y (hsub3 y hy) e)).kept kz (fun b hb hm => by
        cases hb
        simp at hm
        exact hpm hm.symm)
    refine ⟨⟨.map (some mb), hca, hIM, h3⟩, L3.out.kept kz (fun y hy hm => ?_), fun m hm => ⟨kall.owns (hC.data m (hsub3 m hm)).1 (fun g hg hm2 => ?_), (hC.data m (hsub3 m hm)).2⟩, hC.apart.sublist (List.Sublist.append (List.Sublist.refl A) (List.sublist_cons_self n C)), hC.pU, fun y hy => hC.nU y (hsub3 y hy), fun x hx => ⟨(hC.bound x hx).1, Nat.lt_of_lt_of_le (hC.bound x hx).2 kall.size⟩, hC.lim0⟩
    · simp at hm
      obtain ⟨a, b, h1⟩ := L3.out.mem hy
      exact CA3.out.far h1.2 hm
    · simp only [List.mem_cons] at hm2
      obtain ⟨o1, o2, o3⟩ := HOB.out m (hsub3 m hm)
      rcases hm2 with rfl | rfl | hm2
      · exact o1 hg
      · exact o2 hg
      · obtain ⟨y, hy, rfl⟩ := List.mem_map.1 hm2
        exact o3 y (hsub3 y hy) hg
end Go.Proofs.YtmkdjonlfkfnlaaDoor
