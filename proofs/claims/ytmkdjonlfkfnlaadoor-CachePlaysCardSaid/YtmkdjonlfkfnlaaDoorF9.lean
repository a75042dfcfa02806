import Derived.Test.YtmkdjonlfkfnlaaDoorF8

/- cache: Get. -/
namespace Go.Proofs.YtmkdjonlfkfnlaaDoor
open Go.RowKit Go.Lib Go.Maps
def findD (id : List UInt8) : List (List UInt8 × List UInt8) → Option (List UInt8)
  | [] => none
  | e :: r => if e.1 = id then some e.2 else findD id r
/-- What Get has. -/
def getO (id : List UInt8) (l : List (List UInt8 × List UInt8)) : Option (List UInt8) := match findD id l with
  | some bs => if Sha.sum bs = id then some bs else none
  | none => none
def getL (id : List UInt8) (l : List (List UInt8 × List UInt8)) : List (List UInt8 × List UInt8) := match getO id l with
  | some bs => dropD id l ++ [(id, bs)]
  | none => dropD id l
def AnsV (w w' : World) (U' : List Nat) (v : Value) : Option (List UInt8) → Prop
  | some bs => w'.ownsRow w.heap.size 5 1 v bs.length (bs.map B) ∧ ∀ g, v.ownBlock = some g → g ∉ U'
  | none => v = .slice none 0 0
def GetQ (D : Nat) (w : World) (U : List Nat) (p : Nat) (lim : Int) (ns : List Kn) (id : List UInt8) (e : Ending) (w' : World) : Prop :=
  ∃ v, e = .returned (.tuple #[v, .bool (getO id (datK ns)).isSome]) ∧ Kept U w w' ∧ ∃ U' ns', (∀ x ∈ U', x ∈ U ∨ (w.heap.size ≤ x ∧ x < w'.heap.size)) ∧ (∀ x ∈ U, x ∈ U') ∧ Ca D w' U' p lim ns' ∧ datK ns' = getL id (datK ns) ∧ AnsV w w' U' v (getO id (datK ns))
theorem findD_mid {A C : List Kn} {n : Kn} (h : ((A ++ n :: C).map (·.id)).Nodup) : findD n.id (datK (A ++ n :: C)) = some n.bs := by
  induction A with
  | nil => simp [datK, findD]
  | cons x r ih =>
    rw [List.cons_append, List.map_cons, List.nodup_cons] at h
    have hx : x.id ≠ n.id := fun e => h.1 (by rw [e]; simp)
    have e1 : datK (x :: r ++ n :: C) = (x.id, x.bs) :: datK (r ++ n :: C) := rfl
    rw [e1]
    unfold findD
    rw [if_neg hx]
    exact ih h.2
theorem findD_not {ns : List Kn} {id : List UInt8} (h : id ∉ ns.map (·.id)) : findD id (datK ns) = none := by
  induction ns with
  | nil => rfl
  | cons x r ih =>
    rw [List.map_cons, List.mem_cons, not_or] at h
    have e1 : datK (x :: r) = (x.id, x.bs) :: datK r := rfl
    rw [e1]
    unfold findD
    rw [if_neg (fun e => h.1 e.symm)]
    exact ih h.2
theorem reads_row {w : World} {base : Nat} {a : Option Addr} {n c : Nat} {bs : List UInt8} (h : w.ownsRow base 5 1 (.slice a n c) n (bs.map B)) : Reads w a bs ∧ bs.length = n ∧ n ≤ c ∧ c ≤ 9223372036854775807 ∧ (a = none → c = 0) := by
  have hl : bs.length = n := by have := h.1; simpa using this
  rcases h.2 with ⟨hv, h0⟩ | ⟨g, cap, cur, hv, _, hh, h1, h2, h3, h4⟩
  · have hv1 : a = none ∧ c = 0 := by simp at hv; exact ⟨hv.1, hv.2.2⟩
    obtain ⟨rfl, rfl⟩ := hv1
    subst h0
    have hb : bs = [] := List.eq_nil_of_length_eq_zero hl
    subst hb
    exact ⟨⟨fun _ => rfl, fun ad h => by simp at h⟩, rfl, Nat.le_refl _, by omega, fun _ => rfl⟩
  · simp at hv
    obtain ⟨rfl, rfl⟩ := hv
    refine ⟨⟨fun h => by simp at h, fun ad had j u hj => ?_⟩, hl, h1, by unfold maxLen at h2; omega, fun h => by simp at h⟩
    simp at had
    subst had
    have e : (⟨g, 0, none⟩ : Addr).add j = ⟨g, j, none⟩ := by unfold Addr.add; split <;> simp_all
    rw [e, cell_of_row _ _ j _ _ _ hh]
    have hj' := hj
    rw [← h4, Nat.mul_one] at hj'
    have hjn : j < n := by have h5 := (List.getElem?_eq_some_iff.1 hj).1; simp at h5; omega
    rw [List.getElem?_take_of_lt hjn] at hj'
    simpa using hj'

set_option maxRecDepth 100000 in
set_option maxHeartbeats 4000000 in
theorem ca_get_none (D : Nat) (w : World) (U : List Nat) (p : Nat) (lim : Int) (ns : List Kn) (h : Ca D w U p lim ns) (id : List UInt8) (h32 : id.length = 32) (hf : id ∉ ns.map (·.id)) :
    Calls Tryd.prog 12 #[.pointer (some ⟨p, 0, none⟩), .agg (id.map B).toArray] w (GetQ D w U p lim ns id) := by
  have hg : getO id (datK ns) = none := by unfold getO; rw [findD_not hf]
  have HC := hid h
  obtain ⟨⟨mv, h1, h2, h3⟩, _⟩ := h
  obtain ⟨W, hW⟩ : ∃ W, W = w.alloc (.cells (id.map B).toArray 34) := ⟨_, rfl⟩
  have hk := hid (show Kept [] w W from hW ▸ (Kept.refl [] w).alloc _)
  have hb := hid (show W.heap[w.heap.size]? = some (.cells (id.map B).toArray 34 (0, 0)) from hW ▸ heap_alloc_at rfl)
  have HW := hid hW
  have hmv := hid (fun v (hv : Kept [] W v) => (ca_cells (show CaAt v p lim (sizeK ns) mv (fstP ns none) (lstP none ns) from (hk.out.trans hv).at h1 (by simp))).2.2.1)
  have hld := hid (fun v (hv : Kept [] W v) => ld_idB v w.heap.size id h32 (hv.at hb.out (by simp)))
  have hlk := hid (fun v (hv : Kept [] W v) => (show (Instr.lookup 56 mv (.agg (id.map B).toArray) true).run Tryd.prog v = .ok (.tuple #[.pointer none, .bool false]) v from by
    have := im_look (h2.kept (hk.out.trans hv) (fun b _ => by simp)) id h32
    rw [find_not hf] at this
    exact this))
  obtain ⟨iv, hiv⟩ : ∃ iv, iv = (id.map B).toArray := ⟨_, rfl⟩
  rw [← hiv] at hld hlk HW ⊢
  have HF := hid (And.intro hf hg)
  clear h1 h2 h3 hW hf hiv hb hg
  go_enter Tryd.func12, Tryd.ntmps12
  go_wp2_with fail
  rw [← HW.out]
  have hH0 : Kept [] W W.drew := (Kept.refl [] W).drew
  refine wp_region_held_drew (S := fun v => Kept [] W v) (by kernel_rfl) hH0 (fun hH => ?_)
  refine takeH 0 (.pointer (some ⟨p, 0, none⟩)) rfl (by kernel_rfl) (by kernel_rfl) (by kernel_rfl) (fun _ _ _ h => h) (by rfl) (fun v hv => by go_simp) hH ?_
  simp only [Act.put, List.setIfInBounds_toArray, List.set_cons_succ, List.set_cons_zero]
  refine takeH 1 (.pointer (some ⟨p, 0, none⟩)) rfl (by kernel_rfl) (by kernel_rfl) (by kernel_rfl) (fun _ _ _ h => h) (by rfl) (fun v hv => by go_simp) hH ?_
  simp only [Act.put, List.setIfInBounds_toArray, List.set_cons_succ, List.set_cons_zero]
  refine takeH 2 (.pointer (some ⟨p, 2, none⟩)) rfl (by kernel_rfl) (by kernel_rfl) (by kernel_rfl) (fun _ _ _ h => h) (by rfl) (fun v hv => by go_simp) hH ?_
  simp only [Act.put, List.setIfInBounds_toArray, List.set_cons_succ, List.set_cons_zero]
  refine takeH 3 (mv) rfl (by kernel_rfl) (by kernel_rfl) (by kernel_rfl) (fun _ _ _ h => h) (by rfl) (fun v hv => by have h := hmv.out v hv; go_simp) hH ?_
  simp only [Act.put, List.setIfInBounds_toArray, List.set_cons_succ, List.set_cons_zero]
  refine takeH 4 (.agg iv) rfl (by kernel_rfl) (by kernel_rfl) (by kernel_rfl) (fun _ _ _ h => h) (by rfl) (fun v hv => by have h := hld.out v hv; unfold execOp; simp [Instr.loadAt, Instr.sureAddr, Sem.run_bind, Sem.run_pure, Result.andThen_ok, Act.eval, h]) hH ?_
  simp only [Act.put, List.setIfInBounds_toArray, List.set_cons_succ, List.set_cons_zero]
  refine takeH 5 (.tuple #[.pointer none, .bool false]) rfl (by kernel_rfl) (by kernel_rfl) (by kernel_rfl) (fun _ _ _ h => h) (by rfl) (fun v hv => by have h := hlk.out v hv; unfold execOp; simp [Act.eval, Sem.run_bind, Sem.run_pure, Result.andThen_ok, h]) hH ?_
  simp only [Act.put, List.setIfInBounds_toArray, List.set_cons_succ, List.set_cons_zero]
  refine takeH 6 (.tuple #[.pointer none, .bool false]) rfl (by kernel_rfl) (by kernel_rfl) (by kernel_rfl) (fun _ _ _ h => h) (by rfl) (fun v hv => by go_simp) hH ?_
  simp only [Act.put, List.setIfInBounds_toArray, List.set_cons_succ, List.set_cons_zero]
  refine takeH 7 (.pointer none) rfl (by kernel_rfl) (by kernel_rfl) (by kernel_rfl) (fun _ _ _ h => h) (by rfl) (fun v hv => by go_simp) hH ?_
  simp only [Act.put, List.setIfInBounds_toArray, List.set_cons_succ, List.set_cons_zero]
  refine takeH 8 (.bool false) rfl (by kernel_rfl) (by kernel_rfl) (by kernel_rfl) (fun _ _ _ h => h) (by rfl) (fun v hv => by go_simp) hH ?_
  simp only [Act.put, List.setIfInBounds_toArray, List.set_cons_succ, List.set_cons_zero]
  refine takeH 9 (.pointer none) rfl (by kernel_rfl) (by kernel_rfl) (by kernel_rfl) (fun _ _ _ h => h) (by rfl) (fun v hv => by go_simp) hH ?_
  simp only [Act.put, List.setIfInBounds_toArray, List.set_cons_succ, List.set_cons_zero]
  refine takeH 10 (.bool false) rfl (by kernel_rfl) (by kernel_rfl) (by kernel_rfl) (fun _ _ _ h => h) (by rfl) (fun v hv => by go_simp) hH ?_
  simp only [Act.put, List.setIfInBounds_toArray, List.set_cons_succ, List.set_cons_zero]
  refine wpAnyH_done (by kernel_rfl) ?_ _
  go_wp2
  have hkk := hk.out.trans hH0
  refine bodyPost_ret (results_tmp2 rfl _ _ _) rfl ?_
  refine ⟨.slice none 0 0, by rw [HF.out.2]; rfl, hkk.wider (fun x _ hx => by simp at hx), U, ns, fun x hx => Or.inl hx, fun x hx => hx, HC.out.kept hkk (by simp), ?_, by rw [HF.out.2]; rfl⟩
  unfold getL
  rw [HF.out.2]
  exact (dropD_not HF.out.1).symm

/-- A kept blob that is found: what Get looks at. -/
structure GetI (D : Nat) (w : World) (U : List Nat) (p : Nat) (lim : Int) (A : List Kn) (n : Kn) (C : List Kn) (W4 : World) : Prop where
  ca : Ca D W4 U p lim (A ++ C)
  kept : Kept U w W4
  node : ∃ a b : Value, W4.heap[n.b]? = some (.cells (knL n a b).toArray 72 (0, 0))
  row : W4.ownsRow D 5 1 n.v n.bs.length (n.bs.map B)
  apart : ∀ m ∈ A ++ C, ∀ g, m.v.ownBlock = some g → n.v.ownBlock ≠ some g
  idn : n.id ∉ (A ++ C).map (·.id)
  bU : n.b ∈ U
  vU : ∀ g, n.v.ownBlock = some g → g ∈ U
set_option maxRecDepth 100000 in
set_option maxHeartbeats 8000000 in
theorem ca_get_some (D : Nat) (w : World) (U : List Nat) (p : Nat) (lim : Int) (A : List Kn) (n : Kn) (C : List Kn) (h : Ca D w U p lim (A ++ n :: C)) (ht : Tabs w) (hT : 0 ∉ U ∧ 1 ∉ U) (hz : sizeK (A ++ n :: C) ≤ 100000000) (hlen : (A ++ n :: C).length ≤ 1000000) :
    Calls Tryd.prog 12 #[.pointer (some ⟨p, 0, none⟩), .agg (n.id.map B).toArray] w (GetQ D w U p lim (A ++ n :: C) n.id) := by
  have hids := h.ids
  have hfd := findD_mid hids
  have hdm := dropD_mid hids
  have HC := hid h
  obtain ⟨⟨mv, h1, h2, h3⟩, h4, h5, h6, h7, h8, h9, h10⟩ := h
  obtain ⟨hlA, hln, hlC⟩ := Lk.app.1 h4
  have h32 := hln.1
  obtain ⟨W, hW⟩ : ∃ W, W = w.alloc (.cells (n.id.map B).toArray 34) := ⟨_, rfl⟩
  have hk := hid (show Kept [] w W from hW ▸ (Kept.refl [] w).alloc _)
  have hb := hid (show W.heap[w.heap.size]? = some (.cells (n.id.map B).toArray 34 (0, 0)) from hW ▸ heap_alloc_at rfl)
  have HW := hid hW
  have hmv := hid (fun v (hv : Kept [] W v) => (ca_cells (show CaAt v p lim (sizeK (A ++ n :: C)) mv (fstP (A ++ n :: C) none) (lstP none (A ++ n :: C)) from (hk.out.trans hv).at h1 (by simp))).2.2.1)
  have hld := hid (fun v (hv : Kept [] W v) => ld_idB v w.heap.size n.id h32 (hv.at hb.out (by simp)))
  have hlk := hid (fun v (hv : Kept [] W v) => (show (Instr.lookup 56 mv (.agg (n.id.map B).toArray) true).run Tryd.prog v = .ok (.tuple #[.pointer (some ⟨n.b, 0, none⟩), .bool true]) v from by
    have := im_look (h2.kept (hk.out.trans hv) (fun b _ => by simp)) n.id h32
    rw [find_here hids] at this
    exact this))
  have hqU := hid (show w.heap.size ∉ U from fun hm => by have := (h9 _ hm).2; omega)
  have hap : ∀ m ∈ A ++ C, ∀ g, m.v.ownBlock = some g → n.v.ownBlock ≠ some g := fun m hm g hg e => by
    rw [List.pairwise_append, List.pairwise_cons] at h6
    rcases List.mem_append.1 hm with hm | hm
    · exact h6.2.2 m hm n (by simp) g hg e
    · exact h6.2.1.1 m hm g e hg
  have hidn : n.id ∉ (A ++ C).map (·.id) := fun hm => by
    rw [List.map_append, List.map_cons] at hids
    have q1 := List.nodup_append.1 hids
    rw [List.map_append] at hm
    rcases List.mem_append.1 hm with hm | hm
    · exact q1.2.2 _ hm n.id (by simp) rfl
    · exact (List.nodup_cons.1 q1.2.1).1 hm
  have hHH := hid (And.intro hap (And.intro hidn (And.intro (h8 n (by simp)) (And.intro (h5 n (by simp)).2 (And.intro (h5 n (by simp)).1 hln)))))
  have HFD := hid hfd; have HDM := hid hdm; have HT := hid ht; have HTU := hid hT; have HZ := hid hz; have HL := hid hlen
  obtain ⟨va, vc, hv0⟩ : ∃ a c, n.v = .slice a n.bs.length c := by obtain ⟨a, c, e⟩ := owns_slice (h5 n (by simp)).1; exact ⟨a, c, e⟩
  have HV := hid hv0
  obtain ⟨sm, hsm⟩ : ∃ sm, sm = Sha.sum n.bs := ⟨_, rfl⟩
  have hsm32 : sm.length = 32 := by rw [hsm]; exact Sha.sum_len _
  have HSM := hid hsm
  obtain ⟨q, hq⟩ : ∃ q, q = !decide (sm = n.id) := ⟨_, rfl⟩
  have HQ := hid hq
  obtain ⟨iv, hiv⟩ : ∃ iv, iv = (n.id.map B).toArray := ⟨_, rfl⟩
  obtain ⟨sv, hsv⟩ : ∃ sv, sv = (sm.map B).toArray := ⟨_, rfl⟩
  have heq := hid (show ∀ v : World, (Op.equalIn 10000 34 (.agg sv) (.agg iv)).run Tryd.prog v = .ok (!q) v from fun v => by rw [hsv, hiv, hq, Bool.not_not]; exact id_equal _ _ hsm32 h32 v)
  have hIV := hid hiv; have hSV := hid hsv
  rw [← hiv] at hld hlk HW ⊢
  clear h1 h2 h3 h4 h5 h6 h7 h8 h9 h10 hW hiv hb hids hlA hln hlC hap hidn hfd hdm hv0 hsm hq hsv hsm32 ht hT hz hlen
  go_enter Tryd.func12, Tryd.ntmps12
  go_wp2_with fail
  rw [← HW.out]
  have hH0 : Kept [] W W.drew := (Kept.refl [] W).drew
  refine wp_region_held_drew (S := fun v => Kept [] W v) (by kernel_rfl) hH0 (fun hH => ?_)
  refine takeH 0 (.pointer (some ⟨p, 0, none⟩)) rfl (by kernel_rfl) (by kernel_rfl) (by kernel_rfl) (fun _ _ _ h => h) (by rfl) (fun v hv => by go_simp) hH ?_
  simp only [Act.put, List.setIfInBounds_toArray, List.set_cons_succ, List.set_cons_zero]
  refine takeH 1 (.pointer (some ⟨p, 0, none⟩)) rfl (by kernel_rfl) (by kernel_rfl) (by kernel_rfl) (fun _ _ _ h => h) (by rfl) (fun v hv => by go_simp) hH ?_
  simp only [Act.put, List.setIfInBounds_toArray, List.set_cons_succ, List.set_cons_zero]
  refine takeH 2 (.pointer (some ⟨p, 2, none⟩)) rfl (by kernel_rfl) (by kernel_rfl) (by kernel_rfl) (fun _ _ _ h => h) (by rfl) (fun v hv => by go_simp) hH ?_
  simp only [Act.put, List.setIfInBounds_toArray, List.set_cons_succ, List.set_cons_zero]
  refine takeH 3 (mv) rfl (by kernel_rfl) (by kernel_rfl) (by kernel_rfl) (fun _ _ _ h => h) (by rfl) (fun v hv => by have h := hmv.out v hv; go_simp) hH ?_
  simp only [Act.put, List.setIfInBounds_toArray, List.set_cons_succ, List.set_cons_zero]
  refine takeH 4 (.agg iv) rfl (by kernel_rfl) (by kernel_rfl) (by kernel_rfl) (fun _ _ _ h => h) (by rfl) (fun v hv => by have h := hld.out v hv; unfold execOp; simp [Instr.loadAt, Instr.sureAddr, Sem.run_bind, Sem.run_pure, Result.andThen_ok, Act.eval, h]) hH ?_
  simp only [Act.put, List.setIfInBounds_toArray, List.set_cons_succ, List.set_cons_zero]
  refine takeH 5 (.tuple #[.pointer (some ⟨n.b, 0, none⟩), .bool true]) rfl (by kernel_rfl) (by kernel_rfl) (by kernel_rfl) (fun _ _ _ h => h) (by rfl) (fun v hv => by have h := hlk.out v hv; unfold execOp; simp [Act.eval, Sem.run_bind, Sem.run_pure, Result.andThen_ok, h]) hH ?_
  simp only [Act.put, List.setIfInBounds_toArray, List.set_cons_succ, List.set_cons_zero]
  refine takeH 6 (.tuple #[.pointer (some ⟨n.b, 0, none⟩), .bool true]) rfl (by kernel_rfl) (by kernel_rfl) (by kernel_rfl) (fun _ _ _ h => h) (by rfl) (fun v hv => by go_simp) hH ?_
  simp only [Act.put, List.setIfInBounds_toArray, List.set_cons_succ, List.set_cons_zero]
  refine takeH 7 (.pointer (some ⟨n.b, 0, none⟩)) rfl (by kernel_rfl) (by kernel_rfl) (by kernel_rfl) (fun _ _ _ h => h) (by rfl) (fun v hv => by go_simp) hH ?_
  simp only [Act.put, List.setIfInBounds_toArray, List.set_cons_succ, List.set_cons_zero]
  refine takeH 8 (.bool true) rfl (by kernel_rfl) (by kernel_rfl) (by kernel_rfl) (fun _ _ _ h => h) (by rfl) (fun v hv => by go_simp) hH ?_
  simp only [Act.put, List.setIfInBounds_toArray, List.set_cons_succ, List.set_cons_zero]
  refine takeH 9 (.pointer (some ⟨n.b, 0, none⟩)) rfl (by kernel_rfl) (by kernel_rfl) (by kernel_rfl) (fun _ _ _ h => h) (by rfl) (fun v hv => by go_simp) hH ?_
  simp only [Act.put, List.setIfInBounds_toArray, List.set_cons_succ, List.set_cons_zero]
  refine takeH 10 (.bool true) rfl (by kernel_rfl) (by kernel_rfl) (by kernel_rfl) (fun _ _ _ h => h) (by rfl) (fun v hv => by go_simp) hH ?_
  simp only [Act.put, List.setIfInBounds_toArray, List.set_cons_succ, List.set_cons_zero]
  refine wpAnyH_done (by kernel_rfl) ?_ _
  have hld1 := hid (hld.out _ hH0)
  have hk1 := hid (hk.out.trans hH0)
  have hq1 := hid (show ∀ v, Kept U W.drew v → (loadVar 34 ⟨w.heap.size, 0, none⟩).run Tryd.prog v = .ok (.agg iv) v from fun v hv => by
    rw [hIV.out]
    exact ld_idB v w.heap.size n.id h32 (hv.at (hH0.at (show W.heap[w.heap.size]? = some (.cells (n.id.map B).toArray 34 (0, 0)) from by rw [HW.out, hIV.out]; exact heap_alloc_at rfl) (by simp)) hqU.out))
  have hdr := hid (ca_drop_some D W.drew U p lim A n C (HC.out.kept hk1.out (by simp)) (by have := HZ.out; omega))
  rw [← hIV.out] at hdr
  clear hmv hld hlk hH hH0
  generalize W.drew = W1 at *
  go_wp2_with (refine wpList_ldv rfl 34 (.tmp 3) rfl ⟨w.heap.size, 0, none⟩ rfl (.agg iv) hld1.out ?_; refine halt ?_)
  refine Halt.mk ?_
  go_wp2_with fail
  refine hdr.out.mono ?_
  rintro e W4 ⟨rfl, S, k4, hS, ca4⟩
  have hkU : Kept U W1 W4 := k4.wider (fun x _ hx => (hS x hx).1)
  have HI := hid (show GetI D w U p lim A n C W4 from by
    obtain ⟨hap, hidn, hbU, hvU, hrow, hln⟩ := hHH.out
    refine ⟨ca4, (hk1.out.wider (fun x _ hx => by simp at hx)).trans hkU, ⟨_, _, k4.at (hk1.out.at hln.2 (by simp)) (fun hm => (hS _ hm).2.1 rfl)⟩, k4.owns (hk1.out.owns hrow (by simp)) (fun g hg hm => (hS g hm).2.2 n (by simp) hg), hap, hidn, hbU, hvU⟩)
  have hld4 := hid (hq1.out W4 hkU)
  have HKU := hid hkU
  clear hdr hld1 k4 hS ca4 hkU
  have hnl : n.bs.length ≤ 100000000 := by have h1 := sizeK_mid A C n; have h2 := HZ.out; omega
  have hof := hid (fun V (hV : Kept [] W4 V) => by
    have h1 := HI.out.row
    rw [HV.out] at h1
    obtain ⟨r1, r2, r3, r4, r5⟩ := reads_row h1
    exact of_any va vc n.bs V ((HT.out.kept HI.out.kept HTU.out.1 HTU.out.2).kept hV (by simp) (by simp)) (r1.kept hV (fun _ _ _ => by simp)) r3 r4 (by omega))
  rw [← HSM.out, ← hSV.out] at hof
  have hcd := hid (fun V (hV : Kept [] W4 V) => (show V.cell? ⟨n.b, 32, none⟩ = some (.slice va n.bs.length vc) from by
    obtain ⟨na, nb, hnode⟩ := HI.out.node
    have h1 := (kn_cells h32 (hV.at hnode (by simp))).1
    rw [HV.out] at h1
    exact h1))
  have hldv := hid (fun v (hv : Kept [] W4 v) => hq1.out v (HKU.out.trans (hv.wider (fun x _ hx => by simp at hx))))
  obtain ⟨k, hk⟩ : ∃ k, k = n.bs.length := ⟨_, rfl⟩
  have HK := hid hk
  rw [← hk] at hof hcd hnl
  clear hk
  go_wp2_with fail
  have hH4 : Kept [] W4 W4.drew := (Kept.refl [] W4).drew
  refine wp_region_held_drew (S := fun v => Kept [] W4 v) (by kernel_rfl) hH4 (fun hH => ?_)
  refine takeH 0 (.pointer (some ⟨n.b, 0, none⟩)) rfl (by kernel_rfl) (by kernel_rfl) (by kernel_rfl) (fun _ _ _ h => h) (by rfl) (fun v hv => by go_simp) hH ?_
  simp only [Act.put, List.setIfInBounds_toArray, List.set_cons_succ, List.set_cons_zero]
  refine takeH 1 (.pointer (some ⟨n.b, 0, none⟩)) rfl (by kernel_rfl) (by kernel_rfl) (by kernel_rfl) (fun _ _ _ h => h) (by rfl) (fun v hv => by go_simp) hH ?_
  simp only [Act.put, List.setIfInBounds_toArray, List.set_cons_succ, List.set_cons_zero]
  refine takeH 2 (.pointer (some ⟨n.b, 32, none⟩)) rfl (by kernel_rfl) (by kernel_rfl) (by kernel_rfl) (fun _ _ _ h => h) (by rfl) (fun v hv => by go_simp) hH ?_
  simp only [Act.put, List.setIfInBounds_toArray, List.set_cons_succ, List.set_cons_zero]
  refine takeH 3 (.slice va k vc) rfl (by kernel_rfl) (by kernel_rfl) (by kernel_rfl) (fun _ _ _ h => h) (by rfl) (fun v hv => by have h := hcd.out v hv; go_simp) hH ?_
  simp only [Act.put, List.setIfInBounds_toArray, List.set_cons_succ, List.set_cons_zero]
  refine takeH 5 (.agg iv) rfl (by kernel_rfl) (by kernel_rfl) (by kernel_rfl) (fun _ _ _ h => h) (by rfl) (fun v hv => by have h := hldv.out v hv; unfold execOp; simp [Instr.loadAt, Instr.sureAddr, Sem.run_bind, Sem.run_pure, Result.andThen_ok, Act.eval, h]) hH ?_
  simp only [Act.put, List.setIfInBounds_toArray, List.set_cons_succ, List.set_cons_zero]
  refine callR 4 rfl (by kernel_rfl) (by rfl) 26 #[.slice va k vc] (by go_simp) (.agg sv) (fun v => Kept [] W4.drew v) (fun v h => hH4.trans h) (hof.out _ hH4) ?_
  rintro W5 k5
  simp only [Act.put, List.setIfInBounds_toArray, List.set_cons_succ, List.set_cons_zero]
  have hS5 : Kept [] W4 W5 := hH4.trans k5
  refine takeH 6 (.bool q) rfl (by kernel_rfl) (by kernel_rfl) (by kernel_rfl) (fun _ _ _ h => h) (by rfl) (fun v hv => by have h := heq.out v; go_simp) hS5 ?_
  simp only [Act.put, List.setIfInBounds_toArray, List.set_cons_succ, List.set_cons_zero]
  refine wpAnyH_done (by kernel_rfl) ?_ _
  have HS5 := hid hS5
  clear hS5 k5 hH hH4 hof hcd hldv hld4
  cases q
  · have hs : sm = n.id := of_decide_eq_true (by have := HQ.out; simpa using this.symm)
    have hgo := hid (show getO n.id (datK (A ++ n :: C)) = some n.bs from by unfold getO; rw [HFD.out]; simp only; rw [if_pos (by rw [← HSM.out]; exact hs)])
    obtain ⟨na, nb, hnode⟩ := HI.out.node
    have hkp := hid (ca_keep D W5 U p lim (A ++ C) n na nb (HI.out.ca.kept HS5.out (by simp)) h32 (HS5.out.at hnode (by simp)) (HI.out.ca.bound _ HI.out.bU).1 (HS5.out.owns HI.out.row (by simp)) HI.out.apart HI.out.idn (by have h1 := sizeK_mid A C n; have h2 := HZ.out; omega) (by have h2 := HL.out; simp at h2 ⊢; omega))
    clear hs hnode
    go_wp2_with fail
    refine hkp.out.mono ?_
    rintro e W6 ⟨rfl, S6, U6, k6, hS6, hU6, hUU, ca6⟩
    have hn6 := (Lk.app.1 ca6.links).2.1
    have hr6 := (ca6.data n (by simp)).1
    have c6 : W6.cell? ⟨n.b, 32, none⟩ = some (.slice va k vc) := by have h1 := (kn_cells hn6.1 hn6.2).1; rw [HV.out, ← HK.out] at h1; exact h1
    rw [HV.out] at hr6
    obtain ⟨r1, r2, r3, r4, r5⟩ := reads_row hr6
    have hcl := hid (clone_own va vc n.bs W6 (src_reads r1 r5) (by have := HK.out; omega))
    rw [← HK.out] at hcl
    have H6 := hid (And.intro k6 (And.intro hS6 (And.intro hU6 (And.intro hUU ca6))))
    clear k6 hS6 hU6 hUU ca6 hn6 hr6 r1 r2 r3 r4 r5 hkp
    go_wp2_with fail
    refine hcl.out.mono ?_
    rintro e W7 ⟨v7, rfl, k7, ho7⟩
    have HK7 := hid k7; have HO7 := hid ho7
    clear k7 ho7 hcl c6
    go_wp2
    refine bodyPost_ret (results_tmp2 rfl _ _ _) rfl ?_
    obtain ⟨k6, hS6, hU6, hUU, ca6⟩ := H6.out
    have hkw : Kept U w W6 := ((HI.out.kept).trans (HS5.out.wider (fun x _ hx => by simp at hx))).trans (k6.wider (fun x _ hx => by
      rcases hS6 x hx with h | h
      · exact h
      · rw [h]; exact HI.out.bU))
    have s5 := HS5.out.size
    have s4 := HI.out.kept.size
    have s6 := k6.size
    have s7 := HK7.out.size
    refine ⟨v7, by rw [hgo.out]; rfl, hkw.trans (HK7.out.wider (fun x _ hx => by simp at hx)), U6, _, fun x hx => ?_, hUU, ca6.kept HK7.out (by simp), ?_, ?_⟩
    · rcases hU6 x hx with h | h | h | h
      · exact Or.inl h
      · rw [h]; exact Or.inl HI.out.bU
      · exact Or.inl (HI.out.vU x h)
      · exact Or.inr ⟨by omega, by omega⟩
    · unfold getL
      rw [hgo.out, HDM.out, dat_app]
      rfl
    · rw [hgo.out]
      have h1 := HO7.out
      rw [HK.out] at h1
      refine ⟨ow_low h1 (by omega), fun g hg hm => ?_⟩
      have h2 := (own_block_ge h1 g hg).1
      have h3 := (ca6.bound g hm).2
      omega
  · have hs : sm ≠ n.id := by have := HQ.out; simpa using this.symm
    have hgo := hid (show getO n.id (datK (A ++ n :: C)) = none from by unfold getO; rw [HFD.out]; simp only; rw [if_neg (by rw [← HSM.out]; exact hs)])
    clear hs
    go_wp2
    refine bodyPost_ret (results_tmp2 rfl _ _ _) rfl ?_
    have hkk := HI.out.kept.trans (HS5.out.wider (fun x _ hx => by simp at hx))
    refine ⟨.slice none 0 0, by rw [hgo.out]; rfl, hkk, U, A ++ C, fun x hx => Or.inl hx, fun x hx => hx, HI.out.ca.kept HS5.out (by simp), ?_, by rw [hgo.out]; rfl⟩
    unfold getL
    rw [hgo.out, HDM.out]
theorem ca_get (D : Nat) (w : World) (U : List Nat) (p : Nat) (lim : Int) (ns : List Kn) (h : Ca D w U p lim ns) (ht : Tabs w) (hT : 0 ∉ U ∧ 1 ∉ U) (hz : sizeK ns ≤ 100000000) (hlen : ns.length ≤ 1000000) (id : List UInt8) (h32 : id.length = 32) :
    Calls Tryd.prog 12 #[.pointer (some ⟨p, 0, none⟩), .agg (id.map B).toArray] w (GetQ D w U p lim ns id) := by
  by_cases hf : id ∈ ns.map (·.id)
  · obtain ⟨n, hn, rfl⟩ := List.mem_map.1 hf
    obtain ⟨A, C, rfl⟩ := List.append_of_mem hn
    exact ca_get_some D w U p lim A n C h ht hT hz hlen
  · exact ca_get_none D w U p lim ns h id h32 hf
end Go.Proofs.YtmkdjonlfkfnlaaDoor
