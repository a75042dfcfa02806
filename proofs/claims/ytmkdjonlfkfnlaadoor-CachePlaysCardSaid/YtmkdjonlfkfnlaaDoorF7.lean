import Derived.Test.YtmkdjonlfkfnlaaDoorF6
import Derived.Test.YtmkdjonlfkfnlaaDoorHX

/- cache: what is kept, as mathematics; a copy of bytes; drop of any sum. -/
namespace Go.Proofs.YtmkdjonlfkfnlaaDoor
open Go.RowKit Go.Lib Go.Maps
def datK (ns : List Kn) : List (List UInt8 × List UInt8) := ns.map fun n => (n.id, n.bs)
def szD (l : List (List UInt8 × List UInt8)) : Nat := (l.map (·.2.length)).sum
def dropD (id : List UInt8) (l : List (List UInt8 × List UInt8)) : List (List UInt8 × List UInt8) := l.filter (fun e => decide (e.1 ≠ id))
/-- The first ones go, until there is room. -/
def evict (lim : Int) (k : Nat) : List (List UInt8 × List UInt8) → List (List UInt8 × List UInt8)
  | [] => []
  | e :: r => if lim - (k : Int) < (szD (e :: r) : Int) then evict lim k r else e :: r
def putD (lim : Int) (l : List (List UInt8 × List UInt8)) (ys : List UInt8) : List (List UInt8 × List UInt8) :=
  if lim < (ys.length : Int) then dropD (Sha.sum ys) l else evict lim ys.length (dropD (Sha.sum ys) l) ++ [(Sha.sum ys, ys)]
theorem sizeK_dat (ns : List Kn) : sizeK ns = szD (datK ns) := by unfold sizeK szD datK; rw [List.map_map]; rfl
theorem szD_app (a b : List (List UInt8 × List UInt8)) : szD (a ++ b) = szD a + szD b := by unfold szD; simp
theorem dat_app (a b : List Kn) : datK (a ++ b) = datK a ++ datK b := by unfold datK; simp
theorem szD_drop (id : List UInt8) (l : List (List UInt8 × List UInt8)) : szD (dropD id l) ≤ szD l := by
  unfold szD dropD
  induction l with
  | nil => simp
  | cons e r ih => rw [List.filter_cons]; split <;> simp only [List.map_cons, List.sum_cons] <;> omega
theorem szD_evict (lim : Int) (k : Nat) (l : List (List UInt8 × List UInt8)) : szD (evict lim k l) ≤ szD l := by
  induction l with
  | nil => simp [evict]
  | cons e r ih =>
    unfold evict
    split
    · have : szD (e :: r) = e.2.length + szD r := by unfold szD; simp
      omega
    · exact Nat.le_refl _
theorem evict_mem {lim : Int} {k : Nat} {l : List (List UInt8 × List UInt8)} {e : List UInt8 × List UInt8} (h : e ∈ evict lim k l) : e ∈ l := by
  induction l with
  | nil => simp [evict] at h
  | cons x r ih =>
    unfold evict at h
    split at h
    · exact List.mem_cons_of_mem _ (ih h)
    · exact h
theorem dropD_mem {id : List UInt8} {l : List (List UInt8 × List UInt8)} {e : List UInt8 × List UInt8} : e ∈ dropD id l ↔ e ∈ l ∧ e.1 ≠ id := by unfold dropD; simp [List.mem_filter]
theorem dropD_mid {A C : List Kn} {n : Kn} (h : ((A ++ n :: C).map (·.id)).Nodup) : dropD n.id (datK (A ++ n :: C)) = datK (A ++ C) := by
  rw [List.map_append, List.map_cons] at h
  have h1 := (List.nodup_append.1 h).2.2
  have h2 := (List.nodup_cons.1 (List.nodup_append.1 h).2.1).1
  unfold datK dropD
  rw [List.map_append, List.map_append, List.map_cons, List.filter_append, List.filter_cons, if_neg (by simp)]
  have e1 : (A.map fun n => (n.id, n.bs)).filter (fun e => decide (e.1 ≠ n.id)) = A.map fun n => (n.id, n.bs) := List.filter_eq_self.2 (fun x hx => by
    obtain ⟨y, hy, rfl⟩ := List.mem_map.1 hx
    simpa using h1 y.id (List.mem_map_of_mem hy) n.id (by simp))
  have e2 : (C.map fun n => (n.id, n.bs)).filter (fun e => decide (e.1 ≠ n.id)) = C.map fun n => (n.id, n.bs) := List.filter_eq_self.2 (fun x hx => by
    obtain ⟨y, hy, rfl⟩ := List.mem_map.1 hx
    have : y.id ≠ n.id := fun e => h2 (by rw [← e]; exact List.mem_map_of_mem hy)
    simpa using this)
  rw [e1, e2]
theorem dropD_not {ns : List Kn} {id : List UInt8} (h : id ∉ ns.map (·.id)) : dropD id (datK ns) = datK ns := by
  unfold datK dropD
  refine List.filter_eq_self.2 (fun x hx => ?_)
  obtain ⟨y, hy, rfl⟩ := List.mem_map.1 hx
  have : y.id ≠ id := fun e => h (by rw [← e]; exact List.mem_map_of_mem hy)
  simpa using this
theorem ids_dat (ns : List Kn) : (datK ns).map (·.1) = ns.map (·.id) := by unfold datK; rw [List.map_map]; rfl
/-- As many as the map holds. -/
def mapCount (p : Nat) (w : World) : Nat := match w.cell? ⟨p, 2, none⟩ with
  | some (.map (some b)) => match w.heap[b]? with
    | some (.map es _) => es.size
    | _ => 0
  | _ => 0
theorem Ca.count {D : Nat} {w : World} {U : List Nat} {p : Nat} {lim : Int} {ns : List Kn} (h : Ca D w U p lim ns) : mapCount p w = ns.length := by
  obtain ⟨⟨mv, h1, h2, _⟩, _⟩ := h
  have c2 := (ca_cells h1).2.2.1
  unfold mapCount
  rw [c2]
  rcases h2 with ⟨rfl, h2⟩ | ⟨b, rfl, h2⟩
  · cases ns with
    | nil => rfl
    | cons n r => simp [pairK] at h2
  · obtain ⟨_, _, Dm, ⟨es, clock, hb, F, hs, rfl⟩, h4, _⟩ := h2
    simp only [hb]
    have e : (pairK ns).length = ns.length := by simp [pairK]
    rw [← e, ← h4]
    simp [Maps.size, length_sorted]

theorem clone_own (a : Option Addr) (c : Nat) (bs : List UInt8) (w : World) (h : SrcB w (.slice a bs.length c) bs) (hlen : bs.length ≤ 500000000) :
    Calls Tryd.prog 29 #[.slice a bs.length c] w fun e w' => ∃ v, e = .returned v ∧ Kept [] w w' ∧ w'.ownsRow w.heap.size 5 1 v bs.length (bs.map B) := by
  obtain ⟨i0, hi0, hz0, hz1, hz2⟩ := info_parts info_u8
  rcases h with ⟨h1, h2, _⟩ | ⟨x, c', h1, hc⟩
  · have hb : bs = [] := List.eq_nil_of_length_eq_zero h2
    subst hb
    simp at h1
    obtain ⟨rfl, rfl⟩ := h1
    have heq := fun (w : World) => run_eql_slice_nil (P := Tryd.prog) w 30 5 none 0 0 0 0 Tryd.underlying30
    go_enter Tryd.func29, Tryd.ntmps29
    go_wp2
    go_ret
    exact ⟨_, rfl, Kept.refl _ _, World.ownsRow_nil _ _ _ _⟩
  · simp at h1
    obtain ⟨rfl, rfl⟩ := h1
    have hsrc := hid (show SrcB w (.slice (some x) bs.length c) bs from Or.inr ⟨x, c, rfl, hc⟩)
    clear hc
    have heq := fun (w : World) => run_eql_slice_nil (P := Tryd.prog) w 30 5 (some x) bs.length c 0 0 Tryd.underlying30
    go_enter Tryd.func29, Tryd.ntmps29
    go_wp2_with (at_builtin; refine halt ?_)
    refine Halt.mk ?_
    refine wpList_append_src _ rfl _ _ _ rfl w.heap.size 5 i0 _ 1 Tryd.underlying30 hi0 hz0 hz1 hz2 rfl (.slice (some ⟨w.heap.size, 0, none⟩) 0 0) ([] : List UInt8).length (([] : List UInt8).map B) rfl (RowAt.fresh w).2.2.2 (.slice (some x) bs.length c) bs.length (bs.map B) rfl (hsrc.out.kept ((Kept.refl [] w).alloc _) (by simp)) (by simp) (B_oneCell bs) ?_ ?_ ?_ ?_
    · unfold maxLen; simp; omega
    · simp; omega
    · simp
    intro v2 w2 hown2 hgrow2 _ hf2
    obtain ⟨a2, c2, rfl⟩ := owns_slice hown2
    have hr := hid (RowAt.step (ys := bs) (RowAt.fresh w) (Kept.refl [] _) (by simpa using hown2) hgrow2)
    clear hown2 hgrow2 hf2
    simp only [List.length_nil, Nat.zero_add] at hr ⊢
    go_wp2
    go_ret
    have hown := hr.out.2.2.2
    simp only [List.nil_append] at hown
    exact ⟨_, rfl, hr.out.1, hown⟩

theorem ca_drop (D : Nat) (w : World) (U : List Nat) (p : Nat) (lim : Int) (ns : List Kn) (h : Ca D w U p lim ns) (id : List UInt8) (h32 : id.length = 32) (hz : sizeK ns ≤ 1000000000000) :
    Calls Tryd.prog 27 #[.pointer (some ⟨p, 0, none⟩), .agg (id.map B).toArray] w fun e w' => e = .returned (.tuple #[]) ∧ Kept U w w' ∧ ∃ ns', datK ns' = dropD id (datK ns) ∧ Ca D w' U p lim ns' := by
  by_cases hf : id ∈ ns.map (·.id)
  · obtain ⟨n, hn, rfl⟩ := List.mem_map.1 hf
    obtain ⟨A, C, rfl⟩ := List.append_of_mem hn
    refine (ca_drop_some D w U p lim A n C h hz).mono ?_
    rintro e w' ⟨rfl, S, hk, hS, hc⟩
    exact ⟨rfl, hk.wider (fun x _ hx => (hS x hx).1), A ++ C, (dropD_mid h.ids).symm, hc⟩
  · refine (ca_drop_none D w U p lim ns h id h32 hf).mono ?_
    rintro e w' ⟨rfl, hk⟩
    exact ⟨rfl, hk.wider (fun x _ hx => by simp at hx), ns, (dropD_not hf).symm, h.kept hk (by simp)⟩
end Go.Proofs.YtmkdjonlfkfnlaaDoor
