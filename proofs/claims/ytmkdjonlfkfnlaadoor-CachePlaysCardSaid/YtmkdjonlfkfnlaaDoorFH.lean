import Derived.Test.YtmkdjonlfkfnlaaDoorFG
import Derived.Test.YtmkdjonlfkfnlaaDoorN3

/- CacheBig. -/
namespace Go.Proofs.YtmkdjonlfkfnlaaDoor
open Go.RowKit Go.Lib Go.Maps
theorem reads_srcb {w : World} {a : Option Addr} {c : Nat} {ys : List UInt8} (h : SrcB w (.slice a ys.length c) ys) : Reads w a ys ∧ (a = none → c = 0) := by
  rcases h with ⟨h1, h2, h3⟩ | ⟨ad, c', h1, h2⟩
  · simp at h1
    obtain ⟨rfl, h4, rfl⟩ := h1
    have h5 : ys = [] := List.eq_nil_of_length_eq_zero h2
    subst h5
    exact ⟨⟨fun _ => rfl, fun ad h => by simp at h⟩, fun _ => rfl⟩
  · simp at h1
    obtain ⟨rfl, rfl⟩ := h1
    exact ⟨⟨fun h => by simp at h, fun ad' had j u hj => by simp at had; subst had; exact h2 j u hj⟩, fun h => by simp at h⟩
/-- What is kept: by its own sum, no longer than may be; of the big one's sum there is none but it. -/
def BigI (lm : Int) (big : List UInt8) (i : Nat) (l : List (List UInt8 × List UInt8)) : Prop :=
  l.length ≤ i ∧ ∀ e ∈ l, e.1 = Sha.sum e.2 ∧ (e.2.length : Int) ≤ lm ∧ e.2.length ≤ 100 ∧ (e.1 = Sha.sum big → e.2 = big)
theorem BigI.size {lm : Int} {big : List UInt8} {i : Nat} {l : List (List UInt8 × List UInt8)} (h : BigI lm big i l) : szD l ≤ 100 * i := by
  have h2 : szD l ≤ 100 * l.length := by
    have := h.2
    clear h
    unfold szD
    induction l with
    | nil => simp
    | cons e r ih =>
      have h3 := (this e (by simp)).2.2.1
      have h4 := ih (fun x hx => this x (by simp [hx]))
      simp only [List.map_cons, List.sum_cons, List.length_cons]
      omega
  have := h.1
  omega
theorem evict_len (lim : Int) (k : Nat) (l : List (List UInt8 × List UInt8)) : (evict lim k l).length ≤ l.length := by
  induction l with
  | nil => simp [evict]
  | cons e r ih =>
    unfold evict
    split
    · simp; omega
    · exact Nat.le_refl _
theorem BigI.put {lm : Int} {big : List UInt8} {i : Nat} {l : List (List UInt8 × List UInt8)} (h : BigI lm big i l) (r : List UInt8) (hr : r.length ≤ 100) (hb : Sha.sum r = Sha.sum big → r = big) : BigI lm big (i + 1) (putD lm l r) := by
  unfold putD
  have hd : ∀ e ∈ dropD (Sha.sum r) l, e ∈ l := fun e he => (dropD_mem.1 he).1
  have hl : (dropD (Sha.sum r) l).length ≤ l.length := List.length_filter_le _ _
  have h1 := h.1
  split
  · exact ⟨by omega, fun e he => h.2 e (hd e he)⟩
  · rename_i hlt
    have h2 := evict_len lm r.length (dropD (Sha.sum r) l)
    refine ⟨by simp; omega, fun e he => ?_⟩
    rcases List.mem_append.1 he with he | he
    · exact h.2 e (hd e (evict_mem he))
    · simp at he
      subst he
      exact ⟨rfl, by simp; omega, hr, hb⟩
theorem BigI.get {lm : Int} {big : List UInt8} {i : Nat} {l : List (List UInt8 × List UInt8)} (h : BigI lm big i l) : BigI lm big (i + 1) (getL (Sha.sum big) l) := by
  have hd : ∀ e ∈ dropD (Sha.sum big) l, e ∈ l := fun e he => (dropD_mem.1 he).1
  have hl : (dropD (Sha.sum big) l).length ≤ l.length := List.length_filter_le _ _
  have h1 := h.1
  unfold getL
  split
  · rename_i bs hg
    have hfd : findD (Sha.sum big) l = some bs := by
      unfold getO at hg
      split at hg
      · rename_i b hb
        split at hg
        · rw [hb, Option.some.inj hg]
        · cases hg
      · cases hg
    have hm : (Sha.sum big, bs) ∈ l := by
      clear h h1 hg hd hl
      induction l with
      | nil => simp [findD] at hfd
      | cons e r ih =>
        unfold findD at hfd
        split at hfd
        · rename_i he
          have : e = (Sha.sum big, bs) := by rw [← he, ← Option.some.inj hfd]
          rw [this]; simp
        · exact List.mem_cons_of_mem _ (ih hfd)
    refine ⟨by simp; omega, fun e he => ?_⟩
    rcases List.mem_append.1 he with he | he
    · exact h.2 e (hd e he)
    · simp at he
      subst he
      exact h.2 _ hm
  · exact ⟨by omega, fun e he => h.2 e (hd e he)⟩
theorem findD_none {id : List UInt8} {l : List (List UInt8 × List UInt8)} (h : ∀ e ∈ l, e.1 ≠ id) : findD id l = none := by
  induction l with
  | nil => rfl
  | cons e r ih =>
    unfold findD
    rw [if_neg (h e (by simp)), ih (fun x hx => h x (by simp [hx]))]
theorem dropD_none {id : List UInt8} {l : List (List UInt8 × List UInt8)} (h : ∀ e ∈ l, e.1 ≠ id) : dropD id l = l := by
  unfold dropD
  exact List.filter_eq_self.2 (fun e he => by simpa using h e he)
theorem BigI.none {lm : Int} {big : List UInt8} {i : Nat} {l : List (List UInt8 × List UInt8)} (h : BigI lm big i l) (hb : lm < (big.length : Int)) : ∀ e ∈ l, e.1 ≠ Sha.sum big := fun e he hx => by
  obtain ⟨_, h2, _, h4⟩ := h.2 e he
  rw [h4 hx] at h2
  omega
theorem idsD_of {lm : Int} {big : List UInt8} {i : Nat} {l : List (List UInt8 × List UInt8)} (h : BigI lm big i l) : ∀ id ∈ l.map (·.1), id.length = 32 := fun id hm => by
  obtain ⟨e, he, rfl⟩ := List.mem_map.1 hm
  rw [(h.2 e he).1]; exact Sha.sum_len _

theorem wpList_ldg {P : Program} {ops : Array Oper} {rest : List Oper} {o : Oper} {a : Act} {w : World} {Q : Exit → Act → World → Prop} (hw : Region.wanted o (yielded ops a.tmps) = true) (ty : TypeId) (x : Operand) (ho : o.op = .load ty x) (ad : Addr) (hx : a.eval x = .pointer (some ad)) (v : Value)
    (hr : (loadVar ty ad).run P w = .ok v w) (h : wpList P ops Q rest (a.put o.dst v) w) : wpList P ops Q (o :: rest) a w := by
  unfold wpList
  rw [if_pos hw]
  refine Or.inl ?_
  unfold Oper.wp execOp
  simp only [ho, hx, Instr.loadAt, Instr.sureAddr, Sem.run_bind, Sem.run_pure, Result.andThen_ok, hr]
  exact h
structure BigW (w W : World) (q p : Nat) (ib : Array Value) (lm : Int) (big : List UInt8) (i : Nat) : Prop where
  cs : ∃ U l, CS w W U p lm l ∧ BigI lm big i l ∧ q ∉ U
  kept : Kept [] w W
  hq : W.heap[q]? = some (.cells ib 34 (0, 0))
end Go.Proofs.YtmkdjonlfkfnlaaDoor
