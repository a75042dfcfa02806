import Derived.Test.YtkabfdclecbnpaaMLL

/- retain: how many are kept by days alone, and by Last alone. -/
namespace Go.Proofs.Ytkabfdclecbnpaa
open Go.RowKit Go.Lib Go.Sort

/-- How many are true. -/
def cnt (ks : List Bool) : Nat := ks.countP id
theorem cnt_perm {N : Nat} {ps : List Nat} {ks : List Bool} {v : Nat → Bool} (hl : ks.length = N) (hp : ps.Perm (List.range N)) (h : ∀ k q, ps[k]? = some q → ks[q]? = some (v k)) : cnt ks = (List.range N).countP v := by
  have e1 : ks = (List.range N).map (fun q => (ks[q]?).getD false) := by
    apply List.ext_getElem?
    intro j
    by_cases hj : j < N
    · have hj' : j < ks.length := by omega
      rw [List.getElem?_map, List.getElem?_range hj]; simp [hj']
    · rw [List.getElem?_eq_none (by omega), List.getElem?_eq_none (by simp; omega)]
  have e2 : (List.range N).map v = ps.map (fun q => (ks[q]?).getD false) := by
    have hpl : ps.length = N := by rw [hp.length_eq, List.length_range]
    apply List.ext_getElem?
    intro j
    by_cases hj : j < N
    · have hq : ps[j]? = some (ps[j]'(by omega)) := List.getElem?_eq_getElem _
      rw [List.getElem?_map, List.getElem?_range hj, List.getElem?_map, hq]
      simp [h j _ hq]
    · rw [List.getElem?_eq_none (by simp; omega), List.getElem?_eq_none (by simp; omega)]
  have e3 : (List.range N).countP v = ((List.range N).map v).countP id := by rw [List.countP_map]; rfl
  unfold cnt
  rw [e3, e2]
  conv => lhs; rw [e1]
  rw [List.countP_map, List.countP_map]
  exact (hp.countP_eq _).symm
/-- Is the k-th the last of its day, of those that are left? -/
def dAt (day : Int) (D : List Int) (ss : List Sq) (k : Nat) : Bool := match ss[k]? with
  | none => false
  | some s => daily day (runD day D (ss.take k)) s
/-- Each day that is left, and stands among those to come, is taken once. -/
theorem run_count (day : Int) : ∀ (ss : List Sq) (D : List Int), ss.Pairwise (fun x y => y.1.time / day ≤ x.1.time / day) → D.Pairwise (· > ·) → (∀ d ∈ D, ∃ s ∈ ss, s.1.time / day = d) →
    (List.range ss.length).countP (dAt day D ss) = D.length
  | [], D, _, _, h => by
    cases D with
    | nil => rfl
    | cons d t => obtain ⟨s, hs, _⟩ := h d (by simp); simp at hs
  | s :: r, D, hp, hD, h => by
    obtain ⟨hp1, hp2⟩ := List.pairwise_cons.1 hp
    have key : ∀ D' : List Int, D' = (if daily day D s then D.tail else D) → (List.range (r.length + 1)).countP (dAt day D (s :: r)) = (if daily day D s then 1 else 0) + (List.range r.length).countP (dAt day D' r) := by
      intro D' e
      rw [List.range_succ_eq_map, List.countP_cons, List.countP_map]
      rw [Nat.add_comm]
      congr 1
      · subst e
        apply List.countP_congr
        intro k _
        rfl
    have hlen : (s :: r).length = r.length + 1 := rfl
    rw [hlen, key _ rfl]
    cases D with
    | nil =>
      have e : daily day [] s = false := rfl
      rw [e, if_neg (by simp), if_neg (by simp), run_count day r [] hp2 List.Pairwise.nil (by simp)]
      rfl
    | cons d t =>
      obtain ⟨hD1, hD2⟩ := List.pairwise_cons.1 hD
      by_cases hd : s.1.time / day = d
      · have e : daily day (d :: t) s = true := decide_eq_true hd
        rw [e, if_pos rfl, if_pos rfl, List.tail_cons]
        rw [run_count day r t hp2 hD2 (fun x hx => by
          obtain ⟨s', hs', e'⟩ := h x (by simp [hx])
          rcases List.mem_cons.1 hs' with rfl | hs'
          · have : d > x := hD1 x hx
            omega
          · exact ⟨s', hs', e'⟩)]
        simp; omega
      · have e : daily day (d :: t) s = false := decide_eq_false hd
        rw [e, if_neg (by simp), if_neg (by simp)]
        have hds : d < s.1.time / day := by
          obtain ⟨s', hs', e'⟩ := h d (by simp)
          rcases List.mem_cons.1 hs' with rfl | hs'
          · exact absurd e' hd
          · have h1 : s'.1.time / day ≤ s.1.time / day := hp1 s' hs'
            omega
        rw [run_count day r (d :: t) hp2 hD (fun x hx => by
          obtain ⟨s', hs', e'⟩ := h x hx
          rcases List.mem_cons.1 hs' with rfl | hs'
          · exfalso
            rcases List.mem_cons.1 hx with rfl | hx
            · omega
            · have : d > x := hD1 x hx
              omega
          · exact ⟨s', hs', e'⟩)]
        simp
/-- Sorted, from the last one: days don't rise. -/
theorem days_fall {xs : List Sq} {ps : List Nat} (ho : Ordered xs ps) (day : Int) (hd : 1 ≤ day) : (snapsAt xs ps.reverse).Pairwise (fun x y => y.1.time / day ≤ x.1.time / day) ∧ (snapsAt xs ps.reverse).length = xs.length ∧ ∀ s, s ∈ snapsAt xs ps.reverse ↔ s ∈ xs := by
  have hb : ∀ q ∈ ps.reverse, q < xs.length := fun q hm => by
    have : q ∈ ps := by simpa using hm
    have := ho.perm.mem_iff.1 this; simpa using this
  have hg := snapsAt_get xs ps.reverse hb
  have hlen : (snapsAt xs ps.reverse).length = xs.length := by
    have hpl : ps.reverse.length = xs.length := by rw [List.length_reverse, ho.perm.length_eq, List.length_range]
    rw [← hpl]
    apply Nat.le_antisymm
    · unfold snapsAt; exact List.length_filterMap_le _ _
    · rcases Nat.lt_or_ge (snapsAt xs ps.reverse).length ps.reverse.length with hlt | hge
      · exfalso
        have h1 := hg (snapsAt xs ps.reverse).length
        rw [List.getElem?_eq_none (Nat.le_refl _), List.getElem?_eq_getElem hlt] at h1
        have h2 := hb _ (List.getElem_mem hlt)
        have h3 := h1.trans (show (some ps.reverse[(snapsAt xs ps.reverse).length]).bind (fun q => xs[q]?) = some xs[ps.reverse[(snapsAt xs ps.reverse).length]] from List.getElem?_eq_getElem h2)
        cases h3
      · exact hge
  refine ⟨?_, hlen, fun s => ?_⟩
  · rw [List.pairwise_iff_getElem]
    intro i j hi hj hij
    have hpl : ps.reverse.length = xs.length := by rw [List.length_reverse, ho.perm.length_eq, List.length_range]
    have gi := hg i; have gj := hg j
    rw [List.getElem?_eq_getElem hi, List.getElem?_eq_getElem (by omega)] at gi
    rw [List.getElem?_eq_getElem hj, List.getElem?_eq_getElem (by omega)] at gj
    have hrev : ps.reverse.Pairwise (fun a b => ahead xs b a = true) := List.pairwise_reverse.2 ho.up
    rw [List.pairwise_iff_getElem] at hrev
    have ha := hrev i j (by omega) (by omega) hij
    have ht := ahead_time ha gj.symm gi.symm
    exact Int.ediv_le_ediv (by omega) ht
  · constructor
    · intro hs
      unfold snapsAt at hs
      obtain ⟨q, _, e⟩ := List.mem_filterMap.1 hs
      exact List.mem_of_getElem? e
    · intro hs
      obtain ⟨j, hj, e⟩ := List.getElem_of_mem hs
      have hm : j ∈ ps.reverse := by have : j ∈ ps := ho.perm.mem_iff.2 (by simpa using hj); simpa using this
      unfold snapsAt
      exact List.mem_filterMap.2 ⟨j, hm, by show xs[j]? = some s; rw [List.getElem?_eq_getElem hj, e]⟩
end Go.Proofs.Ytkabfdclecbnpaa


/- coldstorelaw19.RetainDays: what its policies keep. -/
namespace Go.Proofs.Ytkabfdclecbnpaa
open Go.RowKit Go.Lib Go.Sort

theorem kpt_rev {xs : List Sq} {ps : List Nat} (ho : Ordered xs ps) : ps.reverse.Perm (List.range xs.length) ∧ ∀ q ∈ ps.reverse, q < xs.length := by
  have h1 := (List.reverse_perm ps).trans ho.perm
  exact ⟨h1, fun q hm => by have := h1.mem_iff.1 hm; simpa using this⟩
theorem cnt_keep {xs : List Sq} {p : Pol} {ps : List Nat} {ds : List Int} {ks : List Bool} (h : Kpt xs p ps ds ks) : cnt ks = (List.range xs.length).countP (fun k => valK p (((snapsAt xs ps.reverse).head?.map (·.1.time)).getD 0) (ds.take (kd p ds.length)) (snapsAt xs ps.reverse) k) :=
  cnt_perm h.len (kpt_rev h.ord).1 (fun k q hk => h.at_ k q xs[q]?.get! hk (by
    have hq := (kpt_rev h.ord).2 q (List.mem_of_getElem? hk)
    rw [List.getElem?_eq_getElem hq]; rfl))
theorem keep_days {xs : List Sq} {n : Nat} {d : Int} {ps : List Nat} {ds : List Int} {ks : List Bool} (h : Kpt xs ⟨0, (n : Int), d, 0, []⟩ ps ds ks) (hd : 1 ≤ d) : cnt ks = min n ds.length := by
  have hds : DaysOf xs d ds := by
    have := h.days
    rwa [if_neg (show ¬ d < 1 by omega)] at this
  obtain ⟨f1, f2, f3⟩ := days_fall h.ord d hd
  have hk : kd ⟨0, (n : Int), d, 0, []⟩ ds.length = min n ds.length := by unfold kd; simp
  rw [cnt_keep h]
  have hD := run_count d (snapsAt xs ps.reverse) (ds.take (kd ⟨0, (n : Int), d, 0, []⟩ ds.length)) f1 (List.Pairwise.sublist (List.take_sublist _ _) hds.down) (fun x hx => by
    obtain ⟨s, hs, e⟩ := (hds.mem x).1 (List.mem_of_mem_take hx)
    exact ⟨s, (f3 s).2 hs, e⟩)
  rw [f2, List.length_take, hk, Nat.min_eq_left (Nat.min_le_right _ _)] at hD
  rw [← hD]
  apply List.countP_congr
  intro k hk'
  have hkl : k < xs.length := by simpa using hk'
  unfold valK dAt
  rw [List.getElem?_eq_getElem (by rw [f2]; exact hkl)]
  have hz : decide (((k + 1 : Nat) : Int) ≤ 0) = false := decide_eq_false (by omega)
  simp only [hz, near, tagged, Bool.false_or]
  rw [hk]
  simp
theorem count_less (n : Nat) : ∀ N : Nat, (List.range N).countP (fun k => decide (((k + 1 : Nat) : Int) ≤ (n : Int))) = min n N
  | 0 => by simp
  | N + 1 => by
    rw [List.range_succ, List.countP_append, count_less n N]
    by_cases h : ((N + 1 : Nat) : Int) ≤ (n : Int)
    · rw [List.countP_cons_of_pos (by simpa using h)]; simp; omega
    · rw [List.countP_cons_of_neg (by simpa using h)]; simp; omega
theorem keep_last {xs : List Sq} {n : Nat} {ps : List Nat} {ds : List Int} {ks : List Bool} (h : Kpt xs ⟨(n : Int), 0, 0, 0, []⟩ ps ds ks) : cnt ks = min n xs.length := by
  rw [cnt_keep h, ← count_less n xs.length]
  have hds : ds = [] := by have := h.days; rwa [if_pos (show (0 : Int) < 1 by omega)] at this
  have f2 : (snapsAt xs ps.reverse).length = xs.length := (days_fall h.ord 1 (by decide)).2.1
  apply List.countP_congr
  intro k hk'
  have hkl : k < xs.length := by simpa using hk'
  unfold valK
  rw [List.getElem?_eq_getElem (by rw [f2]; exact hkl)]
  obtain ⟨j, _, e⟩ := runD_drop 0 (ds.take (kd ⟨(n : Int), 0, 0, 0, []⟩ ds.length)) ((snapsAt xs ps.reverse).take k)
  simp only [near, tagged]
  rw [e, hds]
  simp [daily]
theorem keep_none {xs : List Sq} {ps : List Nat} {ds : List Int} {ks : List Bool} (h : Kpt xs ⟨0, 5, 0, 0, []⟩ ps ds ks) (q : Nat) (b : Bool) (hq : ks[q]? = some b) : b = false := by
  have hqn : q < xs.length := by rw [← h.len]; exact (List.getElem?_eq_some_iff.1 hq).1
  have hm : q ∈ ps.reverse := (kpt_rev h.ord).1.mem_iff.2 (by simpa using hqn)
  obtain ⟨k, hk, e⟩ := List.getElem_of_mem hm
  have h1 := h.at_ k q _ (by rw [List.getElem?_eq_getElem hk, e]) (List.getElem?_eq_getElem hqn)
  rw [hq] at h1
  have hds : ds = [] := by have := h.days; rwa [if_pos (by decide)] at this
  have h2 : b = valK ⟨0, 5, 0, 0, []⟩ (((snapsAt xs ps.reverse).head?.map (·.1.time)).getD 0) (ds.take (kd ⟨0, 5, 0, 0, []⟩ ds.length)) (snapsAt xs ps.reverse) k := by simpa using h1
  rw [h2]
  unfold valK
  cases hs : (snapsAt xs ps.reverse)[k]? with
  | none => rfl
  | some s =>
    obtain ⟨j, _, e⟩ := runD_drop 0 (ds.take (kd ⟨0, 5, 0, 0, []⟩ ds.length)) ((snapsAt xs ps.reverse).take k)
    simp only [near, tagged]
    rw [e, hds]
    have hz : decide (((k + 1 : Nat) : Int) ≤ 0) = false := decide_eq_false (by omega)
    simp [daily]
theorem cnt_take (ks : List Bool) (i : Nat) (b : Bool) (h : ks[i]? = some b) : cnt (ks.take (i + 1)) = cnt (ks.take i) + (if b then 1 else 0) := by
  unfold cnt
  rw [List.take_add_one, h, List.countP_append]
  cases b <;> rfl
theorem cnt_le (ks : List Bool) (i : Nat) : cnt (ks.take i) ≤ i := Nat.le_trans List.countP_le_length (by rw [List.length_take]; omega)
theorem and31 (n : Int) : bits .and .i64 n 31 = n % 32 := by
  have h7 : (BitVec.ofInt 64 31).toNat = 2 ^ 5 - 1 := by decide
  have key : (BitVec.ofInt 64 n &&& BitVec.ofInt 64 31).toNat = (n % ((2 ^ 64 : Nat) : Int)).toNat % 2 ^ 5 := by
    rw [BitVec.toNat_and, BitVec.toNat_ofInt, h7, Nat.and_two_pow_sub_one_eq_mod]
  show IntKind.i64.wrap ((BitVec.ofInt 64 n &&& BitVec.ofInt 64 31).toNat : Nat) = n % 32
  rw [key, IntKind.wrap_i64]
  omega
theorem and1023 (n : Int) : bits .and .i64 n 1023 = n % 1024 := by
  have h7 : (BitVec.ofInt 64 1023).toNat = 2 ^ 10 - 1 := by decide
  have key : (BitVec.ofInt 64 n &&& BitVec.ofInt 64 1023).toNat = (n % ((2 ^ 64 : Nat) : Int)).toNat % 2 ^ 10 := by
    rw [BitVec.toNat_and, BitVec.toNat_ofInt, h7, Nat.and_two_pow_sub_one_eq_mod]
  show IntKind.i64.wrap ((BitVec.ofInt 64 n &&& BitVec.ofInt 64 1023).toNat : Nat) = n % 1024
  rw [key, IntKind.wrap_i64]
  omega
end Go.Proofs.Ytkabfdclecbnpaa
