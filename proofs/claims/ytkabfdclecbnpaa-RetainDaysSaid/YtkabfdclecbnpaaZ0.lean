import Derived.Sort.LotA

/- Merging in place, as mathematics: a part turned about a place, two parts changed for each other. -/
namespace Go.Proofs.Ytkabfdclecbnpaa
open Go.Sort
variable {α : Type} [Inhabited α]

/-- f with [a, m) and [m, b) changed about, each in its order. -/
def rotF (f : Nat → α) (a m b x : Nat) : α := if x < a ∨ b ≤ x then f x else if x < a + (b - m) then f (x + m - a) else f (x - (b - m))
/-- f with the n places from a changed for the n from b. -/
def swpF (f : Nat → α) (a b n x : Nat) : α := if a ≤ x ∧ x < a + n then f (x + b - a) else if b ≤ x ∧ x < b + n then f (x - (b - a)) else f x

omit [Inhabited α] in
theorem swpF_zero (f : Nat → α) (a b x : Nat) : swpF f a b 0 x = f x := by
  unfold swpF
  rw [if_neg (by omega), if_neg (by omega)]
theorem swpF_step (d d' : Array α) (a b n N : Nat) (hab : a + N ≤ b) (hb : b + N ≤ d'.size) (hn : n < N) (h : ∀ x, d'[x]! = swpF (fun y => d[y]!) a b n x) (x : Nat) :
    (swp d' (a + n) (b + n))[x]! = swpF (fun y => d[y]!) a b (n + 1) x := by
  by_cases h1 : x = a + n
  · subst h1
    rw [swp_left d' _ _ (by omega) (by omega), h]
    unfold swpF
    rw [if_neg (by omega), if_neg (by omega), if_pos (by omega)]
    congr 1; omega
  · by_cases h2 : x = b + n
    · subst h2
      rw [swp_right d' _ _ (by omega), h]
      unfold swpF
      rw [if_neg (by omega), if_neg (by omega), if_neg (by omega), if_pos (by omega)]
      congr 1; omega
    · rw [swp_other d' _ _ x h1 h2, h]
      unfold swpF
      by_cases c1 : a ≤ x ∧ x < a + n
      · rw [if_pos c1, if_pos (by omega)]
      · rw [if_neg c1, if_neg (show ¬ (a ≤ x ∧ x < a + (n + 1)) by omega)]
        by_cases c2 : b ≤ x ∧ x < b + n
        · rw [if_pos c2, if_pos (by omega)]
        · rw [if_neg c2, if_neg (by omega)]
omit [Inhabited α] in
theorem rot_big (f : Nat → α) (m i j x : Nat) (hi : i ≤ m) (hj : j < i) : rotF (swpF f (m - i) m j) (m - i + j) m (m + j) x = rotF f (m - i) m (m + j) x := by
  unfold rotF swpF
  by_cases c1 : x < m - i ∨ m + j ≤ x
  · rw [if_pos (by omega), if_neg (by omega), if_neg (by omega), if_pos c1]
  · rw [if_neg c1]
    by_cases c2 : x < m - i + j
    · rw [if_pos (by omega), if_pos (by omega), if_pos (by omega)]
    · rw [if_neg (by omega), if_neg (show ¬ x < m - i + (m + j - m) by omega)]
      by_cases c3 : x < m - i + j + (m + j - m)
      · rw [if_pos c3, if_neg (by omega), if_pos (by omega)]
        congr 1; omega
      · rw [if_neg c3, if_neg (by omega), if_neg (by omega)]
omit [Inhabited α] in
theorem rot_small (f : Nat → α) (m i j x : Nat) (hi : i ≤ m) (hj : i < j) : rotF (swpF f (m - i) (m + j - i) i) (m - i) m (m + j - i) x = rotF f (m - i) m (m + j) x := by
  unfold rotF swpF
  by_cases c1 : x < m - i ∨ m + j ≤ x
  · rw [if_pos (by omega), if_neg (by omega), if_neg (by omega), if_pos c1]
  · rw [if_neg c1]
    by_cases c2 : m + j - i ≤ x
    · rw [if_pos (by omega), if_neg (by omega), if_pos (by omega), if_neg (by omega)]
      congr 1; omega
    · rw [if_neg (show ¬ (x < m - i ∨ m + j - i ≤ x) by omega)]
      by_cases c3 : x < m - i + (m + j - i - m)
      · rw [if_pos c3, if_pos (show x < m - i + (m + j - m) by omega), if_neg (by omega), if_neg (by omega)]
      · rw [if_neg c3]
        by_cases c4 : x < m - i + (m + j - m)
        · rw [if_pos c4, if_pos (by omega)]
          congr 1; omega
        · omega
omit [Inhabited α] in
theorem rot_eq (f : Nat → α) (m i x : Nat) (hi : i ≤ m) : swpF f (m - i) m i x = rotF f (m - i) m (m + i) x := by
  unfold rotF swpF
  by_cases c1 : x < m - i ∨ m + i ≤ x
  · rw [if_neg (by omega), if_neg (by omega), if_pos c1]
  · rw [if_neg c1]
    by_cases c2 : m - i ≤ x ∧ x < m - i + i
    · rw [if_pos c2, if_pos (by omega)]
    · rw [if_neg c2, if_pos (by omega), if_neg (by omega)]
      congr 1; omega
omit [Inhabited α] in
theorem rotF_none (f : Nat → α) (a m b x : Nat) (h : a = m ∨ m = b) (h1 : a ≤ m) (h2 : m ≤ b) : rotF f a m b x = f x := by
  unfold rotF
  by_cases c1 : x < a ∨ b ≤ x
  · rw [if_pos c1]
  · rw [if_neg c1]
    rcases h with rfl | rfl
    · rw [if_pos (by omega)]; congr 1; omega
    · rw [if_neg (by omega)]; congr 1; omega
omit [Inhabited α] in
theorem rotF_at {f g : Nat → α} (h : ∀ x, f x = g x) (a m b x : Nat) : rotF f a m b x = rotF g a m b x := by
  unfold rotF; rw [h, h, h]
/-- One place carried up past k - a others. -/
theorem rot_up (d d' : Array α) (a k : Nat) (hak : a ≤ k) (hk : k + 1 < d'.size) (h : ∀ x, d'[x]! = rotF (fun y => d[y]!) a (a + 1) (k + 1) x) (x : Nat) :
    (swp d' k (k + 1))[x]! = rotF (fun y => d[y]!) a (a + 1) (k + 2) x := by
  by_cases h1 : x = k
  · subst h1
    rw [swp_left d' _ _ (by omega) (by omega), h]
    unfold rotF
    rw [if_pos (by omega), if_neg (by omega), if_pos (by omega)]
    congr 1; omega
  · by_cases h2 : x = k + 1
    · subst h2
      rw [swp_right d' _ _ hk, h]
      unfold rotF
      rw [if_neg (by omega), if_neg (by omega), if_neg (by omega), if_neg (by omega)]
      congr 1; omega
    · rw [swp_other d' _ _ x h1 h2, h]
      unfold rotF
      by_cases c1 : x < a ∨ k + 1 ≤ x
      · rw [if_pos c1, if_pos (by omega)]
      · rw [if_neg c1, if_neg (show ¬ (x < a ∨ k + 2 ≤ x) by omega), if_pos (by omega), if_pos (by omega)]
/-- One place carried down past m - k others. -/
theorem rot_down (d d' : Array α) (m k : Nat) (hk : k + 1 ≤ m) (hm : m < d'.size) (h : ∀ x, d'[x]! = rotF (fun y => d[y]!) (k + 1) m (m + 1) x) (x : Nat) :
    (swp d' (k + 1) k)[x]! = rotF (fun y => d[y]!) k m (m + 1) x := by
  by_cases h1 : x = k + 1
  · subst h1
    rw [swp_left d' _ _ (by omega) (by omega), h]
    unfold rotF
    rw [if_pos (by omega), if_neg (by omega), if_neg (by omega)]
    congr 1; omega
  · by_cases h2 : x = k
    · subst h2
      rw [swp_right d' _ _ (by omega), h]
      unfold rotF
      rw [if_neg (by omega), if_pos (by omega), if_neg (by omega), if_pos (by omega)]
      congr 1; omega
    · rw [swp_other d' _ _ x h1 h2, h]
      unfold rotF
      by_cases c1 : x < k + 1 ∨ m + 1 ≤ x
      · rw [if_pos c1, if_pos (by omega)]
      · rw [if_neg c1, if_neg (show ¬ (x < k ∨ m + 1 ≤ x) by omega), if_neg (by omega), if_neg (by omega)]

theorem sorted_glue {lt : α → α → Bool} {d : Array α} {a m b : Nat} (h1 : SortedIn lt a m d) (h2 : SortedIn lt m b d) (h3 : ∀ x y, a ≤ x → x < m → m ≤ y → y < b → lt d[y]! d[x]! = false) : SortedIn lt a b d := by
  intro i j hi hij hj
  by_cases c1 : j < m
  · exact h1 i j hi hij c1
  · by_cases c2 : m ≤ i
    · exact h2 i j c2 hij hj
    · exact h3 i j hi (by omega) (by omega) hj
theorem sorted_le {lt : α → α → Bool} (hO : SWO lt) {d : Array α} {a b : Nat} (h : SortedIn lt a b d) (i j : Nat) (hi : a ≤ i) (hij : i ≤ j) (hj : j < b) : lt d[j]! d[i]! = false := by
  rcases Nat.lt_or_eq_of_le hij with h1 | rfl
  · exact h i j hi h1 hj
  · exact hO.irrefl _
omit [Inhabited α] in
theorem lt_not {lt : α → α → Bool} (hO : SWO lt) {x y : α} (h : lt x y = true) : lt y x = false := by
  cases e : lt y x with
  | false => rfl
  | true => have := hO.trans _ _ _ h e; rw [hO.irrefl] at this; cases this

/-- What a search for the place of the cut finds. -/
structure Cut (lt : α → α → Bool) (d : Array α) (a m b s e : Nat) : Prop where
  sm : s ≤ m
  as : a ≤ s
  me : m ≤ e
  eb : e ≤ b
  /-- what lies ahead of the cut is no greater than what lies behind it -/
  lo : ∀ x y, a ≤ x → x < s → e ≤ y → y < b → lt d[y]! d[x]! = false
  hi : ∀ x y, m ≤ x → x < e → s ≤ y → y < m → lt d[y]! d[x]! = false
/-- Both halves behind the turn: each in two runs, none of the low one greater than one of the high one. -/
theorem Cut.halves {lt : α → α → Bool} {d d' : Array α} {a m b s e : Nat} (hC : Cut lt d a m b s e) (hO : SWO lt) (h1 : SortedIn lt a m d) (h2 : SortedIn lt m b d)
    (h : ∀ x, d'[x]! = rotF (fun y => d[y]!) s m e x) :
    SortedIn lt a s d' ∧ SortedIn lt s (s + (e - m)) d' ∧ SortedIn lt (s + (e - m)) e d' ∧ SortedIn lt e b d' ∧ ∀ x y, a ≤ x → x < s + (e - m) → s + (e - m) ≤ y → y < b → lt d'[y]! d'[x]! = false := by
  obtain ⟨hsm, has, hme, heb, hlo, hhi⟩ := hC
  have f1 : ∀ x, x < s → d'[x]! = d[x]! := fun x hx => by rw [h]; unfold rotF; rw [if_pos (by omega)]
  have f2 : ∀ x, s ≤ x → x < s + (e - m) → d'[x]! = d[x + m - s]! := fun x hx hy => by rw [h]; unfold rotF; rw [if_neg (by omega), if_pos (by omega)]
  have f3 : ∀ x, s + (e - m) ≤ x → x < e → d'[x]! = d[x - (e - m)]! := fun x hx hy => by rw [h]; unfold rotF; rw [if_neg (by omega), if_neg (by omega)]
  have f4 : ∀ x, e ≤ x → d'[x]! = d[x]! := fun x hx => by rw [h]; unfold rotF; rw [if_pos (by omega)]
  refine ⟨fun i j hi hij hj => ?_, fun i j hi hij hj => ?_, fun i j hi hij hj => ?_, fun i j hi hij hj => ?_, fun x y hx hxm hy hyb => ?_⟩
  · rw [f1 i (by omega), f1 j (by omega)]; exact h1 i j hi hij (by omega)
  · rw [f2 i (by omega) (by omega), f2 j (by omega) (by omega)]; exact h2 _ _ (by omega) (by omega) (by omega)
  · rw [f3 i (by omega) (by omega), f3 j (by omega) (by omega)]; exact h1 _ _ (by omega) (by omega) (by omega)
  · rw [f4 i (by omega), f4 j (by omega)]; exact h2 i j (by omega) hij hj
  · by_cases c1 : x < s
    · rw [f1 x c1]
      by_cases c2 : y < e
      · rw [f3 y hy c2]; exact sorted_le hO h1 _ _ hx (by omega) (by omega)
      · rw [f4 y (by omega)]; exact hlo x y hx c1 (by omega) hyb
    · rw [f2 x (by omega) hxm]
      by_cases c2 : y < e
      · rw [f3 y hy c2]; exact hhi _ _ (by omega) (by omega) (by omega) (by omega)
      · rw [f4 y (by omega)]; exact sorted_le hO h2 _ _ (by omega) (by omega) hyb
/-- The halves sorted, each by itself: all is sorted. -/
theorem halves_sorted {lt : α → α → Bool} {d1 d2 d3 : Array α} {a m b : Nat} (ham : a ≤ m) (hmb : m ≤ b) (hb : b ≤ d1.size)
    (hx : ∀ x y, a ≤ x → x < m → m ≤ y → y < b → lt d1[y]! d1[x]! = false) (p1 : PermIn a m d1 d2) (s1 : SortedIn lt a m d2) (p2 : PermIn m b d2 d3) (s2 : SortedIn lt m b d3) : SortedIn lt a b d3 := by
  have e1 : ∀ x, x < m → d3[x]! = d2[x]! := fun x hx => p2.2.1 x (Or.inl hx)
  have e2 : ∀ x, m ≤ x → d2[x]! = d1[x]! := fun x hx => p1.2.1 x (Or.inr hx)
  have q1 : ∀ y, m ≤ y → y < b → ∀ x, a ≤ x → x < m → lt d1[y]! d2[x]! = false := fun y hy hyb =>
    permIn_all d1 d2 a m (fun v => lt d1[y]! v = false) (by omega) p1 (fun x h1 h2 => hx x y h1 h2 hy hyb)
  have q2 : ∀ x, a ≤ x → x < m → ∀ y, m ≤ y → y < b → lt d3[y]! d2[x]! = false := fun x h1 h2 =>
    permIn_all d2 d3 m b (fun v => lt v d2[x]! = false) (by rw [p1.1]; exact hb) p2 (fun y hy hyb => by rw [e2 y hy]; exact q1 y hy hyb x h1 h2)
  refine sorted_glue (fun i j hi hij hj => ?_) s2 (fun x y h1 h2 h3 h4 => ?_)
  · rw [e1 i (by omega), e1 j hj]; exact s1 i j hi hij hj
  · rw [e1 x h2]; exact q2 x h1 h2 y h3 h4
/-- A search for the first place at which P fails. -/
structure Srch (P : Nat → Bool) (lo hi i j : Nat) : Prop where
  li : lo ≤ i
  ij : i ≤ j
  jh : j ≤ hi
  yes : ∀ x, lo ≤ x → x < i → P x = true
  no : ∀ x, j ≤ x → x < hi → P x = false
theorem Srch.start (P : Nat → Bool) {lo hi : Nat} (h : lo ≤ hi) : Srch P lo hi lo hi := ⟨Nat.le_refl _, h, Nat.le_refl _, fun x h1 h2 => by omega, fun x h1 h2 => by omega⟩
theorem Srch.right {P : Nat → Bool} {lo hi i j h : Nat} (hS : Srch P lo hi i j) (hm : ∀ x y, lo ≤ x → x ≤ y → y < hi → P y = true → P x = true) (hi_ : i ≤ h) (hj : h < j) (hp : P h = true) : Srch P lo hi (h + 1) j :=
  ⟨by have := hS.li; omega, by omega, hS.jh, fun x h1 h2 => hm x h h1 (by omega) (by have := hS.jh; omega) hp, hS.no⟩
theorem Srch.left {P : Nat → Bool} {lo hi i j h : Nat} (hS : Srch P lo hi i j) (hm : ∀ x y, lo ≤ x → x ≤ y → y < hi → P y = true → P x = true) (hi_ : i ≤ h) (hj : h < j) (hp : P h = false) : Srch P lo hi i h :=
  ⟨hS.li, by omega, by have := hS.jh; omega, hS.yes, fun x h1 h2 => by
    cases e : P x with
    | false => rfl
    | true => have := hm h x (by have := hS.li; omega) h1 h2 e; rw [hp] at this; cases this⟩
/-- One ahead of a run. -/
theorem mono_up {lt : α → α → Bool} {d : Array α} {m b : Nat} (v : α) (hO : SWO lt) (h : SortedIn lt m b d) : ∀ x y, m ≤ x → x ≤ y → y < b → lt d[y]! v = true → lt d[x]! v = true := by
  intro x y hx hxy hy hp
  cases e : lt d[x]! v with
  | true => rfl
  | false => have := hO.ntrans _ _ _ (sorted_le hO h x y hx hxy hy) e; rw [hp] at this; cases this
theorem one_up {lt : α → α → Bool} {d d' : Array α} {a b i : Nat} (hO : SWO lt) (h2 : SortedIn lt (a + 1) b d) (hS : Srch (fun x => lt d[x]! d[a]!) (a + 1) b i i) (h : ∀ x, d'[x]! = rotF (fun y => d[y]!) a (a + 1) i x) : SortedIn lt a b d' := by
  have hai := hS.li; have hib := hS.jh
  have hC : Cut lt d a (a + 1) b a i := ⟨by omega, by omega, hai, hib, fun x y hx hs => by omega, fun x y hx hxe hy hym => by
    have e : y = a := by omega
    subst e
    exact lt_not hO (hS.yes x hx hxe)⟩
  obtain ⟨g1, g2, g3, g4, g5⟩ := hC.halves hO (fun i j _ _ _ => by omega) h2 h
  refine sorted_glue (sorted_glue g1 g2 (fun x y _ _ _ _ => by omega)) (sorted_glue g3 g4 (fun x y hx hxe hy hyb => ?_)) g5
  have e1 : d'[x]! = d[a]! := by rw [h]; unfold rotF; rw [if_neg (by omega), if_neg (by omega)]; show d[_]! = _; congr 1; omega
  have e2 : d'[y]! = d[y]! := by rw [h]; unfold rotF; rw [if_pos (by omega)]
  rw [e1, e2]; exact hS.no y hy hyb
theorem mono_down {lt : α → α → Bool} {d : Array α} {a m : Nat} (v : α) (hO : SWO lt) (h : SortedIn lt a m d) : ∀ x y, a ≤ x → x ≤ y → y < m → (!lt v d[y]!) = true → (!lt v d[x]!) = true := by
  intro x y hx hxy hy hp
  simp only [Bool.not_eq_true'] at hp ⊢
  exact hO.ntrans _ _ _ hp (sorted_le hO h x y hx hxy hy)
theorem one_down {lt : α → α → Bool} {d d' : Array α} {a m i : Nat} (hO : SWO lt) (h1 : SortedIn lt a m d) (hS : Srch (fun x => !lt d[m]! d[x]!) a m i i) (h : ∀ x, d'[x]! = rotF (fun y => d[y]!) i m (m + 1) x) : SortedIn lt a (m + 1) d' := by
  have hai := hS.li; have him := hS.jh
  have hno : ∀ x, i ≤ x → x < m → lt d[m]! d[x]! = true := fun x hx hxm => by have := hS.no x hx hxm; simpa using this
  have hye : ∀ x, a ≤ x → x < i → lt d[m]! d[x]! = false := fun x hx hxm => by have := hS.yes x hx hxm; simpa using this
  have hC : Cut lt d a m (m + 1) i (m + 1) := ⟨him, hai, by omega, by omega, fun x y hx hs hy hyb => by omega, fun x y hx hxe hy hym => by
    have e : x = m := by omega
    subst e
    exact lt_not hO (hno y hy hym)⟩
  obtain ⟨g1, g2, g3, g4, g5⟩ := hC.halves hO h1 (fun i j _ _ _ => by omega) h
  refine sorted_glue (sorted_glue g1 g2 (fun x y hx hxs hy hyb => ?_)) (sorted_glue g3 g4 (fun x y _ _ _ _ => by omega)) g5
  have e1 : d'[x]! = d[x]! := by rw [h]; unfold rotF; rw [if_pos (by omega)]
  have e2 : d'[y]! = d[m]! := by rw [h]; unfold rotF; rw [if_neg (by omega), if_pos (by omega)]; show d[_]! = _; congr 1; omega
  rw [e1, e2]; exact hye x hx hxs
/-- The cut of two runs of more than one. -/
theorem mono_mid {lt : α → α → Bool} {d : Array α} {a m b lo hi p : Nat} (hO : SWO lt) (h1 : SortedIn lt a m d) (h2 : SortedIn lt m b d) (hl : a ≤ lo) (hh : hi ≤ m) (hp : lo < hi → p - lo < b ∧ m + hi ≤ p + 1) :
    ∀ x y, lo ≤ x → x ≤ y → y < hi → (!lt d[p - y]! d[y]!) = true → (!lt d[p - x]! d[x]!) = true := by
  intro x y hx hxy hy hq
  simp only [Bool.not_eq_true'] at hq ⊢
  have := hp (by omega)
  have k1 := sorted_le hO h1 x y (by omega) hxy (by omega)
  have k2 := sorted_le hO h2 (p - y) (p - x) (by omega) (by omega) (by omega)
  exact hO.ntrans _ _ _ k2 (hO.ntrans _ _ _ hq k1)
theorem cut_mid {lt : α → α → Bool} {d : Array α} {a m b lo hi n mid s : Nat} (hO : SWO lt) (h1 : SortedIn lt a m d) (h2 : SortedIn lt m b d) (ham : a < m) (hmb : m < b) (hmid : mid = (a + b) / 2) (hn : n = mid + m)
    (hb : (m ≤ mid ∧ lo = a ∧ hi = m) ∨ (mid < m ∧ lo = n - b ∧ hi = mid)) (hS : Srch (fun x => !lt d[n - 1 - x]! d[x]!) lo hi s s) : Cut lt d a m b s (n - s) ∧ s + (n - s - m) = mid := by
  have k1 := hS.li; have k2 := hS.jh
  refine ⟨⟨by omega, by omega, by omega, by omega, fun x y hx hxs hy hyb => ?_, fun x y hx hxe hy hym => ?_⟩, by omega⟩
  · by_cases c : lo < s
    · have k3 := hS.yes (s - 1) (by omega) (by omega)
      simp only [Bool.not_eq_true'] at k3
      have k4 := sorted_le hO h1 x (s - 1) hx (by omega) (by omega)
      have k5 := sorted_le hO h2 (n - 1 - (s - 1)) y (by omega) (by omega) hyb
      exact hO.ntrans _ _ _ k5 (hO.ntrans _ _ _ k3 k4)
    · omega
  · by_cases c : s < hi
    · have k3 := hS.no s (Nat.le_refl _) c
      simp only [Bool.not_eq_false'] at k3
      have k3 := lt_not hO k3
      have k4 := sorted_le hO h2 x (n - 1 - s) hx (by omega) (by omega)
      have k5 := sorted_le hO h1 s y (by omega) hy hym
      exact hO.ntrans _ _ _ k5 (hO.ntrans _ _ _ k3 k4)
    · omega
end Go.Proofs.Ytkabfdclecbnpaa
