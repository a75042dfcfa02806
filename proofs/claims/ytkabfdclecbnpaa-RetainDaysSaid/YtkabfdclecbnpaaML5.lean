import Derived.Test.YtkabfdclecbnpaaL4
import Derived.Test.YtkabfdclecbnpaaSh

/- RunsG, and what is finer than a comparison: a stable sort sorts by the finer order. -/
namespace Go.Proofs.Ytkabfdclecbnpaa
open Go.RowKit Go.Lib Go.Sort Go.Shelf
variable {α : Type} [Inhabited α] {enc : α → Value}

/-- The elements of a part stood in this part. -/
def InP (pl : α → Nat) (d : Array α) (lo hi : Nat) : Prop := ∀ x, lo ≤ x → x < hi → lo ≤ pl d[x]! ∧ pl d[x]! < hi
/-- Sorted, and of this part. -/
def Good (lt : α → α → Bool) (pl : α → Nat) (d : Array α) (lo hi : Nat) : Prop := SortedIn lt lo hi d ∧ InP pl d lo hi
theorem Good.same {lt : α → α → Bool} {pl : α → Nat} {d d' : Array α} {lo hi : Nat} (h : Good lt pl d lo hi) (hs : ∀ x, lo ≤ x → x < hi → d'[x]! = d[x]!) : Good lt pl d' lo hi :=
  ⟨fun i j hi' hij hj => by rw [hs i hi' (by omega), hs j (by omega) hj]; exact h.1 i j hi' hij hj, fun x h1 h2 => by rw [hs x h1 h2]; exact h.2 x h1 h2⟩
/-- The finer order: of one that stood behind another one. -/
def Fine (lt : α → α → Bool) (cf : α → α → Int) (pl : α → Nat) : Prop := ∀ x y, pl x < pl y → lt y x = decide (cf y x < 0)
theorem Fine.ag {lt : α → α → Bool} {cf : α → α → Int} {pl : α → Nat} (h : Fine lt cf pl) {d : Array α} {a m b : Nat} (h1 : InP pl d a m) (h2 : InP pl d m b) : AG lt cf d a m b := fun x y hx hxm hy hyb =>
  h _ _ (by have := h1 x hx hxm; have := h2 y hy hyb; omega)
theorem InP.join {pl : α → Nat} {d : Array α} {a m b : Nat} (h1 : InP pl d a m) (h2 : InP pl d m b) (ham : a ≤ m) (hmb : m ≤ b) : InP pl d a b := fun x hx hxb => by
  by_cases h : x < m
  · have := h1 x hx h; omega
  · have := h2 x (by omega) hxb; omega
theorem InP.perm {pl : α → Nat} {d d' : Array α} {a b : Nat} (h : InP pl d a b) (hb : b ≤ d.size) (hp : PermIn a b d d') : InP pl d' a b :=
  permIn_all d d' a b (fun v => a ≤ pl v ∧ pl v < b) hb hp h

theorem ins_perm (lt : α → α → Bool) (a : Nat) : ∀ (j : Nat) (d : Array α), a ≤ j → j < d.size → PermIn a (j + 1) d (insInner lt a j d)
  | 0, d, _, _ => by unfold insInner; exact permIn_refl _ _ _
  | j + 1, d, haj, hj => by
    unfold insInner
    split
    · rename_i hc
      simp only [Bool.and_eq_true, decide_eq_true_eq] at hc
      have h1 := swp_permIn d a (j + 2) (j + 1) j haj (by omega) (by omega) (by omega) (by omega)
      have h2 := ins_perm lt a j (swp d (j + 1) j) (by omega) (by rw [size_swp]; omega)
      exact permIn_trans _ _ _ _ _ h1 (permIn_mono _ _ _ _ a (j + 2) (Nat.le_refl _) (by omega) (by rw [size_swp]; omega) h2)
    · exact permIn_refl _ _ _
theorem ins_eq (lt lt' : α → α → Bool) (a : Nat) : ∀ (j : Nat) (d : Array α), j < d.size → (∀ x, a ≤ x → x < j → lt d[j]! d[x]! = lt' d[j]! d[x]!) → insInner lt a j d = insInner lt' a j d
  | 0, d, _, _ => by unfold insInner; rfl
  | j + 1, d, hj, h => by
    unfold insInner
    by_cases hja : j + 1 > a
    · rw [h j (by omega) (by omega)]
      split
      · refine ins_eq lt lt' a j _ (by rw [size_swp]; omega) (fun x hx hxj => ?_)
        rw [swp_right d _ _ (by omega), swp_other d _ _ x (by omega) (by omega)]
        exact h x hx (by omega)
      · rfl
    · simp [hja]
theorem out_eq (lt lt' : α → α → Bool) (a b : Nat) : ∀ (n i : Nat) (d : Array α), b - i = n → a ≤ i → b ≤ d.size → (∀ x y, a ≤ y → y < x → i ≤ x → x < b → lt d[x]! d[y]! = lt' d[x]! d[y]!) → insOuter lt a b i d = insOuter lt' a b i d
  | 0, i, d, hn, hai, hb, h => by rw [insOuter_stop _ _ _ _ _ (by omega), insOuter_stop _ _ _ _ _ (by omega)]
  | n + 1, i, d, hn, hai, hb, h => by
    rw [insOuter_go lt a b i d (by omega), insOuter_go lt' a b i d (by omega), ins_eq lt lt' a i d (by omega) (fun x hx hxi => h i x hx hxi (Nat.le_refl _) (by omega))]
    have hp := ins_perm lt' a i d hai (by omega)
    refine out_eq lt lt' a b n (i + 1) _ (by omega) (by omega) (by rw [hp.1]; exact hb) (fun x y hy hyx hx hxb => ?_)
    rw [hp.2.1 x (Or.inr hx)]
    by_cases hyi : i + 1 ≤ y
    · rw [hp.2.1 y (Or.inr hyi)]; exact h x y hy hyx (by omega) hxb
    · exact permIn_all d _ a (i + 1) (fun v => lt d[x]! v = lt' d[x]! v) (by omega) hp (fun z hz hzi => h x z hz (by omega) (by omega) hxb) y hy (by omega)
/-- What stands as it stood is sorted by the finer order. -/
theorem insertion_fine {lt : α → α → Bool} {cf : α → α → Int} {pl : α → Nat} (hF : Fine lt cf pl) (hO : SWO lt) (d : Array α) (a b : Nat) (hab : a ≤ b) (hb : b ≤ d.size) (hid_ : ∀ x, a ≤ x → x < b → pl d[x]! = x) :
    PermIn a b d (Sort.insertionSort (ltOf cf) d a b) ∧ Good lt pl (Sort.insertionSort (ltOf cf) d a b) a b := by
  have e : Sort.insertionSort (ltOf cf) d a b = Sort.insertionSort lt d a b := by
    unfold Sort.insertionSort
    refine out_eq _ _ a b _ (a + 1) d rfl (by omega) hb (fun x y hy hyx hx hxb => ?_)
    rw [hF _ _ (by rw [hid_ x (by omega) hxb, hid_ y hy (by omega)]; exact hyx)]
    rfl
  rw [e]
  obtain ⟨h1, h2⟩ := insertionSort_holds hO d a b hab hb
  exact ⟨h1, h2, InP.perm (fun x hx hxb => by rw [hid_ x hx hxb]; omega) hb h1⟩

/-- [lo, hi) lies in runs of B of a kind, the last one maybe shorter. -/
inductive RunsG (G : Nat → Nat → Prop) (B : Nat) : Nat → Nat → Prop
  | last (lo hi : Nat) : lo ≤ hi → hi ≤ lo + B → G lo hi → RunsG G B lo hi
  | step (lo hi : Nat) : lo + B ≤ hi → G lo (lo + B) → RunsG G B (lo + B) hi → RunsG G B lo hi
/-- [0, a) lies in runs of B of a kind. -/
inductive FullG (G : Nat → Nat → Prop) (B : Nat) : Nat → Prop
  | zero : FullG G B 0
  | step (a : Nat) : FullG G B a → G a (a + B) → FullG G B (a + B)
theorem FullG.runs {G : Nat → Nat → Prop} {B a hi : Nat} (h : FullG G B a) : RunsG G B a hi → a ≤ hi → RunsG G B 0 hi := by
  induction h with
  | zero => exact fun h _ => h
  | step a _ hs ih => exact fun h hh => ih (.step _ _ hh hs h) (by omega)
theorem FullG.same {G G' : Nat → Nat → Prop} {B a : Nat} (h : FullG G B a) : (∀ lo hi, hi ≤ a → G lo hi → G' lo hi) → FullG G' B a := by
  induction h with
  | zero => exact fun _ => .zero
  | step a _ hs ih => exact fun h => .step a (ih (fun lo hi hh => h lo hi (by omega))) (h _ _ (Nat.le_refl _) hs)
theorem RunsG.same {G G' : Nat → Nat → Prop} {B lo hi : Nat} (h : RunsG G B lo hi) : (∀ p q, lo ≤ p → q ≤ hi → G p q → G' p q) → RunsG G' B lo hi := by
  induction h with
  | last lo hi h1 h2 hs => exact fun h => .last _ _ h1 h2 (h _ _ (Nat.le_refl _) (Nat.le_refl _) hs)
  | step lo hi h1 hs _ ih => exact fun h => .step _ _ h1 (h _ _ (Nat.le_refl _) h1 hs) (ih (fun p q hp hq => h p q (by omega) hq))
theorem RunsG.two {G : Nat → Nat → Prop} (hG : ∀ x, G x x) {B lo hi : Nat} (h : RunsG G B lo hi) (hB : 0 < B) (h2 : lo + 2 * B ≤ hi) : G lo (lo + B) ∧ G (lo + B) (lo + 2 * B) ∧ RunsG G B (lo + 2 * B) hi := by
  cases h with
  | last _ _ h1 h3 hs => omega
  | step _ _ h1 hs hr =>
    refine ⟨hs, ?_⟩
    cases hr with
    | last _ _ h4 h5 hs2 =>
      have e : hi = lo + 2 * B := by omega
      subst e
      exact ⟨hs2, .last _ _ (Nat.le_refl _) (by omega) (hG _)⟩
    | step _ _ h4 hs2 hr2 =>
      rw [show lo + B + B = lo + 2 * B by omega] at hs2 hr2
      exact ⟨hs2, hr2⟩
theorem RunsG.rest {G : Nat → Nat → Prop} {B lo hi : Nat} (h : RunsG G B lo hi) (h1 : lo + B < hi) (h2 : hi < lo + 2 * B) : G lo (lo + B) ∧ G (lo + B) hi := by
  cases h with
  | last _ _ _ h3 hs => omega
  | step _ _ _ hs hr =>
    refine ⟨hs, ?_⟩
    cases hr with
    | last _ _ h4 h5 hs2 => exact hs2
    | step _ _ h4 hs2 hr2 => omega
theorem RunsG.one {G : Nat → Nat → Prop} {B lo hi : Nat} (h : RunsG G B lo hi) (h1 : hi ≤ lo + B) : G lo hi := by
  cases h with
  | last _ _ _ h3 hs => exact hs
  | step _ _ h2 hs hr => rwa [show lo + B = hi by omega] at hs

/-- Two neighbouring runs merged in place. -/
theorem sym_merge1 (lt : α → α → Bool) (cf : α → α → Int) (hO : SWO lt) (g : Nat) (cb : Array Value) (eg : ∀ args w, (callFunc g args).run Try.prog w = .ok (.enter g args) w) (blk off cap sz : Nat) (w0 : World) (d0 : Array α)
    (hcmp : CmpLays1 Try.prog g cb enc cf blk off sz w0) (R : Row1 enc w0 blk off d0) (hs0 : d0.size = sz) (hsz : sz < 4611686018427387904) :
    ∀ N W dk, dk.size = sz → SW enc w0 blk off dk W → ∀ a m b, b - a < N → a < m → m < b → b ≤ sz → SortedIn lt a m dk → SortedIn lt m b dk → AG lt cf dk a m b →
    Calls Try.prog 69 #[.slice (some ⟨blk, off, none⟩) sz cap, .int .i64 (a : Int), .int .i64 (m : Int), .int .i64 (b : Int), .func (.func g) #[] cb] W fun e w' =>
      e = .returned (.tuple #[]) ∧ ∃ d', d'.size = sz ∧ SW enc w0 blk off d' w' ∧ PermIn a b dk d' ∧ SortedIn lt a b d' := by
  intro N
  induction N with
  | zero => intro _ _ _ _ a m b h; omega
  | succ N ih =>
    intro W dk hs h a m b hN ham hmb hb h1 h2 hag
    by_cases c1 : m = a + 1
    · exact sym_up lt cf hO g cb eg blk off cap sz a m b w0 W d0 dk hcmp R hs0 hs h c1 hmb hb hsz h2 hag
    · by_cases c2 : b = m + 1
      · exact sym_down lt cf hO g cb eg blk off cap sz a m b w0 W d0 dk hcmp R hs0 hs h (by omega) c2 hb hsz h1 hag
      · exact sym_mid lt cf hO g cb eg blk off cap sz a m b w0 W d0 dk hcmp R hs0 hs h (by omega) (by omega) hb hsz h1 h2 hag
          (fun W dt hs h p q r hpq hqr hr => rotate1 g cb blk off cap sz p q r w0 W d0 dt R hs0 hs h hpq hqr hr hsz)
          (fun W dt hs h p q r hpq hqr hr hN2 s1 s2 ag => ih W dt hs h p q r (by omega) hpq hqr hr s1 s2 ag)
/-- The same of runs of what stood there. -/
theorem sym_good (lt : α → α → Bool) (cf : α → α → Int) (pl : α → Nat) (hF : Fine lt cf pl) (hO : SWO lt) (g : Nat) (cb : Array Value) (eg : ∀ args w, (callFunc g args).run Try.prog w = .ok (.enter g args) w) (blk off cap sz : Nat) (w0 : World) (d0 : Array α)
    (hcmp : CmpLays1 Try.prog g cb enc cf blk off sz w0) (R : Row1 enc w0 blk off d0) (hs0 : d0.size = sz) (hsz : sz < 4611686018427387904) (W : World) (dk : Array α) (hs : dk.size = sz) (h : SW enc w0 blk off dk W) (a m b : Nat) (ham : a < m) (hmb : m < b) (hb : b ≤ sz) (h1 : Good lt pl dk a m) (h2 : Good lt pl dk m b) :
    Calls Try.prog 69 #[.slice (some ⟨blk, off, none⟩) sz cap, .int .i64 (a : Int), .int .i64 (m : Int), .int .i64 (b : Int), .func (.func g) #[] cb] W fun e w' =>
      e = .returned (.tuple #[]) ∧ ∃ d', d'.size = sz ∧ SW enc w0 blk off d' w' ∧ PermIn a b dk d' ∧ Good lt pl d' a b :=
  (sym_merge1 lt cf hO g cb eg blk off cap sz w0 d0 hcmp R hs0 hsz (b - a + 1) W dk hs h a m b (Nat.lt_succ_self _) ham hmb hb h1.1 h2.1 (hF.ag h1.2 h2.2)).mono (by
    rintro e w' ⟨rfl, d', hz, hS, hp, hso⟩
    exact ⟨rfl, d', hz, hS, hp, hso, (h1.2.join h2.2 (by omega) (by omega)).perm (by rw [hs]; exact hb) hp⟩)
theorem insertion_w1 (lt : α → α → Bool) (cf : α → α → Int) (pl : α → Nat) (hF : Fine lt cf pl) (hO : SWO lt) (g : Nat) (cb : Array Value) (eg : ∀ args w, (callFunc g args).run Try.prog w = .ok (.enter g args) w) (blk off cap sz a b : Nat) (w0 W : World) (d0 dk : Array α)
    (hcmp : CmpLays1 Try.prog g cb enc cf blk off sz w0) (R : Row1 enc w0 blk off d0) (hs0 : d0.size = sz) (hs : dk.size = sz) (h : SW enc w0 blk off dk W) (hab : a ≤ b) (hb : b ≤ sz) (hsz : sz < 4611686018427387904) (hid_ : ∀ x, a ≤ x → x < b → pl dk[x]! = x) :
    Calls Try.prog 68 #[.slice (some ⟨blk, off, none⟩) sz cap, .int .i64 (a : Int), .int .i64 (b : Int), .func (.func g) #[] cb] W fun e w' =>
      e = .returned (.tuple #[]) ∧ ∃ d', d'.size = sz ∧ SW enc w0 blk off d' w' ∧ PermIn a b dk d' ∧ Good lt pl d' a b := by
  have hi := Try.insertionSortCmpFunc_s_f68 enc cf g cb blk off cap a b d0 dk w0 W eg (by rw [hs0]; exact hcmp) R (by rw [hs0, hs]) h hab (by rw [hs]; exact hb) (by rw [hs]; exact hsz)
  rw [hs] at hi
  refine hi.mono ?_
  rintro e w' ⟨he, hw⟩
  obtain ⟨h1, h2⟩ := insertion_fine hF hO dk a b hab (by rw [hs]; exact hb) hid_
  exact ⟨he, _, by rw [h1.1, hs], hw, h1, h2⟩
end Go.Proofs.Ytkabfdclecbnpaa


/- slices.SortStableFunc at ints, whatever their number: what it leaves is sorted by the finer order, too. -/
namespace Go.Proofs.Ytkabfdclecbnpaa
open Go.RowKit Go.Lib Go.Sort Go.Shelf
variable {α : Type} [Inhabited α] {enc : α → Value}

set_option maxRecDepth 100000 in
set_option maxHeartbeats 4000000 in
theorem stable1 (lt : α → α → Bool) (cf : α → α → Int) (pl : α → Nat) (hF : Fine lt cf pl) (hO : SWO lt) (g : Nat) (cb : Array Value) (eg : ∀ args w, (callFunc g args).run Try.prog w = .ok (.enter g args) w) (blk off cap sz : Nat) (d : Array α) (w : World) (hcmp : CmpLays1 Try.prog g cb enc cf blk off sz w) (h1c : OneCell enc) (hpl : ∀ x, x < sz → pl d[x]! = x) (hH : Holds enc w blk off d) (hblk : blk < w.heap.size) (hd : d.size = sz) (hsz : sz < 1152921504606846976) :
    Calls Try.prog 51 #[.slice (some ⟨blk, off, none⟩) sz cap, .int .i64 (sz : Int), .func (.func g) #[] cb] w fun e w' =>
      e = .returned (.tuple #[]) ∧ ∃ n os d', PermIn 0 sz d d' ∧ SortedIn lt 0 sz d' ∧ w' = sortWorld enc w blk off n d' os := by
  have R : Row1 enc w blk off d := ⟨h1c, hH, hblk⟩
  have hI := hid (fun W dt (hs : dt.size = sz) (h : SW enc w blk off dt W) a b h1 h2 (h3 : ∀ x, a ≤ x → x < b → pl dt[x]! = x) => insertion_w1 lt cf pl hF hO g cb eg blk off cap sz a b w W d dt hcmp R hd hs h h1 h2 (by omega) h3)
  have hM := hid (fun W dt (hs : dt.size = sz) (h : SW enc w blk off dt W) a m b h1 h2 h3 s1 s2 => sym_good lt cf pl hF hO g cb eg blk off cap sz w d hcmp R hd (by omega) W dt hs h a m b h1 h2 h3 s1 s2)
  have hS := hid (SW.start hH)
  have Hd := hid hd
  have HPl := hid hpl
  clear R hH hblk hd hpl hcmp h1c eg
  go_enter Try.func51, Try.ntmps51
  go_wp2_with fail
  go_loopg [7, 8] sz (fun g va vb wr => ∃ (a b : Nat) (dt : Array α), va = .int .i64 (a : Int) ∧ vb = .int .i64 (b : Int) ∧ a ≤ sz ∧ b ≤ a + 20 ∧ a + 20 ≤ b ∧ sz - a ≤ g ∧ Hid (dt.size = sz) ∧ Hid (SW enc w blk off dt wr) ∧ Hid (PermIn 0 sz d dt) ∧ Hid (FullG (Good lt pl dt) 20 a) ∧ Hid (∀ x, a ≤ x → x < sz → pl dt[x]! = x))
  case atStart => exact ⟨0, 20, d, rfl, rfl, by omega, by omega, by omega, by omega, Hd, hS, hid (permIn_refl _ _ _), hid .zero, hid (fun x _ h => HPl.out x h)⟩
  case round =>
    as_aux_lemma =>
    obtain ⟨a, b, dt, rfl, rfl, has, hb1, hb2, hg, Hst, HSt, HP, HF, HI⟩ := hrel
    by_cases hlt : b ≤ sz
    · have hltz : (b : Int) ≤ (sz : Int) := by omega
      have hc := hid (hI.out wr dt Hst.out HSt.out a b (by omega) hlt (fun x h1 h2 => HI.out x h1 (by omega)))
      obtain ⟨b', hb'⟩ : ∃ b', b' = b + 20 := ⟨_, rfl⟩
      have wb : IntKind.i64.wrap ((b : Int) + 20) = (b' : Int) := by rw [IntKind.wrap_i64]; omega
      have Hb := hid hb'
      clear hb'
      go_wp2_with fail
      refine hc.out.mono ?_
      rintro e w1 ⟨rfl, d1, hz1, hs1, hp1, hq1⟩
      have hz1 := hid hz1; have hs1 := hid hs1; have hp1 := hid hp1; have hq1 := hid hq1
      clear hc
      go_wp2_with fail
      go_roundg (sz - b)
      case measure => omega
      case rel =>
        refine ⟨b, b', d1, rfl, rfl, hlt, by have := Hb.out; omega, by have := Hb.out; omega, Nat.le_refl _, hz1, hs1, hid (permIn_trans _ _ _ _ _ HP.out (permIn_mono _ _ _ _ 0 sz (Nat.zero_le _) hlt (by rw [Hst.out]; exact Nat.le_refl _) hp1.out)), hid ?_, hid (fun x h1 h2 => by rw [hp1.out.2.1 x (Or.inr h1)]; exact HI.out x (by omega) h2)⟩
        have e : b = a + 20 := by omega
        rw [e]
        exact .step a (HF.out.same (fun lo hi hh hg => hg.same (fun x hx hxh => hp1.out.2.1 x (Or.inl (by omega))))) (by rw [← e]; exact hq1.out)
    · have hltz : ¬ (b : Int) ≤ (sz : Int) := by omega
      have hltz2 : (sz : Int) < (b : Int) := by omega
      have hc := hid (hI.out wr dt Hst.out HSt.out a sz has (Nat.le_refl _) (fun x h1 h2 => HI.out x h1 h2))
      go_wp2_with fail
      refine hc.out.mono ?_
      rintro e w1 ⟨rfl, d1, hz1, hs1, hp1, hq1⟩
      have hr := hid (FullG.runs (HF.out.same (fun lo hi hh hg => hg.same (fun x hx hxh => hp1.2.1 x (Or.inl (by omega)))) : FullG (Good lt pl d1) 20 a) (.last a sz has (by omega) hq1) has)
      have hp1 := hid (permIn_trans _ _ _ _ _ HP.out (permIn_mono _ _ _ _ 0 sz (Nat.zero_le _) (Nat.le_refl _) (by rw [Hst.out]; exact Nat.le_refl _) hp1))
      have hz1 := hid hz1; have hs1 := hid hs1
      clear hc hq1
      go_wp2_with fail
      go_loopg [6] sz (fun g v6 wr => ∃ (B : Nat) (dt : Array α), v6 = .int .i64 (B : Int) ∧ 0 < B ∧ B ≤ 2 * sz + 20 ∧ sz - B ≤ g ∧ Hid (dt.size = sz) ∧ Hid (SW enc w blk off dt wr) ∧ Hid (PermIn 0 sz d dt) ∧ Hid (RunsG (Good lt pl dt) B 0 sz))
      case atStart => exact ⟨20, d1, rfl, by omega, by omega, by omega, hz1, hs1, hp1, hr⟩
      case round =>
        as_aux_lemma =>
        clear hz1 hs1 hp1 hr
        obtain ⟨B, dB, rfl, hB0, hBs, hgB, HzB, HsB, HpB, HrB⟩ := hrel
        by_cases hBl : B < sz
        · have hBz : (B : Int) < (sz : Int) := by omega
          obtain ⟨B2, hB2⟩ : ∃ B2, B2 = 2 * B := ⟨_, rfl⟩
          have w21 : IntKind.i64.wrap (2 * (B : Int)) = (B2 : Int) := by rw [IntKind.wrap_i64]; omega
          have w22 : IntKind.i64.wrap ((B : Int) * 2) = (B2 : Int) := by rw [IntKind.wrap_i64]; omega
          have hB2a : B2 ≤ 2 * B := by omega
          have hB2b : 2 * B ≤ B2 := by omega
          have HB2 := hid hB2
          clear hB2
          go_wp2_with fail
          go_loopg [7, 8] sz (fun g va vb wr => ∃ (a b : Nat) (dt : Array α), va = .int .i64 (a : Int) ∧ vb = .int .i64 (b : Int) ∧ a ≤ sz ∧ b ≤ a + B2 ∧ a + B2 ≤ b ∧ sz - a ≤ g ∧ Hid (dt.size = sz) ∧ Hid (SW enc w blk off dt wr) ∧ Hid (PermIn 0 sz d dt) ∧ Hid (FullG (Good lt pl dt) B2 a) ∧ Hid (RunsG (Good lt pl dt) B a sz))
          case atStart => exact ⟨0, B2, dB, rfl, rfl, by omega, by omega, by omega, by omega, HzB, HsB, HpB, hid .zero, HrB⟩
          case round =>
            as_aux_lemma =>
            obtain ⟨a, b, dt, rfl, rfl, has, hb1, hb2, hg, Hst, HSt, HP, HF, HR⟩ := hrel
            obtain ⟨m, hm⟩ : ∃ m, m = a + B := ⟨_, rfl⟩
            have wm : IntKind.i64.wrap ((a : Int) + (B : Int)) = (m : Int) := by rw [IntKind.wrap_i64]; omega
            have hma : m ≤ a + B := by omega
            have hmb : a + B ≤ m := by omega
            have Hm := hid hm
            clear hm
            by_cases hlt : b ≤ sz
            · have hltz : (b : Int) ≤ (sz : Int) := by omega
              have hb : b = a + 2 * B := by omega
              obtain ⟨r1, r2, r3⟩ := HR.out.two (fun x => ⟨fun i j hi hij hj => by omega, fun y hy hyx => by omega⟩) hB0 (by omega)
              have hc := hid (hM.out wr dt Hst.out HSt.out a m b (by omega) (by omega) hlt (by rw [Hm.out]; exact r1) (by rw [Hm.out, hb]; exact r2))
              have HR3 := hid r3
              have Hb2 := hid hb
              clear r1 r2 r3 hb
              obtain ⟨b', hb'⟩ : ∃ b', b' = b + B2 := ⟨_, rfl⟩
              have wb : IntKind.i64.wrap ((b : Int) + (B2 : Int)) = (b' : Int) := by rw [IntKind.wrap_i64]; omega
              have Hb := hid hb'
              clear hb'
              go_wp2_with fail
              refine hc.out.mono ?_
              rintro e w1 ⟨rfl, d2, hz2, hs2, hp2, hq2⟩
              have hz2 := hid hz2; have hs2 := hid hs2; have hp2 := hid hp2; have hq2 := hid hq2
              clear hc
              go_wp2_with fail
              go_roundg (sz - b)
              case measure => omega
              case rel =>
                refine ⟨b, b', d2, rfl, rfl, hlt, by have := Hb.out; omega, by have := Hb.out; omega, Nat.le_refl _, hz2, hs2, hid (permIn_trans _ _ _ _ _ HP.out (permIn_mono _ _ _ _ 0 sz (Nat.zero_le _) hlt (by rw [Hst.out]; exact Nat.le_refl _) hp2.out)), hid ?_, hid ?_⟩
                · have e : b = a + B2 := by omega
                  rw [e]
                  exact .step a (HF.out.same (fun lo hi hh hg => hg.same (fun x hx hxh => hp2.out.2.1 x (Or.inl (by omega))))) (by rw [← e]; exact hq2.out)
                · rw [Hb2.out]
                  exact HR3.out.same (fun p q hp hq hg => hg.same (fun x hx hxq => hp2.out.2.1 x (Or.inr (by have := Hb2.out; omega))))
            · have hltz : ¬ (b : Int) ≤ (sz : Int) := by omega
              have hltz2 : (sz : Int) < (b : Int) := by omega
              by_cases hms : m < sz
              · have hmz : (m : Int) < (sz : Int) := by omega
                obtain ⟨r1, r2⟩ := HR.out.rest (by omega) (by omega)
                have hc := hid (hM.out wr dt Hst.out HSt.out a m sz (by omega) hms (Nat.le_refl _) (by rw [Hm.out]; exact r1) (by rw [Hm.out]; exact r2))
                clear r1 r2
                go_wp2_with fail
                refine hc.out.mono ?_
                rintro e w1 ⟨rfl, d2, hz2, hs2, hp2, hq2⟩
                have hz2 := hid hz2; have hs2 := hid hs2; have hp2 := hid hp2; have hq2 := hid hq2
                clear hc
                go_wp2_with fail
                go_roundg (sz - B2)
                case measure => omega
                case rel =>
                  exact ⟨B2, d2, rfl, by omega, by omega, Nat.le_refl _, hz2, hs2, hid (permIn_trans _ _ _ _ _ HP.out (permIn_mono _ _ _ _ 0 sz (Nat.zero_le _) (Nat.le_refl _) (by rw [Hst.out]; exact Nat.le_refl _) hp2.out)), hid (FullG.runs (HF.out.same (fun lo hi hh hg => hg.same (fun x hx hxh => hp2.out.2.1 x (Or.inl (by omega)))) : FullG (Good lt pl d2) B2 a) (.last a sz has (by omega) hq2.out) has)⟩
              · have hmz : ¬ (m : Int) < (sz : Int) := by omega
                have hq := hid (HR.out.one (by omega))
                go_wp2_with fail
                go_roundg (sz - B2)
                case measure => omega
                case rel =>
                  exact ⟨B2, dt, rfl, by omega, by omega, Nat.le_refl _, Hst, HSt, HP, hid (FullG.runs HF.out (.last a sz has (by omega) hq.out) has)⟩
        · have hBz : ¬ (B : Int) < (sz : Int) := by omega
          go_wp2
          go_end0
          obtain ⟨n, os, hw⟩ := HsB.out
          exact ⟨rfl, n, os, dB, HpB.out, (HrB.out.one (by omega)).1, hw⟩

set_option maxRecDepth 100000 in
theorem sortstable1 (lt : α → α → Bool) (cf : α → α → Int) (pl : α → Nat) (hF : Fine lt cf pl) (hO : SWO lt) (g : Nat) (cb : Array Value) (eg : ∀ args w, (callFunc g args).run Try.prog w = .ok (.enter g args) w) (blk off cap sz : Nat) (d : Array α) (w : World) (hcmp : CmpLays1 Try.prog g cb enc cf blk off sz w) (h1c : OneCell enc) (hpl : ∀ x, x < sz → pl d[x]! = x) (hH : Holds enc w blk off d) (hblk : blk < w.heap.size) (hd : d.size = sz) (hn : sz < 1152921504606846976) :
    Calls Try.prog 37 #[.slice (some ⟨blk, off, none⟩) sz cap, .func (.func g) #[] cb] w fun e w' =>
      e = .returned (.tuple #[]) ∧ ∃ n os d', PermIn 0 sz d d' ∧ SortedIn lt 0 sz d' ∧ w' = sortWorld enc w blk off n d' os := by
  have h := hid (stable1 lt cf pl hF hO g cb eg blk off cap sz d w hcmp h1c hpl hH hblk hd hn)
  clear hH hblk hd hcmp h1c hpl eg
  go_enter Try.func37, Try.ntmps37
  go_wp2_with fail
  refine h.out.mono ?_
  rintro e w1 ⟨rfl, q, os, d', hp, hs, hw⟩
  have HW := hid (show _ from And.intro hp (And.intro hs hw))
  clear hp hs hw h
  go_wp2
  go_end0
  exact ⟨rfl, q, os, d', HW.out.1, HW.out.2.1, HW.out.2.2⟩
end Go.Proofs.Ytkabfdclecbnpaa
