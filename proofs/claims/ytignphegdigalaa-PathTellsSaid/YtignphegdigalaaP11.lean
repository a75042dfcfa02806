/- path.Clean's closure. -/
import Derived.Test.YtignphegdigalaaP10
namespace Go.Proofs.Ytignphegdigalaa
open Go.RowKit
attribute [local go_sem] Oper.semAt_some

/-- The parts that are left behind one part more, if any may be. -/
def folS (k : List (List UInt8)) (s : List UInt8) : Option (List (List UInt8)) :=
  if s = [] ∨ s = [46] then some k else if s = [46, 46] then (if k = [] then none else some k.dropLast) else if okPart s = true then some (k ++ [s]) else none
def foldS : List (List UInt8) → List (List UInt8) → Option (List (List UInt8))
  | k, [] => some k
  | k, s :: r => match folS k s with
    | none => none
    | some k' => foldS k' r
theorem foldS_snoc : ∀ (k : List (List UInt8)) (l : List (List UInt8)) (s : List UInt8) (k' : List (List UInt8)), foldS k l = some k' → foldS k (l ++ [s]) = folS k' s
  | k, [], s, k', h => by
    simp [foldS] at h; subst h
    simp only [List.nil_append, foldS]
    cases folS k s <;> rfl
  | k, t :: r, s, k', h => by
    simp only [foldS, List.cons_append] at h ⊢
    cases hf : folS k t with
    | none => rw [hf] at h; simp at h
    | some k1 => rw [hf] at h; simp only at h ⊢; exact foldS_snoc k1 r s k' h
theorem foldS_dead : ∀ (k : List (List UInt8)) (l r : List (List UInt8)), foldS k l = none → foldS k (l ++ r) = none
  | k, [], r, h => by simp [foldS] at h
  | k, t :: l, r, h => by
    simp only [foldS, List.cons_append] at h ⊢
    cases hf : folS k t with
    | none => rfl
    | some k1 => rw [hf] at h; simp only at h ⊢; exact foldS_dead k1 l r h
theorem folS_len {k : List (List UInt8)} {s : List UInt8} {k' : List (List UInt8)} (h : folS k s = some k') : k'.length ≤ k.length + 1 := by
  unfold folS at h
  split at h
  · simp at h; subst h; omega
  · split at h
    · split at h
      · simp at h
      · simp at h; subst h; simp; omega
    · split at h
      · simp at h; subst h; simp
      · simp at h

theorem foldS_len : ∀ (k : List (List UInt8)) (l : List (List UInt8)) (k' : List (List UInt8)), foldS k l = some k' → k'.length ≤ k.length + l.length
  | k, [], k', h => by simp [foldS] at h; subst h; simp
  | k, s :: r, k', h => by
    simp only [foldS] at h
    cases hf : folS k s with
    | none => rw [hf] at h; simp at h
    | some k1 =>
      rw [hf] at h
      have h1 := foldS_len k1 r k' h
      have h2 := folS_len hf
      simp; omega
theorem partsS_count : ∀ (a : List UInt8), (partsS a).length ≤ a.length + 1
  | [] => by simp [partsS]
  | c :: a => by
    have ih := partsS_count a
    unfold partsS
    split
    · simp; omega
    · split
      · rename_i p ps hp
        rw [hp] at ih
        simp at ih ⊢; omega
      · simp
theorem owns_drop {W : World} {base : Nat} {e : TypeId} {ad : Addr} {n c : Nat} {xs : List Value} (h : W.ownsRow base e 1 (.slice (some ad) (n + 1) c) (n + 1) xs) : W.ownsRow base e 1 (.slice (some ad) n c) n xs.dropLast ∧ n + 1 ≤ c ∧ c ≤ maxLen := by
  obtain ⟨h1, h2⟩ := h
  rcases h2 with ⟨h2, _⟩ | ⟨g, cap, cur, hv, hb, hg, hn, hm, hs, ht⟩
  · simp at h2
  · simp at hv
    obtain ⟨rfl, rfl⟩ := hv
    refine ⟨⟨by simp; omega, Or.inr ⟨g, c, cur, rfl, hb, hg, by omega, hm, hs, ?_⟩⟩, hn, hm⟩
    rw [← ht, List.dropLast_eq_take, List.take_take]
    congr 1
    rw [List.length_take]
    have : cur.toList.length = cur.size := by simp
    omega

theorem follow_all (base : Nat) (v : Value) (K : List (List UInt8)) (s : List UInt8) (hl : s.length ≤ 1000000000) (hn : K.length < 1000000000) (w : World) (hb : base ≤ w.heap.size) (hown : w.ownsRow base 9 1 v K.length (tS K)) :
    Calls Try.prog 50 #[v, .string (S s)] w fun e w' =>
      (∃ K' v', folS K s = some K' ∧ e = .returned v' ∧ w'.ownsRow base 9 1 v' K'.length (tS K') ∧ (w = w' ∨ (w.alloc (.cells #[.string (S s)] 9)).grownBy w' v.ownBlock)) ∨
      (folS K s = none ∧ e = .panicked [{ v := .iface 29 (.int .i64 38), recovered := false }] ∧ w = w') := by
  by_cases h1 : s = [] ∨ s = [46]
  · refine (follow_skip v s h1 w).mono ?_
    rintro e w' ⟨rfl, rfl⟩
    exact .inl ⟨K, v, by unfold folS; rw [if_pos h1], rfl, hown, .inl rfl⟩
  · by_cases h2 : s = [46, 46]
    · by_cases hK : K = []
      · subst hK
        obtain ⟨a, c, rfl⟩ := owns_slice1 hown
        refine (follow_none s h2 a c w).mono ?_
        rintro e w' ⟨rfl, rfl⟩
        exact .inr ⟨by unfold folS; rw [if_neg h1, if_pos h2, if_pos rfl], rfl, rfl⟩
      · obtain ⟨m, hm⟩ : ∃ m, K.length = m + 1 := ⟨K.length - 1, by have := List.length_pos_iff.2 hK; omega⟩
        rw [hm] at hown
        obtain ⟨g, c, rfl⟩ := ownsRow_succ hown
        obtain ⟨ho, hc, hcm⟩ := owns_drop hown
        refine (follow_up s h2 _ m c (by omega) hc hcm w).mono ?_
        rintro e w' ⟨rfl, rfl⟩
        refine .inl ⟨K.dropLast, _, by unfold folS; rw [if_neg h1, if_pos h2, if_neg hK], rfl, ?_, .inl rfl⟩
        rw [show K.dropLast.length = m by simp [hm], show tS K.dropLast = (tS K).dropLast by simp [tS]]
        exact ho
    · by_cases h3 : okPart s = true
      · refine (follow_add base v K s hl h3 hn w hb hown).mono ?_
        rintro e w' ⟨v', rfl, ho, hg⟩
        exact .inl ⟨K ++ [s], v', by unfold folS; rw [if_neg h1, if_neg h2, if_pos h3], rfl, ho, .inr hg⟩
      · refine (follow_bad v s hl (fun h => h1 (.inl h)) (fun h => h1 (.inr h)) h2 (by simpa using h3) w).mono ?_
        rintro e w' ⟨rfl, rfl⟩
        exact .inr ⟨by unfold folS; rw [if_neg h1, if_neg h2, if_neg h3], rfl, rfl⟩

theorem must_fine (w : World) :
    Calls Try.prog 52 #[.int .i64 0] w fun e w' => e = .returned (.tuple #[]) ∧ w = w' := by
  go_enter Try.func52, Try.ntmps52
  go_wp2
  go_end0
  exact ⟨rfl, rfl⟩
theorem okPart_len {s : List UInt8} (h : okPart s = true) : s.length ≤ 40 := by
  rcases Nat.lt_or_ge 40 s.length with h1 | h1
  · rw [okPart_no s (.inr (.inl h1))] at h; cases h
  · exact h1
theorem foldS_ok : ∀ (k l k' : List (List UInt8)), foldS k l = some k' → (∀ s ∈ k, s.length ≤ 40) → ∀ s ∈ k', s.length ≤ 40
  | k, [], k', h, hk => by simp [foldS] at h; subst h; exact hk
  | k, t :: r, k', h, hk => by
    simp only [foldS] at h
    cases hf : folS k t with
    | none => rw [hf] at h; simp at h
    | some k1 =>
      rw [hf] at h
      refine foldS_ok k1 r k' h ?_
      unfold folS at hf
      split at hf
      · simp at hf; subst hf; exact hk
      · split at hf
        · split at hf
          · simp at hf
          · simp at hf; subst hf; exact fun s hs => hk s (List.dropLast_subset _ hs)
        · split at hf
          · rename_i hp
            simp at hf; subst hf
            intro s hs
            rcases List.mem_append.1 hs with h1 | h1
            · exact hk s h1
            · simp at h1; subst h1; exact okPart_len hp
          · simp at hf
theorem tail_len : ∀ (r : List (List UInt8)), (∀ s ∈ r, s.length ≤ 40) → (Lib.joinTail [47] r).length ≤ 41 * r.length
  | [], _ => by simp [Lib.joinTail]
  | x :: r, h => by
    have ih := tail_len r (fun s hs => h s (by simp [hs]))
    have h1 := h x (by simp)
    have e : Lib.joinTail [47] (x :: r) = ([47] ++ x) ++ Lib.joinTail [47] r := by simp [Lib.joinTail]
    rw [e, List.length_append, List.length_append, List.length_cons]
    simp; omega
theorem glue_len (K : List (List UInt8)) (h : ∀ s ∈ K, s.length ≤ 40) : (glueS K).length ≤ 41 * K.length := by
  cases K with
  | nil => simp [glueS, Lib.join_nil]
  | cons x r =>
    have h1 := h x (by simp)
    have h2 := tail_len r (fun s hs => h s (by simp [hs]))
    unfold glueS
    rw [Lib.join_cons, List.length_append, List.length_cons]; omega
theorem join_all (base : Nat) (v : Value) (K : List (List UInt8)) (hl : (glueS K).length ≤ 140737488355328) (hn : K.length ≤ 1000000000) (W : World) (hrow : W.ownsRow base 9 1 v K.length (tS K)) :
    Calls Try.prog 51 #[v, .string (S [47])] W fun e w' => e = .returned (.string (S (glueS K))) ∧ Below W.heap.size W w' := by
  by_cases hK : K = []
  · subst hK
    obtain ⟨a, c, rfl⟩ := owns_slice1 hrow
    refine (joined_none a c W).mono ?_
    rintro e w' ⟨rfl, rfl⟩
    exact ⟨rfl, Below.refl _ _⟩
  · obtain ⟨m, hm⟩ : ∃ m, K.length = m + 1 := ⟨K.length - 1, by have := List.length_pos_iff.2 hK; omega⟩
    have hrow' := hrow
    rw [hm] at hrow'
    obtain ⟨g, c, rfl⟩ := ownsRow_succ hrow'
    have hcap : m + 1 ≤ c := (owns_drop hrow').2.1
    have hcell := hrow.cells (g := g) rfl
    have hlt := (hrow.lt g rfl).2
    rw [← hm]
    refine joined g c K W (fun j x hj => ?_) hlt hn (by omega) hl
    have h1 := hcell j (.string (S x)) (by simp [tS, hj])
    rwa [show (⟨g, 0, none⟩ : Addr).add j = ⟨g, j, none⟩ by unfold Addr.add; split <;> simp_all] at h1

/-- What has come, folded. -/
def fT (pre : List Txt) : Option (List (List UInt8)) := foldS [] (pre.map (·.1))

/-- The path that a text means. -/
def meantS (a : List UInt8) : Option (List UInt8) := match foldS [] (partsS a) with
  | none => none
  | some k => if okPath (glueS k) = true then some (glueS k) else none

set_option maxRecDepth 100000 in
set_option maxHeartbeats 2000000 in
theorem clean1 (a : List UInt8) (ha' : a.length ≤ 10000000) (Bp Bc : Nat) (u : List UInt8) (w : World) (bP : Boxed w Bp 9 (.string (S a))) (bC : Boxed w Bc 9 (.string (S u))) (hne : Bp ≠ Bc) :
    Calls Try.prog 48 #[.pointer (some ⟨Bp, 0, none⟩), .pointer (some ⟨Bc, 0, none⟩)] w fun e w' =>
      (∃ c, meantS a = some c ∧ e = .returned (.tuple #[]) ∧ Kept [Bc] w w' ∧ Boxed w' Bc 9 (.string (S c))) ∨
      (meantS a = none ∧ e = .panicked [{ v := .iface 29 (.int .i64 38), recovered := false }] ∧ Kept [] w w') := by
  have ha : a.length ≤ 1000000000 := by omega
  have cP := bP.cell
  have fP := bP.frozen
  have hpa := hid (parts_any a)
  have hla := hid bP.lt
  have hlc := hid bC.lt
  refine (callsIn_wide (n := 4)).1 ?_
  refine calls_of_at Try.func48 rfl ?_
  simp only [Try.ntmps48, List.size_toArray, List.length_cons, List.length_nil, Nat.reduceAdd, Nat.reduceSub, Array.replicate_succ, Array.replicate_zero, List.push_toArray, List.append_toArray, List.nil_append, List.cons_append]
  have cP1 : (w.alloc (.cells #[.slice none 0 0] 49)).cell? ⟨Bp, 0, none⟩ = some (.string (S a)) := (bP.alloc _).cell
  refine at_seq (at_of_wpIn (n := 4) ?_)
  gi_wp2
  refine at_seq (at_seq (at_of_wpIn (n := 4) ?_))
  gi_wp2_with (refine ⟨trivial, ?_⟩; gi_at_call 49; refine (callsIn_wide.2 (hpa.out _)).mono ?_; rintro e w' ⟨rfl, rfl⟩)
  refine at_block ?_
  have bK := (Boxed.new w 49 (.slice none 0 0)).alloc (.cells #[.string (S a)] 9)
  have bA := Boxed.new (w.alloc (.cells #[.slice none 0 0] 49)) 9 (.string (S a))
  rw [World.size_alloc] at bA
  have hB0 := ((Below.refl _ w).alloc (Nat.le_refl _) (.cells #[.slice none 0 0] 49)).alloc (by simp) (.cells #[.string (S a)] 9)
  have hsz : ((w.alloc (.cells #[.slice none 0 0] 49)).alloc (.cells #[.string (S a)] 9)).heap.size = w.heap.size + 2 := by simp
  obtain ⟨W0, hW0⟩ : ∃ W0, (w.alloc (.cells #[.slice none 0 0] 49)).alloc (.cells #[.string (S a)] 9) = W0 := ⟨_, rfl⟩
  rw [hW0] at bA bK hB0 hsz ⊢
  clear hW0 cP1 cP fP hpa
  have hcount := partsS_count a
  refine range_throws (n := 3) ⟨_, Try.func48⟩ (gf := 65) (lb := #[.pointer (some ⟨w.heap.size + 1, 0, none⟩)]) rfl (enters_of Try.func65 (by kernel_rfl) rfl)
    (parts_throws 3 (by omega) (w.heap.size + 1) a ha W0 (by omega) bA.cell) (fun _ => rfl)
    (fun pre W => (∃ v, Boxed W w.heap.size 49 v ∧ W.ownsRow w.heap.size 9 1 v ((fT pre).getD []).length (tS ((fT pre).getD [])) ∧ True) ∧ ((fT pre).isSome = true ∧ Below w.heap.size w W))
    (fun ch pre W => ch = [{ v := .iface 29 (.int .i64 38), recovered := false }] ∧ fT pre = none ∧ Below w.heap.size w W)
    (OwnFrom.and (Own.from (holdsRow_own _ _ _ _ _ _ _ (fun _ _ => True)) _) (OwnFrom.and (ownFrom_pure _ _) (ownFrom_below (Nat.le_refl _) (by omega))))
    ⟨⟨_, bK, World.ownsRow_nil _ _ _ _, trivial⟩, rfl, hB0⟩
    (fun x => { tmps := #[.pointer (some ⟨Bp, 0, none⟩), .pointer (some ⟨Bc, 0, none⟩), .pointer (some ⟨w.heap.size, 0, none⟩), .string (S x.1), undef, .string (S a), .func (.func 65) #[] #[.pointer (some ⟨w.heap.size + 1, 0, none⟩)], .string (S x.1), undef, undef, undef, undef, undef, undef, undef, undef, undef], defers := [] }) ?assign ?body ?done ?dies
  case assign =>
    intro l x W K hK
    gi_wp2
    exact hK
  case body =>
    rintro l pre x W ⟨⟨v, hv, hrow, -⟩, hsome, hB⟩ hlen
    obtain ⟨K, hK⟩ := Option.isSome_iff_exists.1 hsome
    have hsn := foldS_snoc [] (pre.map (·.1)) x.1 K (by exact hK)
    have hKl : K.length ≤ pre.length := by have := foldS_len _ _ _ hK; simpa using this
    rw [hK] at hrow
    simp only [Option.getD_some] at hrow
    have hfo := hid (follow_all w.heap.size v K x.1 x.2 (by omega) W hB.size hrow)
    have hsn' : fT (pre ++ [x]) = folS K x.1 := by unfold fT; rw [List.map_append]; exact hsn
    have hte : 49 ≠ 9 := by decide
    have cv := hv.cell
    have fv := hv.frozen
    obtain ⟨hHv, hHrow, hHB, hHsn⟩ : Hid (Boxed W w.heap.size 49 v) ∧ Hid (W.ownsRow w.heap.size 9 1 v K.length (tS K)) ∧ Hid (Below w.heap.size w W) ∧ Hid (fT (pre ++ [x]) = folS K x.1) := ⟨hid hv, hid hrow, hid hB, hid hsn'⟩
    clear hv hrow hB hsn hsn' hsome hK
    gi_wp2_with (refine ⟨trivial, ?_⟩; gi_at_call 50; refine (CallsIn.inRound l (callsIn_wide.2 hfo.out)).mono ?_; clear hfo; rintro e w' (⟨K', v', hf, rfl, ho, (rfl | hg)⟩ | ⟨hf, rfl, rfl⟩) <;>
      first
        | (have hap := hid (Boxed.appended hHv.out hte hHrow.out hHB.out.size (Nat.le_refl _) ho hg); obtain ⟨a9, c9, rfl⟩ := owns_slice1 ho; have hHo := hid ho; have hc1 := hap.out.1.cell; have hf1 := hap.out.1.frozen; clear ho hg; try clear cv fv)
        | (obtain ⟨a9, c9, rfl⟩ := owns_slice1 ho; have hHo := hid ho; clear ho)
        | skip)
    · have h5 := hHsn.out.trans hf
      refine ⟨KeepsOthers.setCell _ _ _, ⟨_, hHv.out.set _, ?_⟩, by rw [h5]; rfl, hHB.out.setCell (p := ⟨w.heap.size, 0, none⟩) (Nat.le_refl _) _⟩
      rw [h5]
      exact hHo.out.kept (grownBy_setCell' W w.heap.size _) (.inr (hHv.out.not_row hte hHo.out).symm)
    · have h5 := hHsn.out.trans hf
      obtain ⟨_, h6, h7, h8, h9⟩ := hap.out
      refine ⟨h8, ⟨_, h6, ?_⟩, by rw [h5]; rfl, hHB.out.trans h9⟩
      rw [h5]
      exact h7
    · exact ⟨KeepsOthers.refl _, hHsn.out.trans hf, hHB.out⟩
  case done =>
    rintro D zs W hD hZ ⟨⟨v, hv, hrow, -⟩, hsome, hB⟩ hK
    obtain ⟨K, hKf⟩ := Option.isSome_iff_exists.1 hsome
    rw [hKf] at hrow
    simp only [Option.getD_some] at hrow
    have hfold : foldS [] (partsS a) = some K := by rw [← hZ]; exact hKf
    have hKl : K.length ≤ 10000001 := by have := foldS_len _ _ _ hfold; simp at this; omega
    have hgl := glue_len K (foldS_ok _ _ _ hfold (by simp))
    have hj := hid (join_all w.heap.size v K (by omega) (by omega) W hrow)
    have cv := hv.cell
    have hmn := hid (show meantS a = if okPath (glueS K) = true then some (glueS K) else none by unfold meantS; rw [hfold])
    have hlt : D < W.heap.size := (Array.getElem?_eq_some_iff.1 hK).1
    obtain ⟨hHK, hHB⟩ : Hid (W.heap[D]? = some (.deferred (some []))) ∧ Hid (Below w.heap.size w W) := ⟨hid hK, hid hB⟩
    clear hrow hv hK hB hsome hKf hZ hfold
    refine at_seq (at_of_wpIn (n := 4) ?_)
    gi_wp2_with (refine ⟨trivial, ?_⟩; gi_at_call 51; refine (callsIn_wide.2 hj.out).mono ?_; rintro e w1 ⟨rfl, hb1⟩)
    have hK1 := hid ((hb1.block D hlt).trans hHK.out)
    have hB1 := hid (hHB.out.trans (hb1.mono hHB.out.size))
    refine at_seq (at_of_wpIn (n := 4) ?_)
    have hck := hid (check_any (glueS K) (by omega) w1)
    by_cases hok : okPath (glueS K) = true
    · rw [pathErr_ok hok] at hck
      gi_wp2_with (refine ⟨trivial, ?_⟩; first
        | (gi_at_call 20; refine (callsIn_wide.2 hck.out).mono ?_; rintro e w2 ⟨rfl, hb2⟩)
        | (gi_at_call 52; refine (callsIn_wide.2 (must_fine _)).mono ?_; rintro e w3 ⟨rfl, rfl⟩))
      have hlt1 : D < w1.heap.size := (Array.getElem?_eq_some_iff.1 hK1.out).1
      have hK2 := hid ((hb2.block D hlt1).trans hK1.out)
      have hB2 := hid (hB1.out.trans (hb2.mono hB1.out.size))
      have bC2 : Boxed w2 Bc 9 (.string (S u)) := (hB2.out.block Bc hlc.out).trans bC
      have cC := bC2.cell
      have fC := bC2.frozen
      have hHC := hid bC2
      clear bC2
      refine at_of_wpIn (n := 4) ?_
      gi_wp2
      have hK3 := (KeepsOthers.setCell w2 ⟨Bc, 0, none⟩ (.string (S (glueS K)))).same D _ hK2.out rfl
      refine ⟨by simp, .inl ⟨_, _, rfl, run_takeDeferred hK3, ?_⟩⟩
      refine ⟨.tuple #[], results_none rfl _ _ _, .inl ⟨glueS K, by rw [hmn.out, if_pos hok], rfl, ?_, ?_⟩⟩
      · exact ((Kept.of_below hB2.out : Kept [Bc] w w2).setCell (p := ⟨Bc, 0, none⟩) (fun _ => by simp) _).trans' (Kept.of_row (grownBy_putObj' _ D _)) (fun x hx hm => by simp at hm; omega)
      · exact (hHC.out.set _).kept (grownBy_putObj' _ D _) (by have := hlc.out; simp; omega)
    · have hok' : okPath (glueS K) = false := by simpa using hok
      rw [pathErr_no hok'] at hck
      have hmt := hid (must_thrown 38 rfl)
      gi_wp2_with (refine ⟨trivial, ?_⟩; first
        | (gi_at_call 20; refine (callsIn_wide.2 hck.out).mono ?_; rintro e w2 ⟨rfl, hb2⟩)
        | (gi_at_call 52; refine (callsIn_wide.2 (hmt.out _)).mono ?_; rintro e w3 ⟨rfl, rfl⟩))
      have hlt1 : D < w1.heap.size := (Array.getElem?_eq_some_iff.1 hK1.out).1
      have hK2 := hid ((hb2.block D hlt1).trans hK1.out)
      have hB2 := hid (hB1.out.trans (hb2.mono hB1.out.size))
      refine ⟨by simp, .inl ⟨_, _, rfl, run_takeDeferred hK2.out, ?_⟩⟩
      exact .inr ⟨by rw [hmn.out, if_neg hok], rfl, Kept.of_below (hB2.out.trans (belowK_b (w := w) (Nat.le_refl _) w2 D _ _ (by omega) hK2.out rfl rfl))⟩
  case dies =>
    rintro D ch xs rest W hD hZ ⟨rfl, hf, hB⟩ hK
    have hno : meantS a = none := by
      unfold meantS
      rw [← hZ, List.map_append, foldS_dead _ _ _ hf]
    refine ⟨by simp, .inl ⟨_, _, rfl, run_takeDeferred hK, ?_⟩⟩
    exact .inr ⟨hno, rfl, Kept.of_below (hB.trans (belowK_b (w := w) (Nat.le_refl _) W D _ _ (by omega) hK rfl rfl))⟩
end Go.Proofs.Ytignphegdigalaa
