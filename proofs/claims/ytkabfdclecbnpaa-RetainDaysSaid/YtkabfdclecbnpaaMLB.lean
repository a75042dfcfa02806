import Derived.Test.YtkabfdclecbnpaaML7
import Derived.Test.YtkabfdclecbnpaaL0

/- retain.Days: what it needs: the library's comparison, a sort of nothing, what is left of a falling row. -/
namespace Go.Proofs.Ytkabfdclecbnpaa
open Go.RowKit Go.Lib Go.Sort Go.Shelf

theorem nan_no (x : Int) (w : World) : Calls Try.prog 44 #[.int .i64 x] w fun e w' => e = .returned (.bool false) ∧ w' = w := by
  have hb : (x != x) = false := by simp
  go_enter Try.func44, Try.ntmps44
  go_wp2
  go_ret
  exact ⟨rfl, rfl⟩
theorem cmp_of (x y : Int) (w : World) : Calls Try.prog 30 #[.int .i64 x, .int .i64 y] w fun e w' => e = .returned (.int .i64 (compareInt x y)) ∧ w' = w := by
  unfold compareInt
  have hn := hid nan_no
  by_cases h1 : x < y
  · rw [if_pos h1]
    have hb : decide (x < y) = true := decide_eq_true h1
    go_enter Try.func30, Try.ntmps30
    go_wp2_with (refine (hn.out _ _).mono ?_; rintro e w' ⟨rfl, rfl⟩)
    go_ret
    exact ⟨rfl, rfl⟩
  · rw [if_neg h1]
    have hb : decide (x < y) = false := decide_eq_false h1
    by_cases h2 : x > y
    · rw [if_pos h2]
      have hb2 : decide (x > y) = true := decide_eq_true h2
      go_enter Try.func30, Try.ntmps30
      go_wp2_with (refine (hn.out _ _).mono ?_; rintro e w' ⟨rfl, rfl⟩)
      go_ret
      exact ⟨rfl, rfl⟩
    · rw [if_neg h2]
      have hb2 : decide (x > y) = false := decide_eq_false h2
      go_enter Try.func30, Try.ntmps30
      go_wp2_with (refine (hn.out _ _).mono ?_; rintro e w' ⟨rfl, rfl⟩)
      go_ret
      exact ⟨rfl, rfl⟩
theorem day_cmp (x y : Int) (w : World) : Calls Try.prog 29 #[.int .i64 x, .int .i64 y] w fun e w' => e = .returned (.int .i64 (compareInt y x)) ∧ w' = w := by
  have hc := hid (cmp_of y x)
  go_enter Try.func29, Try.ntmps29
  go_wp2_with fail
  refine (hc.out _).mono ?_
  rintro e w' ⟨rfl, rfl⟩
  go_wp2
  go_ret
  exact ⟨rfl, rfl⟩
theorem day_enters : ∀ args w, (callFunc 29 args).run Try.prog w = .ok (.enter 29 args) w := enters_of Try.func29 (by kernel_rfl) rfl

set_option maxRecDepth 100000 in
theorem ins_nil2 (fv : Value) (w : World) :
    Calls Try.prog 53 #[.slice none 0 0, .int .i64 0, .int .i64 0, fv] w fun e w' => e = .returned (.tuple #[]) ∧ w = w' := by
  go_enter Try.func53, Try.ntmps53
  go_wp2_with fail
  go_loopw [8] (fun a wr => a = .int .i64 1 ∧ wr = w) (fun _ _ => 0)
  case atStart => exact ⟨rfl, rfl⟩
  case round =>
    obtain ⟨rfl, rfl⟩ := hrel
    go_wp2
    go_end0
    exact ⟨rfl, rfl⟩
set_option maxRecDepth 100000 in
set_option maxHeartbeats 2000000 in
theorem pdq_nil2 (lim : Int) (fv : Value) (w : World) :
    Calls Try.prog 42 #[.slice none 0 0, .int .i64 0, .int .i64 0, .int .i64 lim, fv] w fun e w' => e = .returned (.tuple #[]) ∧ w = w' := by
  have hi := hid (ins_nil2 fv)
  go_enter Try.func42, Try.ntmps42
  go_wp2_with fail
  refine wp_loop_rounds 1 ?_
  rw [rounds_succ]
  go_wp2_with fail
  refine (hi.out _).mono ?_
  rintro e w' ⟨rfl, rfl⟩
  go_wp2
  (try simp only [Exit.inBlock, Exit.then])
  refine bodyPost_ret (results_none rfl _ _ _) rfl ?_
  exact ⟨rfl, rfl⟩
set_option maxRecDepth 100000 in
theorem sort_nil2 (fv : Value) (w : World) :
    Calls Try.prog 28 #[.slice none 0 0, fv] w fun e w' => e = .returned (.tuple #[]) ∧ w = w' := by
  have hp := hid (fun lim => pdq_nil2 lim fv)
  have hl := hid (fun W => Try.bits_Len 0 W (by omega) (by omega))
  go_enter Try.func28, Try.ntmps28
  go_wp2_with fail
  refine (hl.out _).mono ?_
  rintro e w' ⟨rfl, rfl⟩
  go_wp2_with fail
  refine (hp.out _ _).mono ?_
  rintro e w' ⟨rfl, rfl⟩
  go_wp2
  go_end0
  exact ⟨rfl, rfl⟩

/-- A number of 64 bits. -/
def iv (k : Int) : Value := .int .i64 k
def cfD (x y : Int) : Int := compareInt y x
theorem ltD (x y : Int) : ltOf cfD x y = decide (y < x) := by
  unfold ltOf cfD compareInt
  rw [decide_eq_decide]
  split
  · simp_all
  · split <;> simp_all
theorem swoD : SWO (ltOf cfD) where
  irrefl x := by rw [ltD]; simp
  trans x y z := by simp only [ltD, decide_eq_true_eq]; omega
  ntrans x y z := by simp only [ltD, decide_eq_false_iff_not]; omega
/-- What is left of a row that does not rise, when each run is one: a falling row of the same numbers. -/
theorem compact_down (zs : List Int) (h : zs.Pairwise (· ≥ ·)) : (compact zs).Pairwise (· > ·) ∧ ∀ k, k ∈ compact zs ↔ k ∈ zs := by
  have hg : ∀ j, j < zs.length → (zs.toArray[j]!) = zs[j]! := fun j hj => by simp [hj]
  have hle : ∀ i j, i ≤ j → j < zs.length → zs[j]! ≤ zs[i]! := fun i j hij hj => by
    rw [List.pairwise_iff_getElem] at h
    rcases Nat.lt_or_eq_of_le hij with h1 | rfl
    · have := h i j (by omega) hj h1
      rw [getElem!_pos zs i (by omega), getElem!_pos zs j hj]; exact this
    · exact Int.le_refl _
  unfold compact compactUpTo
  constructor
  · rw [List.pairwise_map]
    refine List.Pairwise.imp_of_mem ?_ (List.Pairwise.filter _ List.pairwise_lt_range)
    intro a b ha hb hab
    simp only [List.mem_filter, List.mem_range] at ha hb
    obtain ⟨hb1, hb2⟩ := hb
    simp only [keeps, decide_eq_true_eq] at hb2
    rw [hg a ha.1, hg b hb1]
    rw [hg b hb1, hg (b - 1) (by omega)] at hb2
    have h1 := hle a (b - 1) (by omega) (by omega)
    have h2 := hle (b - 1) b (by omega) hb1
    have h3 : zs[b]! ≠ zs[b - 1]! := by
      rcases hb2 with h | h
      · omega
      · exact h
    show zs[a]! > zs[b]!
    omega
  · intro k
    simp only [List.mem_map, List.mem_filter, List.mem_range]
    constructor
    · rintro ⟨a, ⟨ha, _⟩, rfl⟩
      rw [hg a ha, getElem!_pos zs a ha]
      exact List.getElem_mem _
    · intro hk
      obtain ⟨j, hj, e⟩ := List.getElem_of_mem hk
      -- the first place at which it stands
      have : ∃ a, a < zs.length ∧ zs[a]! = k ∧ ∀ b, b < a → zs[b]! ≠ k := by
        clear hg hle h
        induction j using Nat.strongRecOn with
        | ind j ih =>
          by_cases hb : ∃ b, b < j ∧ zs[b]! = k
          · obtain ⟨b, hbj, hbk⟩ := hb
            exact ih b hbj (by omega) (by rw [← hbk, getElem!_pos zs b (by omega)])
          · exact ⟨j, hj, by rw [getElem!_pos zs j hj]; exact e, fun b hbj hbk => hb ⟨b, hbj, hbk⟩⟩
      obtain ⟨a, ha, hak, hfirst⟩ := this
      refine ⟨a, ⟨ha, ?_⟩, by rw [hg a ha, hak]⟩
      simp only [keeps, decide_eq_true_eq]
      by_cases h0 : a = 0
      · exact Or.inl h0
      · right
        rw [hg a ha, hg (a - 1) (by omega), hak]
        exact fun e => hfirst (a - 1) (by omega) e.symm
/-- The days of a list. -/
structure DaysOf (xs : List Sq) (d : Int) (ds : List Int) : Prop where
  down : ds.Pairwise (· > ·)
  mem : ∀ k, k ∈ ds ↔ ∃ s, s ∈ xs ∧ s.1.time / d = k
end Go.Proofs.Ytkabfdclecbnpaa


/- retain.Days. -/
namespace Go.Proofs.Ytkabfdclecbnpaa
open Go.RowKit Go.Lib Go.Sort Go.Shelf

theorem info_i64_r : (Try.prog.info? 2).map (fun i => (i.zero, i.size, i.bytes)) = some (some (.int .i64 0), 1, 8) := by kernel_rfl
theorem build_i64 (x : Int) (W : World) : (Instr.buildSlice 33 1 #[(0, .int .i64 x)]).run Try.prog W = .ok (.slice (some ⟨W.heap.size, 0, none⟩) 1 1) (W.alloc (.cells #[.int .i64 x] 2)) := by kernel_rfl
def dayL (xs : List Sq) (d : Int) : List Int := xs.map fun s => s.1.time / d
theorem oneI : OneCell iv := fun _ => rfl
/-- The library's sort over the days, then its cut. -/
theorem days_sort (zs : List Int) (hz : zs.length ≤ 1000000) (g cap base : Nat) (w : World) (hne : zs ≠ []) (hgb : base ≤ g)
    (ho : w.ownsRow base 2 1 (.slice (some ⟨g, 0, none⟩) zs.length cap) zs.length (zs.map iv)) :
    Calls Try.prog 28 #[.slice (some ⟨g, 0, none⟩) zs.length cap, .func (.func 29) #[] #[]] w fun e w' =>
      e = .returned (.tuple #[]) ∧ Kept [g] w w' ∧ ∃ ys : List Int, ys.Perm zs ∧ ys.Pairwise (· ≥ ·) ∧ w'.ownsRow base 2 1 (.slice (some ⟨g, 0, none⟩) zs.length cap) zs.length (ys.map iv) := by
  rcases ho.2 with ⟨h2, _⟩ | ⟨g', cap', cur, h2, hbg, hh, hc, hmx, hcs, htk⟩
  · exact absurd h2 (by simp)
  simp at h2
  obtain ⟨rfl, rfl⟩ := h2
  have hsz : zs.toArray.size = zs.length := by simp
  have hH : Holds iv w g 0 zs.toArray := holds_row hsz hh (by rw [Nat.mul_one] at htk; simpa using htk)
  have hs := Try.slices_SortFunc iv oneI cfD swoD 29 #[] g 0 cap zs.toArray w day_enters
    (fun m os dk _ x y => (day_cmp x y _).mono (by rintro e w' ⟨rfl, rfl⟩; exact ⟨rfl, 0, #[], by rw [grow_empty]; rfl⟩)) hH (lt_of_block hh) (by rw [hsz]; omega)
  rw [hsz] at hs
  refine hs.mono ?_
  rintro e w' ⟨rfl, d', q, os, hp, hso, rfl⟩
  have hz' : d'.size = zs.length := by rw [hp.1, hsz]
  refine ⟨rfl, kept_sort1 _ _ _ _ _, d'.toList, ?_, ?_, owns_sort1 hz' hgb hh hc hmx hcs⟩
  · have h3 := hp.2.2
    rw [ext_all d' _ hz', ext_all zs.toArray _ hsz] at h3
    exact h3
  · rw [List.pairwise_iff_getElem]
    intro i j hi hj hij
    have hi' : i < d'.size := by simpa using hi
    have hj' : j < d'.size := by simpa using hj
    have h := hso i j (Nat.zero_le _) hij (by omega)
    rw [getElem!_pos d' i hi', getElem!_pos d' j hj', ltD] at h
    simp only [Array.getElem_toList]
    have := of_decide_eq_false h
    show d'[i] ≥ d'[j]
    omega
theorem days_compact (ys : List Int) (hz : ys.length ≤ 1000000) (g cap base n : Nat) (hn : n = ys.length) (w : World) (hgb : base ≤ g)
    (ho : w.ownsRow base 2 1 (.slice (some ⟨g, 0, none⟩) n cap) n (ys.map iv)) :
    Calls Try.prog 31 #[.slice (some ⟨g, 0, none⟩) n cap] w fun e w' =>
      e = .returned (.slice (some ⟨g, 0, none⟩) (compact ys).length cap) ∧ Kept [g] w w' ∧ w'.ownsRow base 2 1 (.slice (some ⟨g, 0, none⟩) (compact ys).length cap) (compact ys).length ((compact ys).map iv) := by
  subst hn
  rcases ho.2 with ⟨h2, _⟩ | ⟨g', cap', cur, h2, hbg, hh, hc, hmx, hcs, htk⟩
  · exact absurd h2 (by simp)
  simp at h2
  obtain ⟨rfl, rfl⟩ := h2
  have hsz : ys.toArray.size = ys.length := by simp
  have hH : Holds (Value.int .i64) w g 0 ys.toArray := holds_row (enc := iv) hsz hh (by rw [Nat.mul_one] at htk; simpa using htk)
  refine (Try.slices_Compact_int g 0 cap ys w hH (by omega) hc).mono ?_
  rintro e w' ⟨rfl, q, rfl⟩
  have hcl : (compact ys).length ≤ ys.length := by
    unfold compact compactUpTo
    rw [List.length_map]
    exact Nat.le_trans (List.length_filter_le _ _) (by simp)
  obtain ⟨D, hD⟩ : ∃ D : Array Int, D = (compact ys ++ List.replicate (ys.length - (compact ys).length) 0).toArray := ⟨_, rfl⟩
  have hDz : D.size = ys.length := by rw [hD]; simp; omega
  have e : putRow (Value.int .i64) (Sort.ahead w q) g 0 D = sortWorld (Value.int .i64) w g 0 q D #[] := by unfold sortWorld; rw [grow_empty]
  rw [← hD, e]
  refine ⟨rfl, kept_sort1 _ _ _ _ _, ⟨by simp, .inr ⟨g, cap, _, rfl, hgb, heap_sort1 _ hh, by omega, hmx, by simp [putCells, hcs], ?_⟩⟩⟩
  have ht := take_put1 (enc := Value.int .i64) cur D (by omega)
  have h2 : ((putCells (Value.int .i64) 0 D cur).toList.take D.size).take (compact ys).length = (D.toList.map (Value.int .i64)).take (compact ys).length := by rw [ht]
  rw [List.take_take, Nat.min_eq_left (by omega)] at h2
  rw [Nat.mul_one, h2, hD]
  simp [List.map_append, iv]
end Go.Proofs.Ytkabfdclecbnpaa


/- retain.Days: the walk. -/
namespace Go.Proofs.Ytkabfdclecbnpaa
open Go.RowKit Go.Lib Go.Sort Go.Shelf

theorem own_lt1 {w : World} {base : Nat} {e : TypeId} {size : Nat} {v : Value} {n : Nat} {xs : List Value} (h : w.ownsRow base e size v n xs) {g : Nat} (hg : v.ownBlock = some g) : base ≤ g ∧ g < w.heap.size := by
  rcases h.2 with ⟨h1, _⟩ | ⟨g', cap, cur, h1, h2, h3, _⟩
  · rw [h1] at hg; simp [Value.ownBlock] at hg
  · rw [h1] at hg; simp [Value.ownBlock] at hg; subst hg; exact ⟨h2, lt_of_block h3⟩
theorem days_of_compact (xs : List Sq) (d : Int) (ys : List Int) (hp : ys.Perm (dayL xs d)) (hs : ys.Pairwise (· ≥ ·)) : DaysOf xs d (compact ys) := by
  obtain ⟨h1, h2⟩ := compact_down ys hs
  refine ⟨h1, fun k => ?_⟩
  rw [h2, hp.mem_iff]
  unfold dayL
  simp
def DaysAns (base : Nat) (xs : List Sq) (d : Int) (w : World) (e : Ending) (w' : World) : Prop :=
  ∃ v ds, e = .returned v ∧ Kept [] w w' ∧ ds.length ≤ xs.length ∧ w'.ownsRow base 2 1 v ds.length (ds.map iv) ∧ (if d < 1 then ds = [] else DaysOf xs d ds)
theorem compact_len (ys : List Int) : (compact ys).length ≤ ys.length := by
  unfold compact compactUpTo
  rw [List.length_map]
  exact Nat.le_trans (List.length_filter_le _ _) (by simp)

set_option maxRecDepth 100000 in
set_option maxHeartbeats 8000000 in
theorem days_any (a : Option Addr) (c : Nat) (xs : List Sq) (d : Int) (w : World) (h : Snaps w a c xs) (hl : xs.length ≤ 1000) (hd0 : I64 d) :
    Calls Try.prog 12 #[.slice a xs.length c, .int .i64 d] w (DaysAns w.heap.size xs d w) := by
  by_cases hd : d < 1
  · have hdb : decide (d < 1) = true := decide_eq_true hd
    have HD := hid hd
    clear h hd
    go_enter Try.func12, Try.ntmps12
    go_wp2
    go_ret
    exact ⟨_, [], rfl, Kept.refl _ _, by simp, row_none, by rw [if_pos HD.out]⟩
  have hdb : decide (d < 1) = false := decide_eq_false hd
  obtain ⟨i0, hi0, hz0, hz1, hz2⟩ := info_sp info_i64_r
  have H := hid h
  obtain ⟨n, hn⟩ : ∃ n, n = xs.length := ⟨_, rfl⟩
  have HN := hid hn
  have HD := hid hd
  have hdd := hid (show ∀ t : Int, I64 t → ∀ W, Calls Try.prog 20 #[.int .i64 t, .int .i64 d] W fun e w' => e = .returned (.int .i64 (t / d)) ∧ w' = W from fun t ht W => day_of t d (by omega) hd0.2 ht W)
  rw [← hn] at hl ⊢
  clear h hn hd hd0
  have hzv := zero_snap
  have hst := hid (show w.ownsRow w.heap.size 2 1 (.slice none 0 0) 0 [] from row_none)
  go_enter Try.func12, Try.ntmps12
  go_wp2_with fail
  go_loopw [5, 12] (fun v s wr => ∃ i : Nat, i ≤ n ∧ s = .int .i64 i ∧ Hid (v = .slice none 0 0 ↔ i = 0) ∧ Hid (Kept [] w wr) ∧ Hid (wr.ownsRow w.heap.size 2 1 v i ((dayL (xs.take i) d).map iv))) (fun _ s _ => n - (intOf s).toNat)
  case atStart => exact ⟨0, Nat.zero_le _, rfl, hid (by simp), hid (Kept.refl _ _), hst⟩
  case round =>
    clear hst
    obtain ⟨i, hi, rfl, Hnil, HK, Ho⟩ := hrel
    by_cases hlt : i < n
    · have Hlt := hid hlt
      have hltz : (i : Int) < (n : Int) := by omega
      have hSx := hid (H.out.kept' HK.out (by simp))
      cases a with
      | none => exact absurd (hSx.out.nil rfl).1 (fun e => by have := HN.out; rw [e] at this; simp at this; omega)
      | some x =>
        obtain ⟨sq, hsq⟩ : ∃ sq, xs[i]? = some sq := ⟨xs[i]'(by have := HN.out; omega), by simp⟩
        have htk := hid (show (dayL (xs.take (i + 1)) d).map iv = (dayL (xs.take i) d).map iv ++ [iv (sq.1.time / d)] from by
          unfold dayL; rw [List.take_add_one, hsq]; simp)
        obtain ⟨cs, hcs⟩ : ∃ cs, cs = encQ sq := ⟨_, rfl⟩
        have lcs := hid (show cs.length = 37 by rw [hcs, encQ_len])
        have hsz := hid (show (Try.prog.info? 42).map (·.size) = some cs.length by rw [lcs.out]; exact snap_info)
        have hfit := hid (show 0 + cs.length ≤ zSnap.length by rw [lcs.out, zSnap_len]; decide)
        have hspl := hid (splice36 zSnap cs (by rw [lcs.out, zSnap_len]))
        have hreads := hid (show ∀ (k : Nat) v, cs[k]? = some v → wr.cell? ((x.add (i * 37)).add k) = some v from fun k v hv => by
          rw [snap_add_add]; exact hSx.out.at_ x rfl i sq hsq k v (by rw [← hcs]; exact hv))
        have hone := hid (show ∀ u ∈ cs, u.oneCell' = true by rw [hcs]; exact sq.1.one)
        have hc0 := hid (show cs[0]? = some (.int .i64 sq.1.time) by rw [hcs]; exact Sp.c0 sq.1)
        have hti : I64 sq.1.time := ⟨sq.2.t1, sq.2.t2⟩
        obtain ⟨t, ht⟩ : ∃ t, t = sq.1.time := ⟨_, rfl⟩
        rw [← ht] at hc0 hti htk
        have hcall := hid (hdd.out t hti)
        clear hcs hsq hSx hti ht hlt
        go_wp2_with (refine wpList_load_cells rfl 42 (.tmp 14) rfl (x.add (i * 37)) rfl cs _ Try.underlying42 rfl hsz.out hreads.out ?_; refine halt ?_)
        refine Halt.mk ?_
        go_wp2_with (refine wpList_store_at rfl 42 (.tmp 7) (.tmp 15) rfl wr.heap.size 0 cs rfl rfl 42 zSnap (heap_alloc_at rfl) hsz.out hfit.out hone.out ?_; refine halt ?_)
        rw [hspl.out]
        obtain ⟨wb, hwb⟩ : ∃ wb : World, wb = (wr.alloc (.cells zSnap.toArray 42)).setRow wr.heap.size cs.toArray := ⟨_, rfl⟩
        rw [← hwb]
        refine Halt.mk ?_
        have hkr := hid (show Kept [] wr wb by rw [hwb]; exact ((Kept.refl [] wr).alloc _).setRow (fun h => absurd h (Nat.lt_irrefl _)) _)
        have hqb := hid (show wb.heap[wr.heap.size]? = some (.cells cs.toArray 42 (0, 0)) by rw [hwb]; exact setRow_heap _ _ _ _ _ _ (heap_alloc_at rfl))
        have c0 : wb.cell? ⟨wr.heap.size, 0, none⟩ = some (.int .i64 t) := by rw [cell_of_row wb wr.heap.size 0 _ _ _ hqb.out]; simpa using hc0.out
        clear hwb hreads
        go_wp2_with fail
        refine (hcall.out _).mono ?_
        rintro e w1 ⟨rfl, rfl⟩
        have hbi := fun V => build_i64 (t / d) V
        go_wp2_with (at_builtin; refine halt ?_)
        refine Halt.mk ?_
        have hown2 := hid ((hkr.out.trans ((Kept.refl [] w1).alloc (.cells #[.int .i64 (t / d)] 2))).owns Ho.out (by simp))
        have hz := HK.out.size; have hz2' := hkr.out.size
        refine wpList_append_src _ rfl _ _ _ rfl w.heap.size 2 i0 _ 8 Try.underlying33 hi0 hz0 hz1 hz2 rfl u5 i ((dayL (xs.take i) d).map iv) rfl hown2.out (.slice (some ⟨w1.heap.size, 0, none⟩) 1 1) 1 [iv (t / d)] rfl (cell_src (heap_alloc_at rfl)) rfl (by simp [iv, Value.oneCell']) (by unfold maxLen; omega) (by omega) (by simp; omega) ?_
        intro v' w' ho' hgr hn' hg'
        have K' := hid (show Kept [] w w' from ((HK.out.trans hkr.out).trans ((Kept.refl [] w1).alloc _)).trans' (Kept.of_row hgr) (fun y hy hm => by
          rw [Option.mem_toList] at hm
          have := (own_lt1 hown2.out hm).1; omega))
        have N' := hid (show v' = .slice none 0 0 ↔ i + 1 = 0 by rw [hn']; simp)
        have O' := hid (show w'.ownsRow w.heap.size 2 1 v' (i + 1) ((dayL (xs.take (i + 1)) d).map iv) from by rw [htk.out]; exact ho')
        have HLT := Hlt
        clear ho' hgr hn' hg' hown2 hbi hltz hz hz2' c0
        go_wp2
        go_roundw
        case rel => exact ⟨i + 1, HLT.out, by go_num, N', K', O'⟩
        case measure => have := HLT.out; simp [intOf]; omega
    · have hltz : ¬ (i : Int) < (n : Int) := by omega
      have e : i = n := by omega
      subst e
      have hfull := hid (show xs.take i = xs by rw [HN.out, List.take_length])
      by_cases h0 : i = 0
      · have hx : xs = [] := List.eq_nil_of_length_eq_zero (by rw [← HN.out]; exact h0)
        have hv : u5 = .slice none 0 0 := Hnil.out.2 h0
        subst hv
        have HX := hid hx
        have H0 := hid h0
        clear h0 hx
        have hcm := hid (fun W => Try.slices_Compact_int_empty none 0 W)
        go_wp2_with fail
        refine (sort_nil2 _ _).mono ?_
        rintro e w1 ⟨rfl, rfl⟩
        go_wp2_with fail
        refine (hcm.out _).mono ?_
        rintro e w1 ⟨rfl, rfl⟩
        go_wp2
        go_ret
        refine ⟨_, [], rfl, HK.out, by simp, row_none, ?_⟩
        rw [if_neg (show ¬ d < 1 by have := HD.out; omega), HX.out]
        exact ⟨List.Pairwise.nil, by simp⟩
      · rcases Ho.out.2 with ⟨h2, _⟩ | ⟨g, cap, cur, h2, hbg, hh, hc, hmx, hcs, htk⟩
        · exact absurd (Hnil.out.1 h2) h0
        subst h2
        have hown := Ho.out
        rw [hfull.out] at hown
        have hll : (dayL xs d).length = i := by unfold dayL; rw [List.length_map, HN.out]
        rw [← hll] at hown
        have hs := days_sort (dayL xs d) (by rw [hll]; omega) g cap w.heap.size wr (fun e => h0 (by rw [← hll, e]; rfl)) hbg hown
        rw [hll] at hs
        have Hsd := hid hs; have Hll := hid hll; have Hbg := hid hbg
        clear hs hll hbg hh hc hmx hcs htk hown h0
        go_wp2_with fail
        refine Hsd.out.mono ?_
        rintro e w1 ⟨rfl, k1, ys, hp, hpw, hown1⟩
        have K1 := hid k1; have HP := hid hp; have HPW := hid hpw
        have hyl := hid (show i = ys.length by rw [hp.length_eq, Hll.out])
        have hcm := hid (days_compact ys (by rw [← hyl.out]; omega) g cap w.heap.size i hyl.out w1 Hbg.out hown1)
        clear k1 hp hpw hown1 Hsd
        obtain ⟨m, hm⟩ : ∃ m, m = (compact ys).length := ⟨_, rfl⟩
        rw [← hm] at hcm
        have HM := hid hm
        clear hm
        go_wp2_with fail
        refine hcm.out.mono ?_
        rintro e w2 ⟨rfl, k2, hown2⟩
        have K2 := hid k2; have HO := hid hown2
        clear k2 hown2 hcm
        go_wp2
        go_ret
        refine ⟨_, compact ys, rfl, ?_, ?_, by rw [← HM.out]; exact HO.out, ?_⟩
        · exact HK.out.trans' (K1.out.trans K2.out) (fun y hy hm => by simp at hm; have := Hbg.out; omega)
        · have := compact_len ys; rw [← hyl.out] at this; rw [← HN.out]; exact this
        · rw [if_neg (show ¬ d < 1 by have := HD.out; omega)]
          exact days_of_compact xs d ys HP.out HPW.out
end Go.Proofs.Ytkabfdclecbnpaa
