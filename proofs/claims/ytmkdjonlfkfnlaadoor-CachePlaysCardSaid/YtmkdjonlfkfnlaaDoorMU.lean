import Derived.Test.YtmkdjonlfkfnlaaDoorFI

/- coldstorelaw14's []Op as an argument; few. -/
namespace Go.Proofs.YtmkdjonlfkfnlaaDoor
open Go.ChangeShapes Go.WideShapes Go.ChangeAt Go.RowKit Go.Deep Go.Lib Go.Maps
structure OpK where
  kind : Int
  bit : Int
  ba : Option Addr
  bc : Nat
  bs : List UInt8
/-- A row of steps, three cells each, that was handed. -/
def IsStepsK (w : World) (a : Option Addr) (ops : List OpK) : Prop :=
  (a = none → ops = []) ∧ ∀ x, a = some x → ∀ i o, ops[i]? = some o → w.cell? (x.add (i * 3)) = some (.int .i64 o.kind) ∧ w.cell? ⟨(x.add (i * 3)).block, (x.add (i * 3)).off + 1, none⟩ = some (.int .i64 o.bit) ∧
    w.cell? ⟨(x.add (i * 3)).block, (x.add (i * 3)).off + 2, none⟩ = some (.slice o.ba o.bs.length o.bc) ∧ SrcB w (.slice o.ba o.bs.length o.bc) o.bs ∧ o.bs.length ≤ o.bc ∧ o.bc ≤ 9223372036854775807 ∧ -9223372036854775808 ≤ o.bit ∧ o.bit ≤ 9223372036854775807
def FewK (ops : List OpK) : Prop := (∀ o ∈ ops, o.bs.length ≤ 100) ∧ ops.length ≤ 30
instance (ops : List OpK) : Decidable (FewK ops) := by unfold FewK; infer_instance
set_option maxHeartbeats 1000000 in
theorem few14 (a : Option Addr) (c : Nat) (ops : List OpK) (w : World) (h : IsStepsK w a ops) (hm : ops.length ≤ 9223372036854775807) :
    Calls Tryd.prog 6 #[.slice a ops.length c] w fun e w' => e = .returned (.bool (decide (FewK ops))) ∧ Kept [] w w' := by
  have H := hid h
  clear h
  go_enter Tryd.func6, Tryd.ntmps6
  go_wp2_with fail
  go_loopw [7] (fun s wr => ∃ i : Nat, i ≤ ops.length ∧ s = .int .i64 i ∧ Kept [] w wr ∧ ∀ j o, j < i → ops[j]? = some o → o.bs.length ≤ 100) (fun s _ => ops.length - (intOf s).toNat)
  case atStart => exact ⟨0, Nat.zero_le _, rfl, Kept.refl _ _, fun j o hj => absurd hj (by omega)⟩
  case round =>
    obtain ⟨i, hi, rfl, hkw, hall⟩ := hrel
    by_cases hlt : i < ops.length
    · cases a with
      | none => exact absurd (H.out.1 rfl) (fun e => by rw [e] at hlt; simp at hlt)
      | some x =>
        obtain ⟨c0, c1, c2, hsrc, hn, hl, _, _⟩ := H.out.2 x rfl i ops[i] (by simp [hlt])
        have g0 := (hkw.cell (World.block_lt_of_cell? w _ c0) (by simp)).trans c0
        have g1 := (hkw.cell (World.block_lt_of_cell? w _ c1) (by simp)).trans c1
        have g2 := (hkw.cell (World.block_lt_of_cell? w _ c2) (by simp)).trans c2
        have Hkw := hid hkw
        have Hall := hid hall
        clear c0 c1 c2 hsrc hkw hall hn hl
        by_cases hok : ops[i].bs.length ≤ 100
        · have e2 : ¬ (100 : Int) < (ops[i].bs.length : Int) := by omega
          have HOK := hid hok
          clear hok
          go_wp2
          go_roundw
          case rel => exact ⟨i + 1, by omega, by go_num, Hkw.out.alloc _, fun j o hj ho => by
            rcases Nat.lt_or_ge j i with h | h
            · exact Hall.out j o h ho
            · have : j = i := by omega
              subst this
              simp [hlt] at ho
              subst ho
              exact HOK.out⟩
          case measure => simp [intOf]; omega
        · have HB := hid (show decide (FewK ops) = false from by
            simp only [decide_eq_false_iff_not]
            exact fun h => hok (h.1 _ (List.getElem_mem hlt)))
          have e2 : (100 : Int) < (ops[i].bs.length : Int) := by omega
          clear hok
          go_wp2
          go_ret
          exact ⟨by rw [HB.out]; rfl, Hkw.out.alloc _⟩
    · have hin : i = ops.length := by omega
      subst hin
      have Hkw := hid hkw
      have hb : decide (FewK ops) = decide ((ops.length : Int) ≤ 30) := by
        rw [decide_eq_decide]
        refine ⟨fun h => by have := h.2; omega, fun h => ⟨fun o ho => ?_, by omega⟩⟩
        obtain ⟨j, hj, rfl⟩ := List.getElem_of_mem ho
        exact hall j _ hj (by simp [hj])
      have HB := hid hb
      clear hkw hall hb
      go_wp2
      go_ret
      exact ⟨by rw [HB.out]; rfl, Hkw.out⟩

section
variable {H : Type} {enc : TypeId × Value → H} {w : World} {base : Nat} {held : Bool}
theorem list_ofK {α : Type} {p : Nat → α → Prop} : ∀ n, (∀ i, i < n → ∃ o, p i o) → ∃ ops : List α, ops.length = n ∧ ∀ i o, ops[i]? = some o → p i o
  | 0, _ => ⟨[], rfl, fun i o ho => by simp at ho⟩
  | n + 1, h => by
    obtain ⟨ops, hl, hp⟩ := list_ofK n (fun i hi => h i (by omega))
    obtain ⟨o, ho⟩ := h n (by omega)
    refine ⟨ops ++ [o], by simp [hl], fun i o' hi => ?_⟩
    rcases Nat.lt_or_ge i ops.length with h1 | h1
    · rw [List.getElem?_append_left h1] at hi
      exact hp i o' hi
    · rw [List.getElem?_append_right h1] at hi
      have h2 : i - ops.length = 0 := by
        rcases Nat.eq_zero_or_pos (i - ops.length) with h2 | h2
        · exact h2
        · rw [List.getElem?_eq_none (by simp; omega)] at hi; simp at hi
      rw [h2] at hi
      simp at hi
      subst hi
      have : i = n := by omega
      exact this ▸ ho
set_option maxRecDepth 100000 in
set_option maxHeartbeats 2000000 in
theorem open_stepsK {fuel : Nat} {a : Option Addr} {len cap : Nat} {y : DataW H × List MemPlace} (h : DataW.trod enc Tryd.prog w base (fun _ => true) held fuel 22 [.slice a len cap] = some y) :
    ∃ ops : List OpK, ops.length = len ∧ IsStepsK w a ops ∧ len ≤ 9223372036854775807 := by
  have hC : Tryd.prog.cellsOf 32 = 3 := by kernel_rfl
  rcases open_slice Tryd.underlying22 h with ⟨hcs, _⟩ | ⟨x, l, c, m, n, D, Pl, hcs, hb, hl, hm, hmm, _, hi⟩
  · simp at hcs
    obtain ⟨rfl, rfl, rfl⟩ := hcs
    exact ⟨[], rfl, ⟨fun _ => rfl, fun x hx => by simp at hx⟩, by omega⟩
  · simp at hcs
    obtain ⟨rfl, rfl, rfl⟩ := hcs
    obtain ⟨ops, hol, hops⟩ := list_ofK (p := fun i (o : OpK) => w.cell? (x.add (i * 3)) = some (.int .i64 o.kind) ∧ w.cell? ⟨(x.add (i * 3)).block, (x.add (i * 3)).off + 1, none⟩ = some (.int .i64 o.bit) ∧
    w.cell? ⟨(x.add (i * 3)).block, (x.add (i * 3)).off + 2, none⟩ = some (.slice o.ba o.bs.length o.bc) ∧ SrcB w (.slice o.ba o.bs.length o.bc) o.bs ∧ o.bs.length ≤ o.bc ∧ o.bc ≤ 9223372036854775807 ∧ -9223372036854775808 ≤ o.bit ∧ o.bit ≤ 9223372036854775807) len (fun i hil => by
      obtain ⟨cs, hc, ht⟩ := hi i (by simp at hmm; omega)
      rw [hC] at hc
      obtain ⟨_, hcl, hat⟩ := World.cells?_some hc
      obtain ⟨xs, n', _, _, _, hxl, hf⟩ := DataW.trod_struct Tryd.underlying32 ht
      match cs, hcl with
      | [v0, v1, v2], _ =>
        have c0 := hat 0 (by omega)
        have c1 := hat 1 (by omega)
        have c2 := hat 2 (by omega)
        have k0 : Tryd.prog.cellsOf 3 = 1 := by kernel_rfl
        have k2 : Tryd.prog.cellsOf 30 = 1 := by kernel_rfl
        have f0 := hf 0 _ rfl
        have f1 := hf 1 _ rfl
        have f2 := hf 2 _ rfl
        simp [k0, k2] at f0 f1 f2 hxl c0 c1 c2
        obtain ⟨z0, e0, _, _⟩ := DataW.trod_int Tryd.underlying3 (f0.trans (List.getElem?_eq_getElem (show 0 < xs.length by omega)))
        obtain ⟨z1, e1, _, w1⟩ := DataW.trod_int Tryd.underlying3 (f1.trans (List.getElem?_eq_getElem (show 1 < xs.length by omega)))
        obtain ⟨ba, bc, bs, rfl, hs, hbl, hbc⟩ := src_of_trodC (f2.trans (List.getElem?_eq_getElem (show 2 < xs.length by omega)))
        simp at e0 e1
        subst e0 e1
        have hx0 : x.add (i * 3) = (x.add (i * 3)).add 0 := by unfold Addr.add; simp
        have b1 := bounds_i64 w1
        exact ⟨⟨z0, z1, ba, bc, bs⟩, by rw [hx0]; exact c0, c1, c2, hs, hbl, hbc, b1.1, b1.2⟩)
    exact ⟨ops, hol, ⟨fun h => by simp at h, fun y hy i o ho => by simp at hy; subst hy; exact hops i o ho⟩, by unfold maxLen at hm; omega⟩
end
end Go.Proofs.YtmkdjonlfkfnlaaDoor


/- A map from sums to texts, of which no more is told than that it is one. -/
namespace Go.Proofs.YtmkdjonlfkfnlaaDoor
open Go.RowKit Go.Lib Go.Maps
def textR (v : Value) : Option (DataW Value × List MemPlace) := match v with
  | .string s => some (.held (.string s), [])
  | _ => none
def TM (w : World) (b n : Nat) : Prop := ∃ D, w.ownsMap Tryd.prog 34 textR b n D
theorem TM.kept {S : List Nat} {w w' : World} {b n : Nat} (h : TM w b n) (hk : Kept S w w') (hb : b ∉ S) : TM w' b n := by
  obtain ⟨D, h1⟩ := h
  exact ⟨D, hk.ownsMap h1 hb⟩
theorem zero_tx (w : World) : (zeroValue 9).run Tryd.prog w = .ok (.string ByteArray.empty) w := by kernel_rfl
theorem tm_made (w : World) : TM (w.alloc (.map #[] 0)) w.heap.size 0 := ⟨_, World.ownsMap_made w _ _ _⟩
end Go.Proofs.YtmkdjonlfkfnlaaDoor


/- CacheKeeps. -/
namespace Go.Proofs.YtmkdjonlfkfnlaaDoor
open Go.RowKit Go.Lib Go.Maps
theorem evict_small (lim : Int) (k : Nat) (l : List (List UInt8 × List UInt8)) (h : (k : Int) ≤ lim) : (szD (evict lim k l) : Int) + k ≤ lim := by
  induction l with
  | nil => simp [evict, szD]; exact h
  | cons e r ih =>
    unfold evict
    split
    · exact ih
    · omega
theorem putD_size {lim : Int} {l : List (List UInt8 × List UInt8)} (ys : List UInt8) (h : (szD l : Int) ≤ lim) : (szD (putD lim l ys) : Int) ≤ lim := by
  unfold putD
  split
  · have := szD_drop (Sha.sum ys) l; omega
  · rename_i hlt
    have := evict_small lim ys.length (dropD (Sha.sum ys) l) (by omega)
    rw [szD_app]
    simp [szD] at this ⊢
    omega
theorem putD_len (lim : Int) (l : List (List UInt8 × List UInt8)) (ys : List UInt8) : (putD lim l ys).length ≤ l.length + 1 := by
  have hl : (dropD (Sha.sum ys) l).length ≤ l.length := List.length_filter_le _ _
  unfold putD
  split
  · omega
  · have h2 := evict_len lim ys.length (dropD (Sha.sum ys) l)
    simp
    omega
theorem find_drop {id : List UInt8} {l : List (List UInt8 × List UInt8)} {bs : List UInt8} (h : findD id l = some bs) : szD (dropD id l) + bs.length ≤ szD l ∧ (dropD id l).length + 1 ≤ l.length := by
  induction l with
  | nil => simp [findD] at h
  | cons e r ih =>
    have e1 : dropD id (e :: r) = if e.1 = id then dropD id r else e :: dropD id r := by
      unfold dropD
      rw [List.filter_cons]
      by_cases he : e.1 = id <;> simp [he]
    have e2 : szD (e :: r) = e.2.length + szD r := by unfold szD; simp
    have h1 := szD_drop id r
    have h2 : (dropD id r).length ≤ r.length := List.length_filter_le _ _
    unfold findD at h
    rw [e1, e2]
    by_cases he : e.1 = id
    · rw [if_pos he] at h ⊢
      rw [Option.some.inj h]
      exact ⟨by omega, by simp; omega⟩
    · rw [if_neg he] at h ⊢
      have h3 := ih h
      have e3 : szD (e :: dropD id r) = e.2.length + szD (dropD id r) := by unfold szD; simp
      rw [e3]
      exact ⟨by omega, by simp; omega⟩
theorem getO_find {id : List UInt8} {l : List (List UInt8 × List UInt8)} {bs : List UInt8} (h : getO id l = some bs) : findD id l = some bs ∧ Sha.sum bs = id := by
  unfold getO at h
  split at h
  · rename_i b hb
    split at h
    · rename_i hs
      have := Option.some.inj h
      subst this
      exact ⟨hb, hs⟩
    · cases h
  · cases h
theorem getL_size (id : List UInt8) (l : List (List UInt8 × List UInt8)) : szD (getL id l) ≤ szD l ∧ (getL id l).length ≤ l.length := by
  have h1 := szD_drop id l
  have h2 : (dropD id l).length ≤ l.length := List.length_filter_le _ _
  unfold getL
  split
  · rename_i bs hb
    have h3 := find_drop (getO_find hb).1
    rw [szD_app]
    simp [szD] at h3 ⊢
    omega
  · exact ⟨h1, h2⟩
theorem spoil_size (id : List UInt8) (bit : Int) (l : List (List UInt8 × List UInt8)) : szD ((spoilL id bit l).getD l) = szD l ∧ ((spoilL id bit l).getD l).length = l.length := by
  unfold spoilL
  split
  · split
    · exact ⟨rfl, rfl⟩
    · refine ⟨?_, by simp⟩
      unfold szD
      simp only [Option.getD_some, List.map_map]
      congr 1
      refine List.map_congr_left fun e _ => ?_
      simp only [Function.comp]
      split
      · exact flip_len _ _
      · rfl
  · exact ⟨rfl, rfl⟩
theorem findD_last {id : List UInt8} {a : List (List UInt8 × List UInt8)} {bs : List UInt8} (h : ∀ e ∈ a, e.1 ≠ id) : findD id (a ++ [(id, bs)]) = some bs := by
  induction a with
  | nil => simp [findD]
  | cons e r ih =>
    rw [List.cons_append]
    unfold findD
    rw [if_neg (h e (by simp)), ih (fun x hx => h x (by simp [hx]))]
theorem get_put (lim : Int) (l : List (List UInt8 × List UInt8)) (ys : List UInt8) : getO (Sha.sum ys) (putD lim l ys) = if (ys.length : Int) ≤ lim then some ys else none := by
  unfold putD
  by_cases h : (ys.length : Int) ≤ lim
  · rw [if_pos h, if_neg (by omega)]
    unfold getO
    rw [findD_last (fun e he => (dropD_mem.1 (evict_mem he)).2)]
    simp
  · rw [if_neg h, if_pos (by omega)]
    unfold getO
    rw [findD_none (fun e he => (dropD_mem.1 he).2)]
/-- The state behind i steps. -/
structure KW (w W : World) (mb p : Nat) (lm : Int) (i : Nat) : Prop where
  cs : ∃ U l, CS w W U p lm l ∧ (szD l : Int) ≤ lm ∧ l.length ≤ i ∧ szD l ≤ 100 * i ∧ mb ∉ U
  tm : TM W mb i
  mw : w.heap.size ≤ mb
end Go.Proofs.YtmkdjonlfkfnlaaDoor
