/- A slice of closures, made in a loop: what stands in it. coldstorelaw01.GuardValues. -/
import Derived.Test.YtohmmkceffmipaaG8
namespace Go.Proofs.Ytohmmkceffmipaa
open Go.RowKit

theorem info_step : (Try.prog.info? 31).map (fun i => (i.zero, i.size, i.bytes)) = some (some .nilFunc, 1, 8) := by kernel_rfl

/-- The closure k over what is captured, and over the variable in block b. -/
def clos (k : Nat) (pre : Array Value) (b : Nat) : Value := .func (.func k) #[] (pre ++ #[.pointer (some ⟨b, 0, none⟩)])

/-- A row of closures from block B on, in block g; the j-th one's variable holds the j-th number. -/
structure Made (w : World) (B k : Nat) (pre : Array Value) (zs : List Int) (g cp : Nat) (bs : List Nat) : Prop where
  own : w.ownsRow B 31 1 (.slice (some ⟨g, 0, none⟩) bs.length cp) bs.length (bs.map (clos k pre))
  ge : B ≤ g
  var : ∀ (j b : Nat), bs[j]? = some b → w.heap[b]? = some (.cells #[.int .i64 (zs[j]?.getD 0)] 3 (0, 0)) ∧ b ≠ g ∧ B < b

theorem Made.start {w : World} {B k : Nat} {pre : Array Value} {zs : List Int} (h : w.heap[B]? = some (.cells #[] 31 (0, 0))) : Made w B k pre zs B 0 [] :=
  ⟨⟨by simp, Or.inr ⟨B, 0, #[], rfl, Nat.le_refl _, h, by simp, by simp, by simp, by simp⟩⟩, Nat.le_refl _, fun j b hj => by simp at hj⟩

theorem Made.step {wr w2 : World} {B k : Nat} {pre : Array Value} {zs : List Int} {g cp g2 cp2 : Nat} {bs : List Nat} {Y : Obj} (h : Made wr B k pre zs g cp bs)
    (hown : w2.ownsRow B 31 1 (.slice (some ⟨g2, 0, none⟩) (bs.length + 1) cp2) (bs.length + 1) (bs.map (clos k pre) ++ [clos k pre wr.heap.size]))
    (hgrow : ((wr.alloc (.cells #[.int .i64 (zs[bs.length]?.getD 0)] 3)).alloc Y).grownBy w2 (some g)) (hB : B < wr.heap.size) (hg : g < wr.heap.size) (hat : g = g2 ∨ g2 = wr.heap.size + 2) :
    Made w2 B k pre zs g2 cp2 (bs ++ [wr.heap.size]) := by
  have hvar : ∀ (j b : Nat), (bs ++ [wr.heap.size])[j]? = some b → w2.heap[b]? = some (.cells #[.int .i64 (zs[j]?.getD 0)] 3 (0, 0)) ∧ b ≠ g2 ∧ B < b := by
    intro j b hj
    rcases Nat.lt_or_ge j bs.length with hlt | hge
    · rw [List.getElem?_append_left hlt] at hj
      obtain ⟨h1, h2, h3⟩ := h.var j b hj
      refine ⟨heap_grown hgrow (heap_alloc_old (heap_alloc_old h1)) (by simpa using fun e => h2 e.symm), ?_, h3⟩
      have := lt_of_block h1
      rcases hat with rfl | rfl
      · exact h2
      · omega
    · rw [List.getElem?_append_right hge] at hj
      have hj0 : j - bs.length = 0 := by
        rcases Nat.eq_zero_or_pos (j - bs.length) with h0 | h0
        · exact h0
        · rw [List.getElem?_eq_none (by simp; omega)] at hj; simp at hj
      have hje : j = bs.length := by omega
      subst hje
      simp at hj
      subst hj
      exact ⟨heap_grown hgrow (heap_alloc_old (heap_alloc_at rfl)) (by simpa using Nat.ne_of_lt hg), by omega, hB⟩
  refine ⟨?_, by have := h.ge; omega, hvar⟩
  simpa using hown

theorem Made.cell {w : World} {B k : Nat} {pre : Array Value} {zs : List Int} {g cp : Nat} {bs : List Nat} (h : Made w B k pre zs g cp bs) {j b : Nat} (hj : bs[j]? = some b) :
    w.cell? ⟨g, 0 + j, none⟩ = some (clos k pre b) := by
  obtain ⟨_, h2⟩ := h.own
  have hjl : j < bs.length := by
    rcases Nat.lt_or_ge j bs.length with h' | h'
    · exact h'
    · simp [List.getElem?_eq_none h'] at hj
  rcases h2 with ⟨h2, _⟩ | ⟨g', cap, cur, hv, hg, hh, hc, hm, hs, ht⟩
  · simp at h2
  · simp at hv
    obtain ⟨rfl, rfl⟩ := hv
    have e : cur[j]? = some (clos k pre b) := by
      have := congrArg (fun l => l[j]?) ht
      have hbj : bs[j] = b := by simpa [List.getElem?_eq_getElem hjl] using hj
      simp [List.getElem?_take, hjl, hbj] at this
      simpa using this
    simp [World.cell?, hh, e]

theorem firstFrom_spec (E : Nat → Int) : ∀ m i, ((firstFrom E m i).2 = 0 ↔ (firstFrom E m i).1 = i + m)
  | 0, i => by simp [firstFrom]
  | m + 1, i => by
    have h := firstFrom_spec E m (i + 1)
    have h2 := firstFrom_le E m (i + 1)
    simp only [firstFrom]
    split
    · rw [h]; omega
    · rename_i hne
      dsimp only
      constructor
      · intro h0; exact absurd h0 hne
      · intro h0; omega

theorem firstFrom_congr {E F : Nat → Int} : ∀ m i, (∀ j, i ≤ j → j < i + m → E j = F j) → firstFrom E m i = firstFrom F m i
  | 0, i, _ => rfl
  | m + 1, i, h => by
    simp only [firstFrom]
    rw [h i (Nat.le_refl _) (by omega), firstFrom_congr m (i + 1) (fun j h1 h2 => h j (by omega) (by omega))]

/-- All over such a row: what each closure does is said of it at its own variable. -/
theorem all_made (n : Nat) (hn : n ≤ 4611686018427387904) (B k : Nat) (hk : Enters k) (pre : Array Value) (zs : List Int) (g cp : Nat) (bs : List Nat) (hbs : bs.length = n) (w : World) (hm : Made w B k pre zs g cp bs)
    (S : List Nat) (hS : ∀ b ∈ S, b < w.heap.size) (hSB : ∀ b ∈ S, b < B) (St : Nat → World → Prop) (hSt : ∀ i W W', St i W → Below w.heap.size W W' → St i W') (h0 : St 0 w)
    (h : ∀ i b W, i < n → W.heap[b]? = some (.cells #[.int .i64 (zs[i]?.getD 0)] 3 (0, 0)) → St i W → Kept S w W → b ∉ S → Calls Try.prog k (pre ++ #[.pointer (some ⟨b, 0, none⟩)]) W fun e w' => e = .returned (.int .i64 (zs[i]?.getD 0)) ∧ Kept S W w' ∧ St (i + 1) w') :
    Calls Try.prog 17 #[.slice (some ⟨g, 0, none⟩) n cp] w fun e w' =>
      e = .returned (.tuple #[.int .i64 ((firstFrom (fun i => zs[i]?.getD 0) n 0).1 : Nat), .int .i64 (firstFrom (fun i => zs[i]?.getD 0) n 0).2]) ∧ Kept S w w' ∧ St (begun (fun i => zs[i]?.getD 0) n) w' := by
  have hgl : g < w.heap.size := by
    obtain ⟨_, h2⟩ := hm.own
    rcases h2 with ⟨h2, _⟩ | ⟨g', cap, cur, hv, hg, hh, _⟩
    · simp at h2
    · simp at hv; obtain ⟨rfl, _⟩ := hv; exact lt_of_block hh
  refine all_any n hn g 0 cp (fun _ => k) (fun i => pre ++ #[.pointer (some ⟨bs[i]?.getD 0, 0, none⟩)]) _ w S hS hgl (fun hx => by have := hSB g hx; have := hm.ge; omega) (fun i _ => hk) (fun i hi => ?_) St hSt h0 (fun i hi W hst hkW => ?_)
  · have hb : bs[i]? = some (bs[i]?.getD 0) := by simp [hbs, hi]
    exact hm.cell hb
  · have hb : bs[i]? = some (bs[i]?.getD 0) := by simp [hbs, hi]
    obtain ⟨h1, _, h3⟩ := hm.var i _ hb
    have hnS : bs[i]?.getD 0 ∉ S := fun hx => by have := hSB _ hx; omega
    exact h i _ W hi (hkW.at h1 hnS) hst hkW hnS
end Go.Proofs.Ytohmmkceffmipaa
