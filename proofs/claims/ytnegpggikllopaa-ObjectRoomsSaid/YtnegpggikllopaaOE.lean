
/- coldstorelaw06.alive: helpers; a store without fuse and faults; the region of the two Puts. -/
import Derived.Test.YtnegpggikllopaaOD
import Derived.Test.YtnegpggikllopaaRI
import Derived.Test.YtnegpggikllopaaG2
import Derived.Lib.SmallJoins
namespace Go.Proofs.Ytnegpggikllopaa
open Go.RowKit Go.Lib Go.Maps

section
variable (w : World) (U : List Nat) (p T : Nat) (more : List Value) (q : Int) (es : List Ent) (k : Nat) (nm : List UInt8) (hnm : nm.length ≤ 1000000000) (h : Ob w U p T more q es (.pointer none) [] k) (hk : k ≤ 1099511627776)
include hnm h hk
theorem put_plain (a : Option Addr) (c : Nat) (bs : List UInt8) (n : Nat) (hn : n = bs.length) (hbs : ∀ W, Kept [p] w W → Src W (.slice a n c) n (bs.map B)) (hz : sizeE es + bs.length ≤ 1099511627776) (er : Int) (her : putErr [] nm bs.length q ((sizeE es : Int) - (lookB nm es).length + bs.length) (findE nm es).isSome es.length = er) :
    Calls Try.prog 21 #[.pointer (some ⟨p, 0, none⟩), .string (S nm), .slice a n c] w fun e w' => ∃ v' U', e = .returned (.int .i64 er) ∧ Kept U w w' ∧ (∀ x ∈ U', x ∈ U ∨ w.heap.size ≤ x) ∧ Ob w' U' p T more q (if er = 0 then putE ⟨nm, v', bs⟩ es else es) (.pointer none) [] (k + 1) := by
  subst hn
  refine (ob_put w U p T more q es (.pointer none) [] k (-1) nm hnm h hk (Or.inl ⟨rfl, rfl⟩) (by decide) a c bs hbs hz).mono ?_
  rintro e w' ⟨v', U', h1, h2, h3, h4, h5⟩
  rw [her] at h1 h4
  exact ⟨v', U', h1, by simpa [fuB] using h2, h3, h4⟩
theorem get_plain (er : Int) (her : gotE [] es nm = er) (bs : List UInt8) (hbs : gotB [] es nm = bs) :
    Calls Try.prog 24 #[.pointer (some ⟨p, 0, none⟩), .string (S nm)] w fun e w' => ∃ v', e = .returned (.tuple #[v', .int .i64 er]) ∧ Kept [p] w w' ∧ Ob w' U p T more q es (.pointer none) [] (k + 1) ∧ NewS w w' v' bs.length (bs.map B) := by
  refine (ob_get w U p T more q es (.pointer none) [] k (-1) nm hnm h hk (Or.inl ⟨rfl, rfl⟩) (by decide)).mono ?_
  rintro e w' ⟨v', h1, h2, h3, h4, h5⟩
  rw [her] at h1
  rw [hbs] at h5
  exact ⟨v', h1, by simpa [fuB] using h2, h3, h5⟩
end

/-- '[]byte("..")': a row, marked or not. -/
theorem conv_mark (W : World) (g n c : Nat) (C : Array Value) (fr : Nat × Nat) (hg : W.heap[g]? = some (.cells C 5 fr)) :
    ∃ W' fr', (convert 36 36 (.slice (some ⟨g, 0, none⟩) n c)).run Try.prog W = .ok (.slice (some ⟨g, 0, none⟩) n c) W' ∧ Kept [g] W W' ∧ W'.heap[g]? = some (.cells C 5 fr') := by
  have hsh : W.shape? g = some (5, C.size) := by unfold World.shape?; rw [hg]
  obtain ⟨lo, hi⟩ := fr
  refine ⟨W.freeze ⟨g, C.size, none⟩ 1, if lo == hi then (C.size, C.size + 1) else (min lo C.size, max hi (C.size + 1)), ?_, ?_, ?_⟩
  · simp [convert, run_underlying Try.underlying36, run_underlying Try.underlying5, markStringish, hsh]
  · refine ⟨rfl, rfl, rfl, ?_, fun k hk hm => ?_⟩
    · simp [World.freeze]
    · simp at hm
      simp [World.freeze, Array.getElem?_modify, Ne.symm hm]
  · simp [World.freeze, Array.getElem?_modify, hg]
/-- Bytes in a block of their own, away from a store's. -/
def BsIn (v : World) (lo : Nat) (U : List Nat) (x : Value) (bs : List UInt8) : Prop := ∃ g fr, x = .slice (some ⟨g, 0, none⟩) bs.length bs.length ∧ v.heap[g]? = some (.cells (bs.map B).toArray 5 fr) ∧ g ∉ U ∧ lo ≤ g
theorem BsIn.kept {v v' : World} {lo : Nat} {U U' : List Nat} {x : Value} {bs : List UInt8} (h : BsIn v lo U x bs) (hk : Kept U v v') (hU : ∀ y ∈ U', y ∈ U ∨ v.heap.size ≤ y) : BsIn v' lo U' x bs := by
  obtain ⟨g, fr, h1, h2, h3, h5⟩ := h
  refine ⟨g, fr, h1, hk.at h2 h3, fun hm => ?_, h5⟩
  rcases hU g hm with h | h
  · exact h3 h
  · have := (Array.getElem?_eq_some_iff.1 h2).1; omega
theorem BsIn.conv {v v' : World} {lo : Nat} {U : List Nat} {x : Value} {bs : List UInt8} {g : Nat} {C : Array Value} {fr' : Nat × Nat} (h : BsIn v lo U x bs) (hk : Kept [g] v v') (hg : ∃ fr, v.heap[g]? = some (.cells C 5 fr)) (hg' : v'.heap[g]? = some (.cells C 5 fr')) : BsIn v' lo U x bs := by
  obtain ⟨g2, fr2, h1, h2, h3, h5⟩ := h
  by_cases e : g2 = g
  · subst e
    obtain ⟨fr, hfr⟩ := hg
    rw [hfr] at h2
    simp at h2
    exact ⟨g2, fr', h1, by rw [hg', h2.1], h3, h5⟩
  · exact ⟨g2, fr2, h1, hk.at h2 (by simp [e]), h3, h5⟩
theorem BsIn.src {v : World} {lo : Nat} {U : List Nat} {x : Value} {bs : List UInt8} (h : BsIn v lo U x bs) {V : List Nat} (hV : ∀ y ∈ V, y ∈ U) : ∃ g, x = .slice (some ⟨g, 0, none⟩) bs.length bs.length ∧ ∀ W, Kept V v W → Src W (.slice (some ⟨g, 0, none⟩) bs.length bs.length) bs.length (bs.map B) := by
  obtain ⟨g, fr, h1, h2, h3, _⟩ := h
  refine ⟨g, h1, fun W hk => Or.inr ⟨_, _, rfl, fun j u hj => ?_⟩⟩
  have h4 := hk.at h2 (fun hm => h3 (hV g hm))
  rw [add_plain]
  simp [World.cell?, h4]
  simpa using hj
theorem gset {L : List Bool} {i : Nat} (h : i < L.length) (j : Nat) : (L.set i true).getD j false = (decide (j = i) || L.getD j false) := by
  by_cases e : j = i
  · subst e; simp [h]
  · simp [List.getElem?_set, Ne.symm e, e]
def abcd : List UInt8 := [97, 98, 99, 100]
def abc : List UInt8 := [97, 98, 99]
/-- What holds as the two Puts of alive come up. -/
def InvQ (w0 : World) (p b : Nat) (L : List Bool) (vs : List Value) (v : World) : Prop :=
  ∃ v25 v26 v27 v29 v30 v31, vs = [v25, v26, v27, v29, v30, v31] ∧ ∃ U es k, Ob v U p 68 [] 3 es (.pointer none) [] k ∧ b ∉ U ∧ Kept [] w0 v ∧ (∀ x ∈ U, w0.heap.size ≤ x) ∧ v.heap[b]? = some (.cells #[.pointer (some ⟨p, 0, none⟩)] 26 (0, 0)) ∧
  k = (if L.getD 3 false then 1 else 0) + (if L.getD 7 false then 1 else 0) ∧
  (L.getD 1 false = true → BsIn v w0.heap.size U v25 abcd) ∧ (L.getD 2 false = true → BsIn v w0.heap.size U v26 abcd) ∧ (L.getD 5 false = true → BsIn v w0.heap.size U v29 abc) ∧ (L.getD 6 false = true → BsIn v w0.heap.size U v30 abc) ∧
  (L.getD 3 false = true → v27 = .int .i64 31) ∧ (L.getD 7 false = false → es = []) ∧ (L.getD 7 false = true → v31 = .int .i64 0 ∧ ∃ v', es = [⟨[120], v', abc⟩])
theorem build4 (W : World) : (Instr.buildSlice 36 4 #[(0, .int .u8 97), (1, .int .u8 98), (2, .int .u8 99), (3, .int .u8 100)]).run Try.prog W = .ok (.slice (some ⟨W.heap.size, 0, none⟩) 4 4) (W.alloc (.cells (abcd.map B).toArray 5)) := by kernel_rfl
theorem build3 (W : World) : (Instr.buildSlice 36 3 #[(0, .int .u8 97), (1, .int .u8 98), (2, .int .u8 99)]).run Try.prog W = .ok (.slice (some ⟨W.heap.size, 0, none⟩) 3 3) (W.alloc (.cells (abc.map B).toArray 5)) := by kernel_rfl
theorem ask1 : putErr [] [120] abcd.length 3 ((sizeE [] : Int) - (lookB [120] []).length + abcd.length) (findE [120] []).isSome ([] : List Ent).length = 31 := by decide
theorem ask2 : putErr [] [120] abc.length 3 ((sizeE [] : Int) - (lookB [120] []).length + abc.length) (findE [120] []).isSome ([] : List Ent).length = 0 := by decide
theorem bsin_new (v : World) (lo : Nat) (hlo : lo ≤ v.heap.size) (U : List Nat) (bs : List UInt8) (hU : ∀ x ∈ U, x < v.heap.size) : BsIn (v.alloc (.cells (bs.map B).toArray 5)) lo U (.slice (some ⟨v.heap.size, 0, none⟩) bs.length bs.length) bs :=
  ⟨v.heap.size, _, rfl, heap_alloc_at rfl, fun hm => Nat.lt_irrefl _ (hU _ hm), hlo⟩
theorem drop_blow (w : World) (U : List Nat) (p T : Nat) (more : List Value) (q : Int) (es : List Ent) (f : Nat) (fl : List Bool) (k : Nat) (nm : List UInt8) (h : Ob w U p T more q es (.pointer (some ⟨f, 0, none⟩)) fl k) (hf : FuV w U (.pointer (some ⟨f, 0, none⟩)) 0) :
    Calls Try.prog 20 #[.pointer (some ⟨p, 0, none⟩), .string (S nm)] w fun e w' => Thrown 73 (.agg #[.pointer (some ⟨f, 0, none⟩)]) e ∧ w = w' := by
  have hop := hid (operate_blow w U p T more q es f fl k h hf)
  clear h hf
  go_enter Try.func20, Try.ntmps20
  go_wp2_with fail
  refine hop.out.mono ?_
  rintro e w1 ⟨⟨older, rfl, hcalm⟩, rfl⟩
  exact ⟨rfl, ⟨older, rfl, hcalm⟩, rfl⟩
theorem alive06_1 (w : World) (U : List Nat) (p T : Nat) (more : List Value) (q : Int) (es : List Ent) (f b : Nat) (fl : List Bool) (k : Nat) (h : Ob w U p T more q es (.pointer (some ⟨f, 0, none⟩)) fl k) (hf : FuV w U (.pointer (some ⟨f, 0, none⟩)) 0) (hb : w.cell? ⟨b, 0, none⟩ = some (.pointer (some ⟨p, 0, none⟩))) :
    Calls Try.prog 32 #[.pointer (some ⟨b, 0, none⟩)] w fun e w' => Thrown 73 (.agg #[.pointer (some ⟨f, 0, none⟩)]) e ∧ w = w' := by
  have hop := hid (drop_blow w U p T more q es f fl k [120] h hf)
  clear h hf
  go_enter Try.func32, Try.ntmps32
  go_wp2_with fail
  refine hop.out.mono ?_
  rintro e w1 ⟨⟨older, rfl, hcalm⟩, rfl⟩
  exact ⟨rfl, ⟨older, rfl, hcalm⟩, rfl⟩
/-- What holds as the fuse and the faults of alive come up. -/
def InvF (w4 : World) (L : List Bool) (vs : List Value) (v : World) : Prop :=
  ∃ v54 v55, vs = [v54, v55] ∧ Kept [] w4 v ∧ (L.getD 1 false = true → ∃ f, v54 = .pointer (some ⟨f, 0, none⟩) ∧ v.heap[f]? = some (.cells #[.int .i64 1] 70 (0, 0)) ∧ w4.heap.size ≤ f) ∧
  (L.getD 2 false = true → ∃ g, v55 = .slice (some ⟨g, 0, none⟩) 1 1 ∧ v.heap[g]? = some (.cells #[.bool true] 4 (0, 0)) ∧ w4.heap.size ≤ g)
theorem build_t (W : World) : (Instr.buildSlice 22 1 #[(0, .bool true)]).run Try.prog W = .ok (.slice (some ⟨W.heap.size, 0, none⟩) 1 1) (W.alloc (.cells #[.bool true] 4)) := by kernel_rfl
theorem bytes_back (w : World) (a : Option Addr) (c : Nat) (l : List UInt8) (hl : l ≠ []) (h : Src w (.slice a l.length c) l.length (l.map B)) : (convert 36 9 (.slice a l.length c)).run Try.prog w = .ok (.string ⟨l.toArray⟩) w := by
  rcases h with ⟨h1, h2, _⟩ | ⟨ad, c', h1, hc⟩
  · exact absurd (List.eq_nil_of_length_eq_zero h2) hl
  · simp at h1
    obtain ⟨rfl, rfl⟩ := h1
    refine run_convert_bytes_back w _ _ 5 ad c l Try.underlying36 Try.underlying5 Try.underlying9 (fun j hj => ?_)
    exact hc j (.int .u8 (l[j].toNat : Int)) (by simp [hj, B])
end Go.Proofs.Ytnegpggikllopaa
