import Derived.Test.YtmholofhmpplcaaMN
import Derived.Test.YtmholofhmpplcaaRI
import Derived.Test.YtmholofhmpplcaaMG
import Derived.Lib.SmallJoins

/- coldstorelaw06.alive: helpers; a store without fuse and faults; the region of the two Puts. -/
namespace Go.Proofs.Ytmholofhmpplcaa
open Go.RowKit Go.Lib Go.Maps

section
variable (w : World) (U : List Nat) (p T : Nat) (more : List Value) (q : Int) (es : List Ent) (k : Nat) (nm : List UInt8) (hnm : nm.length ≤ 1000000000) (h : Ob w U p T more q es (.pointer none) [] k) (hk : k ≤ 1099511627776)
include hnm h hk
theorem put_plain (a : Option Addr) (c : Nat) (bs : List UInt8) (n : Nat) (hn : n = bs.length) (hbs : ∀ W, Kept [p] w W → Src W (.slice a n c) n (bs.map B)) (hz : sizeE es + bs.length ≤ 1099511627776) (er : Int) (her : putErr [] nm bs.length q ((sizeE es : Int) - (lookB nm es).length + bs.length) (findE nm es).isSome es.length = er) :
    Calls Try.prog 15 #[.pointer (some ⟨p, 0, none⟩), .string (S nm), .slice a n c] w fun e w' => ∃ v' U', e = .returned (.int .i64 er) ∧ Kept U w w' ∧ (∀ x ∈ U', x ∈ U ∨ w.heap.size ≤ x) ∧ Ob w' U' p T more q (if er = 0 then putE ⟨nm, v', bs⟩ es else es) (.pointer none) [] (k + 1) := by
  subst hn
  refine (ob_put w U p T more q es (.pointer none) [] k (-1) nm hnm h hk (Or.inl ⟨rfl, rfl⟩) (by decide) a c bs hbs hz).mono ?_
  rintro e w' ⟨v', U', h1, h2, h3, h4, h5⟩
  rw [her] at h1 h4
  exact ⟨v', U', h1, by simpa [fuB] using h2, h3, h4⟩
theorem get_plain (er : Int) (her : gotE [] es nm = er) (bs : List UInt8) (hbs : gotB [] es nm = bs) :
    Calls Try.prog 16 #[.pointer (some ⟨p, 0, none⟩), .string (S nm)] w fun e w' => ∃ v', e = .returned (.tuple #[v', .int .i64 er]) ∧ Kept [p] w w' ∧ Ob w' U p T more q es (.pointer none) [] (k + 1) ∧ NewS w w' v' bs.length (bs.map B) := by
  refine (ob_get w U p T more q es (.pointer none) [] k (-1) nm hnm h hk (Or.inl ⟨rfl, rfl⟩) (by decide)).mono ?_
  rintro e w' ⟨v', h1, h2, h3, h4, h5⟩
  rw [her] at h1
  rw [hbs] at h5
  exact ⟨v', h1, by simpa [fuB] using h2, h3, h5⟩
end

/-- '[]byte("..")': a row, marked or not. -/
theorem conv_mark (W : World) (g n c : Nat) (C : Array Value) (fr : Nat × Nat) (hg : W.heap[g]? = some (.cells C 5 fr)) :
    ∃ W' fr', (convert 36 36 (.slice (some ⟨g, 0, none⟩) n c)).run Try.prog W = .ok (.slice (some ⟨g, 0, none⟩) n c) W' ∧ Kept [g] W W' ∧ W'.heap[g]? = some (.cells C 5 fr') := by
  have hsh : W.shape? g = some (5, C.size) := by unfold World.shape?; rw [hg]
  obtain ⟨lo, hi⟩ := fr
  refine ⟨W.freeze ⟨g, C.size, none⟩ 1, if lo == hi then (C.size, C.size + 1) else (min lo C.size, max hi (C.size + 1)), ?_, ?_, ?_⟩
  · simp [convert, run_underlying Try.underlying36, run_underlying Try.underlying5, markStringish, hsh]
  · refine ⟨rfl, rfl, rfl, ?_, fun k hk hm => ?_⟩
    · simp [World.freeze]
    · simp at hm
      simp [World.freeze, Array.getElem?_modify, Ne.symm hm]
  · simp [World.freeze, Array.getElem?_modify, hg]
/-- Bytes in a block of their own, away from a store's. -/
def BsIn (v : World) (lo : Nat) (U : List Nat) (x : Value) (bs : List UInt8) : Prop := ∃ g fr, x = .slice (some ⟨g, 0, none⟩) bs.length bs.length ∧ v.heap[g]? = some (.cells (bs.map B).toArray 5 fr) ∧ g ∉ U ∧ lo ≤ g
theorem BsIn.kept {v v' : World} {lo : Nat} {U U' : List Nat} {x : Value} {bs : List UInt8} (h : BsIn v lo U x bs) (hk : Kept U v v') (hU : ∀ y ∈ U', y ∈ U ∨ v.heap.size ≤ y) : BsIn v' lo U' x bs := by
  obtain ⟨g, fr, h1, h2, h3, h5⟩ := h
  refine ⟨g, fr, h1, hk.at h2 h3, fun hm => ?_, h5⟩
  rcases hU g hm with h | h
  · exact h3 h
  · have := (Array.getElem?_eq_some_iff.1 h2).1; omega
theorem BsIn.conv {v v' : World} {lo : Nat} {U : List Nat} {x : Value} {bs : List UInt8} {g : Nat} {C : Array Value} {fr' : Nat × Nat} (h : BsIn v lo U x bs) (hk : Kept [g] v v') (hg : ∃ fr, v.heap[g]? = some (.cells C 5 fr)) (hg' : v'.heap[g]? = some (.cells C 5 fr')) : BsIn v' lo U x bs := by
  obtain ⟨g2, fr2, h1, h2, h3, h5⟩ := h
  by_cases e : g2 = g
  · subst e
    obtain ⟨fr, hfr⟩ := hg
    rw [hfr] at h2
    simp at h2
    exact ⟨g2, fr', h1, by rw [hg', h2.1], h3, h5⟩
  · exact ⟨g2, fr2, h1, hk.at h2 (by simp [e]), h3, h5⟩
theorem BsIn.src {v : World} {lo : Nat} {U : List Nat} {x : Value} {bs : List UInt8} (h : BsIn v lo U x bs) {V : List Nat} (hV : ∀ y ∈ V, y ∈ U) : ∃ g, x = .slice (some ⟨g, 0, none⟩) bs.length bs.length ∧ ∀ W, Kept V v W → Src W (.slice (some ⟨g, 0, none⟩) bs.length bs.length) bs.length (bs.map B) := by
  obtain ⟨g, fr, h1, h2, h3, _⟩ := h
  refine ⟨g, h1, fun W hk => Or.inr ⟨_, _, rfl, fun j u hj => ?_⟩⟩
  have h4 := hk.at h2 (fun hm => h3 (hV g hm))
  rw [add_plain]
  simp [World.cell?, h4]
  simpa using hj
theorem gset {L : List Bool} {i : Nat} (h : i < L.length) (j : Nat) : (L.set i true).getD j false = (decide (j = i) || L.getD j false) := by
  by_cases e : j = i
  · subst e; simp [h]
  · simp [List.getElem?_set, Ne.symm e, e]
def abcd : List UInt8 := [97, 98, 99, 100]
def abc : List UInt8 := [97, 98, 99]
/-- What holds as the two Puts of alive come up. -/
def InvQ (w0 : World) (p b : Nat) (L : List Bool) (vs : List Value) (v : World) : Prop :=
  ∃ v25 v26 v27 v29 v30 v31, vs = [v25, v26, v27, v29, v30, v31] ∧ ∃ U es k, Ob v U p 58 [] 3 es (.pointer none) [] k ∧ b ∉ U ∧ Kept [] w0 v ∧ (∀ x ∈ U, w0.heap.size ≤ x) ∧ v.heap[b]? = some (.cells #[.pointer (some ⟨p, 0, none⟩)] 26 (0, 0)) ∧
  k = (if L.getD 3 false then 1 else 0) + (if L.getD 7 false then 1 else 0) ∧
  (L.getD 1 false = true → BsIn v w0.heap.size U v25 abcd) ∧ (L.getD 2 false = true → BsIn v w0.heap.size U v26 abcd) ∧ (L.getD 5 false = true → BsIn v w0.heap.size U v29 abc) ∧ (L.getD 6 false = true → BsIn v w0.heap.size U v30 abc) ∧
  (L.getD 3 false = true → v27 = .int .i64 31) ∧ (L.getD 7 false = false → es = []) ∧ (L.getD 7 false = true → v31 = .int .i64 0 ∧ ∃ v', es = [⟨[120], v', abc⟩])
theorem build4 (W : World) : (Instr.buildSlice 36 4 #[(0, .int .u8 97), (1, .int .u8 98), (2, .int .u8 99), (3, .int .u8 100)]).run Try.prog W = .ok (.slice (some ⟨W.heap.size, 0, none⟩) 4 4) (W.alloc (.cells (abcd.map B).toArray 5)) := by kernel_rfl
theorem build3 (W : World) : (Instr.buildSlice 36 3 #[(0, .int .u8 97), (1, .int .u8 98), (2, .int .u8 99)]).run Try.prog W = .ok (.slice (some ⟨W.heap.size, 0, none⟩) 3 3) (W.alloc (.cells (abc.map B).toArray 5)) := by kernel_rfl
theorem ask1 : putErr [] [120] abcd.length 3 ((sizeE [] : Int) - (lookB [120] []).length + abcd.length) (findE [120] []).isSome ([] : List Ent).length = 31 := by decide
theorem ask2 : putErr [] [120] abc.length 3 ((sizeE [] : Int) - (lookB [120] []).length + abc.length) (findE [120] []).isSome ([] : List Ent).length = 0 := by decide
theorem bsin_new (v : World) (lo : Nat) (hlo : lo ≤ v.heap.size) (U : List Nat) (bs : List UInt8) (hU : ∀ x ∈ U, x < v.heap.size) : BsIn (v.alloc (.cells (bs.map B).toArray 5)) lo U (.slice (some ⟨v.heap.size, 0, none⟩) bs.length bs.length) bs :=
  ⟨v.heap.size, _, rfl, heap_alloc_at rfl, fun hm => Nat.lt_irrefl _ (hU _ hm), hlo⟩
theorem drop_blow (w : World) (U : List Nat) (p T : Nat) (more : List Value) (q : Int) (es : List Ent) (f : Nat) (fl : List Bool) (k : Nat) (nm : List UInt8) (h : Ob w U p T more q es (.pointer (some ⟨f, 0, none⟩)) fl k) (hf : FuV w U (.pointer (some ⟨f, 0, none⟩)) 0) :
    Calls Try.prog 18 #[.pointer (some ⟨p, 0, none⟩), .string (S nm)] w fun e w' => Thrown 63 (.agg #[.pointer (some ⟨f, 0, none⟩)]) e ∧ w = w' := by
  have hop := hid (operate_blow w U p T more q es f fl k h hf)
  clear h hf
  go_enter Try.func18, Try.ntmps18
  go_wp2_with fail
  refine hop.out.mono ?_
  rintro e w1 ⟨⟨older, rfl, hcalm⟩, rfl⟩
  exact ⟨rfl, ⟨older, rfl, hcalm⟩, rfl⟩
theorem alive06_1 (w : World) (U : List Nat) (p T : Nat) (more : List Value) (q : Int) (es : List Ent) (f b : Nat) (fl : List Bool) (k : Nat) (h : Ob w U p T more q es (.pointer (some ⟨f, 0, none⟩)) fl k) (hf : FuV w U (.pointer (some ⟨f, 0, none⟩)) 0) (hb : w.cell? ⟨b, 0, none⟩ = some (.pointer (some ⟨p, 0, none⟩))) :
    Calls Try.prog 19 #[.pointer (some ⟨b, 0, none⟩)] w fun e w' => Thrown 63 (.agg #[.pointer (some ⟨f, 0, none⟩)]) e ∧ w = w' := by
  have hop := hid (drop_blow w U p T more q es f fl k [120] h hf)
  clear h hf
  go_enter Try.func19, Try.ntmps19
  go_wp2_with fail
  refine hop.out.mono ?_
  rintro e w1 ⟨⟨older, rfl, hcalm⟩, rfl⟩
  exact ⟨rfl, ⟨older, rfl, hcalm⟩, rfl⟩
/-- What holds as the fuse and the faults of alive come up. -/
def InvF (w4 : World) (L : List Bool) (vs : List Value) (v : World) : Prop :=
  ∃ v54 v55, vs = [v54, v55] ∧ Kept [] w4 v ∧ (L.getD 1 false = true → ∃ f, v54 = .pointer (some ⟨f, 0, none⟩) ∧ v.heap[f]? = some (.cells #[.int .i64 1] 60 (0, 0)) ∧ w4.heap.size ≤ f) ∧
  (L.getD 2 false = true → ∃ g, v55 = .slice (some ⟨g, 0, none⟩) 1 1 ∧ v.heap[g]? = some (.cells #[.bool true] 4 (0, 0)) ∧ w4.heap.size ≤ g)
theorem build_t (W : World) : (Instr.buildSlice 22 1 #[(0, .bool true)]).run Try.prog W = .ok (.slice (some ⟨W.heap.size, 0, none⟩) 1 1) (W.alloc (.cells #[.bool true] 4)) := by kernel_rfl
theorem bytes_back (w : World) (a : Option Addr) (c : Nat) (l : List UInt8) (hl : l ≠ []) (h : Src w (.slice a l.length c) l.length (l.map B)) : (convert 36 9 (.slice a l.length c)).run Try.prog w = .ok (.string ⟨l.toArray⟩) w := by
  rcases h with ⟨h1, h2, _⟩ | ⟨ad, c', h1, hc⟩
  · exact absurd (List.eq_nil_of_length_eq_zero h2) hl
  · simp at h1
    obtain ⟨rfl, rfl⟩ := h1
    refine run_convert_bytes_back w _ _ 5 ad c l Try.underlying36 Try.underlying5 Try.underlying9 (fun j hj => ?_)
    exact hc j (.int .u8 (l[j].toNat : Int)) (by simp [hj, B])
end Go.Proofs.Ytmholofhmpplcaa


/- coldstorelaw06.alive. -/
namespace Go.Proofs.Ytmholofhmpplcaa
open Go.RowKit Go.Lib Go.Maps

set_option maxRecDepth 100000 in
set_option maxHeartbeats 4000000 in
theorem alive06 (w : World) : Calls Try.prog 4 #[] w fun e w' => e = .returned (.bool true) ∧ Kept [] w w' := by
  have hnew := hid (ob_new 3 (by decide) (by decide) w)
  go_enter Try.func4, Try.ntmps4
  go_wp2_with fail
  refine hnew.out.mono ?_
  rintro e w1 ⟨rfl, k1, ob1⟩
  have hsz := ob1.bound w.heap.size (by simp)
  obtain ⟨p, hp⟩ : ∃ p, p = w.heap.size := ⟨_, rfl⟩
  have HP := hid hp
  rw [← hp] at ob1 hsz ⊢
  have hI0 := hid (show InvQ w p w1.heap.size [true, false, false, false, true, false, false, false, false, false] [undef, undef, undef, undef, undef, undef] (w1.alloc (.cells #[.pointer (some ⟨p, 0, none⟩)] 26)).drew from
    ⟨_, _, _, _, _, _, rfl, [p], [], 0, (ob1.kept ((Kept.refl [] w1).alloc _) (by simp)).kept ((Kept.refl [] _).drew) (by simp), by simp; omega, (k1.alloc _).drew, by simp [hp], heap_alloc_at rfl, rfl, by simp, by simp, by simp, by simp, by simp, by simp, by simp⟩)
  clear k1 ob1 hnew hsz hp
  go_wp2_with fail
  have hH0 : (w1.alloc (.cells #[.pointer (some ⟨p, 0, none⟩)] 26)).drew.cell? ⟨w1.heap.size, 0, none⟩ = some (.pointer (some ⟨p, 0, none⟩)) := by
    obtain ⟨_, _, _, _, _, _, _, _, _, _, _, _, _, _, hq, _⟩ := hI0.out
    exact cell_of_one hq
  refine wp_region_held_drew (S := fun v => v.cell? ⟨w1.heap.size, 0, none⟩ = some (.pointer (some ⟨p, 0, none⟩))) (by kernel_rfl) hH0 (fun hH => ?_)
  refine takeH 0 (.pointer (some ⟨p, 0, none⟩)) rfl (by kernel_rfl) (by kernel_rfl) (by kernel_rfl) (fun _ _ _ h => h) (by rfl) (fun v hv => by go_simp) hH ?_
  simp only [Act.put, List.setIfInBounds_toArray, List.set_cons_succ, List.set_cons_zero]
  refine takeH 4 (.pointer (some ⟨p, 0, none⟩)) rfl (by kernel_rfl) (by kernel_rfl) (by kernel_rfl) (fun _ _ _ h => h) (by rfl) (fun v hv => by go_simp) hH ?_
  simp only [Act.put, List.setIfInBounds_toArray, List.set_cons_succ, List.set_cons_zero]
  refine region_inv_at [true, true, true, true, true, true, true, true, false, false] [(1, [(1, false), (2, false)]), (2, [(1, true), (2, false), (3, false)]), (3, [(2, true), (3, false), (7, false)]), (5, [(5, false), (6, false)]), (6, [(5, true), (6, false), (7, false)]), (7, [(3, true), (6, true), (7, false)])] 8 [some 25, some 26, some 27, some 29, some 30, some 31] (InvQ w p w1.heap.size) [true, false, false, false, true, false, false, false, false, false] [undef, undef, undef, undef, undef, undef] rfl rfl rfl (by kernel_rfl) (by kernel_rfl) (fun L vs v hI => ?_) (fun e he L hlen hdeps vs v hI => ?_) (fun vs v hI => ?_) hI0.out
  · obtain ⟨_, _, _, _, _, _, _, _, _, _, _, _, _, _, hq, _⟩ := hI
    exact cell_of_one hq
  · obtain ⟨v25, v26, v27, v29, v30, v31, rfl, U, es, k, ob, hbU, kk, hU0, hbx, hkk, i1, i2, i5, i6, i3, j7, i7⟩ := hI
    have hUb := ob.bound
    have hbl := lt_of_block hbx
    simp only [putAll, Act.put, List.setIfInBounds_toArray, List.set_cons_succ, List.set_cons_zero]
    simp only [List.mem_cons, List.not_mem_nil, or_false] at he
    rcases he with rfl | rfl | rfl | rfl | rfl | rfl
    · have ka : Kept [] v (v.alloc (.cells (abcd.map B).toArray 5)) := (Kept.refl [] v).alloc _
      refine wpOp_run 1 rfl (by rfl) (.slice (some ⟨v.heap.size, 0, none⟩) 4 4) (v.alloc (.cells (abcd.map B).toArray 5)) (by have hb := build4 v; go_simp; rfl) ⟨_, rfl, _, _, _, _, _, _, rfl, U, es, k, ob.kept ka (by simp), hbU, kk.trans ka, hU0, ka.at hbx (by simp), ?_⟩
      simp only [gset hlen]
      simp
      exact ⟨hkk, bsin_new v _ kk.size U abcd hUb, fun h => (i2 h).kept (ka.wider (by simp)) (fun y hy => Or.inl hy), fun h => (i5 h).kept (ka.wider (by simp)) (fun y hy => Or.inl hy), fun h => (i6 h).kept (ka.wider (by simp)) (fun y hy => Or.inl hy), i3, j7, i7⟩
    · obtain ⟨g, fr, rfl, hg, hgU, hlo⟩ := i1 (hdeps (1, true) (by simp))
      obtain ⟨W', fr', hcv, kc, hg'⟩ := conv_mark v g abcd.length abcd.length _ fr hg
      have hob := ob.kept kc (fun x hx hm => by simp at hm; exact hgU (hm ▸ hx))
      have hbg : w1.heap.size ∉ [g] := fun hm => by simp at hm; rw [hm, hg] at hbx; simp at hbx
      have hcb : ∀ {x : Value} {bs : List UInt8}, BsIn v w.heap.size U x bs → BsIn W' w.heap.size U x bs := fun h => h.conv kc ⟨fr, hg⟩ hg'
      refine wpOp_run 2 rfl (by rfl) (.slice (some ⟨g, 0, none⟩) abcd.length abcd.length) W' (by have hb := hcv; go_simp) ⟨_, rfl, _, _, _, _, _, _, rfl, U, es, k, hob, hbU, kk.trans' kc (fun x hx hm => by simp at hm; omega), hU0, kc.at hbx hbg, ?_⟩
      simp only [gset hlen]
      simp
      exact ⟨hkk, fun h => hcb (i1 h), ⟨g, fr', rfl, hg', hgU, hlo⟩, fun h => hcb (i5 h), fun h => hcb (i6 h), i3, j7, i7⟩
    · obtain ⟨g, rfl, hsrc⟩ := (i2 (hdeps (2, true) (by simp))).src (V := [p]) (fun y hy => by simp at hy; subst hy; exact ob.hp)
      obtain rfl := j7 (hdeps (7, false) (by simp))
      have hc := put_plain v U p 58 [] 3 [] k [120] (by decide) ob (by rw [hkk]; split <;> split <;> decide) (some ⟨g, 0, none⟩) 4 abcd 4 rfl hsrc (by decide) 31 ask1
      refine wpOp_callE 3 rfl (by rfl) 15 #[.pointer (some ⟨p, 0, none⟩), .string (S [120]), .slice (some ⟨g, 0, none⟩) 4 4] (by go_simp; exact ⟨rfl, rfl⟩) (fun u v' => u = .int .i64 31 ∧ Kept U v v' ∧ ∃ U', (∀ x ∈ U', x ∈ U ∨ v.heap.size ≤ x) ∧ Ob v' U' p 58 [] 3 [] (.pointer none) [] (k + 1)) (hc.mono fun e w' h => by
        obtain ⟨v', U', rfl, h2, h3, h4⟩ := h
        exact ⟨_, rfl, rfl, h2, U', h3, by simpa using h4⟩) ?_
      rintro u v' ⟨rfl, k', U', hU', ob'⟩
      refine ⟨_, rfl, _, _, _, _, _, _, rfl, U', [], k + 1, ob', fun hm => ?_, kk.trans' k' (fun x hx hm => by have := hU0 x hm; omega), fun x hx => ?_, k'.at hbx hbU, ?_⟩
      · rcases hU' _ hm with h | h
        · exact hbU h
        · omega
      · rcases hU' _ hx with h | h
        · exact hU0 x h
        · exact Nat.le_trans kk.size h
      have d3 := hdeps (3, false) (by simp)
      have d7 := hdeps (7, false) (by simp)
      dsimp only at d3 d7
      rw [d3, d7] at hkk
      refine ⟨by simp only [gset hlen]; rw [d7, hkk]; rfl, ?_⟩
      simp only [gset hlen]
      simp
      exact ⟨fun h => (i1 h).kept k' hU', fun h => (i2 h).kept k' hU', fun h => (i5 h).kept k' hU', fun h => (i6 h).kept k' hU', by simpa using d7⟩
    · have ka : Kept [] v (v.alloc (.cells (abc.map B).toArray 5)) := (Kept.refl [] v).alloc _
      refine wpOp_run 5 rfl (by rfl) (.slice (some ⟨v.heap.size, 0, none⟩) 3 3) (v.alloc (.cells (abc.map B).toArray 5)) (by have hb := build3 v; go_simp; rfl) ⟨_, rfl, _, _, _, _, _, _, rfl, U, es, k, ob.kept ka (by simp), hbU, kk.trans ka, hU0, ka.at hbx (by simp), ?_⟩
      simp only [gset hlen]
      simp
      exact ⟨hkk, fun h => (i1 h).kept (ka.wider (by simp)) (fun y hy => Or.inl hy), fun h => (i2 h).kept (ka.wider (by simp)) (fun y hy => Or.inl hy), bsin_new v _ kk.size U abc hUb, fun h => (i6 h).kept (ka.wider (by simp)) (fun y hy => Or.inl hy), i3, j7, i7⟩
    · obtain ⟨g, fr, rfl, hg, hgU, hlo⟩ := i5 (hdeps (5, true) (by simp))
      obtain ⟨W', fr', hcv, kc, hg'⟩ := conv_mark v g abc.length abc.length _ fr hg
      have hob := ob.kept kc (fun x hx hm => by simp at hm; exact hgU (hm ▸ hx))
      have hbg : w1.heap.size ∉ [g] := fun hm => by simp at hm; rw [hm, hg] at hbx; simp at hbx
      have hcb : ∀ {x : Value} {bs : List UInt8}, BsIn v w.heap.size U x bs → BsIn W' w.heap.size U x bs := fun h => h.conv kc ⟨fr, hg⟩ hg'
      refine wpOp_run 6 rfl (by rfl) (.slice (some ⟨g, 0, none⟩) abc.length abc.length) W' (by have hb := hcv; go_simp) ⟨_, rfl, _, _, _, _, _, _, rfl, U, es, k, hob, hbU, kk.trans' kc (fun x hx hm => by simp at hm; omega), hU0, kc.at hbx hbg, ?_⟩
      simp only [gset hlen]
      simp
      exact ⟨hkk, fun h => hcb (i1 h), fun h => hcb (i2 h), fun h => hcb (i5 h), ⟨g, fr', rfl, hg', hgU, hlo⟩, i3, j7, i7⟩
    · obtain ⟨g, rfl, hsrc⟩ := (i6 (hdeps (6, true) (by simp))).src (V := [p]) (fun y hy => by simp at hy; subst hy; exact ob.hp)
      obtain rfl := j7 (hdeps (7, false) (by simp))
      have hc := put_plain v U p 58 [] 3 [] k [120] (by decide) ob (by rw [hkk]; split <;> split <;> decide) (some ⟨g, 0, none⟩) 3 abc 3 rfl hsrc (by decide) 0 ask2
      refine wpOp_callE 7 rfl (by rfl) 15 #[.pointer (some ⟨p, 0, none⟩), .string (S [120]), .slice (some ⟨g, 0, none⟩) 3 3] (by go_simp; exact ⟨rfl, rfl⟩) (fun u v' => u = .int .i64 0 ∧ Kept U v v' ∧ ∃ x U', (∀ x ∈ U', x ∈ U ∨ v.heap.size ≤ x) ∧ Ob v' U' p 58 [] 3 [⟨[120], x, abc⟩] (.pointer none) [] (k + 1)) (hc.mono fun e w' h => by
        obtain ⟨v', U', rfl, h2, h3, h4⟩ := h
        exact ⟨_, rfl, rfl, h2, v', U', h3, h4⟩) ?_
      rintro u v' ⟨rfl, k', x0, U', hU', ob'⟩
      refine ⟨_, rfl, _, _, _, _, _, _, rfl, U', _, k + 1, ob', fun hm => ?_, kk.trans' k' (fun x hx hm => by have := hU0 x hm; omega), fun x hx => ?_, k'.at hbx hbU, ?_⟩
      · rcases hU' _ hm with h | h
        · exact hbU h
        · omega
      · rcases hU' _ hx with h | h
        · exact hU0 x h
        · exact Nat.le_trans kk.size h
      have d3 := hdeps (3, true) (by simp)
      have d7 := hdeps (7, false) (by simp)
      dsimp only at d3 d7
      rw [d3, d7] at hkk
      refine ⟨by simp only [gset hlen]; rw [d3, hkk]; rfl, ?_⟩
      simp only [gset hlen]
      simp
      exact ⟨fun h => (i1 h).kept k' hU', fun h => (i2 h).kept k' hU', fun h => (i5 h).kept k' hU', fun h => (i6 h).kept k' hU', i3⟩
  · obtain ⟨v25, v26, v27, v29, v30, v31, rfl, U, es, k, ob, hbU, kk, hU0, hbx, hkk, -, -, -, -, i3, -, i7⟩ := hI
    obtain ⟨rfl, v', rfl⟩ := i7 rfl
    obtain rfl := i3 rfl
    simp at hkk
    subst hkk
    have hcell : v.cell? ⟨w1.heap.size, 0, none⟩ = some (.pointer (some ⟨p, 0, none⟩)) := cell_of_one hbx
    simp only [putAll, Act.put, List.setIfInBounds_toArray, List.set_cons_succ, List.set_cons_zero]
    refine takeH 8 (.int .i64 31) rfl (by kernel_rfl) (by kernel_rfl) (by kernel_rfl) (fun _ _ _ h => h) (by rfl) (fun v hv => by go_simp) hcell ?_
    simp only [Act.put, List.setIfInBounds_toArray, List.set_cons_succ, List.set_cons_zero]
    refine takeH 9 (.int .i64 0) rfl (by kernel_rfl) (by kernel_rfl) (by kernel_rfl) (fun _ _ _ h => h) (by rfl) (fun v hv => by go_simp) hcell ?_
    simp only [Act.put, List.setIfInBounds_toArray, List.set_cons_succ, List.set_cons_zero]
    refine wpAnyH_done (by kernel_rfl) ?_ _
    clear hI0 hH0 hH
    obtain ⟨es, hes⟩ : ∃ es, es = [(⟨[120], v', abc⟩ : Ent)] := ⟨_, rfl⟩
    rw [← hes] at ob
    have q1 : gotE [] es [120] = 0 := by rw [hes]; rfl
    have q2 : gotB [] es [120] = abc := by rw [hes]; rfl
    have q3 : gotE [] es [121] = 4 := by rw [hes]; rfl
    have q4 : gotB [] es [121] = [] := by rw [hes]; rfl
    have q5 : (gotL [] es []).length = 1 := by rw [hes]; rfl
    have q6 : gotE [true] es [120] = 30 := by rw [hes]; rfl
    have q7 : dropE [true] es [120] = es := by rw [hes]; rfl
    have q8 : es.length = 1 := by rw [hes]; rfl
    have q9 : sizeE es = 3 := by rw [hes]; rfl
    have q10 : es.map szV = [.int .i64 3] := by rw [hes]; rfl
    have Q3 := hid (And.intro q3 q4); have Q5 := hid q5; have Q6 := hid (And.intro q6 q7); have Q8 := hid (And.intro q8 (And.intro q9 q10))
    have hget := hid (get_plain v U p 58 [] 3 es 2 [120] (by decide) ob (by decide) 0 q1 abc q2)
    have HBX := hid hbx; have HBU := hid hbU; have KK := hid kk; have HU0 := hid hU0
    have hpU := hid ob.hp; have PB := hid (ob.bound p ob.hp); have UB := hid ob.bound
    have hbp := hid (show w1.heap.size ∉ [p] from fun hm => hbU (by simp at hm; rw [hm]; exact ob.hp))
    clear hes ob hbU hbx hU0 kk q1 q2 q3 q4 q5 q6 q7 q8 q9 q10
    go_wp2_with fail
    refine hget.out.mono ?_
    rintro e w2 ⟨x2, rfl, k2, ob2, n2⟩
    obtain ⟨V2, hV2, s2⟩ := n2
    have S2 := hid s2; have HV2 := hid hV2
    obtain ⟨_, xa, xc, rfl, _⟩ := s2
    have K2 := hid k2
    have HBX2 := hid (k2.at HBX.out hbp.out)
    have hcell2 : w2.cell? ⟨w1.heap.size, 0, none⟩ = some (.pointer (some ⟨p, 0, none⟩)) := cell_of_one HBX2.out
    have hget2 := hid (get_plain w2 U p 58 [] 3 es 3 [121] (by decide) ob2 (by decide) 4 Q3.out.1 [] Q3.out.2)
    clear k2 ob2 hV2 hcell hget
    go_wp2_with fail
    refine hget2.out.mono ?_
    rintro e w3 ⟨x3, rfl, k3, ob3, n3⟩
    obtain ⟨_, _, _, ya, yc, rfl, _⟩ := n3
    have K3 := hid k3
    have HBX3 := hid (k3.at HBX2.out hbp.out)
    have hcell3 : w3.cell? ⟨w1.heap.size, 0, none⟩ = some (.pointer (some ⟨p, 0, none⟩)) := cell_of_one HBX3.out
    have S3 := hid (S2.out.kept k3 (fun x hx hm => by simp at hm; have := (HV2.out x hx).1; have := PB.out; omega))
    have hlist := hid ((ob_list w3 U p 58 [] 3 es (.pointer none) [] 4 (-1) [] ob3 (by decide) (Or.inl ⟨rfl, rfl⟩) (by decide)).mono (R' := fun e w' => ∃ a c, e = .returned (.tuple #[.slice a 1 c, .int .i64 0]) ∧ Kept [p] w3 w' ∧ Ob w' U p 58 [] 3 es (.pointer none) [] 5) fun e w' h => by
      obtain ⟨v', h1, h2, h3, _, h5⟩ := h
      rw [Q5.out] at h5
      obtain ⟨a, c, rfl⟩ := owns_slice h5
      exact ⟨a, c, h1, by simpa [fuB] using h2, h3⟩)
    clear k3 ob3 hcell2 hget2
    go_wp2_with fail
    refine hlist.out.mono ?_
    rintro e w4 ⟨la, lc, rfl, k4, ob4⟩
    have K4 := hid k4
    have HBX4 := hid (k4.at HBX3.out hbp.out)
    have S4 := hid (S3.out.kept k4 (fun x hx hm => by simp at hm; have := (HV2.out x hx).1; have := PB.out; omega))
    have OB4 := hid ob4
    have hcell4 : w4.cell? ⟨w1.heap.size, 0, none⟩ = some (.pointer (some ⟨p, 0, none⟩)) := cell_of_one HBX4.out
    clear k4 ob4 hcell3 hlist
    go_wp2_with fail
    have hF0 := hid (show InvF w4 [true, false, false, false] [undef, undef] w4.drew from ⟨_, _, rfl, (Kept.refl [] w4).drew, by simp, by simp⟩)
    have hcd : w4.drew.cell? ⟨w1.heap.size, 0, none⟩ = some (.pointer (some ⟨p, 0, none⟩)) := hcell4
    refine wp_region_held_drew (S := fun v => v.cell? ⟨w1.heap.size, 0, none⟩ = some (.pointer (some ⟨p, 0, none⟩))) (by kernel_rfl) hcd (fun hH => ?_)
    refine takeH 0 (.pointer (some ⟨p, 0, none⟩)) rfl (by kernel_rfl) (by kernel_rfl) (by kernel_rfl) (fun _ _ _ h => h) (by rfl) (fun v hv => by go_simp) hH ?_
    simp only [Act.put, List.setIfInBounds_toArray, List.set_cons_succ, List.set_cons_zero]
    refine region_inv_at [true, true, true, false] [(1, [(1, false)]), (2, [(2, false)])] 4 [some 54, some 55] (InvF w4) [true, false, false, false] [undef, undef] rfl rfl rfl (by kernel_rfl) (by kernel_rfl) (fun L vs v hI => ?_) (fun e he L hlen hdeps vs v hI => ?_) (fun vs v hI => ?_) hF0.out
    · obtain ⟨_, _, _, hk, _⟩ := hI
      exact cell_of_one (hk.at HBX4.out (by simp))
    · obtain ⟨v54, v55, rfl, hk, i1, i2⟩ := hI
      simp only [putAll, Act.put, List.setIfInBounds_toArray, List.set_cons_succ, List.set_cons_zero]
      simp only [List.mem_cons, List.not_mem_nil, or_false] at he
      rcases he with rfl | rfl
      · refine wpOp_callE 1 rfl (by rfl) 7 #[.int .i64 1] (by go_simp) (fun u v' => u = .pointer (some ⟨v.heap.size, 0, none⟩) ∧ v.alloc (.cells #[.int .i64 1] 60) = v') ((newfuse_any 1 (by decide) v).mono fun e w' h => ⟨_, h.1, rfl, h.2⟩) ?_
        rintro u v' ⟨rfl, rfl⟩
        refine ⟨_, rfl, _, _, rfl, hk.alloc _, fun _ => ⟨_, rfl, heap_alloc_at rfl, hk.size⟩, fun h => ?_⟩
        rw [gset hlen] at h
        obtain ⟨g, h1, h2, h3⟩ := i2 (by simpa using h)
        exact ⟨g, h1, heap_alloc_old h2, h3⟩
      · refine wpOp_run 2 rfl (by rfl) (.slice (some ⟨v.heap.size, 0, none⟩) 1 1) (v.alloc (.cells #[.bool true] 4)) (by have hb := build_t v; go_simp) ⟨_, rfl, _, _, rfl, hk.alloc _, fun h => ?_, fun _ => ⟨_, rfl, heap_alloc_at rfl, hk.size⟩⟩
        rw [gset hlen] at h
        obtain ⟨f, h1, h2, h3⟩ := i1 (by simpa using h)
        exact ⟨f, h1, heap_alloc_old h2, h3⟩
    · obtain ⟨v54, v55, rfl, hk, i1, i2⟩ := hI
      obtain ⟨f, rfl, hf1, hf2⟩ := i1 rfl
      obtain ⟨g, rfl, hg1, hg2⟩ := i2 rfl
      simp only [putAll, Act.put, List.setIfInBounds_toArray, List.set_cons_succ, List.set_cons_zero]
      have hbV : ∀ x ∈ U, x < w4.heap.size := OB4.out.bound
      have har := ob_arm v U p 58 [] 3 es (.pointer none) [] 5 (OB4.out.kept hk (by simp)) (.pointer (some ⟨f, 0, none⟩)) (.slice (some ⟨g, 0, none⟩) 1 1) [true] ⟨_, rfl⟩ (Or.inr ⟨g, 0, 1, rfl, fun hm => by have := hbV g hm; omega, fun j u hj => by
        match j, hj with
        | 0, hj => simp at hj; subst hj; exact cell_of_one hg1
        | _ + 1, hj => simp at hj⟩) (by decide)
      refine callR 3 rfl (by kernel_rfl) (by rfl) 8 #[.pointer (some ⟨p, 0, none⟩), .pointer (some ⟨f, 0, none⟩), .slice (some ⟨g, 0, none⟩) 1 1] (by go_simp) (.tuple #[]) (fun w' => Kept [p] v w' ∧ ∃ U', (∀ x ∈ U', x ∈ U ∨ v.heap.size ≤ x) ∧ Ob w' U' p 58 [] 3 es (.pointer (some ⟨f, 0, none⟩)) [true] 5) (fun w' h => cell_of_one (h.1.at (hk.at HBX4.out (by simp)) hbp.out)) har ?_
      rintro w5 ⟨k5, U5, hU5, ob5⟩
      refine wpAnyH_done (by kernel_rfl) ?_ _
      have K5 := hid ((hk.wider (fun _ _ h => by simp at h)).trans k5)
      have HBX5 := hid (K5.out.at HBX4.out hbp.out)
      have S5 := hid (S4.out.kept K5.out (fun x hx hm => by simp at hm; have := (HV2.out x hx).1; have := PB.out; omega))
      have hcell5 : w5.cell? ⟨w1.heap.size, 0, none⟩ = some (.pointer (some ⟨p, 0, none⟩)) := cell_of_one HBX5.out
      have hfp : f ≠ p := fun e => by have := hbV p OB4.out.hp; omega
      have hfU : f ∉ U5 := fun hm => by
        rcases hU5 f hm with h | h
        · have := hbV f h; omega
        · have := lt_of_block hf1; omega
      have hb4 := lt_of_block HBX4.out
      have hv4 := hk.size
      have HU5 := hid (show ∀ x ∈ U5 ++ [f], x ∈ U ∨ w4.heap.size ≤ x from fun x hx => by
        rcases List.mem_append.1 hx with h | h
        · rcases hU5 x h with h | h
          · exact Or.inl h
          · right; omega
        · simp at h; right; omega)
      have hdrop := hid ((ob_drop w5 U5 p 58 [] 3 es (.pointer (some ⟨f, 0, none⟩)) [true] 5 1 [120] (by decide) ob5 (by decide) (Or.inr ⟨f, rfl, hfU, k5.at hf1 (by simp [hfp]), by decide, by decide⟩) (by decide)).mono (R' := fun e w' => e = .returned (.int .i64 30) ∧ Kept (U5 ++ [f]) w5 w' ∧ Ob w' U5 p 58 [] 3 es (.pointer (some ⟨f, 0, none⟩)) [] 6) fun e w' h => by
        obtain ⟨h1, h2, h3, _⟩ := h
        rw [Q6.out.1] at h1
        rw [Q6.out.2] at h3
        exact ⟨h1, by simpa [fuB] using h2, h3⟩)
      have hb5 := hid (show w1.heap.size ∉ U5 ++ [f] from fun hm => by
        rcases HU5.out _ hm with h | h
        · exact HBU.out h
        · omega)
      have hV5 := hid (show ∀ x ∈ V2, x ∉ U5 ++ [f] from fun x hx hm => by
        have h1 := HV2.out x hx
        have h2 := K3.out.size; have h3 := K4.out.size
        rcases HU5.out _ hm with h | h
        · have := UB.out x h; omega
        · omega)
      have H45 := hid K5.out.size
      clear hk i1 i2 hf1 hf2 hg1 hg2 har k5 hU5 ob5 hbV hfp hfU hb4 hv4 hcell4 hcd hH hF0
      go_wp2_with fail
      refine hdrop.out.mono ?_
      rintro e w6 ⟨rfl, k6, ob6⟩
      have K6 := hid k6; have OB6 := hid ob6
      have HBX6 := hid (k6.at HBX5.out hb5.out)
      have S6 := hid (S5.out.kept k6 hV5.out)
      have hcell6 : w6.cell? ⟨w1.heap.size, 0, none⟩ = some (.pointer (some ⟨p, 0, none⟩)) := cell_of_one HBX6.out
      have hnf := hid (newfuse_any 0 (by decide) w6)
      clear k6 ob6 hdrop hcell5
      go_wp2_with fail
      refine hnf.out.mono ?_
      rintro e w7 ⟨rfl, hw7⟩
      have K7 := hid (show Kept [] w6 w7 from hw7 ▸ (Kept.refl [] w6).alloc _)
      have HF7 := hid (show w7.heap[w6.heap.size]? = some (.cells #[.int .i64 0] 60 (0, 0)) from hw7 ▸ heap_alloc_at rfl)
      have hs7 := hid (show w7.heap.size = w6.heap.size + 1 from by rw [← hw7]; simp)
      have hcell7 : w7.cell? ⟨w1.heap.size, 0, none⟩ = some (.pointer (some ⟨p, 0, none⟩)) := cell_of_one (K7.out.at HBX6.out (by simp))
      have har := hid (ob_arm w7 U5 p 58 [] 3 es (.pointer (some ⟨f, 0, none⟩)) [] 6 (OB6.out.kept K7.out (by simp)) (.pointer (some ⟨w6.heap.size, 0, none⟩)) (.slice none 0 0) [] ⟨_, rfl⟩ (Or.inl ⟨rfl, rfl⟩) (by decide))
      clear hw7 hnf hcell6
      go_wp2_with fail
      refine har.out.mono ?_
      rintro e w8 ⟨rfl, k8, U8, hU8, ob8⟩
      have K8 := hid k8; have OB8 := hid ob8; have HU8 := hid hU8
      have HBX8 := hid (k8.at (K7.out.at HBX6.out (by simp)) hbp.out)
      have S8 := hid ((S6.out.kept K7.out (by simp)).kept k8 (fun x hx hm => by simp at hm; have := (HV2.out x hx).1; have := PB.out; omega))
      have hfu8 := hid (show FuV w8 U8 (.pointer (some ⟨w6.heap.size, 0, none⟩)) 0 from Or.inr ⟨_, rfl, fun hm => by
        rcases hU8 _ hm with h | h
        · exact Nat.lt_irrefl _ (OB6.out.bound _ h)
        · have := hs7.out; omega, k8.at HF7.out (fun hm => by simp at hm; have := OB6.out.bound p OB6.out.hp; omega), by decide, by decide⟩)
      have hcatch := hid (catch_blown ⟨w6.heap.size, 0, none⟩ 19 (fun args w => by simp [go_sem]) #[.pointer (some ⟨w1.heap.size, 0, none⟩)] w8 [] (by simp) (fun _ => True) (fun _ _ _ _ => trivial)
        ((alive06_1 _ U8 p 58 [] 3 es w6.heap.size w1.heap.size [] 6 (ob8.kept (((Kept.refl [] w8).alloc _).alloc _) (by simp)) (hfu8.out.kept (((Kept.refl [] w8).alloc _).alloc _) (by simp)) (cell_of_one ((((Kept.refl [] w8).alloc _).alloc _).at HBX8.out (by simp)))).mono fun e w' h => ⟨h.1, h.2 ▸ Kept.refl _ _, trivial⟩))
      clear k8 ob8 hU8 har hcell7
      have hcell8 : w8.cell? ⟨w1.heap.size, 0, none⟩ = some (.pointer (some ⟨p, 0, none⟩)) := cell_of_one HBX8.out
      go_wp2_with fail
      refine hcatch.out.mono ?_
      rintro e w9 ⟨rfl, k9, -⟩
      have K9 := hid k9
      have OB9 := hid (OB8.out.kept k9 (by simp))
      have HBX9 := hid (k9.at HBX8.out (by simp))
      have S9 := hid (S8.out.kept k9 (by simp))
      have hcell9 : w9.cell? ⟨w1.heap.size, 0, none⟩ = some (.pointer (some ⟨p, 0, none⟩)) := cell_of_one HBX9.out
      have hnames := hid ((names_any w9 U8 p 58 [] 3 es (.pointer (some ⟨w6.heap.size, 0, none⟩)) [] 6 OB9.out 9 (by rw [Q8.out.1]; decide) (by decide)).mono (R' := fun e w' => ∃ a c g c2, e = .returned (.tuple #[.slice a 1 c, .slice (some ⟨g, 0, none⟩) 1 c2]) ∧ Kept [] w9 w' ∧ w'.cell? ⟨g, 0, none⟩ = some (.int .i64 3)) fun e w' h => by
        obtain ⟨vx, vy, h1, h2, h3, h4⟩ := h
        rw [Q8.out.2.2, Q8.out.1] at h4
        rw [Q8.out.1] at h3
        obtain ⟨a, c, rfl⟩ := owns_slice h3
        rcases h4.2 with ⟨_, h0⟩ | ⟨g, cap, cur, rfl, _⟩
        · exact absurd h0 (by decide)
        · exact ⟨a, c, g, cap, h1, h2, owns_cell h4 rfl⟩)
      clear k9 hcatch hcell8
      go_wp2_with fail
      refine hnames.out.mono ?_
      rintro e w10 ⟨na, nc, g, gc, rfl, k10, hg0⟩
      have K10 := hid k10
      have OB10 := OB9.out.kept k10 (by simp)
      have hcell10 : w10.cell? ⟨w1.heap.size, 0, none⟩ = some (.pointer (some ⟨p, 0, none⟩)) := cell_of_one (k10.at HBX9.out (by simp))
      have hcv := bytes_back w10 xa xc abc (by decide) (S9.out.kept k10 (by simp)).src
      have hbad := hid (ob_new_bad (-1) (by decide) (by decide) w10)
      have hops := hid (ob_ops w10 U8 p 58 [] 3 es (.pointer (some ⟨w6.heap.size, 0, none⟩)) [] 6 OB10)
      have hlen := hid (show Calls Try.prog 21 #[.pointer (some ⟨p, 0, none⟩)] w10 fun e w' => e = .returned (.int .i64 1) ∧ w10 = w' from by
        have h := ob_len w10 U8 p 58 [] 3 es (.pointer (some ⟨w6.heap.size, 0, none⟩)) [] 6 OB10
        rw [Q8.out.1] at h; exact h)
      have hsize := hid (show Calls Try.prog 22 #[.pointer (some ⟨p, 0, none⟩)] w10 fun e w' => e = .returned (.int .i64 3) ∧ w10 = w' from by
        have h := ob_size w10 U8 p 58 [] 3 es (.pointer (some ⟨w6.heap.size, 0, none⟩)) [] 6 OB10
        rw [Q8.out.2.1] at h; exact h)
      have hfin := hid (show Kept [] w w10 from by
        have e1 : ∀ x, x < w.heap.size → x ∈ [p] → x ∈ ([] : List Nat) := fun x hx hm => by simp at hm; have := HP.out; omega
        have e2 := KK.out.size; have e3 := K2.out.size; have e4 := K3.out.size; have e5 := K4.out.size
        have z1 := (((KK.out.trans' K2.out e1).trans' K3.out e1).trans' K4.out e1).trans' K5.out e1
        have z2 := z1.trans' K6.out (fun x hx hm => by
          rcases HU5.out x hm with h | h
          · have := HU0.out x h; omega
          · omega)
        exact ((((z2.trans K7.out).trans' K8.out e1).trans K9.out).trans K10.out))
      clear k10 hnames OB10 hcell9
      go_wp2_with fail
      refine hbad.out.mono ?_
      rintro e w11 ⟨rfl, rfl⟩
      go_wp2_with fail
      refine hops.out.mono ?_
      rintro e w11 ⟨rfl, rfl⟩
      go_wp2_with fail
      refine hlen.out.mono ?_
      rintro e w11 ⟨rfl, rfl⟩
      go_wp2_with fail
      refine hsize.out.mono ?_
      rintro e w11 ⟨rfl, rfl⟩
      go_wp2
      go_ret
      exact ⟨rfl, hfin.out⟩
end Go.Proofs.Ytmholofhmpplcaa
