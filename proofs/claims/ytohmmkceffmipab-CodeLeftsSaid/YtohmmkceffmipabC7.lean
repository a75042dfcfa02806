/- coldstorelaw02.CodeMosts: its reading, and all of it. -/
import Derived.Test.YtohmmkceffmipabC6
namespace Go.Proofs.Ytohmmkceffmipab
open Go.RowKit Go.Lib

/-- Behind the reading: both errors, and what was got. -/
def MostsQ (pg pf ps : Nat) (xs : List UInt8) (most lb : Int) (n : Int) (_ : List UInt8) (W : World) : Prop :=
  n = 0 ∧ ∃ n2 : Int, W.heap[pf]? = some (.cells #[.int .i64 (fieldErr xs most)] 37 (0, 0)) ∧ W.heap[ps]? = some (.cells #[.int .i64 n2] 37 (0, 0)) ∧
    (fieldErr xs most ≠ 0 → n2 = fieldErr xs lb ∧ (n2 = 0 → Got pg xs W))

theorem MostsQ.err {pg pf ps : Nat} {xs : List UInt8} {most lb n : Int} {rest : List UInt8} {w w' : World} (h : MostsQ pg pf ps xs most lb n rest w) {x : Nat} (hx : ErrAt w x) (hk : Kept [x] w w') (hg : pg < x) (hf : pf < x) (hs : ps < x) : MostsQ pg pf ps xs most lb n rest w' := by
  obtain ⟨h1, n2, h2, h3, h4⟩ := h
  exact ⟨h1, n2, hk.at h2 (by simp; omega), hk.at h3 (by simp; omega), fun h5 => ⟨(h4 h5).1, fun h6 => ((h4 h5).2 h6).err hx hk (by omega)⟩⟩

theorem mosts1 (rb pb pm pg pf ps : Nat) (a ab : Option Addr) (c lb cb : Nat) (xs : List UInt8) (most : Int) (w : World) (h : Rd w rb a c xs)
    (hm : w.heap[pm]? = some (.cells #[.int .i64 most] 3 (0, 0))) (hf : w.heap[pf]? = some (.cells #[.int .i64 0] 37 (0, 0))) (hb : w.heap[pb]? = some (.cells #[.slice ab lb cb] 25 (0, 0)))
    (hg : w.heap[pg]? = some (.cells #[.slice none 0 0] 25 (0, 0))) (hs : w.heap[ps]? = some (.cells #[.int .i64 0] 37 (0, 0)))
    (ho : pb < pm ∧ pm < pg ∧ pg < pf ∧ pf < ps ∧ ps < rb) (hax : ∀ x, a = some x → ps < x.block ∧ x.block < w.heap.size) :
    Calls Try.prog 25 #[.pointer (some ⟨rb, 0, none⟩), .pointer (some ⟨pm, 0, none⟩), .pointer (some ⟨pf, 0, none⟩), .pointer (some ⟨pb, 0, none⟩), .pointer (some ⟨pg, 0, none⟩), .pointer (some ⟨ps, 0, none⟩)] w
      (Threw (ReadOn rb a [pg, pf, ps] w (MostsQ pg pf ps xs most lb))) := by
  have hmf : ∀ (fn : Fn) (first cap : Array Value) (w : World), (Instr.makeFunc fn first cap).run Try.prog w = .ok (.func fn first cap) w := fun _ _ _ _ => rfl
  have lrb := lt_of_block h.here
  obtain ⟨W1, hW1⟩ : ∃ W, W = w.alloc (.cells #[.pointer (some ⟨rb, 0, none⟩)] 27) := ⟨_, rfl⟩
  have hk1 : Kept [] w W1 := hW1 ▸ (Kept.refl [] w).alloc _
  have hr1 : W1.heap[w.heap.size]? = some (.cells #[.pointer (some ⟨rb, 0, none⟩)] 27 (0, 0)) := hW1 ▸ heap_alloc_new' _ _
  have l1 := lt_of_block hr1
  have hkE : Kept [] W1 (W1.alloc (.cells #[.int .i64 0] 37)) := (Kept.refl [] W1).alloc _
  have hrun1 := hid (run_read 27 enters_mosts11 #[.pointer (some ⟨w.heap.size, 0, none⟩), .pointer (some ⟨pm, 0, none⟩)] W1 rb a [] (fun n rest _ => n = fieldErr xs most ∧ (n ≠ 0 → rest = xs)) (by omega) (by simp) (fun x hx => by have := (hax x hx).2; omega)
    (fun _ _ _ _ h _ _ => h)
    (mosts11 w.heap.size pm rb a c xs most _ ((h.kept hk1 (by simp) (by simp)).kept hkE (by simp) (by simp)) (hkE.at hr1 (by simp)) (hkE.at (hk1.at hm (by simp)) (by simp))))
  have Hf := hid (hk1.at hf (by simp)); have Hb := hid (hk1.at hb (by simp)); have Hg := hid (hk1.at hg (by simp)); have Hs := hid (hk1.at hs (by simp))
  have HR := hid hr1
  have Hax := hid hax
  have Hk1 := hid hk1
  have HW1 := hid hW1
  clear h hm hf hb hg hs hax hkE hk1 hr1 hW1
  go_enter Try.func25, Try.ntmps25
  go_wp2_with fail
  rw [← HW1.out]
  refine hrun1.out.mono ?_
  rintro e w2 ⟨n, rfl, a', c', rest, hrd, hk2, hab, rfl, hrest⟩
  have s2 := hk2.size
  have hf2 := hk2.at Hf.out (by simp; omega)
  have hb2 := hk2.at Hb.out (by simp; omega)
  have hg2 := hk2.at Hg.out (by simp; omega)
  have hs2 := hk2.at Hs.out (by simp; omega)
  have hr2 := hk2.at HR.out (by simp; omega)
  have gf := cell_of_one hf2
  have gff := free_of_one hf2
  obtain ⟨W3, hW3⟩ : ∃ W, W = w2.setCell ⟨pf, 0, none⟩ (.int .i64 (fieldErr xs most)) := ⟨_, rfl⟩
  have hk3 : Kept [pf] w2 W3 := hW3 ▸ (Kept.refl _ _).setCell (p := ⟨pf, 0, none⟩) (fun _ => by simp) _
  have hf3 : W3.heap[pf]? = some (.cells #[.int .i64 (fieldErr xs most)] 37 (0, 0)) := hW3 ▸ one_setCell hf2
  have hb3 := hk3.at hb2 (by simp; omega)
  have hg3 := hk3.at hg2 (by simp; omega)
  have hs3 := hk3.at hs2 (by simp; omega)
  have hr3 := hk3.at hr2 (by simp; omega)
  have s3 := hk3.size
  have ha' : ∀ x, a' = some x → ps < x.block ∧ x.block < w.heap.size := fun x hx => by
    obtain ⟨y, hy, hxy⟩ := hab x hx
    rw [hxy]; exact Hax.out y hy
  have hrd3 := hrd.kept hk3 (by simp; omega) (fun x hx => by have := ha' x hx; simp; omega)
  have hkE : Kept [] W3 (W3.alloc (.cells #[.int .i64 0] 37)) := (Kept.refl [] W3).alloc _
  have hrun2 := hid (run_read 28 enters_mosts12 #[.pointer (some ⟨w.heap.size, 0, none⟩), .pointer (some ⟨pb, 0, none⟩), .pointer (some ⟨pg, 0, none⟩)] W3 rb a' [pg] (fun n _ W' => n = fieldErr rest lb ∧ (n = 0 → Got pg rest W')) (by omega) (by simp; omega) (fun x hx => by have := (ha' x hx).2; omega)
    (fun _ _ _ _ h he hk => ⟨h.1, fun h0 => (h.2 h0).err he hk (by omega)⟩)
    (mosts12 w.heap.size pb pg rb a' ab c' lb cb rest _ (hrd3.kept hkE (by simp) (by simp)) (hkE.at hr3 (by simp)) (hkE.at hb3 (by simp)) (hkE.at hg3 (by simp)) (by omega) (fun x hx => by have := ha' x hx; omega)))
  have HF3 := hid hf3; have HS3 := hid hs3; have HA' := hid ha'; have HAB := hid hab; have HREST := hid hrest
  have HK3 := hid (((Hk1.out.wider (T := [rb, pg, pf, ps]) (by simp)).trans' hk2 (fun x _ hx => by simp at hx; simp [hx])).trans' hk3 (fun x _ hx => by simp at hx; simp [hx]))
  have HW3 := hid hW3
  clear hrd hk2 hf2 hb2 hg2 hs2 hr2 hk3 hf3 hb3 hg3 hs3 hr3 hrd3 hkE hW3 hrun1 ha' hab hrest
  go_wp2_with fail
  rw [← HW3.out]
  refine hrun2.out.mono ?_
  rintro e w4 ⟨n2, rfl, a2, c2, rest2, hrd4, hk4, hab4, rfl, hgot⟩
  have s4 := hk4.size
  have hf4 := hk4.at HF3.out (by simp; omega)
  have hs4 := hk4.at HS3.out (by simp; omega)
  have gs := cell_of_one hs4
  have gsf := free_of_one hs4
  have hk5 : Kept [ps] w4 (w4.setCell ⟨ps, 0, none⟩ (.int .i64 (fieldErr rest lb))) := (Kept.refl _ _).setCell (p := ⟨ps, 0, none⟩) (fun _ => by simp) _
  have hs5 := hid (one_setCell (u := .int .i64 (fieldErr rest lb)) hs4)
  have hf5 := hid (hk5.at hf4 (by simp; omega))
  have hrd5 := hid (hrd4.kept hk5 (by simp; omega) (fun x hx => by
    obtain ⟨y, hy, hxy⟩ := hab4 x hx
    have := HA'.out y hy
    simp; omega))
  have hk := hid ((HK3.out.trans' hk4 (fun x _ hx => by simp at hx; rcases hx with hx | hx <;> simp [hx])).trans' hk5 (fun x _ hx => by simp at hx; simp [hx]))
  have hgot5 := hid (fun h0 : fieldErr rest lb = 0 => (hgot h0).err ⟨0, hs4⟩ hk5 (by omega))
  have HAB4 := hid hab4
  clear hk4 hk5 hf4 hs4 hrd4 hab4 hgot hrun2 gf gff
  go_wp2
  go_end0
  refine Or.inl ⟨rfl, a2, c2, rest2, hrd5.out, hk.out, fun x hx => ?_, rfl, fieldErr rest lb, hf5.out, hs5.out, fun h0 => ?_⟩
  · obtain ⟨y, hy, hxy⟩ := HAB4.out x hx
    obtain ⟨z, hz, hyz⟩ := HAB.out y hy
    exact ⟨z, hz, hxy.trans hyz⟩
  · have := HREST.out h0
    subst this
    exact ⟨rfl, hgot5.out⟩
end Go.Proofs.Ytohmmkceffmipab
