
/- ColdJobs: a cold store, a map of texts beside it. -/
import Derived.Test.YtnkolgamnakegaaYE
namespace Go.Proofs.Ytnkolgamnakegaa
open Go.RowKit Go.Lib Go.Maps

theorem bytes_back2_c (w : World) (a : Option Addr) (c : Nat) (l : List UInt8) (h : Src w (.slice a l.length c) l.length (l.map B)) : (convert 36 9 (.slice a l.length c)).run Try.prog w = .ok (.string (S l)) w := by
  cases l with
  | cons x r => exact bytes_back_c w a _ c (x :: r) rfl (by simp) h
  | nil =>
    rcases h with ⟨h1, h2, _⟩ | ⟨ad, c', h1, hc⟩
    · rw [h1]
      rw [run_convert_bytes_string w _ _ 5 none 0 0 Try.underlying36 Try.underlying5 Try.underlying9]
      rfl
    · simp at h1
      obtain ⟨rfl, rfl⟩ := h1
      exact run_convert_bytes_back w _ _ 5 ad c [] Try.underlying36 Try.underlying5 Try.underlying9 (fun j hj => by simp at hj)

theorem lookT_found {nm : List UInt8} {es : List Ent} {e : Ent} (h : findE nm es = some e) : lookT_c nm (es.map texted_c) = .string (S e.b) := by
  unfold lookT_c
  rw [find_texted_c, h]
  rfl
theorem got_found {fl : List Bool} {es : List Ent} {nm : List UInt8} (h : gotE fl es nm = 0) : ∃ e, findE nm es = some e ∧ lookB nm es = e.b := by
  obtain ⟨e, he⟩ := Option.isSome_iff_exists.1 (gone_del h).2
  exact ⟨e, he, by unfold lookB; rw [he]⟩
/-- A cold store, and a map of the texts of what it has. -/
structure JS (w0 W : World) (Z : List Nat) (p hb : Nat) (q : Int) (es ss : List Ent) (fl : List Bool) (k : Nat) (jobs life least : Int) (i m : Nat) (now : Int) : Prop where
  cw : Cw w0 W Z p q es ss fl k jobs life least 0
  mp : Mp W [hb] (.map (some hb)) (es.map texted_c)
  hbZ : hb ∉ Z
  hbl : w0.heap.size ≤ hb
  hk : k ≤ i
  sz : sizeE es ≤ 100 * i
  pn : (pendE ss now life : Int) ≤ jobs
  n0 : 0 ≤ now
  n1 : now ≤ 255 * (m : Int)
section
variable {w0 W W' : World} {Z Z' : List Nat} {p hb : Nat} {q : Int} {es ss ss' : List Ent} {fl fl' : List Bool} {k k' : Nat} {jobs life least : Int} {i m : Nat} {now : Int}
theorem JS.keep (h : JS w0 W Z p hb q es ss fl k jobs life least i m now) (hk : Kept [] W W') : JS w0 W' Z p hb q es ss fl k jobs life least i m now :=
  ⟨h.cw.keep hk (by simp), h.mp.kept hk (by simp), h.hbZ, h.hbl, h.hk, h.sz, h.pn, h.n0, h.n1⟩
theorem JS.more (h : JS w0 W Z p hb q es ss fl k jobs life least i m now) : JS w0 W Z p hb q es ss fl k jobs life least (i + 1) m now :=
  ⟨h.cw, h.mp, h.hbZ, h.hbl, by have := h.hk; omega, by have := h.sz; omega, h.pn, h.n0, h.n1⟩
theorem JS.time (h : JS w0 W Z p hb q es ss fl k jobs life least i m now) {d : Int} (d0 : 0 ≤ d) (d1 : d ≤ 255) : JS w0 W Z p hb q es ss fl k jobs life least i (m + 1) (now + d) :=
  ⟨h.cw, h.mp, h.hbZ, h.hbl, h.hk, h.sz, by have := h.pn; have := pend_mono ss (a := now) (b := now + d) (life := life) (by omega); omega, by have := h.n0; omega, by have := h.n1; push_cast; omega⟩
theorem JS.lt (h : JS w0 W Z p hb q es ss fl k jobs life least i m now) : hb < W.heap.size := by
  rcases h.mp with ⟨h1, _⟩ | ⟨b', hb', _, h3⟩
  · cases h1
  · cases hb'; exact h3.lt
theorem JS.pend (h : JS w0 W Z p hb q es ss fl k jobs life least i m now) : (pendT ss now life : Int) ≤ jobs := by
  have hr : Rising ss := by
    have h1 := h.cw.small.2.2.1
    unfold Rising at h1 ⊢
    rw [h.cw.small.2.1]
    exact h1
  rw [pend_eq hr]
  exact h.pn
theorem JS.rise (h : JS w0 W Z p hb q es ss fl k jobs life least i m now) : Rising ss := by
  have h1 := h.cw.small.2.2.1
  unfold Rising at h1 ⊢
  rw [h.cw.small.2.1]
  exact h1
theorem JS.hbZ' (h : JS w0 W Z p hb q es ss fl k jobs life least i m now) (hZ : ∀ x ∈ Z', x ∈ Z ∨ W.heap.size ≤ x) : hb ∉ Z' := fun hm => by
  rcases hZ hb hm with g | g
  · exact h.hbZ g
  · have := h.lt; omega
/-- The store's things stay. -/
theorem JS.turn (h : JS w0 W Z p hb q es ss fl k jobs life least i m now) (hk : Kept Z W W') (hZ : ∀ x ∈ Z', x ∈ Z ∨ W.heap.size ≤ x) (hc : Cw w0 W' Z' p q es ss' fl' k' jobs life least 0) (hkk : k' ≤ i + 1) (hp : (pendE ss' now life : Int) ≤ jobs) : JS w0 W' Z' p hb q es ss' fl' k' jobs life least (i + 1) m now :=
  ⟨hc, h.mp.kept hk (fun x hx hm => by simp at hx; subst hx; exact h.hbZ hm), h.hbZ' hZ, h.hbl, hkk, by have := h.sz; omega, hp, h.n0, h.n1⟩
/-- A thing is put, and its text beside it. -/
theorem JS.put (h : JS w0 W Z p hb q es ss fl k jobs life least i m now) (hk : Kept Z W W') (hZ : ∀ x ∈ Z', x ∈ Z ∨ W.heap.size ≤ x) (nm bs : List UInt8) (v' : Value) (hnm : nm.length ≤ 100) (hbs : bs.length ≤ 100)
    (hc : Cw w0 W' Z' p q (putE ⟨nm, v', bs⟩ es) (putE (stE nm ⟨momT now, false, 0⟩) ss) fl' (k + 1) jobs life least 0) :
    ∃ W2, (Instr.mapUpdate 63 (.map (some hb)) (.string (S nm)) (.string (S bs))).run Try.prog W' = .ok () W2 ∧ JS w0 W2 Z' p hb q (putE ⟨nm, v', bs⟩ es) (putE (stE nm ⟨momT now, false, 0⟩) ss) fl' (k + 1) jobs life least (i + 1) m now := by
  have hlen := h.cw.small.1
  obtain ⟨W2, h1, h2, h3⟩ := mt_put_c (h.mp.kept hk (fun x hx hm => by simp at hx; subst hx; exact h.hbZ hm)) (texted_c ⟨nm, v', bs⟩) (by show nm.length ≤ _; omega) (by simp; omega)
  refine ⟨W2, h1, hc.keep h2 (fun x hx => by simp at hx; subst hx; exact ⟨h.hbZ' hZ, h.hbl⟩), by rw [← put_texted_c]; exact h3, h.hbZ' hZ, h.hbl, by have := h.hk; omega, ?_, ?_, h.n0, h.n1⟩
  · have h4 : sizeE (putE ⟨nm, v', bs⟩ es) ≤ bs.length + sizeE es := by
      unfold putE
      rw [ins_size]
      show bs.length + sizeE (delE nm es) ≤ _
      have := (del_size h.cw.small.2.2.1 nm).1
      omega
    have := h.sz; omega
  · have h4 := pend_put (stE nm ⟨momT now, false, 0⟩) ss now life
    have h5 : pendQ now life (stE nm ⟨momT now, false, 0⟩) = false := by
      unfold pendQ
      rw [show stT (syOf (stE nm ⟨momT now, false, 0⟩).v) (momT now) life = 0 from if_pos rfl]
      rfl
    rw [h5] at h4
    have := h.pn
    simp at h4
    omega
/-- A thing goes, and its text. -/
theorem JS.del (h : JS w0 W Z p hb q es ss fl k jobs life least i m now) (hk : Kept Z W W') (nm : List UInt8) (hnm : nm.length ≤ 100)
    (hc : Cw w0 W' Z p q (delE nm es) (delE nm ss) fl' (k + 1) jobs life least 0) :
    ∃ W2, (∀ ty, (Builtin.delete_ #[63, 9] ty #[.map (some hb), .string (S nm)]).run Try.prog W' = .ok (.tuple #[]) W2) ∧ JS w0 W2 Z p hb q (delE nm es) (delE nm ss) fl' (k + 1) jobs life least (i + 1) m now := by
  obtain ⟨W2, h1, h2, h3⟩ := mt_drop_c (h.mp.kept hk (fun x hx hm => by simp at hx; subst hx; exact h.hbZ hm)) nm (by omega)
  have h2' : Kept [hb] W' W2 := h2
  refine ⟨W2, h1, hc.keep h2' (fun x hx => by simp at hx; subst hx; exact ⟨h.hbZ, h.hbl⟩), by rw [← del_texted_c]; exact h3, h.hbZ, h.hbl, by have := h.hk; omega, ?_, ?_, h.n0, h.n1⟩
  · have := (del_size h.cw.small.2.2.1 nm).1
    have := h.sz; omega
  · have := pend_del ss nm now life
    have := h.pn; omega
theorem JS.req (h : JS w0 W Z p hb q es ss fl k jobs life least i m now) {nm : List UInt8} {g st wait er : Int} (hr : ReqC g st wait (pendT ss now life) jobs ss (reqS ss nm now wait) er ss') : (pendE ss' now life : Int) ≤ jobs := by
  have h0 := h.pn
  rcases hr with ⟨_, _, rfl⟩ | ⟨_, _, _, rfl⟩ | ⟨_, _, _, _, rfl⟩ | ⟨_, _, _, _, _, rfl⟩ | ⟨_, _, _, h1, _, rfl⟩
  · exact h0
  · exact h0
  · exact h0
  · exact h0
  · rw [pend_eq h.rise] at h1
    unfold reqS
    have := pend_put (stE nm ⟨(syOf (lookY nm ss)).since, true, latT now wait⟩) ss now life
    have h2 : (if pendQ now life (stE nm ⟨(syOf (lookY nm ss)).since, true, latT now wait⟩) then 1 else 0) ≤ 1 := by split <;> omega
    omega
theorem JS.fail (h : JS w0 W Z p hb q es ss fl k jobs life least i m now) (nm : List UInt8) : (pendE (if stateT ss nm now life = 1 then failS ss nm else ss) now life : Int) ≤ jobs := by
  have h0 := h.pn
  split
  · unfold failS
    have h4 := pend_put (stE nm ⟨(syOf (lookY nm ss)).since, false, 0⟩) ss now life
    have h5 : pendQ now life (stE nm ⟨(syOf (lookY nm ss)).since, false, 0⟩) = false := by
      unfold pendQ
      rw [show stT (syOf (stE nm ⟨(syOf (lookY nm ss)).since, false, 0⟩).v) (momT now) life = 0 from if_pos rfl]
      rfl
    rw [h5] at h4
    simp at h4
    omega
  · exact h0
theorem JS.left (h : JS w0 W Z p hb q es ss fl k jobs life least i m now) {nm : List UInt8} (hn : findE nm es = none) (t : Int) : leftT ss nm t least = 0 := by
  have h1 := names_find h.cw.small.2.1 nm
  rw [hn] at h1
  unfold leftT
  have h2 : findE nm ss = none := by simpa using h1
  rw [h2]
end
end Go.Proofs.Ytnkolgamnakegaa
