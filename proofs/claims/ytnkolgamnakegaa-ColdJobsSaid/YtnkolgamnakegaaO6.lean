
/- object: Get, Drop; the fuse blows. -/
import Derived.Test.YtnkolgamnakegaaO5
namespace Go.Proofs.Ytnkolgamnakegaa
open Go.RowKit Go.Lib Go.Maps

/-- The power goes as an operation begins. -/
theorem operate_blow (w : World) (U : List Nat) (p T : Nat) (more : List Value) (q : Int) (es : List Ent) (f : Nat) (fl : List Bool) (k : Nat) (h : Ob w U p T more q es (.pointer (some ⟨f, 0, none⟩)) fl k) (hf : FuV w U (.pointer (some ⟨f, 0, none⟩)) 0) :
    Calls Try.prog 58 #[.pointer (some ⟨p, 0, none⟩)] w fun e w' => Thrown 92 (.agg #[.pointer (some ⟨f, 0, none⟩)]) e ∧ w = w' := by
  obtain ⟨⟨mv, flv, R, hR, hrow, _⟩, _⟩ := h
  have g3 := (st_cells hrow).2.2.2.1
  have hst := hid (show Calls Try.prog 75 #[.pointer (some ⟨f, 0, none⟩)] w fun e w' => Thrown 92 (.agg #[.pointer (some ⟨f, 0, none⟩)]) e ∧ w = w' from by
    rcases hf with ⟨h, _⟩ | ⟨g, hg, _, h3, _⟩
    · simp at h
    · simp at hg; subst hg; exact step_none f w h3)
  clear hrow hR hf
  go_enter Try.func58, Try.ntmps58
  go_wp2_with fail
  refine hst.out.mono ?_
  rintro e w1 ⟨⟨older, rfl, hcalm⟩, rfl⟩
  exact ⟨rfl, ⟨older, rfl, hcalm⟩, rfl⟩

/-- The bytes of a name. -/
def lookB (nm : List UInt8) (es : List Ent) : List UInt8 := match findE nm es with | some e => e.b | none => []
/-- What a Get tells: the error, the bytes. -/
def gotE (fl : List Bool) (es : List Ent) (nm : List UInt8) : Int := if opE fl = 0 then (if (findE nm es).isSome then 0 else 4) else opE fl
def gotB (fl : List Bool) (es : List Ent) (nm : List UInt8) : List UInt8 := if opE fl = 0 then (lookB nm es) else []
/-- The state behind an operation that began. -/
structure Went (w w' : World) (U : List Nat) (p T : Nat) (more : List Value) (q : Int) (es : List Ent) (fv : Value) (fl : List Bool) (k : Nat) (left : Int) : Prop where
  ob : Ob w' U p T more q es fv fl k
  fu : FuV w' U fv left
theorem look_src {w : World} {U R : List Nat} {mv : Value} {es : List Ent} (hth : ∀ e ∈ es, SrcS w R e.v e.b.length (e.b.map B)) (nm : List UInt8) : Src w (lookV nm es) (lookB nm es).length ((lookB nm es).map B) := by
  unfold lookV lookB
  cases hf : findE nm es with
  | none => exact Or.inl ⟨rfl, rfl, rfl⟩
  | some e => exact (hth e (find_mem hf).1).src
theorem sizeE_mem {es : List Ent} {e : Ent} (h : e ∈ es) : e.b.length ≤ sizeE es := by
  induction es with
  | nil => cases h
  | cons y r ih =>
    have h5 : sizeE (y :: r) = y.b.length + sizeE r := by simp [sizeE]
    rcases List.mem_cons.1 h with rfl | h
    · omega
    · have := ih h; omega
theorem lookV_slice {w : World} {R : List Nat} {es : List Ent} (hth : ∀ e ∈ es, SrcS w R e.v e.b.length (e.b.map B)) (nm : List UInt8) : ∃ a c, lookV nm es = .slice a (lookB nm es).length c := by
  unfold lookV lookB
  cases hf : findE nm es with
  | none => exact ⟨none, 0, rfl⟩
  | some e => obtain ⟨_, a, c, h, _⟩ := hth e (find_mem hf).1; exact ⟨a, c, h⟩

set_option maxHeartbeats 1000000 in
theorem ob_get (w : World) (U : List Nat) (p T : Nat) (more : List Value) (q : Int) (es : List Ent) (fv : Value) (fl : List Bool) (k : Nat) (left : Int) (nm : List UInt8) (hnm : nm.length ≤ 1000000000) (h : Ob w U p T more q es fv fl k) (hk : k ≤ 1099511627776) (hf : FuV w U fv left) (h0 : left ≠ 0) :
    Calls Try.prog 35 #[.pointer (some ⟨p, 0, none⟩), .string (S nm)] w fun e w' => ∃ v', e = .returned (.tuple #[v', .int .i64 (gotE fl es nm)]) ∧ Kept (p :: fuB fv) w w' ∧ Ob w' U p T more q es fv (fl.drop 1) (k + 1) ∧ FuV w' U fv (decL left) ∧ NewS w w' v' (gotB fl es nm).length ((gotB fl es nm).map B) := by
  have hop := hid (operate_go w U p T more q es fv fl k left h hk hf h0)
  have hpU := hid h.hp
  have hbo := hid h.bound
  have hfuU := hid (show ∀ x ∈ fuB fv, x < w.heap.size from fun x hx => by
    rcases hf with ⟨rfl, _⟩ | ⟨f, rfl, _, h3, _⟩
    · simp [fuB] at hx
    · simp [fuB] at hx; subst hx; exact lt_of_block h3)
  clear h hf h0
  by_cases hop0 : opE fl = 0
  · have hE : gotE fl es nm = (if (findE nm es).isSome then 0 else 4) := by unfold gotE; rw [if_pos hop0]
    have hBB : gotB fl es nm = (lookB nm es) := by unfold gotB; rw [if_pos hop0]
    unfold Began at hop
    rw [hop0] at hop
    obtain ⟨gb, hgb⟩ : ∃ gb, gb = gotB fl es nm := ⟨_, rfl⟩
    obtain ⟨gl, hgl⟩ : ∃ gl, gl = gb.length := ⟨_, rfl⟩
    obtain ⟨er, her⟩ : ∃ er, er = gotE fl es nm := ⟨_, rfl⟩
    rw [← hgb, ← her, ← hgl]
    have HE := hid (her.trans hE); have HBB := hid (hgb.trans hBB); have HGL := hid hgl
    clear hE hBB hop0 hgb hgl her
    go_enter Try.func35, Try.ntmps35
    go_wp2_with fail
    refine hop.out.mono ?_
    rintro e w1 ⟨rfl, k1, ob1, fu1⟩
    have K1 := hid k1; have OB1 := hid ob1; have FU1 := hid fu1
    obtain ⟨⟨mv, flv, R, hR, hrow, hmp, hmpp, hfl, hth⟩, hp, hb, hq, hs⟩ := ob1
    obtain ⟨_, g1, _⟩ := st_cells hrow
    have hlk := mp_look hmp nm hnm
    have hcl := hid (bclone_any (lookV nm es) _ w1 (look_src (mv := mv) (U := U) hth nm) (by
      unfold lookB
      cases hf : findE nm es with
      | none => simp
      | some e => have h1 := sizeE_mem (find_mem hf).1; have h2 := hs.1; simp; omega))
    rw [← HBB.out] at hcl
    obtain ⟨la, lc, hlv⟩ := lookV_slice hth nm
    rw [← HBB.out] at hlv
    rw [hlv] at hlk hcl
    obtain ⟨fs, hfs⟩ : ∃ fs, fs = (findE nm es).isSome := ⟨_, rfl⟩
    rw [← hfs] at hlk
    rw [← HGL.out] at hlk hcl
    have hwh := hid (fun W => by have h := when_any (!fs) 4 W; rw [show (if (!fs) then (4 : Int) else 0) = er by rw [HE.out, hfs]; cases (findE nm es).isSome <;> rfl] at h; exact h)
    have hmv : ∃ b, mv = .map b := by
      rcases hmp with ⟨h, _⟩ | ⟨b, h, _⟩
      · exact ⟨_, h⟩
      · exact ⟨_, h⟩
    obtain ⟨mb, rfl⟩ := hmv
    clear k1 fu1 hrow hmp hmpp hfl hth hp hb hq hs hR hop hlv hfs
    go_wp2_with fail
    refine hcl.out.mono ?_
    rintro e w2 ⟨v', rfl, k2, U2, hU2, hs2⟩
    have K2 := hid k2; have HU2 := hid hU2; have HS2 := hid hs2
    clear k2 hU2 hs2 hcl
    go_wp2_with fail
    refine (hwh.out w2).mono ?_
    rintro e w3 ⟨rfl, rfl⟩
    clear hwh
    go_wp2
    go_ret2
    exact ⟨v', rfl, K1.out.trans' K2.out (fun _ _ h => by simp at h), OB1.out.kept K2.out (by simp), FU1.out.kept K2.out (by simp), U2, fun x hx => ⟨Nat.le_trans K1.out.size (HU2.out x hx).1, (HU2.out x hx).2⟩, HS2.out⟩
  · have hE : gotE fl es nm = opE fl := by unfold gotE; rw [if_neg hop0]
    have hBB : gotB fl es nm = [] := by unfold gotB; rw [if_neg hop0]
    rw [hE, hBB]
    obtain ⟨er, her⟩ : ∃ er, er = opE fl := ⟨_, rfl⟩
    have hne : (er != 0) = true := by rw [her]; simpa using hop0
    unfold Began at hop
    rw [← her] at hop ⊢
    clear hE hBB hop0 her
    go_enter Try.func35, Try.ntmps35
    go_wp2_with fail
    refine hop.out.mono ?_
    rintro e w1 ⟨rfl, k1, ob1, fu1⟩
    have K1 := hid k1; have OB1 := hid ob1; have FU1 := hid fu1
    clear k1 ob1 fu1 hop
    have hne2 : (er == 0) = false := by simpa [bne] using hne
    go_wp2
    go_ret2
    exact ⟨_, rfl, K1.out, OB1.out, FU1.out, NewS.nil _ _⟩
end Go.Proofs.Ytnkolgamnakegaa
