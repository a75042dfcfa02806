
/- object: Drop. -/
import Derived.Test.YtnkolgamnakegaaO6
namespace Go.Proofs.Ytnkolgamnakegaa
open Go.RowKit Go.Lib Go.Maps

theorem del_size {es : List Ent} (hr : Rising es) (nm : List UInt8) : (sizeE (delE nm es) : Int) = (sizeE es : Int) - ((lookB nm es).length : Int) ∧ (delE nm es).length ≤ es.length := by
  unfold lookB
  cases hf : findE nm es with
  | none => rw [del_none hf]; simp
  | some e => obtain ⟨h1, h2⟩ := del_some hr hf; simp only; omega
def dropE (fl : List Bool) (es : List Ent) (nm : List UInt8) : List Ent := if opE fl = 0 then delE nm es else es
set_option maxHeartbeats 1000000 in
theorem ob_drop (w : World) (U : List Nat) (p T : Nat) (more : List Value) (q : Int) (es : List Ent) (fv : Value) (fl : List Bool) (k : Nat) (left : Int) (nm : List UInt8) (hnm : nm.length ≤ 1000000000) (h : Ob w U p T more q es fv fl k) (hk : k ≤ 1099511627776) (hf : FuV w U fv left) (h0 : left ≠ 0) :
    Calls Try.prog 37 #[.pointer (some ⟨p, 0, none⟩), .string (S nm)] w fun e w' => e = .returned (.int .i64 (gotE fl es nm)) ∧ Kept (U ++ fuB fv) w w' ∧ Ob w' U p T more q (dropE fl es nm) fv (fl.drop 1) (k + 1) ∧ FuV w' U fv (decL left) := by
  have hop := hid (operate_go w U p T more q es fv fl k left h hk hf h0)
  have hpU := hid h.hp
  have hfuU := hid (show ∀ x ∈ fuB fv, x ∉ U from fun x hx => by
    rcases hf with ⟨rfl, _⟩ | ⟨f, rfl, h2, h3, _⟩
    · simp [fuB] at hx
    · simp [fuB] at hx; subst hx; exact h2)
  clear h hf h0
  by_cases hop0 : opE fl = 0
  · have hE : gotE fl es nm = (if (findE nm es).isSome then 0 else 4) := by unfold gotE; rw [if_pos hop0]
    have hD : dropE fl es nm = delE nm es := by unfold dropE; rw [if_pos hop0]
    unfold Began at hop
    rw [hop0] at hop
    obtain ⟨er, her⟩ : ∃ er, er = gotE fl es nm := ⟨_, rfl⟩
    rw [← her, hD]
    have HE := hid (her.trans hE)
    clear hE hop0 her hD
    go_enter Try.func37, Try.ntmps37
    go_wp2_with fail
    refine hop.out.mono ?_
    rintro e w1 ⟨rfl, k1, ob1, fu1⟩
    have K1 := hid k1; have FU1 := hid fu1
    have hris := ob1.rising
    obtain ⟨⟨mv, flv, R, hR, hrow, hmp, hmpp, hfl, hth⟩, hp, hb, hq, hs⟩ := ob1
    obtain ⟨_, g1, g2, _⟩ := st_cells hrow
    have f2 : w1.frozen? ⟨p, 2, none⟩ = false := free_of_row' hrow 2
    have hlk := mp_look hmp nm hnm
    obtain ⟨la, lc, hlv⟩ := lookV_slice hth nm
    obtain ⟨hdz, hdl⟩ := del_size hris nm
    obtain ⟨gl, hgl⟩ : ∃ gl, gl = (lookB nm es).length := ⟨_, rfl⟩
    have hglz : gl ≤ sizeE es := by
      rw [hgl]
      unfold lookB
      cases hf : findE nm es with
      | none => simp
      | some e => exact sizeE_mem (find_mem hf).1
    rw [← hgl] at hlv hdz
    rw [hlv] at hlk
    obtain ⟨fs, hfs⟩ : ∃ fs, fs = (findE nm es).isSome := ⟨_, rfl⟩
    rw [← hfs] at hlk
    have hwh := hid (fun W => by have h := when_any (!fs) 4 W; rw [show (if (!fs) then (4 : Int) else 0) = er by rw [HE.out, hfs]; cases (findE nm es).isSome <;> rfl] at h; exact h)
    have hz := hs.1
    have hwz : IntKind.i64.wrap ((sizeE es : Int) - (gl : Int)) = (sizeE es : Int) - (gl : Int) := by rw [IntKind.wrap_i64]; omega
    have hrow2 := (st_set hrow undef ((sizeE es : Int) - (gl : Int))).2.1
    have K2 := hid (show Kept [p] w1 (w1.setCell ⟨p, 2, none⟩ (.int .i64 ((sizeE es : Int) - (gl : Int)))) from (Kept.refl [p] w1).setCell (p := ⟨p, 2, none⟩) (fun _ => by simp) _)
    have gg1 : (w1.setCell ⟨p, 2, none⟩ (.int .i64 ((sizeE es : Int) - (gl : Int)))).cell? ⟨p, 1, none⟩ = some mv := (st_cells hrow2).2.1
    have hmp2 : Mp (w1.setCell ⟨p, 2, none⟩ (.int .i64 ((sizeE es : Int) - (gl : Int)))) U mv es := by
      rcases hmp with h | ⟨b, h1, h2, h3⟩
      · exact Or.inl h
      · exact Or.inr ⟨b, h1, h2, K2.out.ownsMap' h3 (fun hm => hmpp (by rw [h1]; simp at hm; rw [hm]))⟩
    obtain ⟨W3, hdel, k3, hmp3⟩ := mp_drop hmp2 nm hnm
    have hpm : p ∉ mpB mv := fun hx => by
      rcases hmp with ⟨h1, _⟩ | ⟨b, h1, _⟩
      · rw [h1] at hx; simp [mpB] at hx
      · rw [h1] at hx; simp [mpB] at hx; exact hmpp (by rw [h1, ← hx])
    have hRm : ∀ x ∈ R, x ∉ mpB mv := fun x hx hm => by
      rcases hmp with ⟨h1, _⟩ | ⟨b, h1, _⟩
      · rw [h1] at hm; simp [mpB] at hm
      · rw [h1] at hm; simp [mpB] at hm; exact (hR x hx).2.2 (by rw [h1, hm])
    have hmU : ∀ x ∈ mpB mv, x ∈ U := fun x hx => by
      rcases hmp with ⟨h1, _⟩ | ⟨b, h1, h2, _⟩
      · rw [h1] at hx; simp [mpB] at hx
      · rw [h1] at hx; simp [mpB] at hx; rw [hx]; exact h2
    have hRp : ∀ x ∈ R, x ∉ [p] := fun x hx hm => (hR x hx).2.1 (by simpa using hm)
    have hz2 := K2.out.size; have hz3 := k3.size
    have hfin := hid (show Ob W3 U p T more q (delE nm es) fv (fl.drop 1) (k + 1) from
      ⟨⟨mv, flv, R, hR, by rw [hdz]; exact k3.at hrow2 hpm, hmp3, hmpp, (hfl.kept K2.out hRp).kept k3 hRm, fun e he => ((hth e (mem_del.1 he).1).kept K2.out hRp).kept k3 hRm⟩, hp, fun x hx => by have := hb x hx; omega, hq, by omega, by omega, fun e he => hs.2.2 e (mem_del.1 he).1⟩)
    have K13 := hid (show Kept (U ++ fuB fv) w W3 from ((K1.out.wider (fun x _ hx => by
      rcases List.mem_cons.1 hx with h | h
      · rw [h]; simp [hp]
      · simp [h])).trans' K2.out (fun x _ hx => by simp at hx; rw [hx]; simp [hp])).trans' k3 (fun x _ hx => by simp [hmU x hx]))
    have FU3 := hid (show FuV W3 U fv (decL left) from (FU1.out.kept K2.out (fun x hx hm => hfuU.out x hx (by simp at hm; rw [hm]; exact hp))).kept k3 (fun x hx hm => hfuU.out x hx (hmU x hm)))
    have hmv : ∃ b, mv = .map b := by
      rcases hmp with ⟨h, _⟩ | ⟨b, h, _⟩
      · exact ⟨_, h⟩
      · exact ⟨_, h⟩
    obtain ⟨mb, rfl⟩ := hmv
    obtain ⟨sz, hsz⟩ : ∃ sz, sz = sizeE es := ⟨_, rfl⟩
    rw [← hsz] at g2 hwz gg1 hdel hz hglz
    clear k1 fu1 hrow hmp hmpp hfl hth hp hb hq hs hR hop hlv hfs hrow2 hmp2 hmp3 hpm hRm hmU hRp hz2 hz3 k3 hdz hdl hgl hris hsz
    go_wp2_with fail
    refine (hwh.out _).mono ?_
    rintro e w4 ⟨rfl, rfl⟩
    clear hwh
    go_wp2
    go_ret
    exact ⟨rfl, K13.out, hfin.out, FU3.out⟩
  · have hE : gotE fl es nm = opE fl := by unfold gotE; rw [if_neg hop0]
    have hD : dropE fl es nm = es := by unfold dropE; rw [if_neg hop0]
    rw [hE, hD]
    obtain ⟨er, her⟩ : ∃ er, er = opE fl := ⟨_, rfl⟩
    have hne : (er != 0) = true := by rw [her]; simpa using hop0
    unfold Began at hop
    rw [← her] at hop ⊢
    clear hE hD hop0 her
    go_enter Try.func37, Try.ntmps37
    go_wp2_with fail
    refine hop.out.mono ?_
    rintro e w1 ⟨rfl, k1, ob1, fu1⟩
    have K1 := hid k1; have OB1 := hid ob1; have FU1 := hid fu1
    clear k1 ob1 fu1 hop
    have hne2 : (er == 0) = false := by simpa [bne] using hne
    go_wp2
    go_ret
    exact ⟨rfl, K1.out.wider (fun x _ hx => by
      rcases List.mem_cons.1 hx with h | h
      · rw [h]; simp [hpU.out]
      · simp [h]), OB1.out, FU1.out⟩
end Go.Proofs.Ytnkolgamnakegaa
