
/- Arm over faults that lie anywhere; a cold store armed so. -/
import Derived.Test.YtnkolgamnakegaaYC
namespace Go.Proofs.Ytnkolgamnakegaa
open Go.RowKit Go.Lib Go.Maps

set_option maxRecDepth 100000 in
theorem flclone_src_c (a : Option Addr) (n c : Nat) (fl : List Bool) (w : World) (hn : n = fl.length) (h : Src w (.slice a n c) n (fl.map .bool)) (hl : fl.length ≤ 1000000000) :
    Calls Try.prog 40 #[.slice a n c] w fun e w' => ∃ v', e = .returned v' ∧ Kept [] w w' ∧ NewS w w' v' fl.length (fl.map .bool) := by
  cases a with
  | none =>
    refine (Try.slices_Clone_nil n c w).mono ?_
    rintro e w' ⟨rfl, rfl⟩
    have h0 : fl = [] := by
      rcases h with ⟨_, h2, _⟩ | ⟨x, c', h1, _⟩
      · subst h2; exact List.eq_nil_of_length_eq_zero hn.symm
      · simp at h1
    subst h0
    exact ⟨_, rfl, Kept.refl _ _, NewS.nil _ _⟩
  | some x =>
    obtain ⟨i0, hi0, hz0, hz1, hz2⟩ := info_split info_bool
    have HS := hid h; have HN := hid hn
    have hbu : ∀ W, (Instr.buildSlice 22 0 #[]).run Try.prog W = .ok (.slice (some ⟨W.heap.size, 0, none⟩) 0 0) (W.alloc (.cells #[] 4)) := fun W => by kernel_rfl
    have hka := hid (show Kept [] w (w.alloc (.cells #[] 4)) from (Kept.refl [] w).alloc _)
    have hown0 := hid (show (w.alloc (.cells #[] 4)).ownsRow w.heap.size 4 1 (.slice (some ⟨w.heap.size, 0, none⟩) 0 0) 0 [] from ⟨rfl, Or.inr ⟨w.heap.size, 0, #[], rfl, Nat.le_refl _, heap_alloc_at rfl, by simp, by unfold maxLen; omega, by simp, by simp⟩⟩)
    have hsr0 := hid (show Src (w.alloc (.cells #[] 4)) (.slice (some x) n c) n (fl.map .bool) from by
      rcases h with h | ⟨ad, c', h1, h2⟩
      · exact Or.inl h
      · exact Or.inr ⟨ad, c', h1, fun j u hj => (hka.out.cell (World.block_lt_of_cell? _ _ (h2 j u hj)) (by simp)).trans (h2 j u hj)⟩)
    have hln0 := hid (show (fl.map Value.bool).length = n by simp [hn])
    have hone0 := hid (show ∀ u ∈ fl.map Value.bool, u.oneCell' = true by intro u hu; simp at hu; rcases hu with ⟨_, rfl⟩ | ⟨_, rfl⟩ <;> rfl)
    have hnl : n ≤ 1000000000 := by omega
    have hnil : ∀ w : World, (binOp .eql 22 (.slice (some x) n c) (.slice none 0 0)).run Try.prog w = .ok (.bool false) w := fun w => Lib.run_eql_slice_nil w 22 4 (some x) n c 0 0 Try.underlying22
    clear h hn hl
    go_enter Try.func40, Try.ntmps40
    go_wp2_with (at_builtin; refine halt ?_)
    refine Halt.mk ?_
    refine wpList_append_src _ rfl _ _ _ rfl w.heap.size 4 i0 _ 1 Try.underlying22 hi0 hz0 hz1 hz2 rfl (.slice (some ⟨w.heap.size, 0, none⟩) 0 0) 0 [] rfl hown0.out (.slice (some x) n c) n (fl.map .bool) rfl hsr0.out hln0.out hone0.out ?_ ?_ ?_ ?_
    · unfold maxLen; omega
    · omega
    · simp
    intro v4 w4 hown4 hgr4 _ hf4
    simp only [Nat.zero_add, List.nil_append] at hown4
    have k4 := hid (show Kept [] w w4 from hka.out.trans' (Kept.of_row hgr4) (fun x hx hm => by simp [Value.ownBlock] at hm; omega))
    have HO := hid hown4
    clear hown4 hgr4 hf4
    go_wp2
    go_ret
    exact ⟨_, rfl, k4.out, by rw [← HN.out]; exact srcS_of_row HO.out⟩
section
variable (w : World) (U : List Nat) (p T : Nat) (more : List Value) (q : Int) (es : List Ent) (fv : Value) (fl : List Bool) (k : Nat) (h : Ob w U p T more q es fv fl k)
include h
theorem ob_arm_src_c (fv' : Value) (ga : Option Addr) (gn gc : Nat) (fl' : List Bool) (hfv : ∃ a, fv' = .pointer a) (hgn : gn = fl'.length) (hfl' : ∀ W, Kept [p] w W → Src W (.slice ga gn gc) gn (fl'.map .bool)) (hl : fl'.length ≤ 1000000) :
    Calls Try.prog 11 #[.pointer (some ⟨p, 0, none⟩), fv', .slice ga gn gc] w fun e w' => e = .returned (.tuple #[]) ∧ Kept [p] w w' ∧ ∃ U', (∀ x ∈ U', x ∈ U ∨ w.heap.size ≤ x) ∧ Ob w' U' p T more q es fv' fl' k := by
  obtain ⟨⟨mv, flv, R, hR, hrow, hmp, hmpp, hfl, hth⟩, hp, hb, hq, hs⟩ := h
  obtain ⟨fa, rfl⟩ := hfv
  have HGN := hid hgn
  clear hgn
  have f3 : w.frozen? ⟨p, 3, none⟩ = false := free_of_row' hrow 3
  obtain ⟨_, _, _, g3, _⟩ := st_cells hrow
  have r1 := (st_set hrow (.pointer fa) 0).2.2.1
  have K1 := hid (show Kept [p] w (w.setCell ⟨p, 3, none⟩ (.pointer fa)) from (Kept.refl [p] w).setCell (p := ⟨p, 3, none⟩) (fun _ => by simp) _)
  obtain ⟨W, hW⟩ : ∃ W, W = w.setCell ⟨p, 3, none⟩ (.pointer fa) := ⟨_, rfl⟩
  have HW := hid hW
  rw [← hW] at r1 K1
  have hcl := hid (flclone_src_c ga gn gc fl' W HGN.out (hfl' W K1.out) (by omega))
  have hRp := hid (show ∀ x ∈ R, x ∉ [p] from fun x hx hm => (hR x hx).2.1 (by simpa using hm))
  have hpm := hid (show ∀ x ∈ mpB mv, x ∉ [p] from fun x hx hm => by
    rcases hmp with ⟨h1, _⟩ | ⟨b, h1, _⟩
    · rw [h1] at hx; simp [mpB] at hx
    · rw [h1] at hx; simp [mpB] at hx; simp at hm; exact hmpp (by rw [h1, ← hm, hx]))
  have hm1 := hid (show Mp W U mv es from by
    rcases hmp with h | ⟨b, h1, h2, h3⟩
    · exact Or.inl h
    · exact Or.inr ⟨b, h1, h2, K1.out.ownsMap' h3 (fun hm => hmpp (by rw [h1]; simp at hm; rw [hm]))⟩)
  have hth1 := hid (fun e he => (hth e he).kept K1.out hRp.out)
  have R1 := hid r1
  have HR := hid hR; have HMPP := hid hmpp; have HP := hid hp; have HB := hid hb; have HQ := hid hq; have HS := hid hs; have HMP := hid hmp
  clear hW r1 hrow hmp hR hmpp hp hb hq hs hth hfl hfl'
  go_enter Try.func11, Try.ntmps11
  go_wp2_with fail
  rw [← HW.out]
  refine hcl.out.mono ?_
  rintro e W2 ⟨v', rfl, k2, U2, hU2, hs2⟩
  have K2 := hid k2
  have r2 := k2.at R1.out (by simp)
  have f4 : W2.frozen? ⟨p, 4, none⟩ = false := free_of_row' r2 4
  have gg4 := (st_cells r2).2.2.2.2.1
  have Hs2 := hid hs2
  obtain ⟨_, a2, c2, rfl, _⟩ := hs2
  have R3 := hid (st_set r2 (.slice a2 fl'.length c2) 0).2.2.2.1
  have K3 := hid (show Kept [p] W2 (W2.setCell ⟨p, 4, none⟩ (.slice a2 fl'.length c2)) from (Kept.refl [p] W2).setCell (p := ⟨p, 4, none⟩) (fun _ => by simp) _)
  have HU2 := hid hU2
  have hps := hid (lt_of_block R1.out)
  have hz2 := hid K2.out.size; have hz1 := hid K1.out.size; have hz3 := hid K3.out.size
  clear k2 hU2 r2 hcl
  go_wp2
  go_end0
  refine ⟨rfl, (K1.out.trans' K2.out (fun _ _ h => by simp at h)).trans K3.out, U ++ U2, fun x hx => ?_, ?_⟩
  · rcases List.mem_append.1 hx with h | h
    · exact Or.inl h
    · exact Or.inr (by have := (HU2.out x h).1; have := hz1.out; omega)
  · have hR2p : ∀ x ∈ U2, x ∉ [p] := fun x hx hm => by simp at hm; have := (HU2.out x hx).1; have := hps.out; omega
    refine ⟨⟨mv, _, R ++ U2, fun x hx => ?_, R3.out, ?_, HMPP.out, (Hs2.out.kept K3.out hR2p).more (fun x hx => by simp [hx]), fun e he => (((hth1.out e he).kept K2.out (by simp)).kept K3.out hRp.out).more (fun x hx => by simp [hx])⟩, by simp [HP.out], fun x hx => ?_, HQ.out, HS.out⟩
    · rcases List.mem_append.1 hx with h | h
      · exact ⟨by simp [(HR.out x h).1], (HR.out x h).2⟩
      · refine ⟨by simp [h], fun e => hR2p x h (by simp [e]), fun e => ?_⟩
        rcases HMP.out with ⟨h1, _⟩ | ⟨b, h1, _, h3⟩
        · rw [h1] at e; simp at e
        · rw [h1] at e; simp at e
          have := h3.lt; have := (HU2.out x h).1; have := hz1.out; omega
    · rcases hm1.out with h | ⟨b, h1, h2, h3⟩
      · exact Or.inl h
      · exact Or.inr ⟨b, h1, by simp [h2], K3.out.ownsMap' (K2.out.ownsMap' h3 (by simp)) (hpm.out b (by rw [h1]; simp [mpB]))⟩
    · rcases List.mem_append.1 hx with h | h
      · have := HB.out x h; have := hz1.out; have := hz2.out; have := hz3.out; omega
      · have := (HU2.out x h).2; have := hz3.out; omega
end

section
variable {w0 w : World} {Z : List Nat} {p : Nat} {q : Int} {es ss : List Ent} {fl : List Bool} {k : Nat} {jobs life least lost : Int} (h : Cw w0 w Z p q es ss fl k jobs life least lost)
include h
theorem cw_arm_src (ga : Option Addr) (gn gc : Nat) (fl' : List Bool) (hgn : gn = fl'.length) (hfl' : ∀ W, Kept [p] w W → Src W (.slice ga gn gc) gn (fl'.map .bool)) (hl : fl'.length ≤ 1000000) :
    Calls Try.prog 11 #[.pointer (some ⟨p, 0, none⟩), .pointer none, .slice ga gn gc] w fun e w' => ∃ Z', e = .returned (.tuple #[]) ∧ Kept Z w w' ∧ (∀ x ∈ Z', x ∈ Z ∨ w.heap.size ≤ x) ∧ Cw w0 w' Z' p q es ss fl' k jobs life least lost := by
  have hpZ := h.mem
  obtain ⟨h1, ⟨U, V, ⟨⟨mv, ho, hm⟩, ha, hb, hn, hs, h7⟩, h3, h4⟩, h5⟩ := h
  refine (ob_arm_src_c w U p 62 _ q es (.pointer none) fl k ho (.pointer none) ga gn gc fl' ⟨_, rfl⟩ hgn hfl' hl).mono ?_
  · rintro e w' ⟨rfl, k1, U', hU', ho'⟩
    have hpV : p ∉ V := fun hx => ha p hx ho.hp
    refine ⟨U' ++ V, rfl, k1.wider (fun x _ hx => by simp at hx; subst hx; exact hpZ), fun x hx => ?_, h1.trans' k1 (fun x hx hm => by simp at hm; subst hm; have := (h5 _ hpZ).1; omega),
      ⟨U', V, ⟨⟨mv, ho', hm.free hpV w' k1⟩, fun x hx hm => ?_, fun x hx => Nat.lt_of_lt_of_le (hb x hx) k1.size, hn, hs, h7⟩, fun x hx => by simp [hx], fun x hx => by simp [hx]⟩, fun x hx => ?_⟩
    · rcases List.mem_append.1 hx with g | g
      · exact (hU' x g).imp (h3 x) id
      · exact Or.inl (h4 x g)
    · rcases hU' x hm with g | g
      · exact ha x hx g
      · have := hb x hx; omega
    · rcases List.mem_append.1 hx with g | g
      · refine ⟨?_, ho'.bound x g⟩
        rcases hU' x g with g | g
        · exact (h5 x (h3 x g)).1
        · exact Nat.le_trans h1.size g
      · exact ⟨(h5 x (h4 x g)).1, Nat.lt_of_lt_of_le (hb x g) k1.size⟩
end
end Go.Proofs.Ytnkolgamnakegaa
