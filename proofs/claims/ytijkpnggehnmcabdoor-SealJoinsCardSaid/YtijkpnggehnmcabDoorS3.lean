/- seal.Unseal. -/
import Derived.Test.YtijkpnggehnmcabDoorS2
import Derived.WalkSpells
import Derived.Deep.QuietTactic
import Derived.BigQuiet
import Derived.Deep.RegionWith
import Derived.StillTailTactics
namespace Go.Proofs.YtijkpnggehnmcabDoor
open Go.RowKit Go.Lib

/-- What unsealing bytes by a kind gives: the error's number, and the bytes. -/
def unsealErr (kind : UInt8) (xs : List UInt8) : Int :=
  if xs.length < 5 then 20 else if numOf (xs.drop (xs.length - 4)) ≠ (Crc.sum (xs.take (xs.length - 4))).toNat then 36 else if xs.head? ≠ some kind then 21 else 0
def unsealed (kind : UInt8) (xs : List UInt8) : List UInt8 := if unsealErr kind xs = 0 then (xs.take (xs.length - 4)).drop 1 else []

/-- Behind the reading: the error, and the body's cell. -/
def UnQ (pd b0 : Nat) (kind : UInt8) (xs : List UInt8) (n : Int) (rest : List UInt8) (W' : World) : Prop :=
  n = unsealErr kind xs ∧ (n = 0 → rest = []) ∧ ∃ a' c', W'.heap[pd]? = some (.cells #[.slice a' (unsealed kind xs).length c'] 22 (0, 0)) ∧ Bys W' a' c' (unsealed kind xs) ∧ ∀ x, a' = some x → b0 ≤ x.block

theorem unQ_none {pd b0 : Nat} {kind : UInt8} {xs : List UInt8} {rest : List UInt8} {n : Int} {W' : World} (he : n = unsealErr kind xs) (hn : n ≠ 0) (hd : W'.heap[pd]? = some (.cells #[.slice none 0 0] 22 (0, 0))) : UnQ pd b0 kind xs n rest W' := by
  have e : unsealed kind xs = [] := by unfold unsealed; rw [if_neg (by rw [← he]; exact hn)]
  refine ⟨he, fun h => absurd h hn, none, 0, by rw [e]; exact hd, ?_, fun x hx => by simp at hx⟩
  rw [e]
  exact ⟨Or.inl ⟨rfl, rfl, rfl⟩, fun x hx => by simp at hx⟩

theorem Bys.drop1 {w : World} {a : Option Addr} {m : Nat} {ys : List UInt8} (h : Bys w a m ys) (hm : ys.length = m) (h1 : 1 ≤ m) : Bys w (behind a m 1) (m - 1) (ys.drop 1) := by
  rcases h.1 with ⟨h1', h2, _⟩ | ⟨x, c', h1', hc⟩
  · omega
  · simp at h1'
    obtain ⟨rfl, rfl⟩ := h1'
    refine ⟨?_, behind_plain h.2⟩
    by_cases hm1 : m = 1
    · subst hm1
      have e : ys.drop 1 = [] := List.drop_eq_nil_of_le (by omega)
      rw [e]
      exact Or.inr ⟨x, 0, by simp [behind], fun j u hj => by simp at hj⟩
    · refine Or.inr ⟨x.add 1, m - 1, by simp [behind, hm1], fun j u hj => ?_⟩
      rw [add_add]
      refine hc (1 + j) u ?_
      rw [List.getElem?_map] at hj ⊢; rw [List.getElem?_drop] at hj; exact hj

theorem unseal1_short (rb kb pd b0 : Nat) (kind : UInt8) (a : Option Addr) (c : Nat) (xs : List UInt8) (W : World) (h : Rd W rb a c xs) (hd : W.heap[pd]? = some (.cells #[.slice none 0 0] 22 (0, 0))) (hpr : pd ≠ rb) (hl : xs.length < 5) :
    Calls Tryd.prog 22 #[.pointer (some ⟨rb, 0, none⟩), .pointer (some ⟨kb, 0, none⟩), .pointer (some ⟨pd, 0, none⟩)] W (Threw (ReadOn rb a [pd] W (UnQ pd b0 kind xs))) := by
  have hleft := hid (left_any' rb a c xs W h)
  have hr := hid h
  have he := hid (show (20 : Int) = unsealErr kind xs by unfold unsealErr; rw [if_pos hl])
  have hD := hid hd; have hP := hid hpr
  have hlt : (xs.length : Int) - 4 < 1 := by omega
  have hlt2 : ¬ (1 : Int) < (xs.length : Int) - 4 := by omega
  clear h hd hpr
  go_enter Tryd.func22, Tryd.ntmps22
  go_wp2_with fail
  refine hleft.out.mono ?_
  rintro e w1 ⟨rfl, rfl⟩
  by_cases h0 : xs.length = 0
  · have hs := hid (raw_short rb a c xs 1 (by omega) W hr.out)
    go_wp2_with fail
    refine hs.out.mono ?_
    rintro e w1 ⟨⟨older, rfl, hcalm⟩, rfl⟩
    exact ⟨rfl, Or.inr ⟨20, ⟨older, rfl, hcalm⟩, a, c, xs, hr.out, Kept.refl _ _, fun x hx => ⟨x, hx, rfl⟩, unQ_none he.out (by decide) hD.out⟩⟩
  · have hs := hid (raw_ok rb a c xs 1 1 (by decide) (by omega) W hr.out)
    have hnx := hid (hr.out.next (m := 1) (by omega))
    have hk1 := hid (next_kept W rb a c xs 1)
    go_wp2_with fail
    refine hs.out.mono ?_
    rintro e w1 ⟨rfl, rfl⟩
    generalize nextW W rb a c xs 1 = W1 at *
    have hn := hid (rnum_short rb _ _ _ 4 (by rw [sz4]; simp; omega) W1 hnx.out)
    clear hs
    go_wp2_with fail
    refine hn.out.mono ?_
    rintro e w1 ⟨⟨older, rfl, hcalm⟩, rfl⟩
    exact ⟨rfl, Or.inr ⟨20, ⟨older, rfl, hcalm⟩, _, _, _, hnx.out, hk1.out.wider (fun x _ hx => by simp at hx; simp [hx]), behind_block, unQ_none he.out (by decide) (hk1.out.at hD.out (by simpa using hP.out))⟩⟩

theorem un_end {W W2 W4 : World} {rb pd b0 : Nat} {kind : UInt8} {xs : List UInt8} {x : Addr} {m : Nat} {a2 : Option Addr} {c2 : Nat} {rest : List UInt8} (hk12 : Kept [rb] W W2) (hk24 : Kept [pd] W2 W4) (hrd : Rd W2 rb a2 c2 rest) (hrest : rest = [])
    (hab2 : ∀ y, a2 = some y → y.block = x.block) (hx : b0 ≤ x.block ∧ x.block ≠ pd) (hpr : pd ≠ rb) (hby : Bys W2 (some x) m (xs.take m)) (hm : (xs.take m).length = m) (hm1 : 1 ≤ m) (he : unsealErr kind xs = 0) (hU : unsealed kind xs = (xs.take m).drop 1)
    (hd4 : W4.heap[pd]? = some (.cells #[.slice (behind (some x) m 1) (m - 1) (m - 1)] 22 (0, 0))) : ReadOn rb (some x) [pd] W (UnQ pd b0 kind xs) 0 W4 := by
  refine ⟨a2, c2, rest, hrd.kept hk24 (by simpa using fun h => hpr h.symm) (fun y hy => by rw [hab2 y hy]; simpa using hx.2), hk12.wider (T := [rb, pd]) (fun x _ hx => by simp at hx; simp [hx]) |>.trans' hk24 (fun x _ hx => by simp at hx; simp [hx]),
    fun y hy => ⟨x, rfl, hab2 y hy⟩, he.symm, fun _ => hrest, behind (some x) m 1, m - 1, ?_, ?_, fun y hy => ?_⟩
  · rw [hU, List.length_drop, hm]; exact hd4
  · rw [hU]
    exact (hby.drop1 hm hm1).kept hk24 (fun y hy => by
      obtain ⟨z, hz, h1⟩ := behind_block y hy
      simp at hz; subst hz
      rw [h1]; simpa using hx.2)
  · obtain ⟨z, hz, h1⟩ := behind_block y hy
    simp at hz; subst hz
    rw [h1]; exact hx.1

set_option maxHeartbeats 1000000 in
theorem unseal1_long (rb kb pd b0 : Nat) (kind : UInt8) (a : Option Addr) (c : Nat) (xs : List UInt8) (W : World) (h : Rd W rb a c xs) (hkb : W.heap[kb]? = some (.cells #[.int .u8 (kind.toNat : Int)] 5 (0, 0))) (hd : W.heap[pd]? = some (.cells #[.slice none 0 0] 22 (0, 0)))
    (ht : Tab W) (hne : 0 ≠ rb ∧ pd ≠ rb ∧ kb ≠ rb ∧ kb ≠ pd) (hax : ∀ x, a = some x → b0 ≤ x.block ∧ x.block ≠ pd) (hl : 5 ≤ xs.length) (hlen : xs.length ≤ 500000000) :
    Calls Tryd.prog 22 #[.pointer (some ⟨rb, 0, none⟩), .pointer (some ⟨kb, 0, none⟩), .pointer (some ⟨pd, 0, none⟩)] W (Threw (ReadOn rb a [pd] W (UnQ pd b0 kind xs))) := by
  obtain ⟨m, hm⟩ : ∃ m, m + 4 = xs.length := ⟨xs.length - 4, by omega⟩
  have hm1 : 1 ≤ m := by omega
  have hmb : m ≤ 500000000 := by omega
  have hleft := left_any' rb a c xs W h
  rw [← hm] at hleft
  have hleft := hid hleft
  have hs := hid (raw_ok rb a c xs (m : Int) m (by omega) (by omega) W h)
  have hnx := h.next (m := m) (by omega)
  have hk1 := next_kept W rb a c xs m
  have hbys : ∀ {S w'}, Kept S W w' → (∀ x, a = some x → x.block ∉ S) → Bys w' a m (xs.take m) := fun hk hS => ⟨by have := h.read (m := m) (by omega) hk hS; rwa [show (xs.take m).length = m by simp; omega], h.plain⟩
  have hsome : ∃ x, a = some x := by
    cases a with
    | none => have := h.nil rfl; have := h.le; omega
    | some x => exact ⟨x, rfl⟩
  obtain ⟨x, rfl⟩ := hsome
  have hxr := (h.src x rfl).1
  have hxp := h.plain x rfl
  obtain ⟨b, hbq⟩ : ∃ b, xs[0]? = some b := ⟨xs[0]'(by omega), by simp⟩
  have hb0 : W.cell? x = some (.int .u8 (b.toNat : Int)) := by
    have := (h.src x rfl).2 0 b hbq
    rwa [add_0] at this
  obtain ⟨W1, hW1⟩ : ∃ W1, W1 = nextW W rb (some x) c xs m := ⟨_, rfl⟩
  rw [← hW1] at hs hnx hk1
  have hdl : (xs.drop m).length = 4 := by simp; omega
  have hn := rnum_ok rb _ _ (xs.drop m) 4 (by rw [sz4, hdl]; omega) W1 hnx
  have hnx2 := hnx.next (m := 4) (by omega)
  have hk2 := next_kept W1 rb (behind (some x) c m) (c - m) (xs.drop m) 4
  rw [sz4, List.take_of_length_le (by omega)] at hn
  obtain ⟨W2, hW2⟩ : ∃ W2, W2 = nextW W1 rb (behind (some x) c m) (c - m) (xs.drop m) 4 := ⟨_, rfl⟩
  rw [← hW2] at hn hnx2 hk2
  have hk12 := hk1.trans hk2
  have hzl : numOf (xs.drop m) < 4294967296 := by have := numOf_lt (xs.drop m); rw [hdl] at this; omega
  have hby2 := hid (hbys hk12 (by simpa using hxr))
  have hsum := sum_any _ (xs.take m) W2 (hby2.out.1) (ht.kept hk12 (by simpa using hne.1)) (by simp; omega)
  rw [show (xs.take m).length = m by simp; omega] at hsum
  have hsl := (Crc.sum (xs.take m)).isLt
  have hkb2 := cell_of_one (hk12.at hkb (by simpa using hne.2.2.1))
  have hd2 := hid (hk12.at hd (by simpa using hne.2.1))
  have hgd2 := cell_of_one hd2.out
  have hgf2 := free_of_one hd2.out
  have hx2 : W2.cell? x = some (.int .u8 (b.toNat : Int)) := (hk12.cell (World.block_lt_of_cell? W _ hb0) (by simpa using hxr)).trans hb0
  have hmE : xs.length - 4 = m := by omega
  have hE0 : unsealErr kind xs = if numOf (xs.drop m) ≠ (Crc.sum (xs.take m)).toNat then 36 else if xs.head? ≠ some kind then 21 else 0 := by
    unfold unsealErr; rw [if_neg (by omega), hmE]
  rw [show xs.head? = some b by rw [List.head?_eq_getElem?]; exact hbq] at hE0
  have hU0 : unsealErr kind xs = 0 → unsealed kind xs = (xs.take m).drop 1 := fun he => by unfold unsealed; rw [if_pos he, hmE]
  have hbk : b = kind ∨ (b.toNat : Int) ≠ (kind.toNat : Int) := by
    by_cases hq : b = kind
    · exact Or.inl hq
    · exact Or.inr fun h => hq (UInt8.toNat_inj.1 (by omega))
  have Hn := hid hn; have Hnx2 := hid hnx2; have Hk12 := hid hk12; have Hsum := hid hsum; have HE0 := hid hE0; have HU0 := hid hU0; have Hne := hid hne; have Hax := hid hax; have Hm := hid hm; have Hxr := hid hxr; have Hxp := hid hxp
  clear h hkb hd hax hbys hnx hk1 hW1 hW2 hn hnx2 hk2 hk12 hsum hE0 hU0 hmE hbq hne hm hb0 hdl ht hxr hxp
  have hb1 : b.toNat < 256 := UInt8.toNat_lt _
  generalize hz : numOf (xs.drop m) = z at *
  generalize hv : (Crc.sum (xs.take m)).toNat = v at *
  clear hz hv
  go_enter Tryd.func22, Tryd.ntmps22
  go_wp2_with fail
  refine hleft.out.mono ?_
  rintro e w1 ⟨rfl, rfl⟩
  go_wp2_with fail
  refine hs.out.mono ?_
  rintro e w1 ⟨rfl, rfl⟩
  clear hs hleft
  go_wp2_with fail
  refine Hn.out.mono ?_
  rintro e w1 ⟨rfl, rfl⟩
  clear Hn
  go_wp2_with fail
  refine Hsum.out.mono ?_
  rintro e w1 ⟨rfl, rfl⟩
  clear Hsum
  by_cases hzv : z = v
  · subst hzv
    go_wp2_with fail
    refine (want_ok 36 _).mono ?_
    rintro e w1 ⟨rfl, rfl⟩
    go_wp2_with fail
    rcases hbk with rfl | hbk
    · have he := hid (show unsealErr b xs = 0 by rw [HE0.out]; simp)
      clear HE0
      by_cases hm2 : m = 1
      · subst hm2
        go_quiet ((go_at_call 25; exact Calls.quiet_of_same ((want_ok 21 _).mono fun _ _ h => ⟨h.1, h.2.symm⟩)))
        go_wp2
        go_end0
        refine Or.inl ⟨rfl, un_end Hk12.out (((Kept.refl [] W2).drewN nq).wider (T := [pd]) (by simp) |>.trans ((Kept.refl _ _).setCell (p := ⟨pd, 0, none⟩) (fun _ => by simp) _)) Hnx2.out (by have := Hm.out; simp; omega) (fun y hy => by
          obtain ⟨z, hz, h1⟩ := behind_block y hy
          obtain ⟨z', hz', h2⟩ := behind_block z hz
          simp at hz'; subst hz'
          exact h1.trans h2) (Hax.out x rfl) Hne.out.2.1 hby2.out (by simp; have := Hm.out; omega) (by omega) he.out (HU0.out he.out) ?_⟩
        exact one_setCell (((Kept.refl [] W2).drewN nq).at hd2.out (by simp))
      · go_quiet ((go_at_call 25; exact Calls.quiet_of_same ((want_ok 21 _).mono fun _ _ h => ⟨h.1, h.2.symm⟩)))
        go_wp2
        go_end0
        refine Or.inl ⟨rfl, un_end Hk12.out (((Kept.refl [] W2).drewN nq).wider (T := [pd]) (by simp) |>.trans ((Kept.refl _ _).setCell (p := ⟨pd, 0, none⟩) (fun _ => by simp) _)) Hnx2.out (by have := Hm.out; simp; omega) (fun y hy => by
          obtain ⟨z, hz, h1⟩ := behind_block y hy
          obtain ⟨z', hz', h2⟩ := behind_block z hz
          simp at hz'; subst hz'
          exact h1.trans h2) (Hax.out x rfl) Hne.out.2.1 hby2.out (by simp; have := Hm.out; omega) (by omega) he.out (HU0.out he.out) ?_⟩
        rw [show behind (some x) m 1 = some ⟨x.block, x.off + 1, none⟩ by
          unfold behind; rw [if_neg hm2]
          have := Hxp.out
          obtain ⟨xb, xo, xs'⟩ := x
          simp at this
          subst this
          simp [Addr.add]]
        exact one_setCell (((Kept.refl [] W2).drewN nq).at hd2.out (by simp))
    · have hbf : ((b.toNat : Int) == (kind.toNat : Int)) = false := by simpa using hbk
      have he := hid (show (21 : Int) = unsealErr kind xs by rw [HE0.out, if_neg (by simp), if_pos (fun h => hbk (by simp at h; rw [h]))])
      clear HE0 hbk
      have hm0 : 0 < m := hm1
      have hm0' : (0 : Int) < (m : Int) := by omega
      refine wp_region_still_tail 5 (by kernel_rfl) (by kernel_rfl) ?_
      simp only [List.take_succ_cons, List.take_zero, List.drop_succ_cons, List.drop_zero]
      change wpStill _ _ W2.drew _ _ _
      repeat still_step
      refine wpStill_nil ?_
      have hk3 := hid (Kept.of_drew [] W2)
      have hr3 := hid (Hnx2.out.kept (Kept.of_drew [] W2) (by simp) (fun _ _ => by simp))
      have hd3 := hid ((Kept.of_drew [] W2).at hd2.out (by simp))
      have hkf := hid (show Kept [rb, pd] W W2.drew from (Hk12.out.trans' (Kept.of_drew [] W2) (by simp)).wider (fun x _ hx => by simp at hx; simp [hx]))
      go_wp2_with fail
      refine (want_err 21 (by decide) _).mono ?_
      rintro e w1 ⟨⟨older, rfl, hcalm⟩, rfl⟩
      exact ⟨rfl, Or.inr ⟨21, ⟨older, rfl, hcalm⟩, _, _, _, hr3.out, hkf.out, fun x hx => by
        obtain ⟨y, hy, h1⟩ := behind_block x hx
        obtain ⟨z, hz, h2⟩ := behind_block y hy
        exact ⟨z, hz, h1.trans h2⟩, unQ_none he.out (by decide) hd3.out⟩⟩
  · have hzf : ((z : Int) == (v : Int)) = false := by simp; omega
    have he := hid (show (36 : Int) = unsealErr kind xs by rw [HE0.out, if_pos hzv])
    go_wp2_with fail
    refine (want_err 36 (by decide) _).mono ?_
    rintro e w1 ⟨⟨older, rfl, hcalm⟩, rfl⟩
    exact ⟨rfl, Or.inr ⟨36, ⟨older, rfl, hcalm⟩, _, _, _, Hnx2.out, Hk12.out.wider (fun x _ hx => by simp at hx; simp [hx]), fun x hx => by
      obtain ⟨y, hy, h1⟩ := behind_block x hx
      obtain ⟨z, hz, h2⟩ := behind_block y hy
      exact ⟨z, hz, h1.trans h2⟩, unQ_none he.out (by decide) hd2.out⟩⟩
end Go.Proofs.YtijkpnggehnmcabDoor
