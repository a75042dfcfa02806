import Derived.Test.YtmfjfahlgcdehaaDoorJD
import Derived.Test.YtmfjfahlgcdehaaDoorJC

/- A snapshot's bytes and back, as mathematics. -/
namespace Go.Proofs.YtmfjfahlgcdehaaDoor
open Go.RowKit Go.Lib

theorem wrap_small {n : Nat} (h : n < 9223372036854775808) : IntKind.i64.wrap (n : Int) = (n : Int) := by rw [IntKind.wrap_i64]; omega
theorem wrap_back {n : Nat} {m : Int} (hn : n < 18446744073709551616) (h : IntKind.i64.wrap (n : Int) = m) (hm : 0 ≤ m) : n = m.toNat := by rw [IntKind.wrap_i64] at h; omega

theorem readS_enc (s : Sp) (r : List UInt8) (h : s.ok) (he : s.err = 0) : readS (s.enc ++ r) = some (s, r) := by
  have hfar := Sp.err_far he
  have hlen := Sp.err_len he
  unfold Sp.far at hfar
  have hb2 := h.b2
  have p8 : (256 : Nat) ^ 8 = 18446744073709551616 := by decide
  have p4 : (256 : Nat) ^ 4 = 4294967296 := by decide
  have e : s.enc ++ r = numB s.time.toNat 8 ++ ((numB s.host.length 4 ++ s.host) ++ ((numB s.tag.length 4 ++ s.tag) ++ (s.root ++ (numB s.files.toNat 4 ++ (numB s.bytes.toNat 8 ++ r))))) := by
    unfold Sp.enc; simp only [List.append_assoc]
  unfold readS
  rw [e, rNum_put _ _ _ (by rw [p8]; omega)]
  simp only [Option.bind_some]
  rw [rTxt_put 120 _ _ (by omega) (by omega)]
  simp only [Option.bind_some]
  rw [rTxt_put 120 _ _ (by omega) (by omega)]
  simp only [Option.bind_some]
  rw [rRaw_put 32 _ _ h.root]
  simp only [Option.bind_some]
  rw [rNum_put _ _ _ (by rw [p4]; omega)]
  simp only [Option.bind_some]
  rw [rNum_put _ _ _ (by rw [p8]; omega)]
  simp only [Option.bind_some]
  rw [wrap_small (by omega), wrap_small (by omega), wrap_small (by omega)]
  have e1 : ((s.time.toNat : Nat) : Int) = s.time := by omega
  have e2 : ((s.files.toNat : Nat) : Int) = s.files := by omega
  have e3 : ((s.bytes.toNat : Nat) : Int) = s.bytes := by omega
  rw [e1, e2, e3]

theorem readS_get {xs r : List UInt8} {s : Sp} (h : readS xs = some (s, r)) (he : s.err = 0) : xs = s.enc ++ r := by
  have p8 : (256 : Nat) ^ 8 = 18446744073709551616 := by decide
  have p4 : (256 : Nat) ^ 4 = 4294967296 := by decide
  unfold readS at h
  simp only [Option.bind_eq_some_iff, Prod.exists] at h
  obtain ⟨N1, r1, h1, t2, r2, h2, t3, r3, h3, t4, r4, h4, N5, r5, h5, N6, r6, h6, hs⟩ := h
  simp only [Option.some.injEq, Prod.mk.injEq] at hs
  obtain ⟨rfl, rfl⟩ := hs
  obtain ⟨rfl, b1⟩ := rNum_get h1
  obtain ⟨rfl, _⟩ := rTxt_get h2
  obtain ⟨rfl, _⟩ := rTxt_get h3
  obtain ⟨rfl, _⟩ := rRaw_get h4
  obtain ⟨rfl, b5⟩ := rNum_get h5
  obtain ⟨rfl, b6⟩ := rNum_get h6
  have hfar := Sp.err_far he
  unfold Sp.far at hfar
  simp only at hfar
  rw [p8] at b1 b6
  rw [p4] at b5
  have e1 := wrap_back b1 rfl (by omega)
  have e5 := wrap_back (show N5 < 18446744073709551616 by omega) rfl (by omega)
  have e6 := wrap_back b6 rfl (by omega)
  unfold Sp.enc
  simp only
  rw [← e1, ← e5, ← e6]
  simp only [List.append_assoc]

theorem decS_enc (s : Sp) (h : s.ok) (he : s.err = 0) : decS (sealed 83 s.enc) = some s := by
  obtain ⟨h1, h2⟩ := unseal_own 83 s.enc
  have h3 := readS_enc s [] h he
  rw [List.append_nil] at h3
  unfold decS
  rw [if_pos h1, h2, h3]
  simp [he]
theorem decS_get {bs : List UInt8} {s : Sp} (h : decS bs = some s) : s.err = 0 ∧ sealed 83 s.enc = bs := by
  unfold decS at h
  by_cases h0 : unsealErr 83 bs = 0
  · rw [if_pos h0] at h
    cases hr : readS (unsealed 83 bs) with
    | none => rw [hr] at h; cases h
    | some p =>
      obtain ⟨s2, r⟩ := p
      rw [hr] at h
      cases r with
      | cons x r => cases h
      | nil =>
        by_cases he : s2.err = 0
        · simp only [he, if_true, Option.some.injEq] at h
          subst h
          have hu := readS_get hr he
          rw [List.append_nil] at hu
          exact ⟨he, by rw [← hu]; exact (sealed_unsealed h0).symm⟩
        · simp [he] at h
  · rw [if_neg h0] at h; cases h
theorem decV_enc (s : Sp) (h : s.ok) (he : s.err = 0) : decV (sealed 83 s.enc) = s ∧ decErr (sealed 83 s.enc) = 0 := by
  have h1 := decS_enc s h he
  unfold decV decErr
  rw [h1, if_neg (by simp [(unseal_own 83 s.enc).1])]
  exact ⟨rfl, rfl⟩
theorem decErr_zero {bs : List UInt8} (h : decErr bs = 0) : ∃ s, decS bs = some s ∧ decV bs = s := by
  unfold decErr at h
  by_cases h0 : unsealErr 83 bs ≠ 0
  · rw [if_pos h0] at h; exact absurd h h0
  · rw [if_neg h0] at h
    cases hd : decS bs with
    | none => rw [hd] at h; simp at h
    | some s => exact ⟨s, rfl, by unfold decV; rw [hd]; rfl⟩
theorem decErr_ne {bs : List UInt8} (h : decErr bs ≠ 0) : decV bs = zSp := by
  unfold decErr at h
  unfold decV
  by_cases h0 : unsealErr 83 bs ≠ 0
  · have : decS bs = none := by unfold decS; rw [if_neg h0]
    rw [this]; rfl
  · rw [if_neg h0] at h
    cases hd : decS bs with
    | none => rfl
    | some s => rw [hd] at h; simp at h
theorem enc_inj {s t : Sp} (hs : s.ok) (ht : t.ok) (es : s.err = 0) (et : t.err = 0) (h : sealed 83 s.enc = sealed 83 t.enc) : s = t := by
  have h1 := decS_enc s hs es
  have h2 := decS_enc t ht et
  rw [h, h2] at h1
  exact (Option.some.inj h1).symm
theorem readS_ok {xs r : List UInt8} {s : Sp} (h : readS xs = some (s, r)) : s.ok := by
  unfold readS at h
  simp only [Option.bind_eq_some_iff, Prod.exists] at h
  obtain ⟨N1, r1, h1, t2, r2, h2, t3, r3, h3, t4, r4, h4, N5, r5, h5, N6, r6, h6, hs⟩ := h
  simp only [Option.some.injEq, Prod.mk.injEq] at hs
  obtain ⟨rfl, rfl⟩ := hs
  have b1 := i64_bounds (N1 : Int); have b5 := i64_bounds (N5 : Int); have b6 := i64_bounds (N6 : Int)
  exact ⟨(rRaw_get h4).2, b1.1, b1.2, b5.1, b5.2, b6.1, b6.2⟩
theorem decV_ok (bs : List UInt8) : (decV bs).ok := by
  unfold decV
  cases hd : decS bs with
  | none => exact zSp_ok
  | some s =>
    unfold decS at hd
    by_cases h0 : unsealErr 83 bs = 0
    · rw [if_pos h0] at hd
      cases hr : readS (unsealed 83 bs) with
      | none => rw [hr] at hd; cases hd
      | some p =>
        obtain ⟨s2, r⟩ := p
        rw [hr] at hd
        cases r with
        | cons x r => cases hd
        | nil =>
          by_cases he : s2.err = 0
          · simp only [he, if_true, Option.some.injEq] at hd
            subst hd; exact readS_ok hr
          · simp [he] at hd
    · rw [if_neg h0] at hd; cases hd
end Go.Proofs.YtmfjfahlgcdehaaDoor
