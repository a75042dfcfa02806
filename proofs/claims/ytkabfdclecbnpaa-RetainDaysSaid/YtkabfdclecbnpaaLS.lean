import Derived.Test.YtkabfdclecbnpaaMLQ
import Derived.Deep.DeepCutAuto
import Derived.Deep.CutBlock

/- coldstorelaw19.RetainDays: the walk. -/
namespace Go.Proofs.Ytkabfdclecbnpaa
open Go.RowKit Go.Lib Go.Sort Go.Shelf

theorem int_at {w : World} {base : Nat} {a : Option Addr} {c n j : Nat} {ds : List Int} {d : Int} (h : w.ownsRow base 2 1 (.slice a n c) n (ds.map iv)) (hj : ds[j]? = some d) : ∃ x, a = some x ∧ w.cell? (x.add j) = some (.int .i64 d) := by
  rcases h.2 with ⟨h1, h2⟩ | ⟨g, cap, cur, hv, _⟩
  · rw [h2] at h
    have hl := h.1
    simp at hl
    rw [hl] at hj
    simp at hj
  · cases hv
    exact ⟨_, rfl, h.cells (g := g) rfl j (iv d) (by rw [List.getElem?_map, hj]; rfl)⟩
theorem fall_at {ds : List Int} (h : ds.Pairwise (· > ·)) {i j : Nat} {x y : Int} (hi : ds[i]? = some x) (hj : ds[j]? = some y) (hij : i < j) : y < x := by
  obtain ⟨h1, rfl⟩ := List.getElem?_eq_some_iff.1 hi
  obtain ⟨h2, rfl⟩ := List.getElem?_eq_some_iff.1 hj
  exact List.pairwise_iff_getElem.1 h i j h1 h2 hij

set_option maxRecDepth 100000 in
set_option maxHeartbeats 8000000 in
theorem retain_days (a : Option Addr) (c : Nat) (xs : List Sq) (d0 n0 : Int) (w : World) (h : Snaps w a c xs) :
    Calls Try.prog 5 #[.slice a xs.length c, .int .i64 d0, .int .i64 n0] w fun e w' => e = .returned (.bool true) ∧ Kept [] w w' := by
  have hal := hid (alive19 w)
  obtain ⟨n, hn⟩ : ∃ n, n = xs.length := ⟨_, rfl⟩
  have HN := hid hn
  have H := hid (fun V (hk : Kept [] w V) => h.kept' hk (by simp))
  have hle := h.le; have hmx := h.max
  rw [← hn] at hle ⊢
  clear h
  by_cases q0 : (30 : Int) < (n : Int)
  · clear hn
    go_enter Try.func5, Try.ntmps5
    go_wp2_with fail
    refine hal.out.mono ?_
    rintro e w1 ⟨rfl, k1⟩
    have K1 := hid k1
    clear k1 hal
    go_wp2
    go_ret
    exact ⟨rfl, K1.out⟩
  have hn30 : n ≤ 30 := by omega
  obtain ⟨m, hm⟩ : ∃ m : Nat, (m : Int) = n0 % 32 := ⟨(n0 % 32).toNat, by omega⟩
  have ha1 : bits .and .i64 n0 31 = (m : Int) := by rw [and31, hm]
  have hm32 : m < 32 := by omega
  obtain ⟨d1, hd1⟩ : ∃ d1, d1 = d0 % 1024 := ⟨_, rfl⟩
  have ha2 : bits .and .i64 d0 1023 = d1 := by rw [and1023, hd1]
  have hd1r : 0 ≤ d1 ∧ d1 < 1024 := by omega
  obtain ⟨d, hd⟩ : ∃ d, d = 1 + d1 := ⟨_, rfl⟩
  have hw : IntKind.i64.wrap (1 + d1) = d := by rw [hd]; exact IntWalk.i64_in _ (by omega)
  have hdr : 1 ≤ d ∧ d ≤ 2000 := by omega
  have o0 : I64 0 := ⟨by decide, by decide⟩
  have om : I64 (m : Int) := ⟨by omega, by omega⟩
  have od : I64 d := ⟨by omega, by omega⟩
  have hlx : xs.length ≤ 1000 := by omega
  have hD := hid (fun V (hk : Kept [] w V) => (days_any a c xs d V (H.out V hk) hlx od).mono (R' := fun e w' => ∃ (v : Value) (ds : List Int), e = .returned v ∧ Kept [] V w' ∧ ds.length ≤ n ∧ w'.ownsRow V.heap.size 2 1 v ds.length (ds.map iv) ∧ DaysOf xs d ds) (by
    rintro e w' ⟨v, ds, h1, h2, h3, h4, h5⟩
    rw [if_neg (by omega)] at h5
    exact ⟨v, ds, h1, h2, by rw [HN.out]; exact h3, h4, h5⟩))
  have hZ := hid (fun V (hk : Kept [] w V) => (days_any a c xs 0 V (H.out V hk) hlx o0).mono (R' := fun e w' => Kept [] V w' ∧ ∃ a c, e = .returned (.slice a 0 c)) (by
    rintro e w' ⟨v, ds, h1, h2, h3, h4, h5⟩
    rw [if_pos (by decide)] at h5
    subst h5
    obtain ⟨a', c', rfl⟩ := row_slice h4
    exact ⟨h2, a', c', h1⟩))
  have hA := hid (fun V (hk : Kept [] w V) => (keep_go a c xs ⟨0, (m : Int), d, 0, []⟩ ⟨o0, om, od, o0⟩ V (H.out V hk) hlx).mono (R' := fun e w' => ∃ (v : Value) (ks : List Bool) (ds : List Int), e = .returned v ∧ Kept [] V w' ∧ ks.length = n ∧ w'.ownsRow V.heap.size 4 1 v n (ks.map bv) ∧ DaysOf xs d ds ∧ cnt ks = min m ds.length) (by
    rintro e w' ⟨v, ps, ds, ks, h1, h2, h3, h4⟩
    have h5 := h3.days
    rw [if_neg (show ¬ d < 1 by omega)] at h5
    exact ⟨v, ks, ds, h1, h2, by rw [h3.len, HN.out], by rw [HN.out]; exact h4, h5, keep_days h3 hdr.1⟩))
  have hB := hid (fun V (hk : Kept [] w V) => (keep_go a c xs ⟨(m : Int), 0, 0, 0, []⟩ ⟨om, o0, o0, o0⟩ V (H.out V hk) hlx).mono (R' := fun e w' => ∃ (v : Value) (ks : List Bool), e = .returned v ∧ Kept [] V w' ∧ ks.length = n ∧ w'.ownsRow V.heap.size 4 1 v n (ks.map bv) ∧ cnt ks = min m n) (by
    rintro e w' ⟨v, ps, ds, ks, h1, h2, h3, h4⟩
    exact ⟨v, ks, h1, h2, by rw [h3.len, HN.out], by rw [HN.out]; exact h4, by rw [HN.out]; exact keep_last h3⟩))
  have hC := hid (fun V (hk : Kept [] w V) => (keep_go a c xs ⟨0, 5, 0, 0, []⟩ ⟨o0, ⟨by decide, by decide⟩, o0, o0⟩ V (H.out V hk) hlx).mono (R' := fun e w' => ∃ (v : Value) (ks : List Bool), e = .returned v ∧ Kept [] V w' ∧ ks.length = n ∧ w'.ownsRow V.heap.size 4 1 v n (ks.map bv) ∧ ∀ q b, ks[q]? = some b → b = false) (by
    rintro e w' ⟨v, ps, ds, ks, h1, h2, h3, h4⟩
    exact ⟨v, ks, h1, h2, by rw [h3.len, HN.out], by rw [HN.out]; exact h4, fun q b hq => keep_none h3 q b hq⟩))
  rw [← hn] at hD hZ hA hB hC
  have HM := hid hm32
  clear hn hm hd1 hd hd1r od om o0 hlx hdr
  go_enter Try.func5, Try.ntmps5
  go_wp2_with fail
  refine hal.out.mono ?_
  rintro e w1 ⟨rfl, k1⟩
  have K1 := hid k1
  clear k1 hal
  go_wp2_with fail
  refine (hD.out w1 K1.out).mono ?_
  rintro e w2 ⟨vd, ds, rfl, k2, dl, od, dd⟩
  have K2 := hid (K1.out.trans k2); have OD := hid od; have DD := hid dd; have DL := hid dl
  clear k2 od dd hD
  go_wp2_with fail
  refine (hA.out w2 K2.out).mono ?_
  rintro e w3 ⟨va, ka, ds', rfl, k3, la, oa, dd', ca⟩
  have K3 := hid (K2.out.trans k3); have OD3 := hid (k3.owns OD.out (by simp)); have LA := hid la; have OA := hid oa
  have CA := hid (show cnt ka = min m ds.length by rw [ca, days_one dd' DD.out])
  clear k3 la oa dd' ca hA
  go_wp2_with fail
  refine (hB.out w3 K3.out).mono ?_
  rintro e w4 ⟨vb, kb, rfl, k4, lb, ob, cb⟩
  have K4 := hid (K3.out.trans k4); have OD4 := hid (k4.owns OD3.out (by simp)); have OA4 := hid (k4.owns OA.out (by simp)); have LB := hid lb; have CB := hid cb
  obtain ⟨aa, pa, rfl⟩ := row_slice OA4.out
  obtain ⟨ab, pb, rfl⟩ := row_slice ob
  obtain ⟨ad, pd, rfl⟩ := row_slice OD4.out
  have TA := hid (tru_of_row OA4.out LA.out.symm); have TB := hid (tru_of_row ob lb.symm)
  clear k4 lb ob cb hB
  go_wp2_with fail
  go_loopw [10, 11, 42] (fun x y s wr => ∃ i : Nat, i ≤ n ∧ s = .int .i64 i ∧ Hid (x = .int .i64 (cnt (ka.take i) : Nat)) ∧ Hid (y = .int .i64 (cnt (kb.take i) : Nat)) ∧ Hid (wr = w4)) (fun _ _ s _ => n - (intOf s).toNat)
  case atStart => exact ⟨0, Nat.zero_le _, rfl, hid rfl, hid rfl, hid rfl⟩
  case round =>
    obtain ⟨i, hi, rfl, HX, HY, HW⟩ := hrel
    have hww := HW.out
    subst hww
    by_cases hlt : i < n
    · obtain ⟨ba, hba⟩ : ∃ b, ka[i]? = some b := ⟨ka[i]'(by rw [LA.out]; exact hlt), by simp⟩
      obtain ⟨bb, hbb⟩ : ∃ b, kb[i]? = some b := ⟨kb[i]'(by rw [LB.out]; exact hlt), by simp⟩
      obtain ⟨xa, rfl⟩ : ∃ x, aa = some x := by
        cases aa with
        | none => exact absurd (TA.out.nil rfl) (fun e => by rw [e] at hba; simp at hba)
        | some x => exact ⟨x, rfl⟩
      obtain ⟨xb, rfl⟩ : ∃ x, ab = some x := by
        cases ab with
        | none => exact absurd (TB.out.nil rfl) (fun e => by rw [e] at hbb; simp at hbb)
        | some x => exact ⟨x, rfl⟩
      have fa : wr.cell? (xa.add i) = some (.bool ba) := TA.out.at_ xa rfl i ba hba
      have fb : wr.cell? (xb.add i) = some (.bool bb) := TB.out.at_ xb rfl i bb hbb
      obtain ⟨x0, hx0⟩ : ∃ x0, x0 = cnt (ka.take i) := ⟨_, rfl⟩
      obtain ⟨y0, hy0⟩ : ∃ y0, y0 = cnt (kb.take i) := ⟨_, rfl⟩
      have hx := HX.out; have hy := HY.out
      rw [← hx0] at hx
      rw [← hy0] at hy
      subst hx; subst hy
      have HA := hid (show cnt (ka.take (i + 1)) = x0 + (if ba then 1 else 0) by rw [cnt_take ka i ba hba, hx0])
      have HB := hid (show cnt (kb.take (i + 1)) = y0 + (if bb then 1 else 0) by rw [cnt_take kb i bb hbb, hy0])
      have wx : IntKind.i64.wrap ((x0 : Int) + 1) = ((x0 + 1 : Nat) : Int) := by have := cnt_le ka i; rw [IntKind.wrap_i64]; omega
      have wy : IntKind.i64.wrap ((y0 : Int) + 1) = ((y0 + 1 : Nat) : Int) := by have := cnt_le kb i; rw [IntKind.wrap_i64]; omega
      obtain ⟨x1, hx1⟩ : ∃ x1, x1 = x0 + 1 := ⟨_, rfl⟩
      obtain ⟨y1, hy1⟩ : ∃ y1, y1 = y0 + 1 := ⟨_, rfl⟩
      rw [← hx1] at wx
      rw [← hy1] at wy
      have H1 := hid (And.intro hx1 hy1)
      have Hlt := hid hlt
      have hltz : (i : Int) < (n : Int) := by omega
      clear hba hbb hx0 hy0 hx1 hy1 HX HY
      cases ba <;> cases bb
      all_goals
        go_wp2
        go_roundw
        case rel => exact ⟨i + 1, Hlt.out, by go_num, hid (by rw [HA.out]; simp [H1.out.1]), hid (by rw [HB.out]; simp [H1.out.2]), hid trivial⟩
        case measure => have := Hlt.out; simp [intOf]; omega
    · have hltz : ¬ (i : Int) < (n : Int) := by omega
      have e : i = n := by omega
      subst e
      have hx := HX.out; have hy := HY.out
      rw [List.take_of_length_le (by rw [LA.out]; exact Nat.le_refl _), CA.out] at hx
      rw [List.take_of_length_le (by rw [LB.out]; exact Nat.le_refl _), CB.out] at hy
      subst hx; subst hy
      have HN30 := hid hn30
      obtain ⟨L, hL⟩ : ∃ L, L = ds.length := ⟨_, rfl⟩
      have HL := hid hL
      rw [← hL]
      rw [← hL] at CA DL
      go_wp2_with fail
      go_loopw [60] (fun s wj => ∃ j : Nat, j ≤ L ∧ s = .int .i64 j ∧ Hid (wj = wr)) (fun s _ => L - (intOf s).toNat)
      case atStart => exact ⟨0, Nat.zero_le _, rfl, hid rfl⟩
      case round =>
        obtain ⟨j, hj, rfl, HJ⟩ := hrel
        have hjj := HJ.out
        subst hjj
        by_cases hlt : j < L
        · obtain ⟨dj, hdj⟩ : ∃ b, ds[j]? = some b := ⟨ds[j]'(by omega), by simp⟩
          obtain ⟨xd, hxd, fd⟩ := int_at OD4.out hdj
          have hltz : (j : Int) < (L : Int) := by omega
          have Hlt := hid hlt
          by_cases h0 : (0 : Int) < (j : Int)
          · obtain ⟨k, hk⟩ : ∃ k, k = j - 1 := ⟨_, rfl⟩
            obtain ⟨dk, hdk⟩ : ∃ b, ds[k]? = some b := ⟨ds[k]'(by omega), by simp⟩
            obtain ⟨xd', hxd', fk⟩ := int_at OD4.out hdk
            have hkz : (k : Int) < (L : Int) := by omega
            have wk : IntKind.i64.wrap ((j : Int) - 1) = (k : Int) := by rw [IntKind.wrap_i64]; omega
            have hno : ¬ dk ≤ dj := by
              have := fall_at DD.out.down hdk hdj (by omega)
              omega
            rw [hxd] at hxd'
            cases hxd'
            subst hxd
            clear hdj hdk hk
            go_wp2
            go_roundw
            case rel => exact ⟨j + 1, Hlt.out, by go_num, hid trivial⟩
            case measure => have := Hlt.out; simp [intOf]; omega
          · subst hxd
            clear hdj
            go_wp2
            go_roundw
            case rel => exact ⟨j + 1, Hlt.out, by go_num, hid trivial⟩
            case measure => have := Hlt.out; simp [intOf]; omega
        · have hltz : ¬ (j : Int) < (L : Int) := by omega
          have e2 : j = L := by omega
          subst e2
          go_wp2_with fail
          refine (hC.out wr K4.out).mono ?_
          rintro e w5 ⟨vc, kc, rfl, k5, lc, oc, nc⟩
          have K5 := hid (K4.out.trans k5); have LC := hid lc; have NC := hid nc
          obtain ⟨ac, pc, rfl⟩ := row_slice oc
          have TC := hid (tru_of_row oc lc.symm)
          clear k5 lc nc oc hC
          go_wp2_with fail
          go_loopw [82] (fun s wj => ∃ q : Nat, q ≤ i ∧ s = .int .i64 q ∧ Hid (wj = w5)) (fun s _ => i - (intOf s).toNat)
          case atStart => exact ⟨0, Nat.zero_le _, rfl, hid rfl⟩
          case round =>
            obtain ⟨q, hq, rfl, HJ5⟩ := hrel
            have hj5 := HJ5.out
            subst hj5
            by_cases hlt : q < i
            · obtain ⟨bc, hbc⟩ : ∃ b, kc[q]? = some b := ⟨kc[q]'(by rw [LC.out]; exact hlt), by simp⟩
              obtain ⟨xc, hxc⟩ : ∃ x, ac = some x := by
                cases ac with
                | none => exact absurd (TC.out.nil rfl) (fun e => by rw [e] at hbc; simp at hbc)
                | some x => exact ⟨x, rfl⟩
              have fc := TC.out.at_ xc hxc q bc hbc
              have hbf := NC.out q bc hbc
              subst hbf
              subst hxc
              have hltz : (q : Int) < (i : Int) := by omega
              have Hlt := hid hlt
              clear hbc
              go_wp2
              go_roundw
              case rel => exact ⟨q + 1, Hlt.out, by go_num, hid trivial⟩
              case measure => have := Hlt.out; simp [intOf]; omega
            · have hltz : ¬ (q : Int) < (i : Int) := by omega
              have e3 : q = i := by omega
              subst e3
              go_wp2_with fail
              refine (hZ.out _ K5.out).mono ?_
              rintro e w6 ⟨k6, az, cz, rfl⟩
              have K6 := hid (K5.out.trans k6)
              clear k6 hZ
              go_wp2
              go_ret
              exact ⟨rfl, K6.out⟩
end Go.Proofs.Ytkabfdclecbnpaa
