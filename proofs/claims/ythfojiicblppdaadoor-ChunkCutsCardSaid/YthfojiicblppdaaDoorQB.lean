/- ChunkCuts. -/
import Derived.Test.YthfojiicblppdaaDoorQA
namespace Go.Proofs.YthfojiicblppdaaDoor
open Go.RowKit Go.Lib

theorem i64_and64k (n : Int) : bits .and .i64 n 65535 = n % 65536 := by
  have h7 : (BitVec.ofInt 64 65535).toNat = 2 ^ 16 - 1 := by decide
  have key : (BitVec.ofInt 64 n &&& BitVec.ofInt 64 65535).toNat = (n % ((2 ^ 64 : Nat) : Int)).toNat % 2 ^ 16 := by
    rw [BitVec.toNat_and, BitVec.toNat_ofInt, h7, Nat.and_two_pow_sub_one_eq_mod]
  show IntKind.i64.wrap ((BitVec.ofInt 64 n &&& BitVec.ofInt 64 65535).toNat : Nat) = n % 65536
  rw [key, IntKind.wrap_i64]
  omega
theorem Sl.drop {w : World} {x : Addr} {c : Nat} {ys : List UInt8} (h : Sl w (some x) c ys) (q : Nat) (hq : q ≤ ys.length) : Sl w (some (x.add q)) (c - q) (ys.drop q) :=
  ⟨⟨fun e => (by cases e), fun ad ha j u hj => by
    cases ha
    rw [add_add]
    refine h.reads.2 x rfl (q + j) u ?_
    rw [List.getElem?_map, List.getElem?_drop] at hj
    rw [List.getElem?_map]; exact hj⟩, by have := h.le; rw [List.length_drop]; omega, by have := h.max; omega, fun e => (by cases e)⟩

set_option maxRecDepth 100000 in
set_option maxHeartbeats 8000000 in
theorem chunk_cuts (a b d e s : Int) (hs0 : 0 ≤ s) (hs1 : s < 18446744073709551616) (ba : Option Addr) (cap : Nat) (ys : List UInt8) (at_ : Int) (w : World) (hdb : DB w) (hb : Sl w ba cap ys) :
    Calls Tryd.prog 5 #[parV a b d e s, .slice ba ys.length cap, .int .i64 at_] w fun e w' => e = .returned (.bool true) ∧ Kept [] w w' := by
  obtain ⟨w0, hw0⟩ : ∃ w0, w0 = w.alloc (.cells #[.int .i64 a, .int .i64 b, .int .i64 d, .int .i64 e, .int .u64 s] 24) := ⟨_, rfl⟩
  have k0 : Kept [] w w0 := hw0 ▸ (Kept.refl _ _).alloc _
  have hal := hid (alive09 w0 (hdb.kept k0 (by simp)))
  have hp0 : ParAt w0 w.heap.size a b d e s := by rw [hw0]; exact heap_alloc_at rfl
  have hmax := hb.max; have hle := hb.le
  by_cases hl : 300 < ys.length
  · go_enter Tryd.func5, Tryd.ntmps5
    go_wp2_with fail
    rw [← hw0]
    refine hal.out.mono ?_
    rintro r w1 ⟨rfl, k1⟩
    go_wp2
    go_ret
    exact ⟨rfl, k0.trans k1⟩
  rcases new_any a b d e s hs0 hs1 with ⟨P, hok, rfl, rfl, rfl, rfl⟩ | hbad
  · have q1 := hok.min1; have q2 := hok.minmax; have q3 := hok.max
    have hok1 : ParOk ⟨P.min, P.min, P.bits, P.width⟩ := ⟨q1, Nat.le_refl _, by show P.min ≤ 65536; omega, hok.bits, hok.w1, hok.w64⟩
    have hnP := hid (fun W (hd : DB W) => new_ok P s hok hs0 hs1 W hd)
    have hn1 := hid (fun W (hd : DB W) => (show Calls Tryd.prog 12 #[parV P.min P.min P.bits P.width s] W _ from new_ok ⟨P.min, P.min, P.bits, P.width⟩ s hok1 hs0 hs1 W hd))
    obtain ⟨P1, hP1⟩ : ∃ P1 : Chunk.Par, P1 = ⟨P.min, P.min, P.bits, P.width⟩ := ⟨_, rfl⟩
    have hE1 : ∀ n t, Chunk.ends P1 n t = decide (P1.min ≤ n) := ends_even (by rw [hP1])
    have hm1 : P1.min = P.min := by rw [hP1]
    rw [← hP1] at hn1
    obtain ⟨T, hT⟩ : ∃ T, T = num s := ⟨_, rfl⟩
    rw [← hT] at hnP hn1
    have hlens := hid (fun i x hx => spl_lens hE1 (by omega) T ys.length ys (Nat.le_refl _) i x hx)
    rw [hm1] at hlens
    have hcnt := hid (spl_count hE1 (by omega) T ys.length ys (Nat.le_refl _))
    rw [hm1] at hcnt
    have hsl := hid hb
    have hd := hid hdb
    clear hb hdb hP1 hT hok1 hE1
    go_enter Tryd.func5, Tryd.ntmps5
    go_wp2_with fail
    rw [← hw0]
    refine hal.out.mono ?_
    rintro r w1 ⟨rfl, k1⟩
    have hp1 : ParAt w1 w.heap.size P.min P.max P.bits P.width s := k1.at hp0 (by simp)
    obtain ⟨c0, c1, c2, c3, c4, -, -, -⟩ := hp1.cells
    have K1 := hid (k0.trans k1)
    clear k1
    go_wp2_with fail
    refine (hnP.out w1 (hd.out.kept K1.out (by simp))).mono ?_
    rintro r w2 ⟨c, g, rfl, k2, hch, -, -⟩
    have hp2 : ParAt w2 w.heap.size P.min P.max P.bits P.width s := k2.at hp1 (by simp)
    have K2 := hid (K1.out.trans k2)
    have hs2 := hid (hsl.out.kept K2.out (by simp))
    clear k2 c0 c1 c2 c3 c4 hp1 hw0
    go_wp2_with fail
    refine (split_any c P s g T ba cap ys w2 hch hs2.out (by omega)).mono ?_
    rintro r w3 ⟨v, xs, rfl, k3, hz, hrow, hps⟩
    have hch3 := hid (hch.kept k3 (by simp) (by simp) (by simp))
    have hp3 := hid (show ParAt w3 w.heap.size P.min P.max P.bits P.width s from k3.at hp2 (by simp))
    have K3 := hid (K2.out.trans k3)
    have hs3 := hid (hsl.out.kept K3.out (by simp))
    have lbx : w.heap.size < w3.heap.size := lt_of_block hp3.out
    obtain ⟨av, cv, rfl, hcv1, hcv2, hrv, hav0⟩ := rv_of hrow hps
    have hz1 : xs.map (·.ys) = spl P T ys := hz.1
    rw [hz1] at hrv
    have hrv := hid hrv
    have hNs : (spl P T ys).length = xs.length := by rw [← hz1]; simp
    have hone := hid (fun (W : World) (a' : Option Addr) (c' : Nat) (r : List UInt8) (k : Kept [] w3 W) (hr : Sl W a' c' r) (hm : r ∈ spl P T ys) => (show Calls Tryd.prog 15 #[.pointer (some ⟨c, 0, none⟩), .slice a' r.length c'] W (fun e w' => ∃ a4 c4, e = .returned (.slice a4 1 c4) ∧ Kept [] W w') from by
      have hrl := (Chunk.split_ne _ ys (Nat.le_refl _) r hm).2
      refine (split_any c P s g T a' c' r W (hch3.out.kept k (by simp) (by simp) (by simp)) hr (by omega)).mono ?_
      rintro e w' ⟨v', xs', rfl, k', hz', hrow', -⟩
      have h1 := hz'.1
      rw [show spl P T r = [r] from Chunk.split_chunks _ ys (Nat.le_refl _) r hm] at h1
      have h2 : xs'.length = 1 := by have := congrArg List.length h1; simpa using this
      obtain ⟨a4, c4, rfl⟩ := qslice hrow'
      rw [h2]
      exact ⟨a4, c4, rfl, k'⟩))
    have hget := hid (fun j (hj : j < (spl P T ys).length) => (⟨(spl P T ys)[j]'hj, List.getElem?_eq_getElem _⟩ : ∃ x, (spl P T ys)[j]? = some x))
    obtain ⟨N, hNe⟩ : ∃ N, N = xs.length := ⟨_, rfl⟩
    have hNl : N ≤ 400 := by rw [hNe, ← hNs]; have := split_le P T ys; omega
    rw [hNs] at hget
    rw [← hNe] at hget hcv1 hNs ⊢
    clear hrow hps hz hz1 hNe hch hp2 k3 hp0 hok
    by_cases hN0 : N = 0
    · have KX := hid (Kept.refl [] w3)
      have hNz : ¬ ((0 : Int) < (N : Int)) := by omega
      have hNd : decide (0 < N) = false := decide_eq_false (by omega)
      clear hN0
      go_wp2_with fail
      try rw [hNd]
      clear hNd hNz
      go_loopw [12, 72] (fun _ i wr => ∃ j : Nat, j ≤ N ∧ i = .int .i64 (j : Int) ∧ Hid (Kept [] w3 wr)) (fun _ i _ => N - (intOf i).toNat)
      case atStart => exact ⟨0, by omega, rfl, KX⟩
      case round =>
        clear KX
        obtain ⟨j, hj, rfl, hk⟩ := hrel
        by_cases hjl : j < N
        · obtain ⟨r, hr⟩ := hget.out j hjl
          obtain ⟨ad, xa, xc, hav, hc, hsx⟩ := (hrv.out.kept hk.out) j r hr
          have h1 := hid (hone.out wr xa xc r hk.out hsx (List.mem_of_getElem? hr))
          subst hav
          clear hr hsx
          obtain ⟨m, hm⟩ : ∃ m, m = r.length := ⟨_, rfl⟩
          rw [← hm] at hc h1
          clear hm
          go_wp2_with fail
          refine h1.out.mono ?_
          rintro e w4 ⟨a4, c4, rfl, k4⟩
          have K4 := hid (hk.out.trans k4)
          clear k4
          go_wp2_with fail
          exact ⟨⟨j + 1, by omega, by go_num, K4⟩, by simp [intOf]; omega⟩
        · obtain rfl : j = N := by omega
          have hp4 : ParAt wr w.heap.size P.min P.max P.bits P.width s := hk.out.at hp3.out (by simp)
          obtain ⟨c0, c1, c2, c3, c4, f0, f1, f2⟩ := hp4.cells
          obtain ⟨w5, hw5⟩ : ∃ w5, w5 = wr.setCell ⟨w.heap.size, 1, none⟩ (.int .i64 (P.min : Int)) := ⟨_, rfl⟩
          have hp5 : ParAt w5 w.heap.size P.min P.min P.bits P.width s := by rw [hw5]; unfold ParAt; rw [Go.heap_setCell_same wr _ 1 _ _ _ hp4]; rfl
          have k45 : Kept [w.heap.size] wr w5 := hw5 ▸ (Kept.refl [w.heap.size] wr).setCell (p := ⟨w.heap.size, 1, none⟩) (fun _ => by simp) _
          have K5 := hid (show Kept [] w w5 from (K3.out.trans hk.out).trans' k45 (fun x hx hm => by simp at hm; omega))
          have Hk := hid hk.out
          clear hk
          go_wp2_with fail
          rw [← hw5]
          refine (hn1.out w5 (hd.out.kept K5.out (by simp))).mono ?_
          rintro r w6 ⟨cb, gb, rfl, k6, hcb, hcb1, hgb1⟩
          have K6 := hid (K5.out.trans k6)
          have hs6 := hid (hsl.out.kept K6.out (by simp))
          have hp6 := hid (show ParAt w6 w.heap.size P.min P.min P.bits P.width s from k6.at hp5 (by simp))
          clear k6 k45 c0 c1 c2 c3 c4 f0 f1 f2 hw5 hp4 hp5
          go_wp2_with fail
          refine (split_any cb P1 s gb T ba cap ys w6 hcb hs6.out (by omega)).mono ?_
          rintro r w7 ⟨v2, xs2, rfl, k7, hz2, hrow2, hps2⟩
          have hN2 : xs2.length = (ys.length + P.min - 1) / P.min := by
            have := congrArg List.length hz2.1
            rw [hcnt.out] at this; simpa using this
          have hl2 := hid (fun i x hx => hlens.out i x (by rw [← hz2.1]; exact hx))
          obtain ⟨av2, cv2, rfl, hcv3, hcv4, hrv2, -⟩ := rv_of hrow2 hps2
          have Hrv2 := hid hrv2
          have hp7 : ParAt w7 w.heap.size P.min P.min P.bits P.width s := k7.at hp6.out (by simp)
          have K7 := hid (K6.out.trans k7)
          have hget2 := hid (fun j (hj : j < xs2.length) => (⟨(xs2[j]'hj).ys, by rw [List.getElem?_map, List.getElem?_eq_getElem hj]; rfl⟩ : ∃ x, (xs2.map (·.ys))[j]? = some x))
          obtain ⟨N2, hNe2⟩ : ∃ N2, N2 = xs2.length := ⟨_, rfl⟩
          have hl2m : (spl P1 T ys).length = N2 := by rw [← hz2.1, hNe2]; simp
          rw [hl2m] at hl2
          rw [← hNe2] at hN2 hget2 hcv3 ⊢
          obtain ⟨c0, c1, c2, c3, c4, -, -, -⟩ := hp7.cells
          have hN2l : N2 ≤ 400 := by rw [← hl2m]; have := split_le P1 T ys; omega
          clear hrow2 hps2 hz2 hrv2 hNe2 hl2m k7 hcb
          have hdiv := hid hN2
          clear hN2
          go_wp2_with fail
          go_loopw [16, 17, 97] (fun _ _ i wr => ∃ j : Nat, j ≤ N2 ∧ i = .int .i64 (j : Int) ∧ w7 = wr) (fun _ _ i _ => N2 - (intOf i).toNat)
          case atStart => exact ⟨0, by omega, rfl, rfl⟩
          case round =>
            obtain ⟨j, hj, rfl, rfl⟩ := hrel
            by_cases hjl : j < N2
            · obtain ⟨r, hr⟩ := hget2.out j hjl
              obtain ⟨ad, xa, xc, hav, hc, hsx⟩ := Hrv2.out j r hr
              obtain ⟨hx1, hx2⟩ := hl2.out j r hr
              subst hav
              clear hr hsx
              obtain ⟨m, hm⟩ : ∃ m, m = r.length := ⟨_, rfl⟩
              rw [← hm] at hc hx1 hx2
              clear hm
              have hmle : m ≤ P.min := by omega
              clear hx2
              by_cases hmm : m = P.min
              · subst hmm
                clear hx1 hmle
                go_wp2_with fail
                exact ⟨⟨j + 1, by omega, by go_num, trivial⟩, by simp [intOf]; omega⟩
              · have hlast : ¬ j + 1 < N2 := fun h => hmm (hx1 h)
                have hne : ((m : Int) != (P.min : Int)) = true := by simp; omega
                clear hx1
                go_wp2_with fail
                exact ⟨⟨j + 1, by omega, by go_num, trivial⟩, by simp [intOf]; omega⟩
            · obtain rfl : j = N2 := by omega
              have hz : ((P.min : Int) == 0) = false := by simp; omega
              have hdv : (j : Int) = ((ys.length : Int) + (P.min : Int) - 1) / (P.min : Int) := by
                rw [hdiv.out, Int.natCast_ediv]; congr 1; omega
              have hfin := hid (show ((j : Int) == ((ys.length : Int) + (P.min : Int) - 1) / (P.min : Int)) = true by rw [← hdv]; simp)
              clear hdv
              go_wp2
              go_ret
              exact ⟨by rw [hfin.out]; rfl, K7.out⟩
    · have hNz : (0 : Int) < (N : Int) := by omega
      have hNd : decide (0 < N) = true := decide_eq_true (by omega)
      have hyne : ys ≠ [] := fun e => by rw [e, spl_nil] at hNs; simp at hNs; omega
      obtain ⟨x, rfl⟩ : ∃ x, ba = some x := by
        obtain ⟨ad, h1, _⟩ := hs3.out.reads.get 0 (List.length_pos_iff.2 hyne)
        exact ⟨ad, h1⟩
      obtain ⟨gv, rfl⟩ : ∃ gv, av = some ⟨gv, 0, none⟩ := by
        obtain ⟨r, hr⟩ := hget.out 0 (by omega)
        obtain ⟨ad, _, _, h1, _, _⟩ := hrv.out 0 r hr
        obtain ⟨bk, o, sp⟩ := ad
        obtain ⟨h2, h3⟩ := hav0 _ h1
        dsimp only at h2 h3
        subst h2; subst h3
        exact ⟨bk, h1⟩
      obtain ⟨A, hA⟩ : ∃ A : Nat, bits .and .i64 at_ 65535 = (A : Int) := ⟨(at_ % 65536).toNat, by rw [i64_and64k]; omega⟩
      obtain ⟨m, hm⟩ : ∃ m, m = A % N := ⟨_, rfl⟩
      have hmN : m < N := by rw [hm]; exact Nat.mod_lt _ (by omega)
      have hrem : (A : Int).tmod (N : Int) = (m : Int) := by rw [Int.tmod_eq_emod_of_nonneg (by omega), hm]; omega
      have hNn : ((N : Int) == 0) = false := by simp; omega
      have hcut := Chunk.split_cut (E := Chunk.ends P) (T := T) (k := P.width) m ys.length ys (Nat.le_refl _)
      obtain ⟨R1, hR1⟩ : ∃ R, R = (spl P T ys).take m := ⟨_, rfl⟩
      obtain ⟨R2, hR2⟩ : ∃ R, R = (spl P T ys).drop m := ⟨_, rfl⟩
      have hl1 : R1.length = m := by rw [hR1, List.length_take]; omega
      have hl2 : R2.length = N - m := by rw [hR2, List.length_drop]; omega
      obtain ⟨q, hq⟩ : ∃ q, q = R1.flatten.length := ⟨_, rfl⟩
      have hc1 : spl P T (ys.take q) = R1 := by rw [hq, hR1]; exact hcut.1
      have hc2 : spl P T (ys.drop q) = R2 := by rw [hq, hR1, hR2]; exact hcut.2
      have hall : R1.flatten.length + R2.flatten.length = ys.length := by
        rw [← List.length_append, ← List.flatten_append, hR1, hR2, List.take_append_drop]
        exact congrArg List.length (Chunk.split_join _ ys (Nat.le_refl _))
      have hqlt : q < ys.length := by
        obtain ⟨r, r', hrr⟩ := List.exists_cons_of_ne_nil (List.ne_nil_of_length_pos (by rw [hl2]; omega) : R2 ≠ [])
        have hmem : r ∈ spl P T ys := List.mem_of_mem_drop (by rw [← hR2, hrr]; simp : r ∈ (spl P T ys).drop m)
        have := List.length_pos_iff.2 (Chunk.split_ne _ ys (Nat.le_refl _) r hmem).1
        rw [hrr, List.flatten_cons, List.length_append] at hall
        omega
      have hrv1 := hid (show RV w3 (some ⟨gv, 0, none⟩) R1 from hR1 ▸ hrv.out.take m)
      have hrv2 := hid (show RV w3 (some ⟨gv, m, none⟩) R2 from by have h := hrv.out.drop m; rw [plain_add, Nat.zero_add] at h; rw [hR2]; exact h)
      have hfl : R1.flatten.length ≤ 300 := by omega
      have hj := join20 (some ⟨gv, 0, none⟩) cv R1 w3 hrv1.out ⟨by omega, by omega⟩ ⟨by omega, hcv2⟩
      rw [hl1, ← hq] at hj
      have Hj := hid hj
      have hS1 := hid (fun (W : World) (k : Kept [] w3 W) => (show Calls Tryd.prog 15 #[.pointer (some ⟨c, 0, none⟩), .slice (some x) q cap] W (fun e w' => ∃ a4 c4, e = .returned (.slice a4 m c4) ∧ Kept [] w3 w' ∧ RV w' a4 R1 ∧ m ≤ c4 ∧ c4 ≤ 9223372036854775807) from by
        have ht : (ys.take q).length = q := by rw [List.length_take]; omega
        have h := split_any c P s g T (some x) cap (ys.take q) W (hch3.out.kept k (by simp) (by simp) (by simp)) ((hs3.out.take q).kept k (by simp)) (by omega)
        rw [ht] at h
        refine h.mono ?_
        rintro e w' ⟨v', xs', rfl, k', hz', hrow', hps'⟩
        have h1 := hz'.1
        rw [hc1] at h1
        have h2 : xs'.length = m := by have := congrArg List.length h1; rw [hl1] at this; simpa using this
        obtain ⟨a4, c4, rfl, h3, h4, h5, _⟩ := rv_of hrow' hps'
        rw [h1] at h5
        rw [h2] at h3 ⊢
        exact ⟨a4, c4, rfl, k.trans k', h5, h3, h4⟩))
      have hS2 := hid (fun (W : World) (k : Kept [] w3 W) => (show Calls Tryd.prog 15 #[.pointer (some ⟨c, 0, none⟩), .slice (some (x.add q)) (ys.length - q) (cap - q)] W (fun e w' => ∃ a4 c4, e = .returned (.slice a4 (N - m) c4) ∧ Kept [] w3 w' ∧ RV w' a4 R2 ∧ N - m ≤ c4 ∧ c4 ≤ 9223372036854775807) from by
        have h := split_any c P s g T (some (x.add q)) (cap - q) (ys.drop q) W (hch3.out.kept k (by simp) (by simp) (by simp)) ((hs3.out.drop q (by omega)).kept k (by simp)) (by rw [List.length_drop]; omega)
        rw [List.length_drop] at h
        refine h.mono ?_
        rintro e w' ⟨v', xs', rfl, k', hz', hrow', hps'⟩
        have h1 := hz'.1
        rw [hc2] at h1
        have h2 : xs'.length = N - m := by have := congrArg List.length h1; rw [hl2] at this; simpa using this
        obtain ⟨a4, c4, rfl, h3, h4, h5, _⟩ := rv_of hrow' hps'
        rw [h1] at h5
        rw [h2] at h3 ⊢
        exact ⟨a4, c4, rfl, k.trans k', h5, h3, h4⟩))
      have hM1 := hid (fun (W : World) (a4 : Option Addr) (c4 : Nat) (k : Kept [] w3 W) (hr : RV W a4 R1) (h3 : m ≤ c4) (h4 : c4 ≤ 9223372036854775807) => (show Calls Tryd.prog 16 #[.slice a4 m c4, .slice (some ⟨gv, 0, none⟩) m cv] W (fun e w' => e = .returned (.bool true) ∧ Kept [] w3 w') from by
        have h := same16 a4 (some ⟨gv, 0, none⟩) c4 cv R1 W hr (hrv1.out.kept k) (by omega) (by omega) (by omega)
        rw [hl1] at h
        exact h.mono fun e w' h => ⟨h.1, k.trans h.2⟩))
      have hM2 := hid (fun (W : World) (a4 : Option Addr) (c4 : Nat) (k : Kept [] w3 W) (hr : RV W a4 R2) (h3 : N - m ≤ c4) (h4 : c4 ≤ 9223372036854775807) => (show Calls Tryd.prog 16 #[.slice a4 (N - m) c4, .slice (some ⟨gv, m, none⟩) (N - m) (cv - m)] W (fun e w' => e = .returned (.bool true) ∧ Kept [] w3 w') from by
        have h := same16 a4 (some ⟨gv, m, none⟩) c4 (cv - m) R2 W hr (hrv2.out.kept k) (by omega) (by omega) (by omega)
        rw [hl2] at h
        exact h.mono fun e w' h => ⟨h.1, k.trans h.2⟩))
      have hcq : ¬ cap = q := by omega
      have hcm : ¬ cv = m := by omega
      have f1 : q ≤ cap := by omega
      have f2 : q ≤ ys.length := by omega
      have f3 : m ≤ cv := by omega
      have f4 : m ≤ N := by omega
      clear hj hall hcut hR1 hR2 hq hc1 hc2 hl1 hl2 hfl hav0 hyne hm hN0
      go_wp2_with fail
      refine Hj.out.mono ?_
      rintro r w4 ⟨a4, c4, rfl, k4, -⟩
      have k4d := k4.drew
      go_wp2_with fail
      go_region_held3 (fun W => Kept [] w3 W) (first | with_reducible exact k8 | with_reducible exact k7 | with_reducible exact k6 | with_reducible exact k5 | with_reducible exact k4d)
        (first
          | (go_at_call 15; with_reducible (refine Calls.mono (hS1.out w4.drew k4d) ?_); rintro e w5 ⟨a5, c5, rfl, k5, r5, l5, u5⟩)
          | (go_at_call 15; with_reducible (refine Calls.mono (hS2.out w6 k6) ?_); rintro e w7 ⟨a7, c7, rfl, k7, r7, l7, u7⟩)
          | (go_at_call 16; with_reducible (refine Calls.mono (hM1.out w5 a5 c5 k5 r5 l5 u5) ?_); rintro e w6 ⟨rfl, k6⟩)
          | (go_at_call 16; with_reducible (refine Calls.mono (hM2.out w7 a7 c7 k7 r7 l7 u7) ?_); rintro e w8 ⟨rfl, k8⟩))
      have KX := hid k8
      clear hS1 hS2 hM1 hM2 Hj hrv1 hrv2 k4 k4d k5 k6 k7 k8 r5 r7 l5 u5 l7 u7 hcq hcm f1 f2 f3 f4 hA hrem hNn hqlt hmN
      go_wp2_with fail
      try rw [hNd]
      clear hNd hNz lbx hcv1 hcv2
      go_loopw [12, 72] (fun _ i wr => ∃ j : Nat, j ≤ N ∧ i = .int .i64 (j : Int) ∧ Hid (Kept [] w3 wr)) (fun _ i _ => N - (intOf i).toNat)
      case atStart => exact ⟨0, by omega, rfl, KX⟩
      case round =>
        clear KX
        obtain ⟨j, hj, rfl, hk⟩ := hrel
        by_cases hjl : j < N
        · obtain ⟨r, hr⟩ := hget.out j hjl
          obtain ⟨ad, xa, xc, hav, hc, hsx⟩ := (hrv.out.kept hk.out) j r hr
          have h1 := hid (hone.out wr xa xc r hk.out hsx (List.mem_of_getElem? hr))
          cases hav
          rw [plain_add, Nat.zero_add] at hc
          clear hr hsx
          obtain ⟨m, hm⟩ : ∃ m, m = r.length := ⟨_, rfl⟩
          rw [← hm] at hc h1
          clear hm
          go_wp2_with fail
          refine h1.out.mono ?_
          rintro e w4 ⟨a4, c4, rfl, k4⟩
          have K4 := hid (hk.out.trans k4)
          clear k4
          go_wp2_with fail
          exact ⟨⟨j + 1, by omega, by go_num, K4⟩, by simp [intOf]; omega⟩
        · obtain rfl : j = N := by omega
          have hp4 : ParAt wr w.heap.size P.min P.max P.bits P.width s := hk.out.at hp3.out (by simp)
          obtain ⟨c0, c1, c2, c3, c4, f0, f1, f2⟩ := hp4.cells
          obtain ⟨w5, hw5⟩ : ∃ w5, w5 = wr.setCell ⟨w.heap.size, 1, none⟩ (.int .i64 (P.min : Int)) := ⟨_, rfl⟩
          have hp5 : ParAt w5 w.heap.size P.min P.min P.bits P.width s := by rw [hw5]; unfold ParAt; rw [Go.heap_setCell_same wr _ 1 _ _ _ hp4]; rfl
          have k45 : Kept [w.heap.size] wr w5 := hw5 ▸ (Kept.refl [w.heap.size] wr).setCell (p := ⟨w.heap.size, 1, none⟩) (fun _ => by simp) _
          have K5 := hid (show Kept [] w w5 from (K3.out.trans hk.out).trans' k45 (fun x hx hm => by simp at hm; omega))
          have Hk := hid hk.out
          clear hk
          go_wp2_with fail
          rw [← hw5]
          refine (hn1.out w5 (hd.out.kept K5.out (by simp))).mono ?_
          rintro r w6 ⟨cb, gb, rfl, k6, hcb, hcb1, hgb1⟩
          have K6 := hid (K5.out.trans k6)
          have hs6 := hid (hsl.out.kept K6.out (by simp))
          have hp6 := hid (show ParAt w6 w.heap.size P.min P.min P.bits P.width s from k6.at hp5 (by simp))
          clear k6 k45 c0 c1 c2 c3 c4 f0 f1 f2 hw5 hp4 hp5
          go_wp2_with fail
          refine (split_any cb P1 s gb T (some x) cap ys w6 hcb hs6.out (by omega)).mono ?_
          rintro r w7 ⟨v2, xs2, rfl, k7, hz2, hrow2, hps2⟩
          have hN2 : xs2.length = (ys.length + P.min - 1) / P.min := by
            have := congrArg List.length hz2.1
            rw [hcnt.out] at this; simpa using this
          have hl2 := hid (fun i x hx => hlens.out i x (by rw [← hz2.1]; exact hx))
          obtain ⟨av2, cv2, rfl, hcv3, hcv4, hrv2, -⟩ := rv_of hrow2 hps2
          have Hrv2 := hid hrv2
          have hp7 : ParAt w7 w.heap.size P.min P.min P.bits P.width s := k7.at hp6.out (by simp)
          have K7 := hid (K6.out.trans k7)
          have hget2 := hid (fun j (hj : j < xs2.length) => (⟨(xs2[j]'hj).ys, by rw [List.getElem?_map, List.getElem?_eq_getElem hj]; rfl⟩ : ∃ x, (xs2.map (·.ys))[j]? = some x))
          obtain ⟨N2, hNe2⟩ : ∃ N2, N2 = xs2.length := ⟨_, rfl⟩
          have hl2m : (spl P1 T ys).length = N2 := by rw [← hz2.1, hNe2]; simp
          rw [hl2m] at hl2
          rw [← hNe2] at hN2 hget2 hcv3 ⊢
          obtain ⟨c0, c1, c2, c3, c4, -, -, -⟩ := hp7.cells
          have hN2l : N2 ≤ 400 := by rw [← hl2m]; have := split_le P1 T ys; omega
          clear hrow2 hps2 hz2 hrv2 hNe2 hl2m k7 hcb
          have hdiv := hid hN2
          clear hN2
          go_wp2_with fail
          go_loopw [16, 17, 97] (fun _ _ i wr => ∃ j : Nat, j ≤ N2 ∧ i = .int .i64 (j : Int) ∧ w7 = wr) (fun _ _ i _ => N2 - (intOf i).toNat)
          case atStart => exact ⟨0, by omega, rfl, rfl⟩
          case round =>
            obtain ⟨j, hj, rfl, rfl⟩ := hrel
            by_cases hjl : j < N2
            · obtain ⟨r, hr⟩ := hget2.out j hjl
              obtain ⟨ad, xa, xc, hav, hc, hsx⟩ := Hrv2.out j r hr
              obtain ⟨hx1, hx2⟩ := hl2.out j r hr
              subst hav
              clear hr hsx
              obtain ⟨m, hm⟩ : ∃ m, m = r.length := ⟨_, rfl⟩
              rw [← hm] at hc hx1 hx2
              clear hm
              have hmle : m ≤ P.min := by omega
              clear hx2
              by_cases hmm : m = P.min
              · subst hmm
                clear hx1 hmle
                go_wp2_with fail
                exact ⟨⟨j + 1, by omega, by go_num, trivial⟩, by simp [intOf]; omega⟩
              · have hlast : ¬ j + 1 < N2 := fun h => hmm (hx1 h)
                have hne : ((m : Int) != (P.min : Int)) = true := by simp; omega
                clear hx1
                go_wp2_with fail
                exact ⟨⟨j + 1, by omega, by go_num, trivial⟩, by simp [intOf]; omega⟩
            · obtain rfl : j = N2 := by omega
              have hz : ((P.min : Int) == 0) = false := by simp; omega
              have hdv : (j : Int) = ((ys.length : Int) + (P.min : Int) - 1) / (P.min : Int) := by
                rw [hdiv.out, Int.natCast_ediv]; congr 1; omega
              have hfin := hid (show ((j : Int) == ((ys.length : Int) + (P.min : Int) - 1) / (P.min : Int)) = true by rw [← hdv]; simp)
              clear hdv
              go_wp2
              go_ret
              exact ⟨by rw [hfin.out]; rfl, K7.out⟩
  · have Hb := hid hbad
    go_enter Tryd.func5, Tryd.ntmps5
    go_wp2_with fail
    rw [← hw0]
    refine hal.out.mono ?_
    rintro r w1 ⟨rfl, k1⟩
    obtain ⟨c0, c1, c2, c3, c4, _, _, _⟩ := ParAt.cells (W := w1) (k1.at hp0 (by simp))
    go_wp2_with fail
    refine (Hb.out w1).mono ?_
    rintro r w2 ⟨rfl, k2⟩
    go_wp2
    go_ret
    exact ⟨rfl, k0.trans (k1.trans k2)⟩
end Go.Proofs.YthfojiicblppdaaDoor
