import Derived.Test.YtmholofhmpplcaaVJ0
import Derived.Test.YtmholofhmpplcaaVK

/- ObjectPlays. -/
namespace Go.Proofs.Ytmholofhmpplcaa
open Go.RowKit Go.Lib Go.Maps Go.Sort
structure MS (D : Nat) (w W : World) (p : Nat) (q : Int) (f : Nat) (T : List Nat) (sb xb i : Nat) (es fs : List Ent) (U : List Nat) (fl : List Bool) (k : Nat) (left : Int) (row flv : Value) : Prop where
  ps : PS D W p q f T es fs U fl k left row flv
  s : W.heap[sb]? = some (.cells #[.pointer (some ⟨p, 0, none⟩)] 26 (0, 0))
  x : W.heap[xb]? = some (.cells [row, .int .i64 q, .int .i64 k, .int .i64 left, flv].toArray 35 (0, 0))
  kept : Kept [] w W
  sU : sb ∉ U ∧ sb ≠ f ∧ D ≤ sb
  xU : xb ∉ U ∧ xb ≠ f ∧ D ≤ xb
  kk : k ≤ i
theorem src_lt {w : World} {a : Option Addr} {n c : Nat} {bs : List UInt8} (h : Src w (.slice a n c) n (bs.map B)) (hne : bs ≠ []) (g : Nat) (hg : (Value.slice a n c).ownBlock = some g) : g < w.heap.size := by
  rcases h with ⟨h1, h2, h3⟩ | ⟨ad, c', h1, h2⟩
  · exact absurd (by simpa using h3) hne
  · simp at h1
    rw [h1.1] at hg
    simp [Value.ownBlock] at hg
    obtain ⟨b, r, rfl⟩ := List.exists_cons_of_ne_nil hne
    have h3 := World.block_lt_of_cell? _ _ (h2 0 (B b) rfl)
    rw [add_block] at h3
    omega
theorem i64_and7 (n : Int) : bits .and .i64 n 7 = n % 8 := by
  have h7 : (BitVec.ofInt 64 7).toNat = 2 ^ 3 - 1 := by decide
  have key : (BitVec.ofInt 64 n &&& BitVec.ofInt 64 7).toNat = (n % ((2 ^ 64 : Nat) : Int)).toNat % 2 ^ 3 := by
    rw [BitVec.toNat_and, BitVec.toNat_ofInt, h7, Nat.and_two_pow_sub_one_eq_mod]
  show IntKind.i64.wrap ((BitVec.ofInt 64 n &&& BitVec.ofInt 64 7).toNat : Nat) = n % 8
  rw [key, IntKind.wrap_i64]
  omega
theorem MS.keep {D : Nat} {w W W' : World} {p : Nat} {q : Int} {f : Nat} {T : List Nat} {sb xb i : Nat} {es fs : List Ent} {U : List Nat} {fl : List Bool} {k : Nat} {left : Int} {row flv : Value} (h : MS D w W p q f T sb xb i es fs U fl k left row flv) (hk : Kept [] W W') : MS D w W' p q f T sb xb i es fs U fl k left row flv :=
  ⟨h.ps.keep hk, hk.at h.s (by simp), hk.at h.x (by simp), h.kept.trans hk, h.sU, h.xU, h.kk⟩
theorem MS.up {D : Nat} {w W V : World} {p : Nat} {q : Int} {f : Nat} {T : List Nat} {sb xb i : Nat} {es fs : List Ent} {U : List Nat} {fl : List Bool} {k : Nat} {left : Int} {row flv : Value} (h : MS D w W p q f T sb xb i es fs U fl k left row flv) (hD : D = w.heap.size) {gb lo bad : Nat} (hlo : W.heap.size ≤ lo) (hgb : gb ≠ sb) (hgd : D ≤ gb) (hk : Kept (xb :: gb :: (U ++ [f])) W V) (hp : PlR D p q f T U k lo xb gb bad V) :
    ∃ (es' fs' : List Ent) (U' : List Nat) (fl' : List Bool) (k' : Nat) (left' : Int) (row' flv' : Value), MS D w V p q f T sb xb (i + 1) es' fs' U' fl' k' left' row' flv' ∧ V.heap[gb]? = some (.cells #[.bool true] 4 (0, 0)) := by
  obtain ⟨es', fs', U', fl', k', left', row', flv', h1, h2, h3, h4, h5, h6⟩ := hp
  have hsx : sb ≠ xb := fun e => by
    have h7 := h.s
    rw [e, h.x] at h7
    simp at h7
  have hs := lt_of_block h.s
  have hx := lt_of_block h.x
  refine ⟨es', fs', U', fl', k', left', row', flv', ⟨h2, hk.at h.s (fun hm => ?_), h4, h.kept.trans' hk (fun x hx hm => ?_), ⟨fun hm => ?_, h.sU.2⟩, ⟨fun hm => ?_, h.xU.2⟩, by have := h.kk; omega⟩, h5⟩
  · simp at hm
    rcases hm with hm | hm | hm | hm
    · exact hsx hm
    · exact hgb hm.symm
    · exact h.sU.1 hm
    · exact h.sU.2.1 hm
  · simp at hm
    have h8 := h.xU.2.2
    rcases hm with rfl | rfl | hm | rfl
    · omega
    · omega
    · have := h.ps.ul x hm; omega
    · have := h.ps.fb; omega
  · rcases h1 _ hm with h7 | h7
    · exact h.sU.1 h7
    · omega
  · rcases h1 _ hm with h7 | h7
    · exact h.xU.1 h7
    · omega
set_option maxRecDepth 100000 in
set_option maxHeartbeats 60000000 in
theorem object_plays0 (q n0 : Int) (fa : Option Addr) (fc : Nat) (fl0 : List Bool) (a0 : Option Addr) (c0 : Nat) (ops : List OpO) (m : Int) (w : World) (hq1 : -9223372036854775808 ≤ q) (hq2 : q ≤ 9223372036854775807) (hn1 : -9223372036854775808 ≤ n0) (hn2 : n0 ≤ 9223372036854775807)
    (T : List Nat) (hT : ∀ x ∈ T, x < w.heap.size) (hfs : SrcS w T (.slice fa fl0.length fc) fl0.length (fl0.map .bool)) (hflm : fl0.length ≤ 9223372036854775807) (h : IsSteps w a0 ops) (hm : ops.length ≤ 9223372036854775807) :
    Calls Try.prog 3 #[.int .i64 q, .int .i64 n0, .slice fa fl0.length fc, .slice a0 ops.length c0, .int .i64 m] w fun e w' => e = .returned (.bool true) ∧ Kept [] w w' := by
  have hal := hid (alive06 w)
  have hfl : Src w (.slice fa fl0.length fc) fl0.length (fl0.map .bool) := hfs.src
  have HT := hid hT; have HFS := hid hfs
  have H := hid h
  have hst : ∀ W, Kept [] w W → IsSteps W a0 ops := fun W hk => ⟨h.1, fun x hx i o ho => by
    obtain ⟨q0, q1, q2, q3, q4, q5⟩ := h.2 x hx i o ho
    exact ⟨(hk.cell (World.block_lt_of_cell? w _ q0) (by simp)).trans q0, (hk.cell (World.block_lt_of_cell? w _ q1) (by simp)).trans q1, (hk.cell (World.block_lt_of_cell? w _ q2) (by simp)).trans q2, q3.kept hk (by simp), q4, q5⟩⟩
  have hcf := hid (fun W (hk : Kept [] w W) => few06 a0 c0 ops W (hst W hk) hm)
  clear h hst
  by_cases hfew : Few ops ∧ fl0.length ≤ 60 ∧ 0 ≤ q
  · obtain ⟨hfew, hf60, hq0⟩ := hfew
    have HF := hid hfew
    rw [decide_eq_true hfew] at hcf
    have hsrcf := hid (show ∀ W, Kept [] w W → Src W (.slice fa fl0.length fc) fl0.length (fl0.map .bool) from fun W hk => by
      rcases hfl with h | ⟨ad, c', h1, h2⟩
      · exact Or.inl h
      · exact Or.inr ⟨ad, c', h1, fun j u hj => (hk.cell (World.block_lt_of_cell? _ _ (h2 j u hj)) (by simp)).trans (h2 j u hj)⟩)
    obtain ⟨n, hn⟩ : ∃ n, n = ops.length := ⟨_, rfl⟩
    have HN := hid hn
    have hn60 : n ≤ 60 := by rw [hn]; exact hfew.2
    obtain ⟨nf, hnf⟩ : ∃ nf, nf = fl0.length := ⟨_, rfl⟩
    have HNF := hid hnf
    rw [← hn] at hcf ⊢
    rw [← hnf] at hsrcf hf60 ⊢
    have hnew := hid (fun W => ob_new q hq0 hq2 W)
    have hfz := hid (fun W => newfuse_all n0 W)
    obtain ⟨l0, hl0⟩ : ∃ l0, l0 = max n0 (-1) := ⟨_, rfl⟩
    rw [← hl0] at hfz
    have hl1 := hid (show -1 ≤ l0 ∧ l0 ≤ 9223372036854775807 by omega)
    have hmf : ∀ (fn : Fn) (first cap : Array Value) (w : World), (Instr.makeFunc fn first cap).run Try.prog w = .ok (.func fn first cap) w := fun _ _ _ _ => rfl
    have HQ := hid (And.intro hq0 hq2)
    have HL0 := hid hl0
    clear hfew hm hn hnf hl0 hfl hflm hn1 hn2 hq1 hT hfs
    go_enter Try.func3, Try.ntmps3
    go_wp2_with fail
    refine hal.out.mono ?_
    rintro e w1 ⟨rfl, k1⟩
    have K1 := hid k1
    clear k1 hal
    go_wp2_with fail
    refine (hcf.out w1 K1.out).mono ?_
    rintro e w2 ⟨rfl, k2⟩
    have K2 := hid (K1.out.trans k2)
    clear k2 hcf
    go_wp2_with fail
    refine (hnew.out w2).mono ?_
    rintro e w3 ⟨rfl, k3, ob3⟩
    obtain ⟨p, hp⟩ : ∃ p, p = w2.heap.size := ⟨_, rfl⟩
    rw [← hp] at ob3 ⊢
    have hb3 := hid (ob3.bound p (by simp))
    obtain ⟨w4, hw4⟩ : ∃ w4, w4 = w3.alloc (.cells #[.pointer (some ⟨p, 0, none⟩)] 26) := ⟨_, rfl⟩
    have HW4 := hid hw4
    have ka : Kept [] w3 w4 := hw4 ▸ (Kept.refl [] w3).alloc _
    have K4 := hid ((K2.out.trans k3).trans ka)
    have OB4 := hid (ob3.kept ka (by simp))
    have hpw := hid (show w.heap.size ≤ p from by rw [hp]; exact K2.out.size)
    have HX4 := hid (show w4.heap[w3.heap.size]? = some (.cells #[.pointer (some ⟨p, 0, none⟩)] 26 (0, 0)) from hw4 ▸ heap_alloc_at rfl)
    clear k3 ob3 hp hw4 ka hnew
    go_wp2_with fail
    rw [← HW4.out]
    refine (hfz.out w4).mono ?_
    rintro e w5 ⟨rfl, hw5⟩
    obtain ⟨f, hf⟩ : ∃ f, f = w4.heap.size := ⟨_, rfl⟩
    rw [← hf]
    have k5 : Kept [] w4 w5 := hw5 ▸ (Kept.refl [] w4).alloc _
    have K5 := hid (K4.out.trans k5)
    have OB5 := hid (OB4.out.kept k5 (by simp))
    have HF5 := hid (show w5.heap[f]? = some (.cells #[.int .i64 l0] 60 (0, 0)) from by rw [hf, ← hw5]; exact heap_alloc_at rfl)
    have HX5 := hid (k5.at HX4.out (by simp))
    have hxf := hid (show w3.heap.size < f from by rw [hf]; exact lt_of_block HX4.out)
    have hc5 : w5.cell? ⟨w3.heap.size, 0, none⟩ = some (.pointer (some ⟨p, 0, none⟩)) := cell_of_one HX5.out
    have har := hid (ob_arm_src w5 [p] p 58 [] q [] (.pointer none) [] 0 OB5.out (.pointer (some ⟨f, 0, none⟩)) fa nf fc fl0 ⟨_, rfl⟩ HNF.out (fun W hk => by rw [← HNF.out] at *; exact hsrcf.out W (K5.out.trans' hk (fun x hx hm => by simp at hm; have := hpw.out; omega))) (by have := HNF.out; omega))
    clear k5 hw5 hf hfz
    go_wp2_with fail
    refine har.out.mono ?_
    rintro e w6 ⟨rfl, k6, U6, hU6, ob6⟩
    obtain ⟨w7, hw7⟩ : ∃ w7, w7 = w6.alloc (.cells #[.slice none 0 0, .int .i64 q, .int .i64 0, .int .i64 l0, .slice fa nf fc] 35) := ⟨_, rfl⟩
    have HW7 := hid hw7
    have hI0 := hid (show ∃ es fs U fl k left row flv, MS w.heap.size w w7 p q f T w3.heap.size w6.heap.size 0 es fs U fl k left row flv from by
      have km : Kept [] w6 w7 := hw7 ▸ (Kept.refl [] w6).alloc _
      have h1 := hb3.out; have h2 := hxf.out; have h3 := hpw.out; have h4 := lt_of_block HF5.out; have h5 := k6.size
      have hU : ∀ x ∈ U6, x = p ∨ f < x := fun x hx => by
        rcases hU6 x hx with h | h
        · left; simpa using h
        · right; omega
      have hkw : Kept [] w w7 := (K5.out.trans' k6 (fun x hx hm => by simp at hm; omega)).trans km
      refine ⟨[], [], U6, fl0, 0, l0, .slice none 0 0, .slice fa nf fc, ⟨⟨ob6.kept km (by simp), Or.inr ⟨f, rfl, fun hm => ?_, km.at (k6.at HF5.out (by simp; omega)) (by simp), hl1.out.1, hl1.out.2⟩, ⟨0, ⟨⟨rfl, Or.inl ⟨rfl, rfl⟩⟩, by simp, Nat.zero_le _⟩⟩, fun g hg => by simp [Value.ownBlock] at hg, by simp, rfl, by have h9 := HFS.out.kept hkw (by simp); rw [HNF.out]; exact h9, HT.out, fun x hx => ?_, ?_, hkw.size, by have := HNF.out; omega, by simp [sizeE]⟩, km.at (k6.at HX5.out (by simp; omega)) (by simp), by rw [hw7]; exact heap_alloc_at rfl, hkw, ⟨fun hm => ?_, by omega, ?_⟩, ⟨fun hm => Nat.lt_irrefl _ (ob6.bound _ hm), by omega, ?_⟩, Nat.le_refl _⟩⟩
      · rcases hU f hm with h | h <;> omega
      · rcases hU x hx with h | h <;> omega
      · omega
      · rcases hU _ hm with h | h <;> omega
      · omega
      · omega)
    clear k6 hU6 ob6 har hc5 hw7
    go_wp2_with fail
    rw [← HL0.out, ← HW7.out]
    go_loopw [64] (fun s wr => ∃ i : Nat, i ≤ n ∧ s = .int .i64 i ∧ Hid (∃ es fs U fl k left row flv, MS w.heap.size w wr p q f T w3.heap.size w6.heap.size i es fs U fl k left row flv)) (fun s _ => n - (intOf s).toNat)
    case atStart => exact ⟨0, Nat.zero_le _, rfl, hI0⟩
    case round =>
      clear hI0
      obtain ⟨i, hi, rfl, hst⟩ := hrel
      obtain ⟨es, fs, U, fl, k, left, row, flv, rs⟩ := hst.out
      have R := hid rs
      obtain ⟨sb, hsb⟩ : ∃ sb, sb = w3.heap.size := ⟨_, rfl⟩
      obtain ⟨xb, hxb⟩ : ∃ xb, xb = w6.heap.size := ⟨_, rfl⟩
      rw [← hsb, ← hxb] at R rs ⊢
      have HSB := hid hsb; have HXB := hid hxb
      clear hsb hxb
      by_cases hlt : i < n
      · have hlt' : i < ops.length := by have := HN.out; omega
        obtain ⟨o, ho⟩ : ∃ o, ops[i]? = some o := ⟨ops[i], by simp⟩
        obtain ⟨x, rfl⟩ : ∃ x, a0 = some x := by
          cases a0 with
          | none => exact absurd (H.out.1 rfl) (fun e => by rw [e] at hlt'; simp at hlt')
          | some x => exact ⟨x, rfl⟩
        obtain ⟨q0, q1, q2, hsrc, hnl, hbl⟩ := H.out.2 x rfl i o ho
        have hofew := HF.out.1 o (List.mem_of_getElem? ho)
        have hkw := rs.kept
        have g0 := (hkw.cell (World.block_lt_of_cell? w _ q0) (by simp)).trans q0
        have g1 := (hkw.cell (World.block_lt_of_cell? w _ q1) (by simp)).trans q1
        have g2 := (hkw.cell (World.block_lt_of_cell? w _ q2) (by simp)).trans q2
        have hsv := hid (show ∀ V, Kept [] w V → Src V (.slice o.ba o.bs.length o.bc) o.bs.length (o.bs.map B) from fun V hk => hsrc.kept hk (by simp))
        have HOF := hid hofew
        have hbd := hid (show o.bs ≠ [] → ∀ g, (Value.slice o.ba o.bs.length o.bc).ownBlock = some g → g < w.heap.size from fun hne g hg => src_lt (hsv.out w (Kept.refl _ _)) hne g hg)
        have HLT := hid hlt
        obtain ⟨W, hW⟩ : ∃ W, W = (wr.alloc (.cells #[.int .i64 o.kind, .string (S o.nm), .slice o.ba o.bs.length o.bc] 38)).alloc (.cells #[.bool true] 4) := ⟨_, rfl⟩
        have HW := hid hW
        have hkW := hid (show Kept [] wr W from hW ▸ (((Kept.refl [] wr).alloc _).alloc _))
        have hsW := hid (show W.heap.size = wr.heap.size + 2 from by rw [hW]; simp)
        have hqo := hid (show W.heap[wr.heap.size]? = some (.cells [.int .i64 o.kind, .string (S o.nm), .slice o.ba o.bs.length o.bc].toArray 38 (0, 0)) from hW ▸ heap_alloc_old (heap_alloc_at rfl))
        have hqe := hid (show W.heap[wr.heap.size + 1]? = some (.cells #[.bool true] 4 (0, 0)) from hW ▸ heap_alloc_at (by simp))
        have RW := hid (rs.keep hkW.out)
        have i60 : i ≤ 60 := by omega
        obtain ⟨ra, rn, rc, rfl⟩ : ∃ a n c, row = .slice a n c := by obtain ⟨b, hr⟩ := rs.ps.rf; obtain ⟨a, c, e⟩ := owns_slice hr.row; exact ⟨a, _, c, e⟩
        have hbw := hid (ref_blows (.slice ra rn rc) q k left flv W)
        clear hst q0 q1 q2 hsrc hnl hbl ho hlt' hkw hW rs hofew
        unfold stR at hbw
        go_wp2_with (refine wpList_load_cells rfl 35 (.tmp 14) rfl ⟨xb, 0, none⟩ rfl [.slice ra rn rc, .int .i64 q, .int .i64 k, .int .i64 left, flv] _ Try.underlying35 rfl (by kernel_rfl) (cells_of (by rw [← HW.out]; exact RW.out.x)) ?_; refine halt ?_)
        refine Halt.mk ?_
        rw [← HW.out]
        go_wp2_with fail
        refine hbw.out.mono ?_
        rintro e W1 ⟨rfl, k1⟩
        have KW1 := hid k1
        clear k1 hbw
        have R1 := hid (RW.out.keep KW1.out)
        have hbx := hid (show Boxes W1 p o q k left (.slice ra rn rc) flv true sb xb wr.heap.size (wr.heap.size + 1) from ⟨R1.out.s, R1.out.x, KW1.out.at hqo.out (by simp), KW1.out.at hqe.out (by simp)⟩)
        have hc0 : W1.cell? ⟨wr.heap.size, 0, none⟩ = some (.int .i64 o.kind) := by rw [cell_of_row _ _ 0 _ _ _ hbx.out.o]; rfl
        have hout := hid (show ∀ x ∈ [xb, wr.heap.size + 1], x ∉ U ∧ x ≠ f ∧ w.heap.size ≤ x from fun x hx => by
          simp at hx
          rcases hx with rfl | rfl
          · exact R.out.xU
          · refine ⟨fun hm => ?_, fun e => ?_, by have := R.out.kept.size; omega⟩
            · have := R.out.ps.ob.bound _ hm; omega
            · have := R.out.ps.flt.1; omega)
        by_cases hleft : left = 0
        · subst hleft
          by_cases hk1 : 0 ≤ o.kind
          · by_cases hk2 : o.kind ≤ 4
            · as_aux_lemma =>
                have hcb := hid (catch_bl w.heap.size W1 p q f T es fs U fl k (.slice ra rn rc) flv R1.out.ps (by have := R.out.kk; omega) o ⟨hk1, hk2⟩ HOF.out.1 HOF.out.2 (fun V hV => hsv.out V (R1.out.kept.trans hV)) true sb xb wr.heap.size (wr.heap.size + 1) hbx.out)
                go_wp2_with fail
                refine (hcb.out).mono ?_
                rintro e V ⟨rfl, kv⟩
                obtain ⟨es2, fs2, U2, fl2, k2, left2, row2, flv2, R2, hg2⟩ : ∃ (es' fs' : List Ent) (U' : List Nat) (fl' : List Bool) (k' : Nat) (left' : Int) (row' flv' : Value), MS w.heap.size w V p q f T sb xb (i + 1) es' fs' U' fl' k' left' row' flv' ∧ V.heap[wr.heap.size + 1]? = some (.cells #[.bool true] 4 (0, 0)) :=
                  ⟨es, fs, U, fl, k, 0, _, flv, (by have h1 := R1.out.keep kv; exact ⟨h1.ps, h1.s, h1.x, h1.kept, h1.sU, h1.xU, by have := h1.kk; omega⟩), kv.at hbx.out.g (by simp)⟩
                clear kv hcb
                obtain ⟨ra2, rn2, rc2, hrw2⟩ : ∃ a n c, row2 = .slice a n c := by obtain ⟨b, hr⟩ := R2.ps.rf; obtain ⟨a, c, e⟩ := owns_slice hr.row; exact ⟨a, _, c, e⟩
                subst hrw2
                have hsm := hid (by
                  obtain ⟨b, hr⟩ := R2.ps.rf
                  obtain ⟨a, c, e⟩ := owns_slice hr.row
                  have e2 : rn2 = fs2.length := by simp at e; exact e.2.1
                  exact same06 V U2 p _ [] q es2 fs2 _ fl2 k2 R2.ps.ob (by have := R2.ps.bd.2; have := R2.kk; omega) (by have := R2.ps.bd.1; have := R2.kk; omega) b ra2 rn2 rc2 hr e2 R2.ps.se q left2 flv2)
                have hcg : V.cell? ⟨wr.heap.size + 1, 0, none⟩ = some (.bool true) := cell_of_one hg2
                have hcs : V.cell? ⟨sb, 0, none⟩ = some (.pointer (some ⟨p, 0, none⟩)) := cell_of_one R2.s
                have hxV := hid R2.x
                have HR2 := hid R2
                clear R2 hg2
                unfold stR at hsm
                have hx0 : V.cell? ⟨xb, 0, none⟩ = some (.slice ra2 rn2 rc2) := by rw [cell_of_row _ _ 0 _ _ _ hxV.out]; rfl
                have hx1 : V.cell? ⟨xb, 1, none⟩ = some (.int .i64 q) := by rw [cell_of_row _ _ 1 _ _ _ hxV.out]; rfl
                have hx2 : V.cell? ⟨xb, 2, none⟩ = some (.int .i64 k2) := by rw [cell_of_row _ _ 2 _ _ _ hxV.out]; rfl
                have hx3 : V.cell? ⟨xb, 3, none⟩ = some (.int .i64 left2) := by rw [cell_of_row _ _ 3 _ _ _ hxV.out]; rfl
                have hx4 : V.cell? ⟨xb, 4, none⟩ = some (flv2) := by rw [cell_of_row _ _ 4 _ _ _ hxV.out]; rfl
                go_wp2_with fail
                refine hsm.out.mono ?_
                rintro e V3 ⟨rfl, k9⟩
                have K9 := hid k9
                clear k9 hsm
                go_wp2
                go_roundw
                case rel => exact ⟨i + 1, HLT.out, by go_num, hid ⟨_, _, _, _, _, _, _, _, HR2.out.keep K9.out⟩⟩
                case measure => simp [intOf]; omega
            · as_aux_lemma =>
                have hcb := hid (catch_go w.heap.size W1 p q f T es fs U fl k 0 (.slice ra rn rc) flv R1.out.ps (by have := R.out.kk; omega) o (Or.inr (Or.inr (by omega))) HOF.out.1 HOF.out.2 (fun V hV => hsv.out V (R1.out.kept.trans hV)) hbd.out true sb xb wr.heap.size (wr.heap.size + 1) hbx.out hout.out)
                go_wp2_with fail
                refine (hcb.out).mono ?_
                rintro e V ⟨rfl, kv, hpl⟩
                obtain ⟨es2, fs2, U2, fl2, k2, left2, row2, flv2, R2, hg2⟩ := R1.out.up rfl (gb := wr.heap.size + 1) (by omega) (by have := lt_of_block R.out.s; omega) (by have := R.out.kept.size; omega) kv hpl
                clear kv hpl hcb
                obtain ⟨ra2, rn2, rc2, hrw2⟩ : ∃ a n c, row2 = .slice a n c := by obtain ⟨b, hr⟩ := R2.ps.rf; obtain ⟨a, c, e⟩ := owns_slice hr.row; exact ⟨a, _, c, e⟩
                subst hrw2
                have hsm := hid (by
                  obtain ⟨b, hr⟩ := R2.ps.rf
                  obtain ⟨a, c, e⟩ := owns_slice hr.row
                  have e2 : rn2 = fs2.length := by simp at e; exact e.2.1
                  exact same06 V U2 p _ [] q es2 fs2 _ fl2 k2 R2.ps.ob (by have := R2.ps.bd.2; have := R2.kk; omega) (by have := R2.ps.bd.1; have := R2.kk; omega) b ra2 rn2 rc2 hr e2 R2.ps.se q left2 flv2)
                have hcg : V.cell? ⟨wr.heap.size + 1, 0, none⟩ = some (.bool true) := cell_of_one hg2
                have hcs : V.cell? ⟨sb, 0, none⟩ = some (.pointer (some ⟨p, 0, none⟩)) := cell_of_one R2.s
                have hxV := hid R2.x
                have HR2 := hid R2
                clear R2 hg2
                unfold stR at hsm
                have hx0 : V.cell? ⟨xb, 0, none⟩ = some (.slice ra2 rn2 rc2) := by rw [cell_of_row _ _ 0 _ _ _ hxV.out]; rfl
                have hx1 : V.cell? ⟨xb, 1, none⟩ = some (.int .i64 q) := by rw [cell_of_row _ _ 1 _ _ _ hxV.out]; rfl
                have hx2 : V.cell? ⟨xb, 2, none⟩ = some (.int .i64 k2) := by rw [cell_of_row _ _ 2 _ _ _ hxV.out]; rfl
                have hx3 : V.cell? ⟨xb, 3, none⟩ = some (.int .i64 left2) := by rw [cell_of_row _ _ 3 _ _ _ hxV.out]; rfl
                have hx4 : V.cell? ⟨xb, 4, none⟩ = some (flv2) := by rw [cell_of_row _ _ 4 _ _ _ hxV.out]; rfl
                go_wp2_with fail
                refine hsm.out.mono ?_
                rintro e V3 ⟨rfl, k9⟩
                have K9 := hid k9
                clear k9 hsm
                go_wp2
                go_roundw
                case rel => exact ⟨i + 1, HLT.out, by go_num, hid ⟨_, _, _, _, _, _, _, _, HR2.out.keep K9.out⟩⟩
                case measure => simp [intOf]; omega
          · as_aux_lemma =>
              have hcb := hid (catch_go w.heap.size W1 p q f T es fs U fl k 0 (.slice ra rn rc) flv R1.out.ps (by have := R.out.kk; omega) o (Or.inr (Or.inl (by omega))) HOF.out.1 HOF.out.2 (fun V hV => hsv.out V (R1.out.kept.trans hV)) hbd.out true sb xb wr.heap.size (wr.heap.size + 1) hbx.out hout.out)
              go_wp2_with fail
              refine (hcb.out).mono ?_
              rintro e V ⟨rfl, kv, hpl⟩
              obtain ⟨es2, fs2, U2, fl2, k2, left2, row2, flv2, R2, hg2⟩ := R1.out.up rfl (gb := wr.heap.size + 1) (by omega) (by have := lt_of_block R.out.s; omega) (by have := R.out.kept.size; omega) kv hpl
              clear kv hpl hcb
              obtain ⟨ra2, rn2, rc2, hrw2⟩ : ∃ a n c, row2 = .slice a n c := by obtain ⟨b, hr⟩ := R2.ps.rf; obtain ⟨a, c, e⟩ := owns_slice hr.row; exact ⟨a, _, c, e⟩
              subst hrw2
              have hsm := hid (by
                obtain ⟨b, hr⟩ := R2.ps.rf
                obtain ⟨a, c, e⟩ := owns_slice hr.row
                have e2 : rn2 = fs2.length := by simp at e; exact e.2.1
                exact same06 V U2 p _ [] q es2 fs2 _ fl2 k2 R2.ps.ob (by have := R2.ps.bd.2; have := R2.kk; omega) (by have := R2.ps.bd.1; have := R2.kk; omega) b ra2 rn2 rc2 hr e2 R2.ps.se q left2 flv2)
              have hcg : V.cell? ⟨wr.heap.size + 1, 0, none⟩ = some (.bool true) := cell_of_one hg2
              have hcs : V.cell? ⟨sb, 0, none⟩ = some (.pointer (some ⟨p, 0, none⟩)) := cell_of_one R2.s
              have hxV := hid R2.x
              have HR2 := hid R2
              clear R2 hg2
              unfold stR at hsm
              have hx0 : V.cell? ⟨xb, 0, none⟩ = some (.slice ra2 rn2 rc2) := by rw [cell_of_row _ _ 0 _ _ _ hxV.out]; rfl
              have hx1 : V.cell? ⟨xb, 1, none⟩ = some (.int .i64 q) := by rw [cell_of_row _ _ 1 _ _ _ hxV.out]; rfl
              have hx2 : V.cell? ⟨xb, 2, none⟩ = some (.int .i64 k2) := by rw [cell_of_row _ _ 2 _ _ _ hxV.out]; rfl
              have hx3 : V.cell? ⟨xb, 3, none⟩ = some (.int .i64 left2) := by rw [cell_of_row _ _ 3 _ _ _ hxV.out]; rfl
              have hx4 : V.cell? ⟨xb, 4, none⟩ = some (flv2) := by rw [cell_of_row _ _ 4 _ _ _ hxV.out]; rfl
              go_wp2_with fail
              refine hsm.out.mono ?_
              rintro e V3 ⟨rfl, k9⟩
              have K9 := hid k9
              clear k9 hsm
              go_wp2
              go_roundw
              case rel => exact ⟨i + 1, HLT.out, by go_num, hid ⟨_, _, _, _, _, _, _, _, HR2.out.keep K9.out⟩⟩
              case measure => simp [intOf]; omega
        · as_aux_lemma =>
            have hl0 : (left == 0) = false := by simpa using hleft
            have hcb := hid (catch_go w.heap.size W1 p q f T es fs U fl k left (.slice ra rn rc) flv R1.out.ps (by have := R.out.kk; omega) o (Or.inl hleft) HOF.out.1 HOF.out.2 (fun V hV => hsv.out V (R1.out.kept.trans hV)) hbd.out true sb xb wr.heap.size (wr.heap.size + 1) hbx.out hout.out)
            go_wp2_with fail
            refine (hcb.out).mono ?_
            rintro e V ⟨rfl, kv, hpl⟩
            obtain ⟨es2, fs2, U2, fl2, k2, left2, row2, flv2, R2, hg2⟩ := R1.out.up rfl (gb := wr.heap.size + 1) (by omega) (by have := lt_of_block R.out.s; omega) (by have := R.out.kept.size; omega) kv hpl
            clear kv hpl hcb
            obtain ⟨ra2, rn2, rc2, hrw2⟩ : ∃ a n c, row2 = .slice a n c := by obtain ⟨b, hr⟩ := R2.ps.rf; obtain ⟨a, c, e⟩ := owns_slice hr.row; exact ⟨a, _, c, e⟩
            subst hrw2
            have hsm := hid (by
              obtain ⟨b, hr⟩ := R2.ps.rf
              obtain ⟨a, c, e⟩ := owns_slice hr.row
              have e2 : rn2 = fs2.length := by simp at e; exact e.2.1
              exact same06 V U2 p _ [] q es2 fs2 _ fl2 k2 R2.ps.ob (by have := R2.ps.bd.2; have := R2.kk; omega) (by have := R2.ps.bd.1; have := R2.kk; omega) b ra2 rn2 rc2 hr e2 R2.ps.se q left2 flv2)
            have hcg : V.cell? ⟨wr.heap.size + 1, 0, none⟩ = some (.bool true) := cell_of_one hg2
            have hcs : V.cell? ⟨sb, 0, none⟩ = some (.pointer (some ⟨p, 0, none⟩)) := cell_of_one R2.s
            have hxV := hid R2.x
            have HR2 := hid R2
            clear R2 hg2
            unfold stR at hsm
            have hx0 : V.cell? ⟨xb, 0, none⟩ = some (.slice ra2 rn2 rc2) := by rw [cell_of_row _ _ 0 _ _ _ hxV.out]; rfl
            have hx1 : V.cell? ⟨xb, 1, none⟩ = some (.int .i64 q) := by rw [cell_of_row _ _ 1 _ _ _ hxV.out]; rfl
            have hx2 : V.cell? ⟨xb, 2, none⟩ = some (.int .i64 k2) := by rw [cell_of_row _ _ 2 _ _ _ hxV.out]; rfl
            have hx3 : V.cell? ⟨xb, 3, none⟩ = some (.int .i64 left2) := by rw [cell_of_row _ _ 3 _ _ _ hxV.out]; rfl
            have hx4 : V.cell? ⟨xb, 4, none⟩ = some (flv2) := by rw [cell_of_row _ _ 4 _ _ _ hxV.out]; rfl
            go_wp2_with fail
            refine hsm.out.mono ?_
            rintro e V3 ⟨rfl, k9⟩
            have K9 := hid k9
            clear k9 hsm
            go_wp2
            go_roundw
            case rel => exact ⟨i + 1, HLT.out, by go_num, hid ⟨_, _, _, _, _, _, _, _, HR2.out.keep K9.out⟩⟩
            case measure => simp [intOf]; omega
      · as_aux_lemma =>
          obtain ⟨ra, rn, rc, rfl⟩ : ∃ a n c, row = .slice a n c := by obtain ⟨b, hr⟩ := rs.ps.rf; obtain ⟨a, c, e⟩ := owns_slice hr.row; exact ⟨a, _, c, e⟩
          have hrn : rn = es.length := by
            obtain ⟨b, hr⟩ := R.out.ps.rf
            obtain ⟨a, c, e⟩ := owns_slice hr.row
            simp at e
            rw [e.2.1, R.out.ps.se.length]
          obtain ⟨mm, hmm⟩ : ∃ mm : Nat, (mm : Int) = m % 8 ∧ mm ≤ 7 := ⟨(m % 8).toNat, by omega, by omega⟩
          have hnm := hid (names_upto wr U p _ [] q es _ fl k R.out.ps.ob mm hmm.2)
          rw [← hrn] at hnm
          have hcs : wr.cell? ⟨sb, 0, none⟩ = some (.pointer (some ⟨p, 0, none⟩)) := cell_of_one R.out.s
          have hba : bits .and .i64 m 7 = mm := by rw [i64_and7]; exact hmm.1.symm
          have hxr := hid (fun W (hk : Kept [] wr W) => (show W.cell? ⟨xb, 0, none⟩ = some (.slice ra rn rc) from by rw [cell_of_row _ _ 0 _ _ _ (hk.at R.out.x (by simp))]; rfl))
          have hin : i = n := by omega
          subst hin
          have hKR := hid R.out.kept
          have HMM := hid hmm
          clear hrn rs hst hmm
          go_wp2_with fail
          refine hnm.out.mono ?_
          rintro e W2 ⟨a, c, vy, rfl, k2⟩
          have hx2 := hxr.out W2 k2
          have K2 := hid k2
          clear k2 hnm
          obtain ⟨ml, hml⟩ : ∃ ml, ml = min mm rn := ⟨_, rfl⟩
          rw [← hml]
          have HML := hid hml
          clear hml
          have hmx : Hid (min (mm : Int) (rn : Int) = (ml : Int)) := by show min (mm : Int) (rn : Int) = (ml : Int); rw [HML.out]; omega
          have hbt : ((ml : Int) == min (mm : Int) (rn : Int)) = true := by rw [hmx.out]; simp
          go_wp2
          go_ret
          exact ⟨rfl, hKR.out.trans K2.out⟩
  · have hq1' := hq1
    by_cases hf1 : Few ops
    · rw [decide_eq_true hf1] at hcf
      by_cases hf2 : fl0.length ≤ 60
      · have hq : q < 0 := by
          rcases Int.lt_or_le q 0 with h | h
          · exact h
          · exact absurd ⟨hf1, hf2, h⟩ hfew
        have hf3 : ¬ (60 : Int) < (fl0.length : Int) := by omega
        have hnb := hid (fun W => ob_new_bad q hq hq1 W)
        clear hfew hf1 hf2 hfl
        go_enter Try.func3, Try.ntmps3
        go_wp2_with fail
        refine hal.out.mono ?_
        rintro e w1 ⟨rfl, k1⟩
        have K1 := hid k1
        clear k1
        go_wp2_with fail
        refine (hcf.out w1 K1.out).mono ?_
        rintro e w2 ⟨rfl, k2⟩
        have K2 := hid (K1.out.trans k2)
        clear k2
        go_wp2_with fail
        refine (hnb.out w2).mono ?_
        rintro e w3 ⟨rfl, rfl⟩
        go_wp2
        go_ret
        exact ⟨rfl, K2.out.trans ((Kept.refl _ _).alloc _)⟩
      · have hf3 : (60 : Int) < (fl0.length : Int) := by omega
        clear hfew hf1 hf2 hfl
        go_enter Try.func3, Try.ntmps3
        go_wp2_with fail
        refine hal.out.mono ?_
        rintro e w1 ⟨rfl, k1⟩
        have K1 := hid k1
        clear k1
        go_wp2_with fail
        refine (hcf.out w1 K1.out).mono ?_
        rintro e w2 ⟨rfl, k2⟩
        have K2 := hid (K1.out.trans k2)
        clear k2
        go_wp2
        go_ret
        exact ⟨rfl, K2.out⟩
    · rw [decide_eq_false hf1] at hcf
      clear hfew hf1 hfl
      go_enter Try.func3, Try.ntmps3
      go_wp2_with fail
      refine hal.out.mono ?_
      rintro e w1 ⟨rfl, k1⟩
      have K1 := hid k1
      clear k1
      go_wp2_with fail
      refine (hcf.out w1 K1.out).mono ?_
      rintro e w2 ⟨rfl, k2⟩
      have K2 := hid (K1.out.trans k2)
      clear k2
      go_wp2
      go_ret
      exact ⟨rfl, K2.out⟩
end Go.Proofs.Ytmholofhmpplcaa
