/- coldstorelaw02.CodeReads' closure: own is flipped, the fields are read. -/
import Derived.Test.YtignphegdigalaaW8
import Derived.Laws.OwnMore
import Derived.WalkSpells
import Derived.Deep.RegionHeld3
import Derived.Deep.RegionLaw
namespace Go.Proofs.Ytignphegdigalaa
open Go.RowKit Go.Lib

/-- A cell of a row of bytes is set. -/
theorem own_setb {w : World} {base g n c : Nat} {xs : List UInt8} (h : w.ownsRow base 5 1 (.slice (some ⟨g, 0, none⟩) n c) n (xs.map B)) (i : Nat) (b : UInt8) :
    (w.setCell ⟨g, i, none⟩ (B b)).ownsRow base 5 1 (.slice (some ⟨g, 0, none⟩) n c) n ((xs.set i b).map B) := by
  have := (h.stored i (B b)).1
  rwa [← List.map_set] at this
theorem xor255 (a : UInt8) : ∃ b : UInt8, bits .xor .u8 (a.toNat : Int) 255 = (b.toNat : Int) := by
  have h8 : (BitVec.ofInt 8 255).toNat = 255 := by decide
  refine ⟨a ^^^ 255, ?_⟩
  have ha := a.toNat_lt
  have key : (BitVec.ofInt 8 (a.toNat : Int) ^^^ BitVec.ofInt 8 255).toNat = a.toNat ^^^ 255 := by
    rw [BitVec.toNat_xor, BitVec.toNat_ofInt, h8]
    have h1 : ((a.toNat : Int) % ((2 ^ 8 : Nat) : Int)).toNat = a.toNat := by omega
    rw [h1]
  have hx : a.toNat ^^^ 255 < 2 ^ 8 := Nat.xor_lt_two_pow (by omega) (by omega)
  show IntKind.u8.wrap ((BitVec.ofInt 8 (a.toNat : Int) ^^^ BitVec.ofInt 8 255).toNat : Nat) = _
  rw [key, UInt8.toNat_xor, IntKind.wrap_u8]
  have : (255 : UInt8).toNat = 255 := by decide
  rw [this]
  omega

/-- The own bytes when some are flipped. -/
def OwnAt (b0 : Nat) (aw : Option Addr) (n cw : Nat) (w wr : World) : Prop :=
  Kept (Value.slice aw n cw).ownBlock.toList w wr ∧ ∃ ys : List UInt8, ys.length = n ∧ wr.ownsRow b0 5 1 (.slice aw n cw) n (ys.map B)
theorem OwnAt.round {b0 : Nat} {aw : Option Addr} {n cw : Nat} {w wr : World} (h : OwnAt b0 aw n cw w wr) {i : Nat} (hi : i < n) :
    ∃ (g : Nat) (y z : UInt8), aw = some ⟨g, 0, none⟩ ∧ wr.cell? ⟨g, i, none⟩ = some (.int .u8 (y.toNat : Int)) ∧ wr.frozen? ⟨g, i, none⟩ = false ∧ bits .xor .u8 (y.toNat : Int) 255 = (z.toNat : Int) ∧ OwnAt b0 aw n cw w (wr.setCell ⟨g, i, none⟩ (.int .u8 (z.toNat : Int))) := by
  obtain ⟨hk, ys, hl, ho⟩ := h
  rcases ho.2 with ⟨h1, _⟩ | ⟨g, cap, cur, hv, hg, hh, hc, hm, hs, ht⟩
  · simp at h1; omega
  · simp at hv
    obtain ⟨rfl, rfl⟩ := hv
    have hy := ho.cells (g := g) rfl i (B (ys[i]'(by omega))) (by simp [hl, hi])
    obtain ⟨z, hz⟩ := xor255 (ys[i]'(by omega))
    refine ⟨g, ys[i]'(by omega), z, rfl, ?_, ?_, hz, hk.trans ?_, ys.set i z, by simp [hl], own_setb ho i z⟩
    · have e : (⟨g, 0, none⟩ : Addr).add i = ⟨g, i, none⟩ := by unfold Addr.add; split <;> simp_all
      rw [e] at hy; exact hy
    · exact frozen_of_row _ _ i _ _ hh
    · exact (Kept.refl _ _).setCell (p := ⟨g, i, none⟩) (fun _ => by simp [Value.ownBlock]) _

/-- Where the closure stands when i fields are read. -/
def ReadsAt (B rb px pg : Nat) (a : Option Addr) (S : List Nat) (w wr : World) : Prop :=
  ∃ a1 c1 ab cb rest, Kept S w wr ∧ Rd wr rb a1 c1 rest ∧ (∀ x, a1 = some x → ∃ y, a = some y ∧ x.block = y.block) ∧ wr.heap[pg]? = some (.cells #[.bool true] 4 (0, 0)) ∧
    wr.heap[px]? = some (.cells #[.slice ab rest.length cb, .int .i64 0] 28 (0, 0)) ∧ Rx wr B ab cb rest
def ReadsQ (B px pg : Nat) (n : Int) (rest : List UInt8) (W : World) : Prop :=
  n = 0 ∧ W.heap[pg]? = some (.cells #[.bool true] 4 (0, 0)) ∧ ∃ ab cb, W.heap[px]? = some (.cells #[.slice ab rest.length cb, .int .i64 0] 28 (0, 0)) ∧ Rx W B ab cb rest

set_option maxRecDepth 100000 in
set_option maxHeartbeats 16000000 in
theorem reads1 (B b0 rb pw po px pg : Nat) (a aw ax ab : Option Addr) (c cw cx cb : Nat) (bs : List UInt8) (ops : List OpR) (w : World) (h : Rd w rb a c bs) (hx : Rx w B ab cb bs) (h40 : ops.length ≤ 40) (hbs : bs.length ≤ 300)
    (hpw : w.heap[pw]? = some (.cells #[.slice aw bs.length cw] 22 (0, 0))) (hown : w.ownsRow b0 5 1 (.slice aw bs.length cw) bs.length (bs.map Go.Proofs.Ytignphegdigalaa.B))
    (hpo : w.heap[po]? = some (.cells #[.slice ax ops.length cx] 23 (0, 0))) (hops : ∀ wr T, Kept T w wr → (∀ s ∈ T, B ≤ s) → IsOps wr ax ops)
    (hpx : w.heap[px]? = some (.cells #[.slice ab bs.length cb, .int .i64 0] 28 (0, 0))) (hpg : w.heap[pg]? = some (.cells #[.bool true] 4 (0, 0)))
    (hB : B ≤ b0 ∧ B ≤ rb ∧ B ≤ px ∧ B ≤ pg) (hne : pg ≠ rb ∧ px ≠ rb ∧ px ≠ pg ∧ pw ≠ rb ∧ pw ≠ px ∧ pw ≠ pg ∧ po ≠ rb ∧ po ≠ px ∧ po ≠ pg)
    (hax : ∀ x, a = some x → x.block ≠ pg ∧ x.block ≠ px ∧ x.block < w.heap.size) (hgo : ∀ x, aw = some x → x.block ≠ rb ∧ x.block ≠ pg ∧ x.block ≠ px ∧ x.block ≠ pw ∧ x.block ≠ po ∧ ∀ y, a = some y → y.block ≠ x.block) :
    Calls Try.prog 8 #[.pointer (some ⟨rb, 0, none⟩), .pointer (some ⟨pw, 0, none⟩), .pointer (some ⟨po, 0, none⟩), .pointer (some ⟨px, 0, none⟩), .pointer (some ⟨pg, 0, none⟩)] w
      (Threw (ReadOn rb a (px :: pg :: (Value.slice aw bs.length cw).ownBlock.toList) w (ReadsQ B px pg))) := by
  obtain ⟨W, hW⟩ : ∃ W, W = w.alloc (.cells #[.pointer (some ⟨rb, 0, none⟩)] 31) := ⟨_, rfl⟩
  have hk1 : Kept [] w W := hW ▸ (Kept.refl [] w).alloc _
  have hr1 := hid (show W.heap[w.heap.size]? = some (.cells #[.pointer (some ⟨rb, 0, none⟩)] 31 (0, 0)) from hW ▸ heap_alloc_new' _ _)
  have hO := hid (show OwnAt b0 aw bs.length cw W W from ⟨Kept.refl _ _, bs, rfl, hk1.owns hown (by simp)⟩)
  have hS := hid (show ∀ s ∈ (Value.slice aw bs.length cw).ownBlock.toList, B ≤ s ∧ s ≠ rb ∧ s ≠ pg ∧ s ≠ px ∧ s ≠ pw ∧ s ≠ po ∧ s < w.heap.size ∧ ∀ y, a = some y → y.block ≠ s from by
    intro s hs
    rcases hown.2 with ⟨h1, _⟩ | ⟨g, cap, cur, hv, hg, hh, _⟩
    · simp at h1; rw [h1.1] at hs; simp [Value.ownBlock] at hs
    · simp at hv
      rw [hv.1] at hs
      simp [Value.ownBlock] at hs
      subst hs
      have := hgo _ hv.1
      simp at this
      have hl := lt_of_block hh
      exact ⟨by omega, this.1, this.2.1, this.2.2.1, this.2.2.2.1, this.2.2.2.2.1, hl, this.2.2.2.2.2⟩)
  have lw := hid (lt_of_block hpw)
  have gw := hid (hk1.at hpw (by simp))
  have hR := hid h; have HX := hid hx; have HO := hid hops; have HPO := hid (hk1.at hpo (by simp)); have HPX := hid (hk1.at hpx (by simp)); have HPG := hid (hk1.at hpg (by simp)); have HAX := hid hax; have HK := hid hk1; have HW := hid hW
  have LPO := hid (lt_of_block hpo); have LPX := hid (lt_of_block hpx); have LPG := hid (lt_of_block hpg)
  clear h hx hpw hown hpo hops hpx hpg hax hgo hk1 hW
  have wc := cell_of_one gw.out
  have wcl : (w.alloc (.cells #[.pointer (some ⟨rb, 0, none⟩)] 31)).cell? ⟨pw, 0, none⟩ = some (.slice aw bs.length cw) := HW.out ▸ wc
  obtain ⟨n, hn⟩ : ∃ n, n = bs.length := ⟨_, rfl⟩
  have HN := hid hn
  rw [← hn] at wc wcl gw hO hS ⊢
  rw [← hn] at hbs
  clear hn
  go_enter Try.func8, Try.ntmps8
  go_wp2_with fail
  rw [← HW.out]
  clear wcl
  go_loopw [13] (fun s wr => ∃ i : Nat, i ≤ n ∧ s = .int .i64 i ∧ OwnAt b0 aw n cw W wr) (fun s _ => n - (intOf s).toNat)
  case atStart => exact ⟨0, Nat.zero_le _, rfl, hO.out⟩
  case round =>
    obtain ⟨i, hi, rfl, hat⟩ := hrel
    have gwr := hat.1.at gw.out (fun hm => (hS.out _ hm).2.2.2.2.1 rfl)
    have wcr := cell_of_one gwr
    clear gwr
    by_cases hlt : i < n
    · obtain ⟨g, y, z, rfl, hc, hf, hz, hat2⟩ := hat.round hlt
      have HAT := hid hat2
      obtain ⟨yn, hyn⟩ : ∃ k : Nat, k = y.toNat := ⟨_, rfl⟩
      obtain ⟨zn, hzn⟩ : ∃ k : Nat, k = z.toNat := ⟨_, rfl⟩
      rw [← hyn] at hc hz
      rw [← hzn] at hz HAT
      clear hat hat2 wc hyn hzn
      go_wp2
      go_roundw
      case rel => exact ⟨i + 1, by omega, by go_num, HAT.out⟩
      case measure => simp [intOf]; omega
    · have hin : i = n := by omega
      subst hin
      have HAT := hid hat
      have HK2 := hid hat.1
      have hnS : ∀ x, x < w.heap.size → (x = rb ∨ x = pg ∨ x = px ∨ x = po) → x ∉ (Value.slice aw i cw).ownBlock.toList := fun x _ hx hm => by
        have := hS.out _ hm
        rcases hx with h | h | h | h <;> omega
      have hpo2 := hid (hat.1.at HPO.out (hnS _ LPO.out (by simp)))
      have hpx2 := hid (hat.1.at HPX.out (hnS _ LPX.out (by simp)))
      have hpg2 := hid (hat.1.at HPG.out (hnS _ LPG.out (by simp)))
      have hpr2 := hid (hat.1.at hr1.out (fun hm => by have := (hS.out _ hm).2.2.2.2.2.2.1; omega))
      have hrd2 := hid ((hR.out.kept HK.out (by simp) (by simp)).kept hat.1 (hnS _ (lt_of_block hR.out.here) (by simp)) (fun x hx hm => (hS.out _ hm).2.2.2.2.2.2.2 x hx rfl))
      have hrx2 := hid ((HX.out.kept HK.out (by simp)).kept hat.1 (fun s hs => (hS.out s hs).1))
      clear hat wc wcr hi hlt
      have gpo := cell_of_one hpo2.out
      obtain ⟨T, hT⟩ : ∃ T, T = rb :: px :: pg :: (Value.slice aw i cw).ownBlock.toList := ⟨_, rfl⟩
      have HT := hid hT
      have hTB := hid (show ∀ s ∈ T, B ≤ s from fun s hs => by
        rw [hT] at hs
        simp only [List.mem_cons] at hs
        rcases hs with h | h | h | h
        · omega
        · omega
        · omega
        · exact (hS.out s h).1)
      have hat0 := hid (show ReadsAt B rb px pg a T W wr from ⟨a, c, ab, cb, bs, HK2.out.wider (fun x _ hx => by rw [hT]; simp only [List.mem_cons]; exact .inr (.inr (.inr hx))), hrd2.out, fun x hx => ⟨x, hx, rfl⟩, hpg2.out, hpx2.out, hrx2.out⟩)
      clear hT
      go_wp2_with fail
      go_loopw [25] (fun s wr => ∃ i : Nat, i ≤ ops.length ∧ s = .int .i64 i ∧ ReadsAt B rb px pg a T W wr) (fun s _ => ops.length - (intOf s).toNat)
      case atStart => exact ⟨0, Nat.zero_le _, rfl, hat0.out⟩
      case round =>
        obtain ⟨j, hj, rfl, a1, c1, ab1, cb1, rest, hk, hrd, hab, hg, hpx, hrx⟩ := hrel
        have HRx := hid hrx; have HRd := hid hrd; have HAB := hid hab; have HG := hid hg; have HPx := hid hpx; have HKw := hid hk
        clear hrx hrd hab hg hpx hk
        by_cases hlt : j < ops.length
        · cases ax with
          | none => exact absurd ((HO.out W [] HK.out (by simp)).1 rfl) (fun e => by rw [e] at hlt; simp at hlt)
          | some x =>
            have hkw : Kept T w wr := ((Kept.refl T w).trans' HK.out (by simp)).trans HKw.out
            obtain ⟨g0, g1, g2, g3, hsrc, hnum, hl⟩ := (HO.out wr T hkw hTB.out).2 x rfl j ops[j] (by simp [hlt])
            have HNum := hid hnum
            clear hsrc hnum hl hkw gpo
            generalize ho : ops[j] = o at *
            clear ho
            obtain ⟨W3, hW3⟩ : ∃ W3, W3 = wr.alloc (.cells #[.int .i64 o.kind, .int .i64 o.size, .int .u64 (o.num : Int), .slice o.ba o.bs.length o.bc] 34) := ⟨_, rfl⟩
            have hk3 := hid (show Kept [] wr W3 from hW3 ▸ (Kept.refl [] wr).alloc _)
            have hbox := hid (show W3.heap[wr.heap.size]? = some (.cells #[.int .i64 o.kind, .int .i64 o.size, .int .u64 (o.num : Int), .slice o.ba o.bs.length o.bc] 34 (0, 0)) from hW3 ▸ heap_alloc_at rfl)
            have lrb := hid (lt_of_block hR.out.here)
            have szW := HK.out.size
            have szr := HKw.out.size
            have sz3 : wr.heap.size < W3.heap.size := lt_of_block hbox.out
            have hwW : w.heap.size < W.heap.size := lt_of_block hr1.out
            have hTT := hid (show ∀ y, y ∈ T → y < w.heap.size from fun y hy => by
              rw [HT.out] at hy
              simp only [List.mem_cons] at hy
              rcases hy with h | h | h | h
              · rw [h]; exact lrb.out
              · rw [h]; exact LPX.out
              · rw [h]; exact LPG.out
              · exact (hS.out y h).2.2.2.2.2.2.1)
            have hprw := hid (HKw.out.at hr1.out (fun hm => by have := hTT.out _ hm; omega))
            have hkE : Kept [] W3 (W3.alloc (.cells #[.int .i64 0] 29)) := (Kept.refl [] W3).alloc _
            have ha1 := hid (show ∀ x, a1 = some x → x.block ≠ pg ∧ x.block ≠ px ∧ x.block < w.heap.size from fun x hx => by
              obtain ⟨y, hy, he⟩ := HAB.out x hx
              rw [he]; exact HAX.out y hy)
            have lB : B ≤ w.heap.size := by have := lrb.out; omega
            have lpx' := LPX.out
            have lpg' := LPG.out
            have lrb' := lrb.out
            have hrun := hid (run_read 10 enters_reads11 #[.pointer (some ⟨w.heap.size, 0, none⟩), .pointer (some ⟨px, 0, none⟩), .pointer (some ⟨wr.heap.size, 0, none⟩), .pointer (some ⟨pg, 0, none⟩)] W3 rb a1 [px, pg] (XAt B px pg o rest) (by omega) (by simp; omega) (fun x hx => by have := (ha1.out x hx).2.2; omega)
              (fun _ _ _ _ h he hk => h.kept hk (by omega) (by omega) (by omega))
              (reads11 B w.heap.size px wr.heap.size pg rb o ab1 cb1 rest a1 c1 _ HNum.out ((HRx.out.kept hk3.out (by simp)).kept hkE (by simp)) ((HRd.out.kept hk3.out (by simp) (by simp)).kept hkE (by simp) (by simp)) ⟨hB.2.1, hB.2.2.2, hB.2.2.1⟩ ⟨hne.1, hne.2.1, hne.2.2.1⟩
                (hkE.at (hk3.out.at hprw.out (by simp)) (by simp)) (hkE.at (hk3.out.at HPx.out (by simp)) (by simp)) (hkE.at hbox.out (by simp)) (hkE.at (hk3.out.at HG.out (by simp)) (by simp)) (fun x hx => by have h1 := ha1.out x hx; have h2 := hkE.size; refine ⟨h1.1, h1.2.1, by omega⟩)))
            have HW3 := hid hW3
            clear hW3 hkE
            go_wp2_with fail
            rw [← HW3.out]
            refine hrun.out.mono ?_
            clear g0 g1 g2 g3 hrun
            rintro e w4 ⟨n, rfl, a2, c2, r2, hrd4, hk4, hab4, rfl, rfl, hg4, a4, c4, hx4, hrx4⟩
            obtain ⟨rl, hrl⟩ : ∃ l, l = o.left rest := ⟨_, rfl⟩
            obtain ⟨er, her⟩ : ∃ n, n = o.err rest := ⟨_, rfl⟩
            rw [← hrl] at hrd4 hx4 hrx4
            rw [← her]
            have HRL := hid hrl; have HER := hid her
            have hk4w := hid (show Kept T W w4 from (HKw.out.trans' hk3.out (by simp)).trans' hk4 (fun x _ hx => by rw [HT.out]; simp at hx; rcases hx with hx | hx | hx <;> simp [hx]))
            have hpr4 := hid (hk4.at (hk3.out.at hprw.out (by simp)) (by simp; omega))
            have hbox4 := hid (hk4.at hbox.out (by simp; omega))
            have sz4 := hk4.size
            have HAB4 := hid hab4
            have hrd4 := hid hrd4; have hg4 := hid hg4; have hx4 := hid hx4; have hrx4 := hid hrx4
            clear hab4 hk4 hrl her hk3 hbox hj
            by_cases he : er = 0
            · subst he
              obtain ⟨V, hV⟩ : ∃ V, V = w4 := ⟨_, rfl⟩
              obtain ⟨a5, h5⟩ : ∃ a5, a5 = a4 := ⟨_, rfl⟩
              obtain ⟨c5, h6⟩ : ∃ c5, c5 = c4 := ⟨_, rfl⟩
              subst hV h5 h6
              have hrdV := hrd4; have hgV := hg4; have hxV := hx4; have hrxV := hrx4; have hprV := hpr4; have hkV := hk4w
              clear hrd4 hg4 hx4 hrx4 hpr4 hk4w
              have ha2 := hid (show ∀ x, a2 = some x → ∃ y, a = some y ∧ x.block = y.block from fun x hx => by
                obtain ⟨y, hy, h1⟩ := HAB4.out x hx
                obtain ⟨z, hz, h2⟩ := HAB.out y hy
                exact ⟨z, hz, h1.trans h2⟩)
              have kS := hid (show Kept [pg] V.drew (V.drew.setCell ⟨pg, 0, none⟩ (.bool true)) from (Kept.refl _ _).setCell (p := ⟨pg, 0, none⟩) (fun _ => by simp) _)
              have hLeft := hid (left_any' rb a2 c2 rl V.drew (hrdV.out.kept (Kept.of_drew [] V) (by simp) (by simp)))
              have hfin := hid (show ReadsAt B rb px pg a T W (V.drew.setCell ⟨pg, 0, none⟩ (.bool true)) from ⟨a2, c2, a5, c5, rl, hkV.out.drew.trans' kS.out (fun x _ hx => by rw [HT.out]; simp at hx; simp [hx]),
                (hrdV.out.kept (Kept.of_drew [] V) (by simp) (by simp)).kept kS.out (by simp; omega) (fun x hx => by
                  obtain ⟨y, hy, h1⟩ := ha2.out x hx
                  have := HAX.out y hy
                  simp; omega), ha2.out, one_setCell ((Kept.of_drew [] V).at hgV.out (by simp)), kS.out.at ((Kept.of_drew [] V).at hxV.out (by simp)) (by simp; omega), (hrxV.out.kept (Kept.of_drew [] V) (by simp)).kept kS.out (fun s hs => by simp at hs; omega)⟩)
              have hfin2 := hid (show ReadsAt B rb px pg a T W ((V.setCell ⟨pg, 0, none⟩ (.bool true)).drew) from hfin.out)
              have gd := cell_of_one hgV.out
              have gdf := free_of_one hgV.out
              have gr := cell_of_one hprV.out
              have x0 := cell_of_row _ _ 0 _ _ _ hxV.out
              clear kS hrdV hrxV
              go_wp2_with fail
              go_region_law
                ((refine step_call_wanted (by go_simp) 13 #[.pointer (some ⟨rb, 0, none⟩)] (by go_simp) (fun v w' => v = .int .i64 (rl.length : Nat) ∧ V.drew = w') (hLeft.out.mono fun e w' h => ⟨_, h.1, rfl, h.2⟩) ?_
                  rintro _ w9 ⟨rfl, rfl⟩))
              all_goals
                clear gd gdf gr x0 hLeft
                go_wp2
                go_roundw
                case rel => first | exact ⟨j + 1, by omega, by go_num, hfin2.out⟩ | exact ⟨j + 1, by omega, by go_num, hfin.out⟩
                case measure => simp [intOf]; omega
            · have hone := hid (one_any B o a4 c4 rl (w4.alloc (.cells #[.slice a4 rl.length c4, .int .i64 0] 28)) HNum.out (by have := ((Kept.refl [] w4).alloc (.cells #[.slice a4 rl.length c4, .int .i64 0] 28)).size; omega) (hrx4.out.kept ((Kept.refl [] w4).alloc _) (by simp)))
              have x0 := cell_of_row _ _ 0 _ _ _ hx4.out
              have x1 := cell_of_row _ _ 1 _ _ _ hx4.out
              have boxL := hid (show (w4.alloc (.cells #[.slice a4 rl.length c4, .int .i64 0] 28)).heap[wr.heap.size]? = some (.cells #[.int .i64 o.kind, .int .i64 o.size, .int .u64 (o.num : Int), .slice o.ba o.bs.length o.bc] 34 (0, 0)) from heap_alloc_old hbox4.out)
              have o0 := cell_of_row _ _ 0 _ _ _ boxL.out
              have o1 := cell_of_row _ _ 1 _ _ _ boxL.out
              have o2 := cell_of_row _ _ 2 _ _ _ boxL.out
              have o3 := cell_of_row _ _ 3 _ _ _ boxL.out
              unfold opV at hone
              go_wp2_with fail
              refine hone.out.mono ?_
              clear hone o0 o1 o2 o3 x0 x1 boxL
              rintro e w5 ⟨v, rfl, ⟨a5, c5, rfl, hrx5⟩, k5⟩
              have hlr : o.left rest = rest := by unfold OpR.left; rw [if_neg (HER.out ▸ he)]
              have hrr : rl = rest := HRL.out.trans hlr
              have e1 : o.err rl = er := by rw [hrr]; exact HER.out.symm
              have e2 : o.left rl = rl := by rw [hrr]; exact hlr
              rw [e1, e2]
              rw [e2] at hrx5
              clear hlr hrr e1 e2
              have kL := hid (show Kept [] w4 w5 from ((Kept.refl [] w4).alloc _).trans k5)
              have hx5 := hid (kL.out.at hx4.out (by simp))
              have hg5 := hid (kL.out.at hg4.out (by simp))
              have HRX5 := hid hrx5
              clear k5 hrx5
              obtain ⟨h6, k6⟩ := two_set hx5.out (.slice a5 rl.length c5) (.int .i64 er)
              have hx6 := hid h6; have k6 := hid k6
              have hg6 := hid (k6.out.at hg5.out (by simp; omega))
              have k7 := hid (show Kept [pg] ((w5.setCell ⟨px, 0, none⟩ (.slice a5 rl.length c5)).setCell ⟨px, 1, none⟩ (.int .i64 er)) (((w5.setCell ⟨px, 0, none⟩ (.slice a5 rl.length c5)).setCell ⟨px, 1, none⟩ (.int .i64 er)).setCell ⟨pg, 0, none⟩ (.bool true)) from (Kept.refl _ _).setCell (p := ⟨pg, 0, none⟩) (fun _ => by simp) _)
              have hx7 := hid (k7.out.at hx6.out (by simp; omega))
              have hg7 := hid (one_setCell (u := .bool true) hg6.out)
              have k8 := hid (show Kept [px] (((w5.setCell ⟨px, 0, none⟩ (.slice a5 rl.length c5)).setCell ⟨px, 1, none⟩ (.int .i64 er)).setCell ⟨pg, 0, none⟩ (.bool true)) ((((w5.setCell ⟨px, 0, none⟩ (.slice a5 rl.length c5)).setCell ⟨px, 1, none⟩ (.int .i64 er)).setCell ⟨pg, 0, none⟩ (.bool true)).setCell ⟨px, 1, none⟩ (.int .i64 0)) from (Kept.refl _ _).setCell (p := ⟨px, 1, none⟩) (fun _ => by simp) _)
              have hx8 := hid (show ((((w5.setCell ⟨px, 0, none⟩ (.slice a5 rl.length c5)).setCell ⟨px, 1, none⟩ (.int .i64 er)).setCell ⟨pg, 0, none⟩ (.bool true)).setCell ⟨px, 1, none⟩ (.int .i64 0)).heap[px]? = some (.cells #[.slice a5 rl.length c5, .int .i64 0] 28 (0, 0)) by rw [Go.heap_setCell_same _ _ 1 _ _ _ hx7.out]; rfl)
              have hg8 := hid (k8.out.at hg7.out (by simp; omega))
              have K8 := hid (show Kept [px, pg] w4 ((((w5.setCell ⟨px, 0, none⟩ (.slice a5 rl.length c5)).setCell ⟨px, 1, none⟩ (.int .i64 er)).setCell ⟨pg, 0, none⟩ (.bool true)).setCell ⟨px, 1, none⟩ (.int .i64 0)) from ((((Kept.refl [px, pg] w4).trans' kL.out (by simp)).trans' k6.out (fun x _ hx => by simp at hx; simp [hx])).trans' k7.out (fun x _ hx => by simp at hx; simp [hx])).trans' k8.out (fun x _ hx => by simp at hx; simp [hx]))
              have hrx8 := hid (show Rx ((((w5.setCell ⟨px, 0, none⟩ (.slice a5 rl.length c5)).setCell ⟨px, 1, none⟩ (.int .i64 er)).setCell ⟨pg, 0, none⟩ (.bool true)).setCell ⟨px, 1, none⟩ (.int .i64 0)) B a5 c5 rl from ((HRX5.out.kept k6.out (fun s hs => by simp at hs; omega)).kept k7.out (fun s hs => by simp at hs; omega)).kept k8.out (fun s hs => by simp at hs; omega))
              have p0 := frozen_of_row _ _ 0 _ _ hx5.out
              have p1 := frozen_of_row _ _ 1 _ _ hx5.out
              have p6 := cell_of_row _ _ 0 _ _ _ hx5.out
              have p7 := cell_of_row _ _ 1 _ _ _ hx5.out
              have p2 := cell_of_row _ _ 1 _ _ _ hx6.out
              have p8 := cell_of_row _ _ 1 _ _ _ hx7.out
              have p3 := cell_of_one hg6.out
              have p4 := free_of_one hg6.out
              have p5 := frozen_of_row _ _ 1 _ _ hx7.out
              clear h6
              obtain ⟨V, hV⟩ : ∃ V, V = ((((w5.setCell ⟨px, 0, none⟩ (.slice a5 rl.length c5)).setCell ⟨px, 1, none⟩ (.int .i64 er)).setCell ⟨pg, 0, none⟩ (.bool true)).setCell ⟨px, 1, none⟩ (.int .i64 0)) := ⟨_, rfl⟩
              have hrdV := hid (show Rd V rb a2 c2 rl from hV ▸ hrd4.out.kept K8.out (by simp; omega) (fun x hx => by
                obtain ⟨y, hy, h1⟩ := HAB4.out x hx
                have := ha1.out y hy
                simp; omega))
              have hgV := hid (hV ▸ hg8.out); have hxV := hid (hV ▸ hx8.out); have hrxV := hid (hV ▸ hrx8.out)
              have hprV := hid (show V.heap[w.heap.size]? = some (.cells #[.pointer (some ⟨rb, 0, none⟩)] 31 (0, 0)) from hV ▸ K8.out.at hpr4.out (by simp; omega))
              have hkV := hid (show Kept T W V from hV ▸ hk4w.out.trans' K8.out (fun x _ hx => by rw [HT.out]; simp at hx; rcases hx with hx | hx <;> simp [hx]))
              have HV := hid hV
              clear hV hx5 hg5 hx6 hg6 hx7 hg7 hx8 hg8 hrx8 k6 k7 k8 K8 kL hrd4 hg4 hx4 hrx4 hpr4 hk4w HRX5
              go_wp2_with fail
              rw [← HV.out]
              clear p0 p1 p2 p3 p4 p5 p6 p7 p8 HV
              have ha2 := hid (show ∀ x, a2 = some x → ∃ y, a = some y ∧ x.block = y.block from fun x hx => by
                obtain ⟨y, hy, h1⟩ := HAB4.out x hx
                obtain ⟨z, hz, h2⟩ := HAB.out y hy
                exact ⟨z, hz, h1.trans h2⟩)
              have kS := hid (show Kept [pg] V.drew (V.drew.setCell ⟨pg, 0, none⟩ (.bool true)) from (Kept.refl _ _).setCell (p := ⟨pg, 0, none⟩) (fun _ => by simp) _)
              have hLeft := hid (left_any' rb a2 c2 rl V.drew (hrdV.out.kept (Kept.of_drew [] V) (by simp) (by simp)))
              have hfin := hid (show ReadsAt B rb px pg a T W (V.drew.setCell ⟨pg, 0, none⟩ (.bool true)) from ⟨a2, c2, a5, c5, rl, hkV.out.drew.trans' kS.out (fun x _ hx => by rw [HT.out]; simp at hx; simp [hx]),
                (hrdV.out.kept (Kept.of_drew [] V) (by simp) (by simp)).kept kS.out (by simp; omega) (fun x hx => by
                  obtain ⟨y, hy, h1⟩ := ha2.out x hx
                  have := HAX.out y hy
                  simp; omega), ha2.out, one_setCell ((Kept.of_drew [] V).at hgV.out (by simp)), kS.out.at ((Kept.of_drew [] V).at hxV.out (by simp)) (by simp; omega), (hrxV.out.kept (Kept.of_drew [] V) (by simp)).kept kS.out (fun s hs => by simp at hs; omega)⟩)
              have hfin2 := hid (show ReadsAt B rb px pg a T W ((V.setCell ⟨pg, 0, none⟩ (.bool true)).drew) from hfin.out)
              have gd := cell_of_one hgV.out
              have gdf := free_of_one hgV.out
              have gr := cell_of_one hprV.out
              have x0 := cell_of_row _ _ 0 _ _ _ hxV.out
              clear kS hrdV hrxV
              go_region_law
                ((refine step_call_wanted (by go_simp) 13 #[.pointer (some ⟨rb, 0, none⟩)] (by go_simp) (fun v w' => v = .int .i64 (rl.length : Nat) ∧ V.drew = w') (hLeft.out.mono fun e w' h => ⟨_, h.1, rfl, h.2⟩) ?_
                  rintro _ w9 ⟨rfl, rfl⟩))
              all_goals
                clear gd gdf gr x0 hLeft
                go_wp2
                go_roundw
                case rel => first | exact ⟨j + 1, by omega, by go_num, hfin2.out⟩ | exact ⟨j + 1, by omega, by go_num, hfin.out⟩
                case measure => simp [intOf]; omega
        · have hjn : j = ops.length := by omega
          subst hjn
          have HR9 := hid (show ReadOn rb a (px :: pg :: (Value.slice aw i cw).ownBlock.toList) w (ReadsQ B px pg) 0 wr from ⟨a1, c1, rest, HRd.out, HT.out ▸ ((Kept.refl T w).trans' HK.out (by simp)).trans HKw.out, HAB.out, rfl, HG.out, ab1, cb1, HPx.out, HRx.out⟩)
          clear hlt hj gpo
          go_wp2
          go_end0
          exact Or.inl ⟨rfl, HR9.out⟩
end Go.Proofs.Ytignphegdigalaa
