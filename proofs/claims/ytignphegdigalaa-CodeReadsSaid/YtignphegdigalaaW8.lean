/- coldstorelaw02.CodeReads' inner closure: a field is read into x. -/
import Derived.Test.YtignphegdigalaaW7
namespace Go.Proofs.Ytignphegdigalaa
open Go.RowKit Go.Lib

theorem enters_reads1 : Enters 8 := fun args w => by simp [go_sem]
theorem enters_reads11 : Enters 10 := fun args w => by simp [go_sem]

/-- What stands behind a field: x has what is left. -/
def XAt (B px pg : Nat) (o : OpR) (xs : List UInt8) (n : Int) (rest : List UInt8) (W : World) : Prop :=
  n = o.err xs ∧ rest = o.left xs ∧ W.heap[pg]? = some (.cells #[.bool true] 4 (0, 0)) ∧ ∃ a c, W.heap[px]? = some (.cells #[.slice a (o.left xs).length c, .int .i64 0] 28 (0, 0)) ∧ Rx W B a c (o.left xs)
theorem XAt.kept {B px pg : Nat} {o : OpR} {xs : List UInt8} {n : Int} {rest : List UInt8} {w w' : World} {x : Nat} (h : XAt B px pg o xs n rest w) (hk : Kept [x] w w') (h1 : px ≠ x) (h2 : pg ≠ x) (hB : B ≤ x) : XAt B px pg o xs n rest w' := by
  obtain ⟨h3, h4, h5, a, c, h6, h7⟩ := h
  exact ⟨h3, h4, hk.at h5 (by simpa using h2), a, c, hk.at h6 (by simpa using h1), h7.kept hk (fun s hs => by simp at hs; omega)⟩

set_option maxRecDepth 100000 in
set_option maxHeartbeats 2000000 in
theorem reads11 (B pr px po pg rb : Nat) (o : OpR) (a : Option Addr) (c : Nat) (xs : List UInt8) (a1 : Option Addr) (c1 : Nat) (w : World) (hn : o.num < 18446744073709551616) (h : Rx w B a c xs) (hr : Rd w rb a1 c1 xs) (hB : B ≤ rb ∧ B ≤ pg ∧ B ≤ px) (hne : pg ≠ rb ∧ px ≠ rb ∧ px ≠ pg)
    (hpr : w.heap[pr]? = some (.cells #[.pointer (some ⟨rb, 0, none⟩)] 31 (0, 0))) (hpx : w.heap[px]? = some (.cells #[.slice a xs.length c, .int .i64 0] 28 (0, 0)))
    (hpo : w.heap[po]? = some (.cells #[.int .i64 o.kind, .int .i64 o.size, .int .u64 (o.num : Int), .slice o.ba o.bs.length o.bc] 34 (0, 0)))
    (hpg : w.heap[pg]? = some (.cells #[.bool true] 4 (0, 0))) (hx1 : ∀ x, a1 = some x → x.block ≠ pg ∧ x.block ≠ px ∧ x.block < w.heap.size) :
    Calls Try.prog 10 #[.pointer (some ⟨pr, 0, none⟩), .pointer (some ⟨px, 0, none⟩), .pointer (some ⟨po, 0, none⟩), .pointer (some ⟨pg, 0, none⟩)] w (Threw (ReadOn rb a1 [px, pg] w (XAt B px pg o xs))) := by
  have hR := hid (read_any B rb pg o a c xs a1 c1 w hn h hr ⟨hB.1, hB.2.1⟩ hne.1 hpg (fun x hx => ⟨(hx1 x hx).1, (hx1 x hx).2.2⟩))
  have gr := cell_of_one hpr
  have e0 := cell_of_row _ _ 0 _ _ _ hpx
  have e1 := cell_of_row _ _ 1 _ _ _ hpx
  have o0 := cell_of_row _ _ 0 _ _ _ hpo
  have o1 := cell_of_row _ _ 1 _ _ _ hpo
  have o2 := cell_of_row _ _ 2 _ _ _ hpo
  have o3 := cell_of_row _ _ 3 _ _ _ hpo
  have HX := hid hpx; have HXR := hid h; have HX1 := hid hx1
  clear hpr hpx hpo hpg h hr hx1
  obtain ⟨len, hlen⟩ : ∃ l, l = xs.length := ⟨_, rfl⟩
  have HL := hid hlen
  unfold rdV opV at hR
  rw [← hlen] at hR e0 e1
  clear hlen
  generalize o.bs.length = bl at *
  go_enter Try.func10, Try.ntmps10
  go_wp2_with fail
  refine hR.out.mono ?_
  clear e0 e1 o0 o1 o2 o3 gr hR
  rintro e w4 (⟨he, ⟨v, rfl, hone⟩, hst⟩ | ⟨he, ⟨older, rfl, hcalm⟩, hk, hst⟩)
  · obtain ⟨a2, c2, hrd, hkk, hab, hg⟩ := hst
    obtain ⟨a', c', rfl, hxa⟩ := hone
    rw [he]
    have hx4 : w4.heap[px]? = some (.cells #[.slice a len c, .int .i64 0] 28 (0, 0)) := HL.out ▸ hkk.at HX.out (by simp; omega)
    have f0 := frozen_of_row _ _ 0 _ _ hx4
    have f1 := frozen_of_row _ _ 1 _ _ hx4
    have c0 := cell_of_row _ _ 0 _ _ _ hx4
    have c1' := cell_of_row _ _ 1 _ _ _ hx4
    obtain ⟨h5, k5⟩ := two_set hx4 (.slice a' (o.left xs).length c') (.int .i64 0)
    have hfin := hid (show ReadOn rb a1 [px, pg] w (XAt B px pg o xs) 0 ((w4.setCell ⟨px, 0, none⟩ (.slice a' (o.left xs).length c')).setCell ⟨px, 1, none⟩ (.int .i64 0)) from ⟨a2, c2, o.left xs, hrd.kept k5 (by simp; omega) (fun x hx => by
        obtain ⟨y, hy, hxy⟩ := hab x hx
        have := HX1.out y hy
        simp; omega), (Kept.trans' (((Kept.refl [rb, px, pg] w).trans' hkk (fun x _ hx => by simp at hx; rcases hx with hx | hx <;> simp [hx]))) k5 (fun x _ hx => by simp at hx; simp [hx])), hab, he.symm, rfl, k5.at hg (by simp; omega), a', c', h5, hxa.kept k5 (fun s hs => by simp at hs; omega)⟩)
    clear hrd hkk hab hg hxa hx4 h5 k5
    generalize (o.left xs).length = l2 at *
    go_wp2
    go_end0
    exact Or.inl ⟨rfl, hfin.out⟩
  · obtain ⟨a2, c2, hrd, hkk, hab, hg⟩ := hst
    have hl : o.left xs = xs := by unfold OpR.left; rw [if_neg he]
    exact ⟨rfl, Or.inr ⟨o.err xs, ⟨older, rfl, hcalm⟩, a2, c2, o.left xs, hrd, ((Kept.refl [rb, px, pg] w).trans' hkk (fun x _ hx => by simp at hx; rcases hx with hx | hx <;> simp [hx])), hab, rfl, rfl, hg, a, c, by rw [hl]; exact hk.at HX.out (by simp), by rw [hl]; exact HXR.out.kept hk (by simp)⟩⟩
end Go.Proofs.Ytignphegdigalaa
