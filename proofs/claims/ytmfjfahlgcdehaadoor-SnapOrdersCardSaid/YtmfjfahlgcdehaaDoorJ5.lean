import Derived.Test.YtmfjfahlgcdehaaDoorJ4
import Derived.Test.YtmfjfahlgcdehaaDoorMC
import Derived.Test.YtmfjfahlgcdehaaDoorMS
import Derived.Test.YtmfjfahlgcdehaaDoorJ1

/- snap.Decode's closure. -/
namespace Go.Proofs.YtmfjfahlgcdehaaDoor
open Go.RowKit Go.Lib

/-- Behind the reading: what the variable holds. -/
def SnQ (ps : Nat) (xs : List UInt8) (n : Int) (rest : List UInt8) (W' : World) : Prop :=
  (n = 0 ∧ ∃ s, readS xs = some (s, rest) ∧ s.ok ∧ At W' ps s) ∨ (n ≠ 0 ∧ readS xs = none ∧ ∃ o, W'.heap[ps]? = some o)

set_option maxRecDepth 100000 in
set_option maxHeartbeats 2000000 in
theorem j_snapread1 (rb ps : Nat) (a0 : Option Addr) (c0 : Nat) (xs : List UInt8) (W : World) (h : Rd W rb a0 c0 xs) (hab : ∀ x, a0 = some x → x.block < W.heap.size ∧ x.block ≠ ps) (hp : W.heap[ps]? = some (.cells zSnap.toArray 28 (0, 0))) (hne : ps ≠ rb) :
    Calls Tryd.prog 63 #[.pointer (some ⟨rb, 0, none⟩), .pointer (some ⟨ps, 0, none⟩)] W (Threw (ReadOn rb a0 [ps] W (SnQ ps xs))) := by
  have hr := hid (j_snapread rb a0 c0 xs W h (fun x hx => (hab x hx).1))
  have Hp := hid hp; have Hne := hid hne; have Hab := hid hab
  clear h hab hp hne
  go_enter Tryd.func63, Tryd.ntmps63
  go_wp2_with fail
  refine hr.out.mono ?_
  rintro e w1 (⟨s, r, h1, hok, rfl, hR⟩ | ⟨h1, ⟨n, hn0, older, rfl, hcalm⟩, r, a, c, q1, q2, q3⟩)
  · obtain ⟨cs, hcs⟩ : ∃ cs, cs = s.cells := ⟨_, rfl⟩
    have hcl := hid (show cs.length = zSnap.length by rw [hcs, Sp.size hok, zSnap_len])
    have hsz := hid (show (Tryd.prog.info? 28).map (·.size) = some cs.length by rw [hcs]; exact Sp.info hok)
    have hone := hid (show ∀ v ∈ cs, v.oneCell' = true by rw [hcs]; exact s.one)
    have hspl := hid (splice36 zSnap cs hcl.out)
    have hp1 := hid (hR.kept.at Hp.out (by simpa using Hne.out))
    have HR := hid hR; have H1 := hid h1; have Hok := hid hok
    rw [← hcs]
    have HCS := hid hcs
    clear hR h1 hok hr hcs
    go_wp2_with (refine wpList_store_at rfl 28 (.tmp 1) (.tmp 4) rfl ps 0 cs rfl rfl 28 zSnap hp1.out hsz.out (by rw [hcl.out]; omega) hone.out ?_; refine halt ?_)
    rw [hspl.out]
    refine Halt.mk ?_
    have hb := hid (show (w1.setRow ps cs.toArray).heap[ps]? = some (.cells cs.toArray 28 (0, 0)) from setRow_heap _ _ _ _ _ _ hp1.out)
    have hk := hid (show Kept [ps] w1 (w1.setRow ps cs.toArray) from (Kept.refl _ _).setRow (fun _ => by simp) _)
    generalize w1.setRow ps cs.toArray = w2 at *
    go_wp2
    go_end0
    refine Or.inl ⟨rfl, ?_⟩
    obtain ⟨a, c, q1, q2, q3⟩ := HR.out
    refine ⟨a, c, r, q1.kept hk.out (by have := Hne.out; simp; omega) (fun x hx => ?_), (q2.wider (fun x _ hm => by simp at hm ⊢; simp [hm])).trans (hk.out.wider (fun x _ hm => by simp at hm ⊢; simp [hm])), q3, Or.inl ⟨rfl, s, H1.out, Hok.out, ?_⟩⟩
    · obtain ⟨y, hy, e⟩ := q3 x hx
      rw [e]; simpa using (Hab.out y hy).2
    · unfold At; rw [← HCS.out]; exact hb.out
  · refine ⟨rfl, Or.inr ⟨n, ⟨older, rfl, hcalm⟩, a, c, r, q1, q2.wider (fun x _ hm => by simp at hm ⊢; simp [hm]), q3, Or.inr ⟨hn0, h1, _, q2.at Hp.out (by simpa using Hne.out)⟩⟩⟩

theorem j_load_if {P : Program} {ops : Array Oper} {rest : List Oper} {o : Oper} {a : Act} {w : World} {Q : Exit → Act → World → Prop} (hw : Region.wanted o (yielded ops a.tmps) = true) (ty : TypeId) (x : Operand) (ho : o.op = .load ty x)
    (ad : Addr) (hx : a.eval x = .pointer (some ad)) (cs : List Value) (d : TypeDesc) (hu : P.underlying ty = some d) (hd : (match d with | .struct _ | .array _ _ => true | _ => false) = true)
    (hi : (P.info? ty).map (·.size) = some cs.length) (hc : ∀ (j : Nat) v, cs[j]? = some v → w.cell? (ad.add j) = some v)
    (h : wpList P ops Q rest (a.put o.dst (.agg cs.toArray)) w) : wpList P ops Q (o :: rest) a w := by
  unfold wpList
  rw [if_pos hw]
  refine Or.inl ?_
  unfold Oper.wp execOp
  simp only [ho, hx, Instr.loadAt, Instr.sureAddr, Sem.run_bind, Sem.run_pure, Result.andThen_ok, run_loadVar_cells w ty ad cs d hu hd hi hc]
  exact h

theorem SnQ.kept {ps x : Nat} {xs : List UInt8} {n : Int} {rest : List UInt8} {W W' : World} (h : SnQ ps xs n rest W) (hx : ps ≠ x) (hk : Kept [x] W W') : SnQ ps xs n rest W' := by
  rcases h with ⟨h1, s, h2, h3, h4⟩ | ⟨h1, h2, o, h3⟩
  · exact Or.inl ⟨h1, s, h2, h3, h4.kept hk (by simpa using hx)⟩
  · exact Or.inr ⟨h1, h2, o, hk.at h3 (by simpa using hx)⟩
theorem enters_snap1 : Enters 63 := fun args w => by simp [go_sem]

/-- The snapshot of bytes. -/
def decS (bs : List UInt8) : Option Sp :=
  if unsealErr 83 bs = 0 then match readS (unsealed 83 bs) with
    | some (s, []) => if s.err = 0 then some s else none
    | _ => none
  else none
def zSp : Sp := ⟨0, [], [], List.replicate 32 0, 0, 0⟩
theorem zSp_cells : zSp.cells = zSnap := rfl
theorem zSp_ok : zSp.ok := ⟨by simp [zSp], by decide, by decide, by decide, by decide, by decide, by decide⟩
def decV (bs : List UInt8) : Sp := (decS bs).getD zSp
def decErr (bs : List UInt8) : Int := if unsealErr 83 bs ≠ 0 then unsealErr 83 bs else if (decS bs).isSome then 0 else 21
theorem unseal_more {k : UInt8} {bs : List UInt8} (h : unsealErr k bs ≠ 0) : unsealErr k bs = 20 ∨ unsealErr k bs = 36 ∨ unsealErr k bs = 21 := by
  unfold unsealErr at h ⊢
  split
  · simp
  · split
    · simp
    · split
      · simp
      · rename_i h1 h2 h3; simp [h1, h2, h3] at h
end Go.Proofs.YtmfjfahlgcdehaaDoor
