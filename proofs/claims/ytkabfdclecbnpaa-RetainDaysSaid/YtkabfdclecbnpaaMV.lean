import Derived.Test.YtkabfdclecbnpaaMT
import Derived.Test.YtkabfdclecbnpaaMC
import Derived.Test.YtkabfdclecbnpaaMU
import Derived.Test.YtkabfdclecbnpaaMJ

/- snap.Decode's closure. -/
namespace Go.Proofs.Ytkabfdclecbnpaa
open Go.RowKit Go.Lib

/-- Behind the reading: what the variable holds. -/
def SnQ (ps : Nat) (xs : List UInt8) (n : Int) (rest : List UInt8) (W' : World) : Prop :=
  (n = 0 ∧ ∃ s, readS xs = some (s, rest) ∧ s.ok ∧ At W' ps s) ∨ (n ≠ 0 ∧ readS xs = none ∧ ∃ o, W'.heap[ps]? = some o)

theorem j_load_if {P : Program} {ops : Array Oper} {rest : List Oper} {o : Oper} {a : Act} {w : World} {Q : Exit → Act → World → Prop} (hw : Region.wanted o (yielded ops a.tmps) = true) (ty : TypeId) (x : Operand) (ho : o.op = .load ty x)
    (ad : Addr) (hx : a.eval x = .pointer (some ad)) (cs : List Value) (d : TypeDesc) (hu : P.underlying ty = some d) (hd : (match d with | .struct _ | .array _ _ => true | _ => false) = true)
    (hi : (P.info? ty).map (·.size) = some cs.length) (hc : ∀ (j : Nat) v, cs[j]? = some v → w.cell? (ad.add j) = some v)
    (h : wpList P ops Q rest (a.put o.dst (.agg cs.toArray)) w) : wpList P ops Q (o :: rest) a w := by
  unfold wpList
  rw [if_pos hw]
  refine Or.inl ?_
  unfold Oper.wp execOp
  simp only [ho, hx, Instr.loadAt, Instr.sureAddr, Sem.run_bind, Sem.run_pure, Result.andThen_ok, run_loadVar_cells w ty ad cs d hu hd hi hc]
  exact h

theorem SnQ.kept {ps x : Nat} {xs : List UInt8} {n : Int} {rest : List UInt8} {W W' : World} (h : SnQ ps xs n rest W) (hx : ps ≠ x) (hk : Kept [x] W W') : SnQ ps xs n rest W' := by
  rcases h with ⟨h1, s, h2, h3, h4⟩ | ⟨h1, h2, o, h3⟩
  · exact Or.inl ⟨h1, s, h2, h3, h4.kept hk (by simpa using hx)⟩
  · exact Or.inr ⟨h1, h2, o, hk.at h3 (by simpa using hx)⟩
/-- The snapshot of bytes. -/
def decS (bs : List UInt8) : Option Sp :=
  if unsealErr 83 bs = 0 then match readS (unsealed 83 bs) with
    | some (s, []) => if s.err = 0 then some s else none
    | _ => none
  else none
def zSp : Sp := ⟨0, [], [], List.replicate 32 0, 0, 0⟩
theorem zSp_cells : zSp.cells = zSnap := rfl
theorem zSp_ok : zSp.ok := ⟨by simp [zSp], by decide, by decide, by decide, by decide, by decide, by decide⟩
def decV (bs : List UInt8) : Sp := (decS bs).getD zSp
def decErr (bs : List UInt8) : Int := if unsealErr 83 bs ≠ 0 then unsealErr 83 bs else if (decS bs).isSome then 0 else 21
theorem unseal_more {k : UInt8} {bs : List UInt8} (h : unsealErr k bs ≠ 0) : unsealErr k bs = 20 ∨ unsealErr k bs = 36 ∨ unsealErr k bs = 21 := by
  unfold unsealErr at h ⊢
  split
  · simp
  · split
    · simp
    · split
      · simp
      · rename_i h1 h2 h3; simp [h1, h2, h3] at h
end Go.Proofs.Ytkabfdclecbnpaa


/- snap.Decode. -/
namespace Go.Proofs.Ytkabfdclecbnpaa
open Go.RowKit Go.Lib

theorem ld_at {w : World} {p : Nat} {cs : List Value} (h : w.heap[p]? = some (.cells cs.toArray 42 (0, 0))) : ∀ (j : Nat) v, cs[j]? = some v → w.cell? ((⟨p, 0, none⟩ : Addr).add j) = some v := by
  intro j v hj
  have e : (⟨p, 0, none⟩ : Addr).add j = ⟨p, j, none⟩ := by unfold Addr.add; split <;> simp_all
  rw [e, cell_of_row w _ j _ _ _ h]; simpa using hj
theorem zinf : (Try.prog.info? 42).map (·.size) = some zSnap.length := by rw [zSnap_len]; exact snap_info
theorem run_ld_snap {w : World} {p : Nat} {cs : List Value} (h : w.heap[p]? = some (.cells cs.toArray 42 (0, 0))) (hl : cs.length = 37) : (loadVar 42 ⟨p, 0, none⟩).run Try.prog w = .ok (.agg cs.toArray) w :=
  run_loadVar_cells w _ _ cs _ Try.underlying42 rfl (by rw [hl]; exact snap_info) (ld_at h)
theorem run_built_zero (w : World) : (Instr.build 42 #[]).run Try.prog w = .ok (Value.agg zSnap.toArray) w := run_build w _ _ _ (by kernel_rfl)

end Go.Proofs.Ytkabfdclecbnpaa
