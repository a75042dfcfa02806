/- For every input coldstore's law ColdJobs answers true, and what it was handed reads as it did; no condition. (The frame is the guide's own shell; the walk is this family's.) -/
import Derived.Test.YtnkolgamnakegaaRows
import Derived.WalkKit
import Derived.ProofKit
import Derived.OpenShut
import Derived.ShutString
import Derived.ChangeOld
import Derived.Below
import Derived.Test.YtnkolgamnakegaaYD
import Derived.Test.YtnkolgamnakegaaYG
namespace Go.Proofs.Ytnkolgamnakegaa.coldJobs
open Go.ChangeShapes Go.WideShapes Go.ChangeAt Go.RowKit
open Go.ChangeMaps (open_string shut_string)
set_option linter.unusedVariables false

theorem own : ownKnob Try.prog.godebug = none := by kernel_rfl
theorem laidOut : laidOutB Try.prog = true := by kernel_rfl

theorem walk (w : World) (q0 jobs0 fuse0 life0 least0 : Int) (fa0 : Option Addr) (fc0 : Nat) (fl0 : List Bool) (w0 : (Lit.int .i64 q0).wf = true) (h0 : Src w (.slice fa0 fl0.length fc0) fl0.length (fl0.map .bool)) (hm0 : fl0.length ≤ 9223372036854775807) (a1 : Option Addr) (cap1 : Nat) (ops1 : List OpC) (h1 : IsStepsC w a1 ops1) (hm1 : ops1.length ≤ 9223372036854775807) :
    Calls Try.prog 4 #[.agg #[.int .i64 q0, .int .i64 jobs0, .int .i64 fuse0, .int .i64 life0, .int .i64 least0, .slice fa0 fl0.length fc0], .slice a1 ops1.length cap1] w fun e w' => e = .returned (.bool true) ∧ Below w.heap.size w w' := by
  have hb := bounds_i64 w0
  exact (cold_jobs q0 jobs0 fuse0 life0 least0 fa0 fc0 fl0 a1 cap1 ops1 w hb.1 hb.2 h0 hm0 h1 hm1).mono fun e w' h => ⟨h.1, h.2.below (Nat.le_refl _) (by simp)⟩

set_option maxRecDepth 100000 in
theorem lifted (os : Os) (started : os.Started) (H : Type) (enc : TypeId × Value → H) :
    ReturnsInHanded {} Try.checked os 4 .any (Rows.coldJobsSpec.pre6 enc Try.prog Try.f4 Rows.coldJobsRow.domain false) (Rows.coldJobsSpec.post enc Try.prog Try.f4 false true false false) := by
  refine returnsInHanded_of_change (C := Try.checked) own started (by kernel_rfl) Try.func4
    (ChangeSpec.witness6 (enc := enc) (C := Try.checked) false ⟨#[], #[.agg #[.int .i64 0, .int .i64 0, .int .i64 0, .int .i64 0, .int .i64 0, .slice none 0 0], .slice none 0 0], []⟩ 8 (by kernel_rfl) (by kernel_rfl) (by kernel_rfl) (by kernel_rfl)) ?_
  intro W base args ds gs before hval0 hW hcnd _
  have hval : ∀ (j : Nat) t v, Try.f4.params[j]? = some t → args[j]? = some v → Value.okWide Try.prog W .any base t v := hval0
  have hW' := hW
  obtain ⟨p, q, hA0, hV, rfl, hfz, hnd⟩ := hW
  have hA : DataW.TrodAll enc Try.prog W 0 (fun _ => true) true Try.f4.params.toList args.toList ds p := hA0
  rw [Try.params4] at hA hval
  obtain ⟨v0, vs0, d0, ds0, p0, q0, hargs, rfl, rfl, h0, r0⟩ := trodAll_cons hA
  obtain ⟨v1, vs1, d1, ds1, p1, q1, rfl, rfl, rfl, h1, r1⟩ := trodAll_cons r0
  obtain ⟨rfl, rfl, rfl⟩ := trodAll_nil r1
  obtain rfl : args = #[v0, v1] := by cases args; simp_all
  obtain ⟨rfl, rfl⟩ := trodVars_none hV
  have k0 := h0
  have lt0 : ∀ x ∈ p0, x.block < W.heap.size := by obtain ⟨m, hm⟩ := k0; exact DataW.trod_lt m _ _ _ hm
  obtain ⟨q0, jobs0, fuse0, life0, least0, fa0, fc0, fl0, rfl, wf0, hfl0, hmx0⟩ := open_in (hval 0 50 v0 rfl rfl) h0
  obtain ⟨a1, len1, cap1, rfl⟩ := okWide_slice Try.underlying51 (hval 1 51 v1 rfl rfl)
  have k1 := h1
  have lt1 : ∀ x ∈ p1, x.block < W.heap.size := by obtain ⟨m, hm⟩ := k1; exact DataW.trod_lt m _ _ _ hm
  obtain ⟨ops1, hol1, hops1, hmx1⟩ : ∃ ops : List OpC, ops.length = len1 ∧ IsStepsC W a1 ops ∧ len1 ≤ 9223372036854775807 := by
    obtain ⟨fuel, hf⟩ := h1
    exact open_steps_c (by simpa [Value.cells] using hf)
  subst hol1
  clear hA0 hval0
  refine (walk W q0 jobs0 fuse0 life0 least0 fa0 fc0 fl0 wf0 hfl0 hmx0 a1 cap1 ops1 hops1 hmx1).mono fun e W' ⟨he, bel⟩ => ?_
  subst he
  exact ⟨_, rfl, _, _, _, [], _, [], hW', trodAll_mk1 (shut_bool Try.underlying4 _), (trodAll_cons_mk (Below.trod laidOut (by kernel_rfl) (of_decide_eq_true (by kernel_rfl)) k0 bel lt0) (trodAll_cons_mk (Below.trod laidOut (by kernel_rfl) (of_decide_eq_true (by kernel_rfl)) k1 bel lt1) trodAll_mk0)), rfl, bel.frame _, fun h => by cases h⟩

theorem over : Rows.coldJobsRow.holds Try.pinned (OpenSpec.ofChange Rows.coldJobsSpec) :=
  OpenClaim.holds_of_wide 4 Try.f4 rfl rfl rfl rfl rfl rfl rfl ⟨rfl, rfl, rfl, rfl, rfl⟩ rfl rfl rfl rfl rfl (by kernel_rfl) Try.func4 (by kernel_rfl)
    (of_decide_eq_true (by kernel_rfl)) (by unfold Func.isWrapper; first | (rw [if_pos (by decide +kernel)]; kernel_rfl) | (rw [if_neg (by decide +kernel)]; exact ⟨rfl, rfl⟩))
    (fun os started H enc _ => lifted os started H enc)

theorem proved : Rows.ColdJobsSaid := over
#print axioms proved
end Go.Proofs.Ytnkolgamnakegaa.coldJobs
