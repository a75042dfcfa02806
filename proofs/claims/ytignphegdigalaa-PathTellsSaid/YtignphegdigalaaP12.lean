/- path.Clean: every text of up to ten million bytes. -/
import Derived.Test.YtignphegdigalaaP11
import Derived.Test.YtignphegdigalaaG1
namespace Go.Proofs.Ytignphegdigalaa
open Go.RowKit

def cleanS (a : List UInt8) : List UInt8 := (meantS a).getD []
def cleanErr (a : List UInt8) : Int := if (meantS a).isSome = true then 0 else 38

theorem clean_run (a : List UInt8) (ha : a.length ≤ 10000000) (W : World) (Bp Bc : Nat) (bP : Boxed W Bp 9 (.string (S a))) (bC : Boxed W Bc 9 (.string (S []))) (hne : Bp ≠ Bc) :
    Calls Try.prog 9 #[.func (.func 48) #[] #[.pointer (some ⟨Bp, 0, none⟩), .pointer (some ⟨Bc, 0, none⟩)]] W fun e w' =>
      ∃ n, e = .returned (.int .i64 n) ∧ Kept [Bc] W w' ∧ (n = cleanErr a ∧ Boxed w' Bc 9 (.string (S (cleanS a)))) := by
  have hlt := bC.lt
  refine run_kept 48 (fun args w => by kernel_rfl) _ W [Bc] (by simpa using hlt) (fun n W' => n = cleanErr a ∧ Boxed W' Bc 9 (.string (S (cleanS a)))) ?_ ?_
  · rintro n X X' ⟨rfl, hb⟩ hB
    exact ⟨rfl, (hB.block Bc hlt).trans hb⟩
  · refine (clean1 a ha Bp Bc [] _ (bP.alloc _) (bC.alloc _) hne).mono ?_
    rintro e w' (⟨c, hm, rfl, hk, hb⟩ | ⟨hm, rfl, hk⟩)
    · exact Or.inl ⟨rfl, hk, by unfold cleanErr; rw [hm]; rfl, by unfold cleanS; rw [hm]; exact hb⟩
    · exact Or.inr ⟨38, ⟨[], rfl, Calm.nil⟩, hk.wider (by simp), by unfold cleanErr; rw [hm]; rfl, by unfold cleanS; rw [hm]; exact hk.at (bC.alloc _) (by simp)⟩

theorem clean_any (a : List UInt8) (ha : a.length ≤ 10000000) (w : World) :
    Calls Try.prog 16 #[.string (S a)] w fun e w' => e = .returned (.tuple #[.string (S (cleanS a)), .int .i64 (cleanErr a)]) ∧ Kept [] w w' := by
  have hr := hid (clean_run a ha ((w.alloc (.cells #[.string (S a)] 9)).alloc (.cells #[.string (S [])] 9)) w.heap.size (w.heap.size + 1) ((Boxed.new w _ _).alloc _) (by have := Boxed.new (w.alloc (.cells #[.string (S a)] 9)) 9 (.string (S [])); rwa [World.size_alloc] at this) (by omega))
  have he : (⟨#[]⟩ : ByteArray) = S [] := rfl
  go_enter Try.func16, Try.ntmps16
  go_wp2_with fail
  refine hr.out.mono ?_
  rintro e w' ⟨n, rfl, hk, rfl, hb⟩
  have hc := hb.cell
  have hk' := hid (show Kept [] w w' from ((((Kept.refl [] w).alloc _).alloc _).trans' hk (fun x hx hm => by simp at hm; omega)))
  go_wp2
  go_ret2
  exact ⟨rfl, hk'.out⟩
end Go.Proofs.Ytignphegdigalaa
