import Derived.Test.YtdojpioclojalaaDoorC2
import Derived.Test.YtdojpioclojalaaDoorC1t

/- code.Reader.Text: what it reads. -/
namespace Go.Proofs.YtdojpioclojalaaDoor
open Go.RowKit Go.Lib

theorem rtext_ok (r : Nat) (a : Option Addr) (c : Nat) (xs : List UInt8) (most : Int) (hle : (said xs : Int) ≤ max most 0) (hlt : 4 + said xs ≤ xs.length) (w : World) (h : Rd w r a c xs) :
    Calls Tryd.prog 60 #[.pointer (some ⟨r, 0, none⟩), .int .i64 most] w fun e w' => e = .returned (.string ⟨((xs.drop 4).take (said xs)).toArray⟩) ∧ nextW w r a c xs (4 + said xs) = w' := by
  have hc := hid (counted_ok r a c xs most hle hlt w h)
  have hsrc := h.readField hlt (next_kept w r a c xs (4 + said xs)) (fun x hx => by simpa using (h.src x hx).1)
  have hl : ((xs.drop 4).take (said xs)).length = said xs := by simp; omega
  have hconv := text_of _ (behind a (4 + said xs) 4) (said xs) ((xs.drop 4).take (said xs)) (behind_plain h.plain) (by rw [hl]; exact hsrc)
  rw [hl] at hconv
  clear h hsrc hl
  go_enter Tryd.func60, Tryd.ntmps60
  go_wp2_with fail
  refine hc.out.mono ?_
  rintro e w1 ⟨rfl, rfl⟩
  go_wp2
  go_ret
  exact ⟨rfl, rfl⟩

theorem rtext_err (n : Int) (r : Nat) (most : Int) (w : World) (hc : Calls Tryd.prog 80 #[.pointer (some ⟨r, 0, none⟩), .int .i64 most] w fun e w' => Thrown 27 (.int .i64 n) e ∧ w = w') :
    Calls Tryd.prog 60 #[.pointer (some ⟨r, 0, none⟩), .int .i64 most] w fun e w' => Thrown 27 (.int .i64 n) e ∧ w = w' := by
  have Hc := hid hc
  clear hc
  go_enter Tryd.func60, Tryd.ntmps60
  go_wp2_with fail
  refine Hc.out.mono ?_
  rintro e w1 ⟨⟨older, rfl, hcalm⟩, rfl⟩
  exact ⟨rfl, ⟨older, rfl, hcalm⟩, rfl⟩
end Go.Proofs.YtdojpioclojalaaDoor
