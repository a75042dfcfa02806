import Derived.Test.YtkabfdclecbnpaaHW
import Derived.Test.YtkabfdclecbnpaaW1
import Derived.OrdersIn

/- What a drawn region does outside of every round it does within a round of the wide fence, too. No program is named here. -/
namespace Go.Proofs.Ytkabfdclecbnpaa
open Go.RowKit

section
variable {P : Program} {md : Region.Mode} {n : Nat} {ro : Option Nat}
/-- The wide fence, in whichever round. -/
def inRo (ro : Option Nat) : Fence := { Fence.wide with round := ro }
/-- It goes on, and no other way. -/
def OnlyN (K : Act → World → Prop) : Exit → Act → World → Prop
  | .normal, a, w => K a w
  | _, _, _ => False
theorem opIn_of {o : Oper} {a : Act} {w : World} {K K' K0 : Act → World → Prop} {Q : Exit → Act → World → Prop} (hd : ∀ c, o.op ≠ .defer c) (hK : ∀ a w, K a w → K' a w) (h : o.wp P a w K (OnlyN K0)) : o.wpIn (inRo ro) n P a w K' Q := by
  unfold Oper.wp at h
  unfold Oper.wpIn
  refine ⟨fun _ _ => trivial, ?_⟩
  rw [Oper.semAt_eq _ _ _ hd]
  generalize (execOp a.eval o).run P w = r at *
  cases r with
  | ok nx w' =>
    cases nx with
    | value v => exact hK _ _ h
    | skip => exact hK _ _ h
    | defer d => exact hK _ _ h
    | enter f args =>
      refine ⟨fun hx => (by cases hx), trivial, fun cs hr => ?_⟩
      obtain ⟨e, w2, fr, hR, hc, h1, h2⟩ := ((callsIn_wide (n := n - 1)).2 h).2 cs (room_wide _)
      refine ⟨e, w2, fr, ?_, hc, h1, h2⟩
      cases e with
      | returned v => exact hK _ _ hR
      | panicked c => exact hR.elim
      | outgrown => obtain ⟨_, _, hh⟩ := hR; exact hh.elim
    | row rw args =>
      refine ⟨fun hx => (by cases hx), fun c cs hr => ?_⟩
      obtain ⟨v, w2, hR, hs⟩ := h c cs
      exact ⟨v, w2, hK _ _ hR, stepsIn_wide.2 hs⟩
    | _ => exact h.elim
  | halt x w' =>
    cases x with
    | panic v => exact h.elim
    | _ => exact h.elim
theorem anyIn_of {ops : Array Oper} {K0 : Act → World → Prop} {Q : Exit → Act → World → Prop} (hd : ∀ (i : Nat) (o : Oper), ops[i]? = some o → ∀ c, o.op ≠ .defer c) (hQ : ∀ a w, K0 a w → Q .normal a w) :
    ∀ (k : Nat) (listed : Array Bool) (a : Act) (w : World), wpAny P md ops (OnlyN K0) k listed a w → wpAnyIn (inRo ro) n P md ops Q k listed a w
  | 0, _, _, _, h => ⟨h.1, hQ _ _ h.2⟩
  | k + 1, listed, a, w, h => ⟨fun h0 => hQ _ _ (h.1 h0), fun i hi => by
    have h2 := h.2 i hi
    unfold wpOp at h2
    unfold wpOpIn
    cases ho : ops[i]? with
    | none => rw [ho] at h2; exact anyIn_of hd hQ k _ _ _ h2
    | some o =>
      rw [ho] at h2
      dsimp only at h2 ⊢
      split
      · rename_i hw
        rw [if_pos hw] at h2
        rcases h2 with h2 | ⟨_, _, _, hh⟩
        · exact opIn_of (hd i o ho) (anyIn_of hd hQ k _) h2
        · exact hh.elim
      · rename_i hw
        rw [if_neg hw] at h2
        exact ⟨fun _ _ => trivial, anyIn_of hd hQ k _ _ _ h2⟩⟩
/-- No operation of a list is deferred. -/
def noDefer (ops : Array Oper) : Bool := ops.all fun o => match o.op with | .defer _ => false | _ => true
theorem noDefer_spec {ops : Array Oper} (h : noDefer ops = true) : ∀ (i : Nat) (o : Oper), ops[i]? = some o → ∀ c, o.op ≠ .defer c := by
  intro i o ho c hc
  unfold noDefer at h
  rw [Array.all_eq_true] at h
  obtain ⟨hi, rfl⟩ := Array.getElem?_eq_some_iff.1 ho
  have := h i hi
  rw [hc] at this
  cases this
theorem regionIn_held {id : Nat} {l : List Oper} {a : Act} {w : World} {Q : Exit → Act → World → Prop} {S : World → Prop} (hm : P.follows .mixedOrders = true) (hd : noDefer l.toArray = true) (K : Act → World → Prop) (hS : S w.drew)
    (h : S w.drew → wpAnyH P .any l.toArray (OnlyN K) S l.toArray.size (Array.replicate l.toArray.size false) a w.drew) (hK : ∀ a w, K a w → Q .normal a w) : (Code.region id l.toArray true).wpIn (inRo ro) n P Q a w :=
  wpIn_region_any hm (anyIn_of (noDefer_spec hd) hK _ _ _ _ (wpAny_of_held _ _ _ _ (h hS)))
/-- The same, where the post is at hand. -/
theorem regionIn_h {id : Nat} {l : List Oper} {a : Act} {w : World} {Q : Exit → Act → World → Prop} {S : World → Prop} (hm : P.follows .mixedOrders = true) (hd : noDefer l.toArray = true) (hS : S w.drew)
    (h : S w.drew → wpAnyH P .any l.toArray (OnlyN (Q .normal)) S l.toArray.size (Array.replicate l.toArray.size false) a w.drew) : (Code.region id l.toArray true).wpIn (inRo ro) n P Q a w :=
  regionIn_held hm hd (Q .normal) hS h (fun _ _ h => h)
end
end Go.Proofs.Ytkabfdclecbnpaa
