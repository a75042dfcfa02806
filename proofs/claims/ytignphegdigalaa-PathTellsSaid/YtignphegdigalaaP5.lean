/- path.Parts: the iterator that it hands back, and what the iterator yields. -/
import Derived.RangeFuncNested
import Derived.RangeFuncBound
import Derived.RangeFuncCalls
import Derived.RangeFuncLeaves
import Derived.Shelf.Abstract
import Derived.OwnWalkIn
import Derived.TacticsInMore
import Derived.LoopNIn
import Derived.LoopIn
import Derived.Test.YtignphegdigalaaP4
namespace Go.Proofs.Ytignphegdigalaa
open Go.RowKit
attribute [local go_sem] Oper.semAt_some

/-- The parts of a text: all between two separators. -/
def partsS : List UInt8 → List (List UInt8)
  | [] => [[]]
  | x :: a => if x = 47 then [] :: partsS a else match partsS a with | p :: ps => (x :: p) :: ps | [] => [[x]]
theorem partsS_ne (a : List UInt8) : partsS a ≠ [] := by
  cases a with
  | nil => simp [partsS]
  | cons x a => unfold partsS; split <;> (try split) <;> simp
theorem partsS_cut : ∀ (a : List UInt8), partsS a = (cutS a 47).1 :: (if (cutS a 47).2.2 = true then partsS (cutS a 47).2.1 else [])
  | [] => by simp [partsS, cutS]
  | x :: a => by
    have ih := partsS_cut a
    by_cases hx : x = 47
    · simp [partsS, cutS, hx]
    · simp only [partsS, cutS, if_neg hx]
      rw [ih]
theorem cutS_len : ∀ (a : List UInt8) (c : UInt8), (cutS a c).1.length ≤ a.length ∧ (cutS a c).2.1.length ≤ a.length ∧ ((cutS a c).2.2 = true → (cutS a c).2.1.length < a.length)
  | [], c => by simp [cutS]
  | x :: a, c => by
    have ih := cutS_len a c
    by_cases hx : x = c
    · simp [cutS, hx]
    · simp only [cutS, if_neg hx, List.length_cons]
      refine ⟨by omega, by omega, fun h => ?_⟩
      have := ih.2.2 h
      omega

/-- A text that fits. -/
abbrev Txt := { s : List UInt8 // s.length ≤ 1000000000 }
def lenS : Value → Nat
  | .string b => b.size
  | _ => 0

theorem parts_any (a : List UInt8) (w : World) :
    Calls Try.prog 49 #[.string (S a)] w fun e w' => e = .returned (.func (.func 65) #[] #[.pointer (some ⟨w.heap.size, 0, none⟩)]) ∧ w' = w.alloc (.cells #[.string (S a)] 9) := by
  go_enter Try.func49, Try.ntmps49
  go_wp2
  go_ret
  exact ⟨rfl, rfl⟩

set_option maxRecDepth 100000 in
set_option maxHeartbeats 1000000 in
theorem parts1_in (n : Nat) (hn : 1 ≤ n) (l Bn : Nat) (a : List UInt8) (ha : a.length ≤ 1000000000) (Kp : World → World → Prop) (J Jx : List Txt → World → Prop) (W0 : World)
    (hJ : AbidesFrom W0.heap.size J)
    (hY : ∀ pre x W, J pre W → pre.length < (partsS a).length → YieldAt Fence.wide (n - 1) Try.prog l #[.string (S x.1)] W fun e W' =>
      (e = .returned (.bool true) ∧ J (pre ++ [x]) W' ∧ Kp W W') ∨ (e = .returned (.bool false) ∧ Jx (pre ++ [x]) W'))
    (W : World) (hBn : W.cell? ⟨Bn, 0, none⟩ = some (.string (S a))) (h0 : J [] W) :
    CallsIn Fence.wide n Try.prog 65 #[.func (.yield l) #[] #[], .pointer (some ⟨Bn, 0, none⟩)] W fun e W' => (∃ v, e = .returned v) ∧
      ((∃ ys : List Txt, ys.map (·.1) = partsS a ∧ J ys W') ∨ (∃ pre : List Txt, pre.map (·.1) <+: partsS a ∧ Jx pre W')) := by
  refine callsIn_of_wp Try.func65 rfl trivial ?_ rfl
  simp only [Try.ntmps65, List.size_toArray, List.length_cons, List.length_nil, Nat.reduceAdd, Nat.reduceSub, Array.replicate_succ, Array.replicate_zero, List.push_toArray, List.append_toArray, List.nil_append, List.cons_append]
  gi_wp2
  gi_loopw [3] (fun p wr => ∃ (pre : List Txt) (r : List UInt8), p = .string (S r) ∧ r.length ≤ 1000000000 ∧ partsS a = pre.map (·.1) ++ partsS r ∧ J pre wr)
    (fun p wr => lenS p)
  case atStart =>
    exact ⟨[], a, rfl, ha, rfl, h0⟩
  case round =>
    obtain ⟨pre, r, rfl, hr, hx, hJs⟩ := hrel
    have hcut := hid (cut_any r 47 hr wr)
    have hl := cutS_len r 47
    have hp := partsS_cut r
    obtain ⟨u, hu⟩ : ∃ u, u = (cutS r 47).1 := ⟨_, rfl⟩
    obtain ⟨v, hv⟩ : ∃ v, v = (cutS r 47).2.1 := ⟨_, rfl⟩
    obtain ⟨b, hb⟩ : ∃ b, b = (cutS r 47).2.2 := ⟨_, rfl⟩
    rw [← hu, ← hv, ← hb] at hcut hp hl
    clear hu hv hb
    have hul : u.length ≤ 1000000000 := by omega
    have hvl : v.length ≤ 1000000000 := by omega
    have hd := hid hl.2.2
    replace hp := hid hp
    have hlt : pre.length < (partsS a).length := by
      rw [hx, hp.out]; simp
    clear hl
    have hJm : ∀ m, J pre (wr.drewN m) := fun m => hJ pre wr (wr.drewN m) none hJs ⟨rfl, rfl, rfl, Nat.le_refl _, fun _ _ _ => rfl⟩ (fun r e => by cases e)
    gi_wp2_with (refine ⟨trivial, ?_⟩; gi_at_call 66; refine (callsIn_wide.2 hcut.out).mono ?_; rintro e w' ⟨rfl, m, rfl⟩)
    obtain ⟨fn, tmps, assign, body, hy, hR⟩ := hY pre ⟨u, hul⟩ (wr.drewN m) (hJm m) hlt
    dsimp only at hy
    cases b with
    | true =>
      have hvd := hid (hd.out rfl)
      clear hd
      gi_wp2
      refine hR.mono ?_
      rintro e W' (⟨rfl, hJ', hk⟩ | ⟨rfl, hJx'⟩)
      · gi_wp2
        go_roundw
        case rel => exact ⟨pre ++ [⟨u, hul⟩], v, rfl, hvl, by rw [hx, hp.out]; simp, hJ'⟩
        case measure => simp [lenS, S_size]; exact hvd.out
      · gi_wp2
        refine bodyPost_ret (results_none rfl _ _ _) rfl ?_
        exact ⟨⟨_, rfl⟩, .inr ⟨pre ++ [⟨u, hul⟩], by rw [hx, hp.out]; simp, hJx'⟩⟩
    | false =>
      replace hp : Hid (partsS r = [u]) := hid (by rw [hp.out]; simp)
      clear hd hlt hJm hcut
      rw [hy]
      gi_wp2
      refine hR.mono ?_
      rintro e W' (⟨rfl, hJ', hk⟩ | ⟨rfl, hJx'⟩)
      · gi_wp2
        refine bodyPost_ret (results_none rfl _ _ _) rfl ?_
        exact ⟨⟨_, rfl⟩, .inl ⟨pre ++ [⟨u, hul⟩], by rw [hx, hp.out]; simp, hJ'⟩⟩
      · gi_wp2
        refine bodyPost_ret (results_none rfl _ _ _) rfl ?_
        exact ⟨⟨_, rfl⟩, .inr ⟨pre ++ [⟨u, hul⟩], by rw [hx, hp.out]; simp, hJx'⟩⟩

/-- What Parts hands back yields the parts, in their order. -/
theorem parts_stops (n : Nat) (hn : 1 ≤ n) (Bn : Nat) (a : List UInt8) (ha : a.length ≤ 1000000000) (Kp : World → World → Prop) (w : World) (hB : Bn < w.heap.size)
    (hc : w.cell? ⟨Bn, 0, none⟩ = some (.string (S a))) :
    SeqStopsK Fence.wide n Try.prog 65 #[.pointer (some ⟨Bn, 0, none⟩)] (fun x : Txt => #[Value.string (S x.1)]) Kp (fun ys => ys.map (·.1) = partsS a) (fun pre => pre.map (·.1) <+: partsS a) (partsS a).length w :=
  fun l J Jx W hW hJ _ hY h0 => parts1_in n hn l Bn a ha Kp J Jx W hJ hY W ((hW.cell (p := ⟨Bn, 0, none⟩) hB).trans hc) h0
end Go.Proofs.Ytignphegdigalaa
