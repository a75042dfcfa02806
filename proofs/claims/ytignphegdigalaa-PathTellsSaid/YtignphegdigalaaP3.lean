/- strings.IndexByte, strings.Cut of one byte; path.isPartByte, isPart: what each call answers. -/
import Derived.Test.YtignphegdigalaaP2
import Derived.Laws.Externs
import Derived.Laws.Runes
import Derived.Lib.Bytealg
namespace Go.Proofs.Ytignphegdigalaa
open Go.RowKit

/-- What stands ahead of the first such byte, what behind it, and is there one. -/
def cutS : List UInt8 → UInt8 → List UInt8 × List UInt8 × Bool
  | [], _ => ([], [], false)
  | x :: a, c => if x = c then ([], a, true) else (x :: (cutS a c).1, (cutS a c).2.1, (cutS a c).2.2)
def idxS (a : List UInt8) (c : UInt8) : Int := if (cutS a c).2.2 = true then ((cutS a c).1.length : Int) else -1
theorem cutS_false : ∀ (a : List UInt8) (c : UInt8), (cutS a c).2.2 = false → cutS a c = (a, [], false)
  | [], _, _ => rfl
  | x :: a, c, h => by
    unfold cutS at h ⊢
    split
    · rename_i hx; rw [if_pos hx] at h; simp at h
    · rename_i hx
      rw [if_neg hx] at h
      rw [cutS_false a c h]
theorem cutS_true : ∀ (a : List UInt8) (c : UInt8), (cutS a c).2.2 = true → a = (cutS a c).1 ++ c :: (cutS a c).2.1
  | [], _, h => by simp [cutS] at h
  | x :: a, c, h => by
    unfold cutS at h ⊢
    split
    · rename_i hx; simp [hx]
    · rename_i hx
      rw [if_neg hx] at h
      have := cutS_true a c h
      simp only [List.cons_append]
      rw [← this]
theorem idxS_eq : ∀ (a : List UInt8) (c : UInt8), Lib.indexByte a c = idxS a c
  | [], _ => rfl
  | x :: a, c => by
    have ih := idxS_eq a c
    unfold Lib.indexByte
    by_cases hx : x = c
    · have : (x == c) = true := by simpa using hx
      rw [if_pos this]
      unfold idxS cutS
      simp [hx]
    · have hx' : ¬ (x == c) = true := by simpa using hx
      rw [if_neg hx', ih]
      have e : cutS (x :: a) c = (x :: (cutS a c).1, (cutS a c).2.1, (cutS a c).2.2) := by
        show (if x = c then _ else _) = _
        rw [if_neg hx]
      unfold idxS
      rw [e]
      by_cases hf : (cutS a c).2.2 = true
      · have hn : ¬ ((((cutS a c).1.length : Int)) == -1) = true := by first | (simp; done) | (simp; omega)
        simp only [hf, if_true, if_neg hn, List.length_cons]
        first | rfl | omega
      · simp [hf]

theorem call_index (args : Array Value) (w : World) : (callFunc 87 args).run Try.prog w = ((Extern.BytealgIndexByte.indexByte args).run Try.prog w).andThen fun v w' => .ok (.value v) w' :=
  run_callFunc_extern Try.func87 (by kernel_rfl) (by kernel_rfl) (by kernel_rfl) (by kernel_rfl) args w

theorem indexbyte0 (a : List UInt8) (c : UInt8) (w : World) :
    Calls Try.prog 83 #[.string (S a), .int .u8 (c.toNat : Int)] w fun e w' => e = .returned (.int .i64 (idxS a c)) ∧ w = w' := by
  have hcf : (callFunc 87 #[.string (S a), .int .u8 (c.toNat : Int)]).run Try.prog w = .ok (.value (.int .i64 (idxS a c))) w := by
    rw [call_index, run_indexByte_string, Lib.firstIdx_eq, ← idxS_eq]
    have e : ((c.toNat : Int).toNat).toUInt8 = c := by simp
    rw [e]
    simp [S, Result.andThen]
  go_enter Try.func83, Try.ntmps83
  go_wp2
  go_ret
  exact ⟨rfl, rfl⟩
theorem indexbyte_any (a : List UInt8) (c : UInt8) (w : World) :
    Calls Try.prog 78 #[.string (S a), .int .u8 (c.toNat : Int)] w fun e w' => e = .returned (.int .i64 (idxS a c)) ∧ w = w' := by
  have h := hid (indexbyte0 a c w)
  go_enter Try.func78, Try.ntmps78
  go_wp2_with fail
  refine h.out.mono ?_
  rintro e w' ⟨rfl, rfl⟩
  go_wp2
  go_ret
  exact ⟨rfl, rfl⟩
theorem index_any (a : List UInt8) (c : UInt8) (w : World) :
    Calls Try.prog 80 #[.string (S a), .string (S [c])] w fun e w' => e = .returned (.int .i64 (idxS a c)) ∧ w = w' := by
  have h := hid (indexbyte0 a c w)
  have hx1 := fun W => str_index [c] 0 (by simp) W
  have sc : (S [c]).size = 1 := S_size [c]
  have hb := S_beq [c] a
  rw [show [c].getD 0 0 = c from rfl, show ((0 : Nat) : Int) = 0 from rfl] at hx1
  by_cases ha : [c] = a
  · have hr := hid (show idxS a c = 0 by rw [← ha]; simp [idxS, cutS])
    rw [decide_eq_true ha] at hb
    clear ha
    go_enter Try.func80, Try.ntmps80
    go_wp2
    go_ret
    exact ⟨by rw [hr.out]; rfl, rfl⟩
  · rw [decide_eq_false ha] at hb
    clear ha
    go_enter Try.func80, Try.ntmps80
    go_wp2_with fail
    refine h.out.mono ?_
    rintro e w' ⟨rfl, rfl⟩
    go_wp2
    go_ret
    exact ⟨rfl, rfl⟩
theorem cut0 (a : List UInt8) (c : UInt8) (ha : a.length ≤ 1000000000) (w : World) :
    Calls Try.prog 75 #[.string (S a), .string (S [c])] w fun e w' => e = .returned (.tuple #[.string (S (cutS a c).1), .string (S (cutS a c).2.1), .bool (cutS a c).2.2]) ∧ ∃ m, w' = w.drewN m := by
  have h := hid (index_any a c w)
  have sc : (S [c]).size = 1 := S_size [c]
  by_cases hf : (cutS a c).2.2 = true
  · have hsp := cutS_true a c hf
    have hi : idxS a c = ((cutS a c).1.length : Int) := by unfold idxS; rw [if_pos hf]
    obtain ⟨u, hu⟩ : ∃ u, u = (cutS a c).1 := ⟨_, rfl⟩
    obtain ⟨v, hv⟩ : ∃ v, v = (cutS a c).2.1 := ⟨_, rfl⟩
    rw [← hu, ← hv] at hsp
    rw [← hu] at hi
    rw [← hu, ← hv, hf]
    have hlen : a.length = u.length + 1 + v.length := by rw [hsp]; simp; omega
    have hc1 := fun W => cut_to a u.length (by omega) W
    have hc2 := fun W => cut_from a (u.length + 1) (by omega) W
    have e1 : a.take u.length = u := by rw [hsp]; simp
    have e2 : a.drop (u.length + 1) = v := by rw [hsp, ← List.drop_drop]; simp
    rw [e1] at hc1; rw [e2] at hc2
    rw [show ((u.length + 1 : Nat) : Int) = (u.length : Int) + 1 by omega] at hc2
    rw [hi] at h
    obtain ⟨n, hn⟩ : ∃ n, n = u.length := ⟨_, rfl⟩
    rw [← hn] at h hc1 hc2 hlen
    have hw1 : IntKind.i64.wrap ((n : Int) + 1) = (n : Int) + 1 := IntWalk.i64_in _ (by omega)
    clear hf hsp hu hv e1 e2 hi hn
    go_enter Try.func75, Try.ntmps75
    go_wp2_with fail
    refine h.out.mono ?_
    rintro e w' ⟨rfl, rfl⟩
    go_wp2_with fail
    go_region
    go_wp2
    go_ret3
    exact ⟨rfl, 1, rfl⟩
  · have hf' : (cutS a c).2.2 = false := by simpa using hf
    have hi : idxS a c = -1 := by unfold idxS; rw [if_neg hf]
    rw [cutS_false a c hf']
    rw [hi] at h
    clear hf hf' hi
    go_enter Try.func75, Try.ntmps75
    go_wp2_with fail
    refine h.out.mono ?_
    rintro e w' ⟨rfl, rfl⟩
    go_wp2
    go_ret3
    exact ⟨rfl, 0, rfl⟩
theorem cut_any (a : List UInt8) (c : UInt8) (ha : a.length ≤ 1000000000) (w : World) :
    Calls Try.prog 66 #[.string (S a), .string (S [c])] w fun e w' => e = .returned (.tuple #[.string (S (cutS a c).1), .string (S (cutS a c).2.1), .bool (cutS a c).2.2]) ∧ ∃ m, w' = w.drewN m := by
  have h := hid (cut0 a c ha w)
  generalize (cutS a c).2.2 = b at *
  generalize S (cutS a c).1 = u at *
  generalize S (cutS a c).2.1 = v at *
  go_enter Try.func66, Try.ntmps66
  go_wp2_with fail
  refine h.out.mono ?_
  rintro e w' ⟨rfl, m, rfl⟩
  go_wp2
  go_ret3
  exact ⟨rfl, m, rfl⟩

/-- A byte that a part may have. -/
def okByte (c : UInt8) : Bool := decide (97 ≤ c.toNat ∧ c.toNat ≤ 122) || decide (48 ≤ c.toNat ∧ c.toNat ≤ 57) || c == 46 || c == 95 || c == 45
theorem signs_idx (c : UInt8) : decide (0 ≤ idxS [46, 95, 45] c) = (c == 46 || c == 95 || c == 45) := by
  unfold idxS cutS cutS cutS cutS
  by_cases h1 : c = 46
  · subst h1; simp
  · by_cases h2 : c = 95
    · subst h2; simp
    · by_cases h3 : c = 45
      · subst h3; simp
      · have e1 : ¬ (46 : UInt8) = c := fun e => h1 e.symm
        have e2 : ¬ (95 : UInt8) = c := fun e => h2 e.symm
        have e3 : ¬ (45 : UInt8) = c := fun e => h3 e.symm
        simp [h1, h2, h3, e1, e2, e3]
theorem partbyte_any (c : UInt8) (w : World) : Calls Try.prog 70 #[.int .u8 (c.toNat : Int)] w fun e w' => e = .returned (.bool (okByte c)) ∧ w = w' := by
  have h := hid (indexbyte_any [46, 95, 45] c w)
  rw [show S [46, 95, 45] = ⟨#[46, 95, 45]⟩ from rfl] at h
  have hs := signs_idx c
  have hcb := c.toNat_lt
  have hr := hid (show okByte c = (decide (97 ≤ c.toNat ∧ c.toNat ≤ 122) || decide (48 ≤ c.toNat ∧ c.toNat ≤ 57) || (c == 46 || c == 95 || c == 45)) by unfold okByte; simp [Bool.or_assoc])
  rw [← hs] at hr
  obtain ⟨x, hx⟩ : ∃ x, x = idxS [46, 95, 45] c := ⟨_, rfl⟩
  rw [← hx] at h hr
  obtain ⟨n, hn⟩ : ∃ n, n = c.toNat := ⟨_, rfl⟩
  rw [← hn] at h hr hcb ⊢
  clear hx hs hn
  go_enter Try.func70, Try.ntmps70
  go_wp2_with fail
  all_goals first
    | (go_ret
       refine ⟨?_, rfl⟩
       rw [hr.out]
       show Ending.returned (Value.bool true) = _
       congr 2
       symm
       simp only [Bool.or_eq_true, decide_eq_true_eq]
       omega)
    | (refine h.out.mono ?_
       rintro e w' ⟨rfl, rfl⟩
       go_wp2
       all_goals
         go_ret
         refine ⟨?_, rfl⟩
         rw [hr.out, decide_eq_false (p := 97 ≤ n ∧ n ≤ 122) (by omega), decide_eq_false (p := 48 ≤ n ∧ n ≤ 57) (by omega)]
         first
           | (show Ending.returned (Value.bool (decide ((n : Int) ≤ 122) || decide ((n : Int) ≤ 57) || decide (0 ≤ x))) = _
              rw [decide_eq_false (p := (n : Int) ≤ 122) (by omega), decide_eq_false (p := (n : Int) ≤ 57) (by omega)])
           | (show Ending.returned (Value.bool (decide ((n : Int) ≤ 57) || decide (0 ≤ x))) = _
              rw [decide_eq_false (p := (n : Int) ≤ 57) (by omega)]; simp)
           | (show Ending.returned (Value.bool (decide ((n : Int) ≤ 122) || decide (0 ≤ x))) = _
              rw [decide_eq_false (p := (n : Int) ≤ 122) (by omega)]; simp)
           | (show Ending.returned (Value.bool (decide (0 ≤ x))) = _
              simp))
end Go.Proofs.Ytignphegdigalaa
