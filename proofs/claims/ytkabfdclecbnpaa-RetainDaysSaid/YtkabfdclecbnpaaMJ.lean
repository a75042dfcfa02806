import Derived.Test.YtkabfdclecbnpaaJ0
import Derived.Test.YtkabfdclecbnpaaH8
import Derived.Test.YtkabfdclecbnpaaRows
import Derived.WalkKit
import Derived.WalkSpells
import Derived.WalkLawsBesides
import Derived.Test.YtkabfdclecbnpaaLib

/- cmp.Compare at numbers and texts; cmp.Or: what each call answers. -/
namespace Go.Proofs.Ytkabfdclecbnpaa
open Go.RowKit Go.Lib

def cmpI (a b : Int) : Int := if a < b then -1 else if b < a then 1 else 0
def cmpS (a b : List UInt8) : Int := if a < b then -1 else if b < a then 1 else 0
theorem j_less_lex : ∀ (x y : List UInt8), Op.bytesLess x y = decide (x < y)
  | [], [] => by simp [Op.bytesLess]
  | [], _ :: _ => by simp [Op.bytesLess]
  | _ :: _, [] => by simp [Op.bytesLess]
  | s :: x, t :: y => by
    have ih := j_less_lex x y
    unfold Op.bytesLess
    rw [ih, Bool.eq_iff_iff]
    simp [List.cons_lt_cons_iff]
theorem jS_less (x y : List UInt8) : Op.bytesLess (S x).toList (S y).toList = decide (x < y) := by
  rw [S_toList, S_toList, j_less_lex]

set_option maxRecDepth 100000 in
theorem isnan64_any (a : Int) (w : World) : Calls Try.prog 44 #[.int .i64 a] w fun e w' => e = .returned (.bool false) ∧ w = w' := by
  have h : (a != a) = false := by simp
  go_enter Try.func44, Try.ntmps44
  go_wp2
  go_ret
  exact ⟨by simp, rfl⟩
theorem isnan_any (a : Int) (w : World) : Calls Try.prog 67 #[.int .i64 a] w fun e w' => e = .returned (.bool false) ∧ w = w' := by
  have h : (a != a) = false := by simp
  go_enter Try.func67, Try.ntmps67
  go_wp2
  go_ret
  exact ⟨by simp, rfl⟩
theorem isnanS_any (a : List UInt8) (w : World) : Calls Try.prog 65 #[.string (S a)] w fun e w' => e = .returned (.bool false) ∧ w = w' := by
  have h := S_beq a a
  go_enter Try.func65, Try.ntmps65
  go_wp2
  go_ret
  exact ⟨by simp, rfl⟩

theorem cmp64_any (a b : Int) (w : World) : Calls Try.prog 30 #[.int .i64 a, .int .i64 b] w fun e w' => e = .returned (.int .i64 (cmpI a b)) ∧ w = w' := by
  unfold cmpI
  by_cases h1 : a < b
  · rw [if_pos h1]
    go_enter Try.func30, Try.ntmps30
    go_wp2_with (go_at_call 44; refine (isnan64_any _ _).mono ?_; rintro e w' ⟨rfl, rfl⟩)
    go_ret
    exact ⟨rfl, rfl⟩
  · by_cases h2 : b < a
    · rw [if_neg h1, if_pos h2]
      go_enter Try.func30, Try.ntmps30
      go_wp2_with (go_at_call 44; refine (isnan64_any _ _).mono ?_; rintro e w' ⟨rfl, rfl⟩)
      go_ret
      exact ⟨rfl, rfl⟩
    · rw [if_neg h1, if_neg h2]
      go_enter Try.func30, Try.ntmps30
      go_wp2_with (go_at_call 44; refine (isnan64_any _ _).mono ?_; rintro e w' ⟨rfl, rfl⟩)
      go_ret
      exact ⟨rfl, rfl⟩
theorem cmpi_any (a b : Int) (w : World) : Calls Try.prog 50 #[.int .i64 a, .int .i64 b] w fun e w' => e = .returned (.int .i64 (cmpI a b)) ∧ w = w' := by
  unfold cmpI
  by_cases h1 : a < b
  · rw [if_pos h1]
    go_enter Try.func50, Try.ntmps50
    go_wp2_with (go_at_call 67; refine (isnan_any _ _).mono ?_; rintro e w' ⟨rfl, rfl⟩)
    go_ret
    exact ⟨rfl, rfl⟩
  · by_cases h2 : b < a
    · rw [if_neg h1, if_pos h2]
      go_enter Try.func50, Try.ntmps50
      go_wp2_with (go_at_call 67; refine (isnan_any _ _).mono ?_; rintro e w' ⟨rfl, rfl⟩)
      go_ret
      exact ⟨rfl, rfl⟩
    · rw [if_neg h1, if_neg h2]
      go_enter Try.func50, Try.ntmps50
      go_wp2_with (go_at_call 67; refine (isnan_any _ _).mono ?_; rintro e w' ⟨rfl, rfl⟩)
      go_ret
      exact ⟨rfl, rfl⟩
theorem cmps_any (a b : List UInt8) (w : World) : Calls Try.prog 48 #[.string (S a), .string (S b)] w fun e w' => e = .returned (.int .i64 (cmpS a b)) ∧ w = w' := by
  have hq := S_beq a b
  unfold cmpS
  by_cases h1 : a < b
  · rw [if_pos h1]
    have hl : Op.bytesLess (S a).toList (S b).toList = true := by rw [jS_less, decide_eq_true h1]
    clear h1
    go_enter Try.func48, Try.ntmps48
    go_wp2_with (go_at_call 65; refine (isnanS_any _ _).mono ?_; rintro e w' ⟨rfl, rfl⟩)
    go_ret
    exact ⟨rfl, rfl⟩
  · have hl : Op.bytesLess (S a).toList (S b).toList = false := by rw [jS_less, decide_eq_false h1]
    by_cases h2 : b < a
    · rw [if_neg h1, if_pos h2]
      have he : ((S a).toList == (S b).toList) = false := by rw [S_beq, decide_eq_false (fun e => by subst e; exact h1 h2)]
      clear h1 h2 hq
      go_enter Try.func48, Try.ntmps48
      go_wp2_with (go_at_call 65; refine (isnanS_any _ _).mono ?_; rintro e w' ⟨rfl, rfl⟩)
      go_ret
      exact ⟨rfl, rfl⟩
    · rw [if_neg h1, if_neg h2]
      have he : ((S a).toList == (S b).toList) = true := by rw [S_beq, decide_eq_true (List.le_antisymm (List.not_lt.1 h2) (List.not_lt.1 h1))]
      clear h1 h2 hq
      go_enter Try.func48, Try.ntmps48
      go_wp2_with (go_at_call 65; refine (isnanS_any _ _).mono ?_; rintro e w' ⟨rfl, rfl⟩)
      go_ret
      exact ⟨rfl, rfl⟩

/-- The first number that is not 0. -/
def orL : List Int → Int
  | [] => 0
  | x :: l => if x ≠ 0 then x else orL l
theorem or_any (x : Addr) (c : Nat) (l : List Int) (w : World) (hc : ∀ (i : Nat) n, l[i]? = some n → w.cell? (x.add i) = some (.int .i64 n)) (hl : l.length ≤ 1000) :
    Calls Try.prog 47 #[.slice (some x) l.length c] w fun e w' => e = .returned (.int .i64 (orL l)) ∧ w = w' := by
  have H := hid hc
  clear hc
  obtain ⟨n, hn⟩ : ∃ n, n = l.length := ⟨_, rfl⟩
  rw [← hn] at hl ⊢
  have HN := hid hn
  clear hn
  go_enter Try.func47, Try.ntmps47
  go_wp2_with fail
  go_loop [8] (fun s => ∃ i : Nat, i ≤ n ∧ s = .int .i64 i ∧ Hid (orL l = orL (l.drop i))) (fun s => n - (intOf s).toNat)
  case atStart => exact ⟨0, Nat.zero_le _, rfl, hid rfl⟩
  case round =>
    obtain ⟨i, hi, rfl, ho⟩ := hrel
    by_cases hlt : i < n
    · obtain ⟨v, hv⟩ : ∃ v, l[i]? = some v := ⟨_, List.getElem?_eq_getElem (by rw [← HN.out]; exact hlt)⟩
      have g := H.out i v hv
      have hd := hid (show l.drop i = v :: l.drop (i + 1) from by
        obtain ⟨h1, h2⟩ := List.getElem?_eq_some_iff.1 hv
        rw [List.drop_eq_getElem_cons h1, h2])
      have hii : (i : Int) < (n : Int) := by omega
      clear hv
      by_cases hz : v = 0
      · subst hz
        have ho2 := hid (show orL l = orL (l.drop (i + 1)) from by rw [ho.out, hd.out]; rfl)
        go_wp2
        go_round
        case rel => exact ⟨i + 1, by omega, by go_num, ho2⟩
        case measure => simp [intOf]; omega
      · have hvb : (v != 0) = true := by simpa using hz
        have ho2 := hid (show orL l = v from by rw [ho.out, hd.out]; unfold orL; rw [if_pos hz])
        clear hz
        go_wp2
        go_ret
        exact ⟨by rw [ho2.out]; rfl, rfl⟩
    · have hin : i = n := by omega
      have ho2 := hid (show orL l = 0 from by rw [ho.out, hin, HN.out, List.drop_length]; rfl)
      have hii : ¬ (i : Int) < (n : Int) := by omega
      go_wp2
      go_ret
      exact ⟨by rw [ho2.out]; rfl, rfl⟩
end Go.Proofs.Ytkabfdclecbnpaa


/- snap.Check. -/
namespace Go.Proofs.Ytkabfdclecbnpaa
open Go.RowKit Go.Lib

end Go.Proofs.Ytkabfdclecbnpaa


/- guard.Must, guard.Run and its deferred closure: what each call does. -/
namespace Go.Proofs.Ytkabfdclecbnpaa
open Go.RowKit

/-- No entry of the chain is a Goexit: what is recovered ahead of it lets the call return. -/
def Calm (older : List PanicEntry) : Prop := older.dropWhile (!·.goexit) = []
theorem Calm.nil : Calm [] := rfl
theorem Calm.cons {v : Value} {r : Bool} {older : List PanicEntry} (h : Calm older) : Calm ({ v, recovered := r } :: older) := by
  unfold Calm at *; simpa [List.dropWhile] using h

/-- A panic of v, a value of type T. -/
def Thrown (T : TypeId) (v : Value) (e : Ending) : Prop := ∃ older, e = .panicked ({ v := .iface T v, recovered := false } :: older) ∧ Calm older

theorem func_neq_nil (fn : Fn) (a b : Array Value) (w : World) : (binOp .neq 1 (.func fn a b) .nilFunc).run Try.prog w = .ok (.bool true) w := by kernel_rfl
theorem nil_neq_nil (w : World) : (binOp .neq 1 .nilFunc .nilFunc).run Try.prog w = .ok (.bool false) w := by kernel_rfl

/-- Function k has a body of its own: a call of it comes into it. -/
def Enters (k : Nat) : Prop := ∀ (args : Array Value) (w : World), (callFunc k args).run Try.prog w = .ok (.enter k args) w

end Go.Proofs.Ytkabfdclecbnpaa
