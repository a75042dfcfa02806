import Derived.Test.YtdojpioclojalaaDoorC1

/- code.Reader: what each call reads. -/
namespace Go.Proofs.YtdojpioclojalaaDoor
open Go.RowKit Go.Lib

/-- The number of bytes, the lowest first. -/
def numOf : List UInt8 → Nat
  | [] => 0
  | b :: r => b.toNat + 256 * numOf r

theorem numOf_lt : ∀ l : List UInt8, numOf l < 256 ^ l.length
  | [] => by simp [numOf]
  | b :: r => by
    have h := numOf_lt r
    have hb := b.toNat_lt
    simp only [numOf, List.length_cons, Nat.pow_succ]
    omega
theorem numOf_snoc (l : List UInt8) (b : UInt8) : numOf (l ++ [b]) = numOf l + 256 ^ l.length * b.toNat := by
  induction l with
  | nil => simp [numOf]
  | cons a r ih =>
    simp only [List.cons_append, numOf, ih, List.length_cons, Nat.pow_succ]
    rw [Nat.mul_add, ← Nat.mul_assoc, Nat.mul_comm 256 (256 ^ r.length)]
    omega

theorem or_step (m b i : Nat) (hi : i < 8) (hm : m < 256 ^ i) (hb : b < 256) :
    bits .or .u64 (m : Int) (IntKind.u64.wrap (IntKind.u64.wrap (b : Int) * 2 ^ (8 * i))) = ((m + 256 ^ i * b : Nat) : Int) := by
  have e0 : (256 : Nat) ^ i = 2 ^ (8 * i) := by rw [show (256 : Nat) = 2 ^ 8 from rfl, ← Nat.pow_mul]
  have hle : 256 ^ i * b < 256 ^ 8 := by
    have h1 : 256 ^ i * b < 256 ^ i * 256 := Nat.mul_lt_mul_of_pos_left hb (Nat.pow_pos (by omega))
    have h2 : 256 ^ (i + 1) ≤ 256 ^ 8 := Nat.pow_le_pow_right (by omega) (by omega)
    rw [Nat.pow_succ] at h2
    omega
  have e1 : IntKind.u64.wrap (b : Int) = (b : Int) := by rw [IntKind.wrap_u64]; omega
  have e2 : ((b : Int) * 2 ^ (8 * i)) = ((256 ^ i * b : Nat) : Int) := by rw [e0]; push_cast; rw [Int.mul_comm]
  have e3 : IntKind.u64.wrap ((256 ^ i * b : Nat) : Int) = ((256 ^ i * b : Nat) : Int) := by
    rw [IntKind.wrap_u64]
    have : (256 : Nat) ^ 8 = 18446744073709551616 := by decide
    omega
  have hm64 : m < 18446744073709551616 := by
    have h2 : 256 ^ i ≤ 256 ^ 8 := Nat.pow_le_pow_right (by omega) (by omega)
    have : (256 : Nat) ^ 8 = 18446744073709551616 := by decide
    omega
  have hle' : 256 ^ i * b < 18446744073709551616 := by
    have : (256 : Nat) ^ 8 = 18446744073709551616 := by decide
    omega
  rw [e1, e2, e3, bits_or_u64_nat m (256 ^ i * b) hm64 hle', Nat.or_comm]
  rw [e0] at hm ⊢
  rw [← Nat.two_pow_add_eq_or_of_lt hm, Nat.add_comm]

set_option maxHeartbeats 1000000 in
theorem number_any (sv : Value) (ys : List UInt8) (w : World) (h : SrcB w sv ys) (hlen : ys.length ≤ 8) :
    Calls Tryd.prog 78 #[sv] w fun e w' => e = .returned (.int .u64 ((numOf ys : Nat) : Int)) ∧ w = w' := by
  obtain ⟨a, c, rfl⟩ := h.size
  have Hs := hid h
  clear h
  go_enter Tryd.func78, Tryd.ntmps78
  go_wp2_with fail
  go_loop [3, 8] (fun n s => ∃ i : Nat, i ≤ ys.length ∧ s = .int .i64 i ∧ n = .int .u64 ((numOf (ys.take i) : Nat) : Int)) (fun _ s => ys.length - (intOf s).toNat)
  case atStart => exact ⟨0, Nat.zero_le _, rfl, by simp [numOf]⟩
  case round =>
    obtain ⟨i, hi, rfl, rfl⟩ := hrel
    by_cases hlt : i < ys.length
    · rcases Hs.out with ⟨h1, _⟩ | ⟨ad, c', h1, hc⟩
      · simp at h1; omega
      · simp at h1
        obtain ⟨rfl, rfl⟩ := h1
        have gx : w.cell? (ad.add i) = some (.int .u8 (ys[i].toNat : Int)) := hc i (B ys[i]) (by simp [hlt])
        have hn := numOf_lt (ys.take i)
        rw [List.length_take, Nat.min_eq_left hi] at hn
        have hstep := hid (or_step (numOf (ys.take i)) ys[i].toNat i (by omega) hn ys[i].toNat_lt)
        have hsnoc := hid (show numOf (ys.take (i + 1)) = numOf (ys.take i) + 256 ^ i * ys[i].toNat from by
          rw [List.take_succ_eq_append_getElem hlt, numOf_snoc, List.length_take, Nat.min_eq_left hi])
        clear hc hn
        go_wp2
        go_round
        case rel => exact ⟨i + 1, by omega, by go_num, by rw [hstep.out, hsnoc.out]⟩
        case measure => simp [intOf]; omega
    · have hin : i = ys.length := by omega
      subst hin
      go_wp2
      go_ret
      exact ⟨by simp, rfl⟩

/-- A reader in block r has the bytes xs left: they stand in another block. -/
structure Rd (w : World) (r : Nat) (a : Option Addr) (c : Nat) (xs : List UInt8) : Prop where
  here : w.heap[r]? = some (.cells #[.slice a xs.length c] 101 (0, 0))
  le : xs.length ≤ c
  max : c ≤ maxLen
  nil : a = none → c = 0
  src : ∀ x, a = some x → x.block ≠ r ∧ ∀ (j : Nat) (b : UInt8), xs[j]? = some b → w.cell? (x.add j) = some (B b)
  plain : ∀ x, a = some x → x.spot = none

theorem Rd.kept {S : List Nat} {w w' : World} {r : Nat} {a : Option Addr} {c : Nat} {xs : List UInt8} (h : Rd w r a c xs) (hk : Kept S w w') (hr : r ∉ S) (ha : ∀ x, a = some x → x.block ∉ S) : Rd w' r a c xs :=
  ⟨hk.at h.here hr, h.le, h.max, h.nil, fun x hx => ⟨(h.src x hx).1, fun j b hj => by
    have hc := (h.src x hx).2 j b hj
    exact (hk.cell (World.block_lt_of_cell? w _ hc) (by rw [add_block]; exact ha x hx)).trans hc⟩, h.plain⟩

theorem peek_ok (r : Nat) (a : Option Addr) (c : Nat) (xs : List UInt8) (n : Nat) (hn : n ≤ xs.length) (w : World) (h : Rd w r a c xs) :
    Calls Tryd.prog 77 #[.pointer (some ⟨r, 0, none⟩), .int .i64 n] w fun e w' => e = .returned (.slice a n n) ∧ w = w' := by
  have gc := cell_of_one h.here
  have h1 := h.le
  have h2 := h.max
  unfold maxLen at h2
  have hnil := hid h.nil
  clear h
  cases a with
  | none =>
    have hc0 := hnil.out rfl
    have hx0 : xs.length = 0 := by omega
    have hn0 : n = 0 := by omega
    subst hc0 hn0
    rw [hx0] at gc
    clear hx0 h1 h2 hn
    go_enter Tryd.func77, Tryd.ntmps77
    go_wp2
    go_ret
    exact ⟨by simp, rfl⟩
  | some x =>
    have h3 : ¬ (xs.length : Int) < (n : Int) := by omega
    go_enter Tryd.func77, Tryd.ntmps77
    go_wp2
    go_ret
    exact ⟨rfl, rfl⟩

theorem peek_short (r : Nat) (a : Option Addr) (c : Nat) (xs : List UInt8) (n : Int) (hn : (xs.length : Int) < n) (w : World) (h : Rd w r a c xs) :
    Calls Tryd.prog 77 #[.pointer (some ⟨r, 0, none⟩), .int .i64 n] w fun e w' => Thrown 27 (.int .i64 20) e ∧ w = w' := by
  have gc := cell_of_one h.here
  clear h
  go_enter Tryd.func77, Tryd.ntmps77
  go_wp2_with (go_at_call 59; refine (must_err 20 (by decide) _).mono ?_; rintro e w' ⟨rfl, rfl⟩)
  exact ⟨rfl, ⟨_, rfl, Calm.nil⟩, rfl⟩

/-- Where the rest of a row of c cells begins, behind m of them. -/
def behind (a : Option Addr) (c m : Nat) : Option Addr := if c = m then a else a.map (·.add m)

theorem add_0 (x : Addr) : x.add 0 = x := by unfold Addr.add; simp
theorem add_add (x : Addr) (i j : Nat) : (x.add i).add j = x.add (i + j) := by
  unfold Addr.add
  by_cases hi : i = 0
  · subst hi; simp
  · by_cases hj : j = 0
    · subst hj; simp [hi]
    · simp [hi, hj, Nat.add_assoc]

theorem add_spot (x : Addr) (i : Nat) (h : x.spot = none) : (x.add i).spot = none := by unfold Addr.add; split <;> simp_all

/-- The world behind reading m bytes. -/
def nextW (w : World) (r : Nat) (a : Option Addr) (c : Nat) (xs : List UInt8) (m : Nat) : World := w.setCell ⟨r, 0, none⟩ (.slice (behind a c m) (xs.length - m) (c - m))

theorem next_kept (w : World) (r : Nat) (a : Option Addr) (c : Nat) (xs : List UInt8) (m : Nat) : Kept [r] w (nextW w r a c xs m) := (Kept.refl _ _).setCell (p := ⟨r, 0, none⟩) (fun _ => by simp) _

theorem Rd.next {w : World} {r : Nat} {a : Option Addr} {c : Nat} {xs : List UInt8} (h : Rd w r a c xs) {m : Nat} (hm : m ≤ xs.length) : Rd (nextW w r a c xs m) r (behind a c m) (c - m) (xs.drop m) := by
  have hle := h.le
  have hk := next_kept w r a c xs m
  refine ⟨by simpa [nextW] using one_setCell (u := .slice (behind a c m) (xs.length - m) (c - m)) h.here, by simp; omega, by have := h.max; omega, fun hb => ?_, fun x hx => ?_, fun x hx => ?_⟩
  · unfold behind at hb
    split at hb
    · omega
    · simp at hb; have := h.nil hb; omega
  · unfold behind at hx
    split at hx
    · rename_i hcm
      have hx0 : xs.drop m = [] := by simp; omega
      exact ⟨(h.src x hx).1, fun j b hj => by rw [hx0] at hj; simp at hj⟩
    · cases a with
      | none => simp at hx
      | some y =>
        simp at hx
        subst hx
        obtain ⟨hy1, hy2⟩ := h.src y rfl
        refine ⟨by rw [add_block]; exact hy1, fun j b hj => ?_⟩
        rw [add_add]
        rw [List.getElem?_drop] at hj
        have hc := hy2 (m + j) b hj
        exact (hk.cell (World.block_lt_of_cell? w _ hc) (by rw [add_block]; simpa using hy1)).trans hc
  · unfold behind at hx
    split at hx
    · exact h.plain x hx
    · cases a with
      | none => simp at hx
      | some y => simp at hx; subst hx; exact add_spot y m (h.plain y rfl)

/-- The bytes that were read, in the world behind. -/
theorem Rd.read {w : World} {r : Nat} {a : Option Addr} {c : Nat} {xs : List UInt8} (h : Rd w r a c xs) {m : Nat} (hm : m ≤ xs.length) {S : List Nat} {w' : World} (hk : Kept S w w') (hS : ∀ x, a = some x → x.block ∉ S) : SrcB w' (.slice a m m) (xs.take m) := by
  have hl : (xs.take m).length = m := by simp; omega
  cases a with
  | none =>
    have := h.nil rfl
    have := h.le
    have hm0 : m = 0 := by omega
    subst hm0
    exact Or.inl ⟨rfl, by simp, by simp⟩
  | some x =>
    refine Or.inr ⟨x, m, by rw [hl], fun j u hj => ?_⟩
    have hjl : j < m := by
      rcases Nat.lt_or_ge j m with h' | h'
      · exact h'
      · rw [List.getElem?_eq_none (by simp; omega)] at hj; simp at hj
    simp [List.getElem?_take, hjl] at hj
    obtain ⟨b, hb, rfl⟩ := hj
    have hc := (h.src x rfl).2 j b hb
    exact (hk.cell (World.block_lt_of_cell? w _ hc) (by rw [add_block]; exact hS x rfl)).trans hc

theorem raw_ok (r : Nat) (a : Option Addr) (c : Nat) (xs : List UInt8) (n : Int) (m : Nat) (hm : max n 0 = (m : Int)) (hle : m ≤ xs.length) (w : World) (h : Rd w r a c xs) :
    Calls Tryd.prog 52 #[.pointer (some ⟨r, 0, none⟩), .int .i64 n] w fun e w' => e = .returned (.slice a m m) ∧ nextW w r a c xs m = w' := by
  unfold nextW
  have hp := peek_ok r a c xs m hle w h
  have gc := cell_of_one h.here
  have gf := free_of_one h.here
  have h1 := h.le
  have h2 := h.max
  unfold maxLen at h2
  have hnil := hid h.nil
  clear h
  by_cases hn : n < 0
  · have hm0 : m = 0 := by omega
    subst hm0
    have hp := hid (show Calls _ _ #[_, .int .i64 0] _ _ from hp)
    clear hm
    cases a with
    | none =>
      have hc0 := hnil.out rfl
      have hx0 : xs.length = 0 := by omega
      subst hc0
      rw [hx0] at gc ⊢
      clear hx0 h1 hle
      go_enter Tryd.func52, Tryd.ntmps52
      go_wp2_with fail
      refine hp.out.mono ?_
      rintro e w' ⟨rfl, rfl⟩
      go_wp2
      go_ret
      exact ⟨rfl, by simp [behind]⟩
    | some x =>
      go_enter Tryd.func52, Tryd.ntmps52
      go_wp2_with fail
      refine hp.out.mono ?_
      rintro e w' ⟨rfl, rfl⟩
      by_cases hcm : c = 0
      · subst hcm
        go_wp2
        go_ret
        exact ⟨rfl, by have hx0 : xs.length = 0 := by omega
                       simp [behind, hx0]⟩
      · go_wp2
        go_ret
        exact ⟨rfl, by simp [behind, hcm, add_0]⟩
  · have hnm : n = (m : Int) := by omega
    subst hnm
    have hp := hid hp
    clear hm
    cases a with
    | none =>
      have hc0 := hnil.out rfl
      have hx0 : xs.length = 0 := by omega
      have hm0 : m = 0 := by omega
      subst hc0 hm0
      rw [hx0] at gc ⊢
      clear hx0 h1 hle
      go_enter Tryd.func52, Tryd.ntmps52
      go_wp2_with fail
      refine hp.out.mono ?_
      rintro e w' ⟨rfl, rfl⟩
      go_wp2
      go_ret
      exact ⟨by simp, by simp [behind]⟩
    | some x =>
      go_enter Tryd.func52, Tryd.ntmps52
      go_wp2_with fail
      refine hp.out.mono ?_
      rintro e w' ⟨rfl, rfl⟩
      by_cases hcm : c = m
      · subst hcm
        go_wp2
        go_ret
        exact ⟨by simp, by have hx0 : xs.length - c = 0 := by omega
                           simp [behind, hx0]⟩
      · go_wp2
        go_ret
        exact ⟨by simp, by simp [behind, hcm]⟩

theorem raw_short (r : Nat) (a : Option Addr) (c : Nat) (xs : List UInt8) (n : Int) (hn : (xs.length : Int) < n) (w : World) (h : Rd w r a c xs) :
    Calls Tryd.prog 52 #[.pointer (some ⟨r, 0, none⟩), .int .i64 n] w fun e w' => Thrown 27 (.int .i64 20) e ∧ w = w' := by
  have hp := hid (peek_short r a c xs n hn w h)
  have hn0 : ¬ n < 0 := by omega
  clear h
  go_enter Tryd.func52, Tryd.ntmps52
  go_wp2_with fail
  refine hp.out.mono ?_
  rintro e w' ⟨⟨older, rfl, hcalm⟩, rfl⟩
  exact ⟨rfl, ⟨older, rfl, hcalm⟩, rfl⟩

theorem left_any' (r : Nat) (a : Option Addr) (c : Nat) (xs : List UInt8) (w : World) (h : Rd w r a c xs) :
    Calls Tryd.prog 53 #[.pointer (some ⟨r, 0, none⟩)] w fun e w' => e = .returned (.int .i64 (xs.length : Nat)) ∧ w = w' := by
  have gc := cell_of_one h.here
  clear h
  go_enter Tryd.func53, Tryd.ntmps53
  go_wp2
  go_ret
  exact ⟨rfl, rfl⟩

theorem rnum_ok (r : Nat) (a : Option Addr) (c : Nat) (xs : List UInt8) (size : Int) (hle : sz size ≤ xs.length) (w : World) (h : Rd w r a c xs) :
    Calls Tryd.prog 55 #[.pointer (some ⟨r, 0, none⟩), .int .i64 size] w fun e w' => e = .returned (.int .u64 ((numOf (xs.take (sz size)) : Nat) : Int)) ∧ nextW w r a c xs (sz size) = w' := by
  have hr := hid (raw_ok r a c xs (sz size) (sz size) (by omega) hle w h)
  have hn := hid (number_any (.slice a (sz size) (sz size)) (xs.take (sz size)) (nextW w r a c xs (sz size)) (h.read hle (next_kept w r a c xs _) (fun x hx => by simpa using (h.src x hx).1)) (by have := sz_le size; simp; omega))
  clear h
  go_enter Tryd.func55, Tryd.ntmps55
  go_wp2_with fail
  refine (numsize_any size w).mono ?_
  rintro e w1 ⟨rfl, rfl⟩
  go_wp2_with fail
  refine hr.out.mono ?_
  rintro e w1 ⟨rfl, rfl⟩
  go_wp2_with fail
  refine hn.out.mono ?_
  rintro e w1 ⟨rfl, rfl⟩
  go_wp2
  go_ret
  exact ⟨rfl, rfl⟩

theorem rnum_short (r : Nat) (a : Option Addr) (c : Nat) (xs : List UInt8) (size : Int) (hlt : xs.length < sz size) (w : World) (h : Rd w r a c xs) :
    Calls Tryd.prog 55 #[.pointer (some ⟨r, 0, none⟩), .int .i64 size] w fun e w' => Thrown 27 (.int .i64 20) e ∧ w = w' := by
  have hr := hid (raw_short r a c xs (sz size) (by omega) w h)
  clear h
  go_enter Tryd.func55, Tryd.ntmps55
  go_wp2_with fail
  refine (numsize_any size w).mono ?_
  rintro e w1 ⟨rfl, rfl⟩
  go_wp2_with fail
  refine hr.out.mono ?_
  rintro e w1 ⟨⟨older, rfl, hcalm⟩, rfl⟩
  exact ⟨rfl, ⟨older, rfl, hcalm⟩, rfl⟩

/-- How long the next field is said to be. -/
def said (xs : List UInt8) : Nat := numOf (xs.take 4)
theorem said_lt (xs : List UInt8) : said xs < 4294967296 := by
  have h := numOf_lt (xs.take 4)
  have h2 : (xs.take 4).length ≤ 4 := by simp; omega
  have h3 : 256 ^ (xs.take 4).length ≤ 256 ^ 4 := Nat.pow_le_pow_right (by omega) h2
  unfold said
  omega

theorem counted_short (r : Nat) (a : Option Addr) (c : Nat) (xs : List UInt8) (most : Int) (hlt : xs.length < 4) (w : World) (h : Rd w r a c xs) :
    Calls Tryd.prog 80 #[.pointer (some ⟨r, 0, none⟩), .int .i64 most] w fun e w' => Thrown 27 (.int .i64 20) e ∧ w = w' := by
  have hp := hid (peek_short r a c xs 4 (by omega) w h)
  clear h
  go_enter Tryd.func80, Tryd.ntmps80
  go_wp2_with fail
  refine hp.out.mono ?_
  rintro e w1 ⟨⟨older, rfl, hcalm⟩, rfl⟩
  exact ⟨rfl, ⟨older, rfl, hcalm⟩, rfl⟩

theorem counted_long (r : Nat) (a : Option Addr) (c : Nat) (xs : List UInt8) (most : Int) (h4 : 4 ≤ xs.length) (hlt : max most 0 < (said xs : Int)) (w : World) (h : Rd w r a c xs) :
    Calls Tryd.prog 80 #[.pointer (some ⟨r, 0, none⟩), .int .i64 most] w fun e w' => Thrown 27 (.int .i64 2) e ∧ w = w' := by
  have hp := hid (show Calls _ _ #[_, .int .i64 4] _ _ from peek_ok r a c xs 4 h4 w h)
  have hn := hid (number_any (.slice a 4 4) (xs.take 4) w (h.read h4 (Kept.refl [r] w) (fun x hx => by simpa using (h.src x hx).1)) (by simp; omega))
  have hs := said_lt xs
  have hs' : numOf (xs.take 4) = said xs := rfl
  rw [hs'] at hn
  clear h hs'
  generalize said xs = n at *
  go_enter Tryd.func80, Tryd.ntmps80
  by_cases hm : most < 0
  · have hlt0 : 0 < (n : Int) := by omega
    clear hlt
    go_wp2_with fail
    refine hp.out.mono ?_
    rintro e w1 ⟨rfl, rfl⟩
    go_wp2_with fail
    refine hn.out.mono ?_
    rintro e w1 ⟨rfl, rfl⟩
    go_wp2_with (go_at_call 59; refine (must_err 2 (by decide) _).mono ?_; rintro e w' ⟨rfl, rfl⟩)
    exact ⟨rfl, ⟨_, rfl, Calm.nil⟩, rfl⟩
  · have hlt0 : most < (n : Int) := by omega
    clear hlt
    go_wp2_with fail
    refine hp.out.mono ?_
    rintro e w1 ⟨rfl, rfl⟩
    go_wp2_with fail
    refine hn.out.mono ?_
    rintro e w1 ⟨rfl, rfl⟩
    go_wp2_with (go_at_call 59; refine (must_err 2 (by decide) _).mono ?_; rintro e w' ⟨rfl, rfl⟩)
    exact ⟨rfl, ⟨_, rfl, Calm.nil⟩, rfl⟩

theorem counted_few (r : Nat) (a : Option Addr) (c : Nat) (xs : List UInt8) (most : Int) (h4 : 4 ≤ xs.length) (hle : (said xs : Int) ≤ max most 0) (hlt : xs.length < 4 + said xs) (w : World) (h : Rd w r a c xs) :
    Calls Tryd.prog 80 #[.pointer (some ⟨r, 0, none⟩), .int .i64 most] w fun e w' => Thrown 27 (.int .i64 20) e ∧ w = w' := by
  have hp := hid (show Calls _ _ #[_, .int .i64 4] _ _ from peek_ok r a c xs 4 h4 w h)
  have hn := hid (number_any (.slice a 4 4) (xs.take 4) w (h.read h4 (Kept.refl [r] w) (fun x hx => by simpa using (h.src x hx).1)) (by simp; omega))
  have hr := hid (raw_short r a c xs (4 + (said xs : Int)) (by omega) w h)
  have hs := said_lt xs
  have hs' : numOf (xs.take 4) = said xs := rfl
  rw [hs'] at hn
  clear h hs' hlt
  generalize said xs = n at *
  go_enter Tryd.func80, Tryd.ntmps80
  by_cases hm : most < 0
  · have hlt0 : ¬ 0 < (n : Int) := by omega
    clear hle
    go_wp2_with fail
    refine hp.out.mono ?_
    rintro e w1 ⟨rfl, rfl⟩
    go_wp2_with fail
    refine hn.out.mono ?_
    rintro e w1 ⟨rfl, rfl⟩
    go_wp2_with fail
    refine hr.out.mono ?_
    rintro e w1 ⟨⟨older, rfl, hcalm⟩, rfl⟩
    exact ⟨rfl, ⟨older, rfl, hcalm⟩, rfl⟩
  · have hlt0 : ¬ most < (n : Int) := by omega
    clear hle
    go_wp2_with fail
    refine hp.out.mono ?_
    rintro e w1 ⟨rfl, rfl⟩
    go_wp2_with fail
    refine hn.out.mono ?_
    rintro e w1 ⟨rfl, rfl⟩
    go_wp2_with fail
    refine hr.out.mono ?_
    rintro e w1 ⟨⟨older, rfl, hcalm⟩, rfl⟩
    exact ⟨rfl, ⟨older, rfl, hcalm⟩, rfl⟩

theorem counted_ok (r : Nat) (a : Option Addr) (c : Nat) (xs : List UInt8) (most : Int) (hle : (said xs : Int) ≤ max most 0) (hlt : 4 + said xs ≤ xs.length) (w : World) (h : Rd w r a c xs) :
    Calls Tryd.prog 80 #[.pointer (some ⟨r, 0, none⟩), .int .i64 most] w fun e w' => e = .returned (.slice (behind a (4 + said xs) 4) (said xs) (said xs)) ∧ nextW w r a c xs (4 + said xs) = w' := by
  have h4 : 4 ≤ xs.length := by omega
  have hp := hid (show Calls _ _ #[_, .int .i64 4] _ _ from peek_ok r a c xs 4 h4 w h)
  have hn := hid (number_any (.slice a 4 4) (xs.take 4) w (h.read h4 (Kept.refl [r] w) (fun x hx => by simpa using (h.src x hx).1)) (by simp; omega))
  have hr := hid (raw_ok r a c xs (4 + (said xs : Int)) (4 + said xs) (by omega) hlt w h)
  have hs := said_lt xs
  have hs' : numOf (xs.take 4) = said xs := rfl
  rw [hs'] at hn
  have hnn : ∃ x, a = some x := by
    cases a with
    | none => have := h.nil rfl; have := h.le; omega
    | some x => exact ⟨x, rfl⟩
  obtain ⟨x, rfl⟩ := hnn
  clear h hs' hlt h4
  generalize said xs = n at *
  go_enter Tryd.func80, Tryd.ntmps80
  have hz : n = 0 ∨ 0 < n := by omega
  by_cases hm : most < 0
  · have hlt0 : ¬ 0 < (n : Int) := by omega
    clear hle
    go_wp2_with fail
    refine hp.out.mono ?_
    rintro e w1 ⟨rfl, rfl⟩
    go_wp2_with fail
    refine hn.out.mono ?_
    rintro e w1 ⟨rfl, rfl⟩
    go_wp2_with fail
    refine hr.out.mono ?_
    rintro e w1 ⟨rfl, rfl⟩
    rcases hz with rfl | hz
    · go_wp2
      go_ret
      exact ⟨by simp [behind], rfl⟩
    · exact absurd hz (by omega)
  · have hlt0 : ¬ most < (n : Int) := by omega
    clear hle
    go_wp2_with fail
    refine hp.out.mono ?_
    rintro e w1 ⟨rfl, rfl⟩
    go_wp2_with fail
    refine hn.out.mono ?_
    rintro e w1 ⟨rfl, rfl⟩
    go_wp2_with fail
    refine hr.out.mono ?_
    rintro e w1 ⟨rfl, rfl⟩
    rcases hz with rfl | hz
    · go_wp2
      go_ret
      exact ⟨by simp [behind], rfl⟩
    · go_wp2
      go_ret
      exact ⟨by have h9 : ¬ n = 0 := by omega
                simp [behind, h9, Addr.add], rfl⟩

/-- The bytes of a field that was read: they stand behind its length. -/
theorem Rd.readField {w : World} {r : Nat} {a : Option Addr} {c : Nat} {xs : List UInt8} (h : Rd w r a c xs) {n : Nat} (hn : 4 + n ≤ xs.length) {S : List Nat} {w' : World} (hk : Kept S w w') (hS : ∀ x, a = some x → x.block ∉ S) :
    SrcB w' (.slice (behind a (4 + n) 4) n n) ((xs.drop 4).take n) := by
  have hl : ((xs.drop 4).take n).length = n := by simp; omega
  cases a with
  | none => have := h.nil rfl; have := h.le; omega
  | some x =>
    by_cases hn0 : n = 0
    · subst hn0
      exact Or.inr ⟨x, 0, by simp [behind], fun j u hj => by simp at hj⟩
    · have hb : behind (some x) (4 + n) 4 = some (x.add 4) := by unfold behind; rw [if_neg (by omega)]; rfl
      rw [hb]
      refine Or.inr ⟨x.add 4, n, by rw [hl], fun j u hj => ?_⟩
      have hjl : j < n := by
        rcases Nat.lt_or_ge j n with h' | h'
        · exact h'
        · rw [List.getElem?_eq_none (by simp; omega)] at hj; simp at hj
      simp [List.getElem?_take, hjl] at hj
      obtain ⟨b, hb, rfl⟩ := hj
      have hc := (h.src x rfl).2 (4 + j) b hb
      rw [add_add]
      exact (hk.cell (World.block_lt_of_cell? w _ hc) (by rw [add_block]; exact hS x rfl)).trans hc

theorem behind_plain {a : Option Addr} {c m : Nat} (h : ∀ x, a = some x → x.spot = none) : ∀ x, behind a c m = some x → x.spot = none := by
  intro x hx
  unfold behind at hx
  split at hx
  · exact h x hx
  · cases a with
    | none => simp at hx
    | some y => simp at hx; subst hx; exact add_spot y m (h y rfl)

/-- A slice of bytes, turned into a text. -/
theorem text_of (w : World) (a : Option Addr) (c : Nat) (ys : List UInt8) (hp : ∀ x, a = some x → x.spot = none) (h : SrcB w (.slice a ys.length c) ys) :
    (convert 23 9 (.slice a ys.length c)).run Tryd.prog w = .ok (.string ⟨ys.toArray⟩) w := by
  rcases h with ⟨h1, h2, _⟩ | ⟨x, c', h1, hc⟩
  · simp at h1
    obtain ⟨rfl, h1, rfl⟩ := h1
    have hy : ys = [] := List.eq_nil_of_length_eq_zero h2
    subst hy
    exact run_convert_bytes_nil (P := Tryd.prog) w _ _ Tryd.underlying23 Tryd.underlying5 0 0 _ Tryd.underlying9
  · simp at h1
    obtain ⟨rfl, rfl⟩ := h1
    have hx := hp x rfl
    obtain ⟨b, off, sp⟩ := x
    simp at hx
    subst hx
    have e : strOfNums (ys.map fun y => (y.toNat : Int)) = ⟨ys.toArray⟩ := by
      unfold strOfNums
      congr 1
      rw [List.map_map]
      congr 1
      conv => rhs; rw [← List.map_id ys]
      apply List.map_congr_left
      intro y _
      simp
    have := run_convert_bytes_arg (P := Tryd.prog) w _ _ Tryd.underlying23 Tryd.underlying5 b off ys.length c (ys.map fun y => (y.toNat : Int)) (by simp) (fun i hi => by
      have h2 := hc i (B ys[i]) (by simp [hi])
      have ea : (⟨b, off, none⟩ : Addr).add i = ⟨b, off + i, none⟩ := by unfold Addr.add; split <;> simp_all
      rw [ea] at h2
      simpa [B, hi] using h2) _ Tryd.underlying9
    rw [e] at this
    exact this
end Go.Proofs.YtdojpioclojalaaDoor
