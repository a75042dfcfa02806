import Derived.Test.YtkabfdclecbnpaaMC
import Derived.Test.YtkabfdclecbnpaaMJ
import Derived.Test.YtkabfdclecbnpaaWV
import Derived.Test.YtkabfdclecbnpaaHW
import Derived.Sort.Grow

/- CRC-32C: plain mathematics on words of 32 bits. No program is named here. -/
namespace Go.Proofs.Ytkabfdclecbnpaa
namespace Crc
abbrev W32 := BitVec 32
def P : W32 := 0x82F63B78#32
/-- One bit is shifted out. -/
def T (s : W32) : W32 := (s >>> 1) ^^^ (if s.getLsbD 0 then P else 0#32)
def Tn : Nat → W32 → W32
  | 0, s => s
  | n + 1, s => Tn n (T s)
theorem T_xor (a b : W32) : T (a ^^^ b) = T a ^^^ T b := by
  unfold T
  rw [BitVec.ushiftRight_xor_distrib, BitVec.getLsbD_xor]
  cases a.getLsbD 0 <;> cases b.getLsbD 0 <;> simp
  · rw [BitVec.xor_assoc]
  · rw [BitVec.xor_assoc, BitVec.xor_assoc, BitVec.xor_comm P]
  · rw [← BitVec.xor_assoc, BitVec.xor_assoc (a >>> 1) P, BitVec.xor_comm P, ← BitVec.xor_assoc, BitVec.xor_assoc _ P P]; simp
theorem T_zero : T 0#32 = 0#32 := by decide
theorem Tn_xor (n : Nat) : ∀ a b : W32, Tn n (a ^^^ b) = Tn n a ^^^ Tn n b := by
  induction n with
  | zero => intro a b; rfl
  | succ n ih => intro a b; simp only [Tn, T_xor, ih]
theorem Tn_zero (n : Nat) : Tn n 0#32 = 0#32 := by
  induction n with
  | zero => rfl
  | succ n ih => simp only [Tn, T_zero, ih]
theorem Tn_add (m n : Nat) (s : W32) : Tn (m + n) s = Tn n (Tn m s) := by
  induction m generalizing s with
  | zero => simp [Tn]
  | succ m ih => rw [Nat.add_right_comm]; simp only [Tn, ih]
theorem T_msb (s : W32) : (T s).getLsbD 31 = s.getLsbD 0 := by
  unfold T
  rw [BitVec.getLsbD_xor, BitVec.getLsbD_ushiftRight, BitVec.getLsbD_of_ge s (1 + 31) (by decide)]
  cases s.getLsbD 0 <;> decide
theorem T_inj0 (s : W32) (h : T s = 0#32) : s = 0#32 := by
  have h0 : s.getLsbD 0 = false := by rw [← T_msb, h]; rfl
  unfold T at h
  rw [h0] at h
  simp at h
  apply BitVec.eq_of_getLsbD_eq
  intro i hi
  rcases i with _ | i
  · rw [h0]; rfl
  · have : (s >>> 1).getLsbD i = false := by rw [h]; simp
    rw [BitVec.getLsbD_ushiftRight, Nat.add_comm] at this
    rw [this]; simp
theorem Tn_inj0 (n : Nat) : ∀ s : W32, Tn n s = 0#32 → s = 0#32 := by
  induction n with
  | zero => intro s h; exact h
  | succ n ih => intro s h; exact T_inj0 s (ih _ h)
theorem xor_eq_zero {a b : W32} (h : a ^^^ b = 0#32) : a = b := by
  have : a ^^^ b ^^^ b = 0#32 ^^^ b := by rw [h]
  rw [BitVec.xor_assoc] at this
  simpa using this
theorem Tn_inj (n : Nat) (a b : W32) (h : Tn n a = Tn n b) : a = b := by
  apply xor_eq_zero
  apply Tn_inj0 n
  rw [Tn_xor, h]; simp
/-- While the lowest bits are noughts T only shifts. -/
theorem Tn_shl (n : Nat) : ∀ (k : Nat) (x : W32), k = n → x.toNat * 2 ^ n < 2 ^ 32 → Tn n (x <<< n) = x := by
  induction n with
  | zero => intro k x _ _; simp [Tn]
  | succ n ih =>
    intro k x _ hx
    have hT : T (x <<< (n + 1)) = x <<< n := by
      unfold T
      have h0 : (x <<< (n + 1)).getLsbD 0 = false := by simp
      rw [h0]
      simp
      apply BitVec.eq_of_toNat_eq
      rw [Nat.pow_succ] at hx
      have e1 : x.toNat * (2 ^ n * 2) = (x.toNat * 2 ^ n) * 2 := by rw [Nat.mul_assoc]
      rw [e1] at hx
      simp only [BitVec.toNat_ushiftRight, BitVec.toNat_shiftLeft, Nat.shiftLeft_eq, Nat.shiftRight_eq_div_pow, Nat.pow_succ]
      rw [e1, Nat.mod_eq_of_lt hx, Nat.mod_eq_of_lt (by omega)]
      omega
    simp only [Tn, hT]
    exact ih n x rfl (by rw [Nat.pow_succ, ← Nat.mul_assoc] at hx; omega)
/-- A table of what becomes of four bits that are shifted out. -/
def tbl : List Nat := [0x00000000, 0x105ec76f, 0x20bd8ede, 0x30e349b1, 0x417b1dbc, 0x5125dad3, 0x61c69362, 0x7198540d, 0x82f63b78, 0x92a8fc17, 0xa24bb5a6, 0xb21572c9, 0xc38d26c4, 0xd3d3e1ab, 0xe330a81a, 0xf36e6f75]
theorem tbl_T : ∀ k : Fin 16, Tn 4 (BitVec.ofNat 32 k.val) = BitVec.ofNat 32 (tbl.getD k.val 0) := by decide
theorem nib (s : W32) : Tn 4 s = (s >>> 4) ^^^ BitVec.ofNat 32 (tbl.getD (s.toNat % 16) 0) := by
  have e : s = ((s >>> 4) <<< 4) ^^^ BitVec.ofNat 32 (s.toNat % 16) := by
    apply BitVec.eq_of_getLsbD_eq
    intro i hi
    have h16 : s.toNat % 16 = s.toNat % 2 ^ 4 := rfl
    simp only [BitVec.getLsbD_xor, BitVec.getLsbD_shiftLeft, BitVec.getLsbD_ushiftRight, BitVec.getLsbD_ofNat, h16, Nat.testBit_mod_two_pow]
    by_cases h : i < 4
    · simp [h, hi, BitVec.getLsbD]
    · have h4 : 4 + (i - 4) = i := by omega
      simp [h, hi, h4]
  have hlt : (s >>> 4).toNat * 2 ^ 4 < 2 ^ 32 := by
    simp only [BitVec.toNat_ushiftRight, Nat.shiftRight_eq_div_pow]
    have := s.isLt
    omega
  conv => lhs; rw [e, Tn_xor, Tn_shl 4 4 _ rfl hlt]
  rw [tbl_T ⟨s.toNat % 16, Nat.mod_lt _ (by omega)⟩]
/-- A byte more. -/
def put (s : W32) (c : UInt8) : W32 := Tn 8 (s ^^^ BitVec.ofNat 32 c.toNat)
def feed (s : W32) (l : List UInt8) : W32 := l.foldl put s
def sum (l : List UInt8) : W32 := ~~~ feed (BitVec.allOnes 32) l
theorem feed_nil (s : W32) : feed s [] = s := rfl
theorem feed_cons (s : W32) (c : UInt8) (l : List UInt8) : feed s (c :: l) = feed (put s c) l := rfl
theorem feed_append (s : W32) (l m : List UInt8) : feed s (l ++ m) = feed (feed s l) m := List.foldl_append
theorem put_nib (s : W32) (c : UInt8) : put s c = Tn 4 (Tn 4 (s ^^^ BitVec.ofNat 32 c.toNat)) := Tn_add 4 4 _
theorem of_xor (a b : UInt8) : BitVec.ofNat 32 (a ^^^ b).toNat = BitVec.ofNat 32 a.toNat ^^^ BitVec.ofNat 32 b.toNat := by
  rw [UInt8.toNat_xor]
  apply BitVec.eq_of_getLsbD_eq
  intro i hi
  simp [hi]
theorem put_xor (s t : W32) (a b : UInt8) : put (s ^^^ t) (a ^^^ b) = put s a ^^^ put t b := by
  unfold put
  rw [of_xor, ← Tn_xor]
  congr 1
  ac_rfl
def xors (a b : List UInt8) : List UInt8 := List.zipWith (· ^^^ ·) a b
theorem feed_xor : ∀ (a b : List UInt8) (s t : W32), a.length = b.length → feed (s ^^^ t) (xors a b) = feed s a ^^^ feed t b
  | [], [], s, t, _ => rfl
  | x :: a, y :: b, s, t, h => by
    have := feed_xor a b (put s x) (put t y) (by simpa using h)
    simp only [xors, List.zipWith_cons_cons, feed_cons, put_xor] at *
    exact this
  | [], _ :: _, _, _, h => by simp at h
  | _ :: _, [], _, _, h => by simp at h
theorem feed_zeros (n : Nat) (s : W32) : feed s (List.replicate n 0) = Tn (8 * n) s := by
  induction n generalizing s with
  | zero => rfl
  | succ n ih =>
    rw [List.replicate_succ, feed_cons, ih, show 8 * (n + 1) = 8 + 8 * n by omega, Tn_add]
    congr 1
    simp [put]
theorem xors_zero (a : List UInt8) : xors a (List.replicate a.length 0) = a := by
  induction a with
  | nil => rfl
  | cons x a ih =>
    simp only [xors, List.length_cons, List.replicate_succ, List.zipWith_cons_cons] at *
    rw [ih]; simp
/-- How the state hangs on the start: by turning. -/
theorem feed_start (l : List UInt8) (s t : W32) : feed (s ^^^ t) l = feed s l ^^^ Tn (8 * l.length) t := by
  have := feed_xor l (List.replicate l.length 0) s t (by simp)
  rw [xors_zero, feed_zeros] at this
  exact this
theorem not_xor (x : W32) : ~~~ x = x ^^^ BitVec.allOnes 32 := by rw [BitVec.xor_allOnes]
/-- The sums of two rows of as many bytes. -/
theorem sum_xor (a b : List UInt8) (h : a.length = b.length) : sum (xors a b) = sum a ^^^ sum b ^^^ sum (List.replicate a.length 0) := by
  have h1 := feed_xor a b (BitVec.allOnes 32) 0#32 h
  have h2 := feed_start b 0#32 (BitVec.allOnes 32)
  have e1 : (0#32 : W32) ^^^ BitVec.allOnes 32 = BitVec.allOnes 32 := by decide
  have e2 : (BitVec.allOnes 32 : W32) ^^^ 0#32 = BitVec.allOnes 32 := by decide
  rw [e1] at h2
  rw [e2] at h1
  unfold sum
  rw [feed_zeros, h1, h2, h, not_xor, not_xor, not_xor, not_xor]
  have key : ∀ a f t o : W32, (a ^^^ f) ^^^ o = (a ^^^ o) ^^^ ((f ^^^ t) ^^^ o) ^^^ (t ^^^ o) := by
    intro a f t o
    have e : (a ^^^ o) ^^^ ((f ^^^ t) ^^^ o) ^^^ (t ^^^ o) = a ^^^ f ^^^ o ^^^ (t ^^^ t) ^^^ (o ^^^ o) := by ac_rfl
    rw [e]; simp
  exact key _ _ _ _
/-- A word's bytes, the lowest first. -/
def le (v : Nat) : List UInt8 := [UInt8.ofNat v, UInt8.ofNat (v / 256), UInt8.ofNat (v / 65536), UInt8.ofNat (v / 16777216)]
theorem byte_w (v : Nat) (k : Nat) : BitVec.ofNat 32 (UInt8.ofNat (v / 2 ^ (8 * k))).toNat = ((BitVec.ofNat 32 (v / 2 ^ (8 * k))) &&& 255#32) := by
  apply BitVec.eq_of_getLsbD_eq
  intro i hi
  have h255 : (255 : Nat) = 2 ^ 8 - 1 := rfl
  simp only [UInt8.toNat_ofNat', BitVec.getLsbD_ofNat, BitVec.getLsbD_and, h255, Nat.testBit_two_pow_sub_one, Nat.testBit_mod_two_pow]
  by_cases h8 : i < 8 <;> simp [h8, hi]
theorem put_shift (s x : W32) (c : UInt8) (hx : x.toNat < 2 ^ 24) : put (s ^^^ ((x <<< 8) ^^^ BitVec.ofNat 32 c.toNat)) 0 = Tn 8 (s ^^^ BitVec.ofNat 32 c.toNat) ^^^ x := by
  unfold put
  have e : s ^^^ ((x <<< 8) ^^^ BitVec.ofNat 32 c.toNat) ^^^ BitVec.ofNat 32 (0 : UInt8).toNat = (s ^^^ BitVec.ofNat 32 c.toNat) ^^^ (x <<< 8) := by
    have e0 : BitVec.ofNat 32 (0 : UInt8).toNat = 0#32 := rfl
    rw [e0]
    simp only [BitVec.xor_zero]
    ac_rfl
  rw [e, Tn_xor, Tn_shl 8 8 x rfl (by omega)]
theorem split8 (v : Nat) : BitVec.ofNat 32 v = (BitVec.ofNat 32 (v / 256 % 2 ^ 24) <<< 8) ^^^ BitVec.ofNat 32 (UInt8.ofNat v).toNat := by
  apply BitVec.eq_of_getLsbD_eq
  intro i hi
  have h8 : (256 : Nat) = 2 ^ 8 := rfl
  simp only [UInt8.toNat_ofNat', BitVec.getLsbD_ofNat, BitVec.getLsbD_xor, BitVec.getLsbD_shiftLeft, Nat.testBit_mod_two_pow, h8, Nat.testBit_div_two_pow]
  by_cases h : i < 8
  · simp [h, hi]
  · have e : 8 + (i - 8) = i := by omega
    have e2 : i - 8 + 8 = i := by omega
    have h24 : i - 8 < 24 := by omega
    have h32 : i - 8 < 32 := by omega
    simp [h, hi, e2, h24, h32]
/-- A word's four bytes, fed: the word is turned in at once. -/
theorem feed_le (s : W32) (v : Nat) (hv : v < 2 ^ 32) : feed s (le v) = Tn 32 (s ^^^ BitVec.ofNat 32 v) := by
  have step : ∀ (s : W32) (v : Nat), Tn 8 (s ^^^ BitVec.ofNat 32 v) = put s (UInt8.ofNat v) ^^^ BitVec.ofNat 32 (v / 256 % 2 ^ 24) := by
    intro s v
    conv => lhs; rw [split8 v]
    have e : s ^^^ ((BitVec.ofNat 32 (v / 256 % 2 ^ 24) <<< 8) ^^^ BitVec.ofNat 32 (UInt8.ofNat v).toNat) = (s ^^^ BitVec.ofNat 32 (UInt8.ofNat v).toNat) ^^^ (BitVec.ofNat 32 (v / 256 % 2 ^ 24) <<< 8) := by ac_rfl
    have hl : (BitVec.ofNat 32 (v / 256 % 2 ^ 24)).toNat * 2 ^ 8 < 2 ^ 32 := by
      rw [BitVec.toNat_ofNat]
      have := Nat.mod_lt (v / 256) (show 0 < 2 ^ 24 by decide)
      rw [Nat.mod_eq_of_lt (by omega)]
      omega
    rw [e, Tn_xor, Tn_shl 8 8 _ rfl hl]
    rfl
  have d1 : v / 256 % 2 ^ 24 = v / 256 := Nat.mod_eq_of_lt (by omega)
  have d2 : v / 256 / 256 % 2 ^ 24 = v / 65536 := by rw [Nat.div_div_eq_div_mul]; exact Nat.mod_eq_of_lt (by omega)
  have d3 : v / 65536 / 256 % 2 ^ 24 = v / 16777216 := by rw [Nat.div_div_eq_div_mul]; exact Nat.mod_eq_of_lt (by omega)
  have d4 : v / 16777216 / 256 % 2 ^ 24 = 0 := by rw [Nat.div_div_eq_div_mul]; have : v / (16777216 * 256) = 0 := Nat.div_eq_of_lt (by omega); rw [this]
  unfold le
  rw [feed_cons, feed_cons, feed_cons, feed_cons, feed_nil]
  show _ = Tn (8 + (8 + (8 + 8))) _
  rw [Tn_add, Tn_add, Tn_add, step, d1, step, d2, step, d3, step, d4]
  simp
/-- Bytes and their sum always come to the same. -/
def R : W32 := Tn 32 (BitVec.allOnes 32)
theorem feed_sum (l : List UInt8) (v : Nat) (hv : v < 2 ^ 32) : feed (BitVec.allOnes 32) (l ++ le v) = R ↔ v = (sum l).toNat := by
  rw [feed_append, feed_le _ _ hv]
  unfold R sum
  constructor
  · intro h
    have h2 := Tn_inj 32 _ _ h
    have h3 : BitVec.ofNat 32 v = feed (BitVec.allOnes 32) l ^^^ BitVec.allOnes 32 := by
      generalize feed (BitVec.allOnes 32) l = f at h2 ⊢
      rw [← h2, ← BitVec.xor_assoc]; simp
    rw [not_xor, ← h3, BitVec.toNat_ofNat, Nat.mod_eq_of_lt hv]
  · rintro rfl
    congr 1
    rw [BitVec.ofNat_toNat, not_xor, BitVec.setWidth_eq, ← BitVec.xor_assoc]
    simp
theorem sum_whole (l : List UInt8) : sum (l ++ le (sum l).toNat) = sum (List.replicate 4 0) := by
  have h := (feed_sum l _ (sum l).isLt).2 rfl
  unfold sum at *
  rw [h, feed_zeros]
  rfl
/-- One bit is turned. -/
def flip (l : List UInt8) (p : Nat) : List UInt8 := l.modify (p / 8) (· ^^^ UInt8.ofNat (2 ^ (p % 8)))
theorem flip_len (l : List UInt8) (p : Nat) : (flip l p).length = l.length := by simp [flip]
theorem pow_bit (k : Nat) (hk : k < 8) : Tn 8 (BitVec.ofNat 32 (UInt8.ofNat (2 ^ k)).toNat) = Tn (8 - k) 1#32 := by
  have : ∀ k : Fin 8, Tn 8 (BitVec.ofNat 32 (UInt8.ofNat (2 ^ k.val)).toNat) = Tn (8 - k.val) 1#32 := by decide
  exact this ⟨k, hk⟩
theorem put_bit (s : W32) (c : UInt8) (k : Nat) (hk : k < 8) : put s (c ^^^ UInt8.ofNat (2 ^ k)) = put s c ^^^ Tn (8 - k) 1#32 := by
  unfold put
  rw [of_xor, ← BitVec.xor_assoc, Tn_xor, pow_bit k hk]
theorem feed_flip (l : List UInt8) : ∀ (p : Nat) (s : W32), p < 8 * l.length → feed s (flip l p) = feed s l ^^^ Tn (8 * l.length - p) 1#32 := by
  induction l with
  | nil => intro p s h; simp at h
  | cons c l ih =>
    intro p s h
    by_cases h8 : p < 8
    · have e : p / 8 = 0 := by omega
      have e2 : p % 8 = p := by omega
      unfold flip
      rw [e, e2]
      simp only [List.modify_zero_cons, feed_cons]
      rw [put_bit s c p h8, feed_start, ← Tn_add]
      congr 2
      simp; omega
    · have e : p / 8 = (p - 8) / 8 + 1 := by omega
      have e2 : p % 8 = (p - 8) % 8 := by omega
      have := ih (p - 8) (put s c) (by simp at h; omega)
      unfold flip at *
      rw [e, e2, List.modify_succ_cons, feed_cons, feed_cons, this]
      congr 2
      simp; omega
/-- The bits of a number below n, turned from bit p on. -/
def flips (l : List UInt8) (at_ turn : Nat) : Nat → List UInt8
  | 0 => l
  | n + 1 => if turn.testBit n then flip (flips l at_ turn n) (at_ + n) else flips l at_ turn n
theorem flips_len (l : List UInt8) (a t n : Nat) : (flips l a t n).length = l.length := by
  induction n with
  | zero => rfl
  | succ n ih => unfold flips; split <;> simp [flip_len, ih]
theorem Tn_pow (m n : Nat) (hn : n < 32) (h : n ≤ m) : Tn m (BitVec.ofNat 32 (2 ^ n)) = Tn (m - n) 1#32 := by
  have e : BitVec.ofNat 32 (2 ^ n) = (1#32) <<< n := by
    apply BitVec.eq_of_toNat_eq
    simp [Nat.shiftLeft_eq]
  have e2 : m = n + (m - n) := by omega
  conv => lhs; rw [e2]
  rw [Tn_add, e, Tn_shl n n _ rfl]
  have : (2 : Nat) ^ n < 2 ^ 32 := Nat.pow_lt_pow_right (by omega) hn
  simpa using this
theorem low_succ (t n : Nat) (hn : n < 32) : BitVec.ofNat 32 (t % 2 ^ (n + 1)) = if t.testBit n then BitVec.ofNat 32 (t % 2 ^ n) ^^^ BitVec.ofNat 32 (2 ^ n) else BitVec.ofNat 32 (t % 2 ^ n) := by
  apply BitVec.eq_of_getLsbD_eq
  intro i hi
  by_cases ht : t.testBit n
  · rw [if_pos ht]
    simp only [BitVec.getLsbD_ofNat, BitVec.getLsbD_xor, Nat.testBit_mod_two_pow, Nat.testBit_two_pow]
    rcases Nat.lt_trichotomy i n with h | h | h
    · simp [hi, h, show i < n + 1 by omega, show n ≠ i by omega]
    · subst h; simp [hi, ht]
    · simp [hi, show ¬ i < n by omega, show ¬ i < n + 1 by omega, show n ≠ i by omega]
  · rw [if_neg ht]
    simp only [BitVec.getLsbD_ofNat, Nat.testBit_mod_two_pow]
    rcases Nat.lt_trichotomy i n with h | h | h
    · simp [hi, h, show i < n + 1 by omega]
    · subst h; simp [hi, ht]
    · simp [hi, show ¬ i < n by omega, show ¬ i < n + 1 by omega]
theorem feed_flips (l : List UInt8) (a t : Nat) (s : W32) (ha : a + 32 ≤ 8 * l.length) : ∀ n, n ≤ 32 → feed s (flips l a t n) = feed s l ^^^ Tn (8 * l.length - a) (BitVec.ofNat 32 (t % 2 ^ n)) := by
  intro n
  induction n with
  | zero => intro _; simp [flips, Nat.mod_one, Tn_zero]
  | succ n ih =>
    intro hn
    have := ih (by omega)
    rw [low_succ t n (by omega)]
    unfold flips
    split
    · rw [feed_flip _ _ _ (by rw [flips_len]; omega), this, flips_len, Tn_xor, Tn_pow _ n (by omega) (by omega), BitVec.xor_assoc]
      congr 3
      omega
    · exact this
/-- What is turned within 32 bits is told. -/
theorem burst (l : List UInt8) (a t : Nat) (ht : t < 2 ^ 32) (ht0 : t ≠ 0) (ha : a + 32 ≤ 8 * l.length) (hl : feed (BitVec.allOnes 32) l = R) : feed (BitVec.allOnes 32) (flips l a t 32) ≠ R := by
  rw [feed_flips l a t _ ha 32 (by omega), hl, Nat.mod_eq_of_lt ht]
  intro h
  have h2 : Tn (8 * l.length - a) (BitVec.ofNat 32 t) = 0#32 := by
    have : R ^^^ (R ^^^ Tn (8 * l.length - a) (BitVec.ofNat 32 t)) = R ^^^ R := by rw [h]
    rw [← BitVec.xor_assoc] at this
    simpa using this
  have h3 := congrArg BitVec.toNat (Tn_inj0 _ _ h2)
  simp at h3
  omega
/-- Bit by bit: the document's way. -/
theorem T_bit (s : W32) (b : Bool) : T (s ^^^ (if b then 1#32 else 0#32)) = (s >>> 1) ^^^ (if (s.getLsbD 0 ^^ b) then P else 0#32) := by
  rw [T_xor]
  unfold T
  have e1 : (1#32 : W32) >>> 1 = 0#32 := by decide
  have e2 : (1#32 : W32).getLsbD 0 = true := by decide
  cases s.getLsbD 0 <;> cases b <;> simp [BitVec.xor_assoc]
end Crc
end Go.Proofs.Ytkabfdclecbnpaa


/- seal.Sum: what it tells. -/
namespace Go.Proofs.Ytkabfdclecbnpaa
open Go.RowKit Go.Lib

theorem xor_u32 (a b : Nat) (ha : a < 4294967296) (hb : b < 4294967296) : bits .xor .u32 (a : Int) (b : Int) = ((a ^^^ b : Nat) : Int) := by
  have key : (BitVec.ofInt 32 (a : Int) ^^^ BitVec.ofInt 32 (b : Int)).toNat = a ^^^ b := by
    rw [BitVec.toNat_xor, BitVec.toNat_ofInt, BitVec.toNat_ofInt]
    have h1 : ((a : Int) % ((2 ^ 32 : Nat) : Int)).toNat = a := by omega
    have h2 : ((b : Int) % ((2 ^ 32 : Nat) : Int)).toNat = b := by omega
    rw [h1, h2]
  have hx : a ^^^ b < 2 ^ 32 := Nat.xor_lt_two_pow (by omega) (by omega)
  show IntKind.u32.wrap ((BitVec.ofInt 32 (a : Int) ^^^ BitVec.ofInt 32 (b : Int)).toNat : Nat) = _
  rw [key, IntKind.wrap_u32]
  omega
theorem and15_u32 (a : Nat) (ha : a < 4294967296) : bits .and .u32 (a : Int) 15 = ((a % 16 : Nat) : Int) := by
  have key : (BitVec.ofInt 32 (a : Int) &&& BitVec.ofInt 32 15).toNat = a % 16 := by
    rw [BitVec.toNat_and, BitVec.toNat_ofInt]
    have h1 : ((a : Int) % ((2 ^ 32 : Nat) : Int)).toNat = a := by omega
    have h2 : (BitVec.ofInt 32 15).toNat = 2 ^ 4 - 1 := by decide
    rw [h1, h2, Nat.and_two_pow_sub_one_eq_mod]
  show IntKind.u32.wrap ((BitVec.ofInt 32 (a : Int) &&& BitVec.ofInt 32 15).toNat : Nat) = _
  rw [key, IntKind.wrap_u32]
  omega

theorem start_tab (s : Crc.W32) (b : UInt8) : bits .xor .u32 (s.toNat : Int) (b.toNat : Int) = (((s ^^^ BitVec.ofNat 32 b.toNat).toNat : Nat) : Int) := by
  have hs := s.isLt
  have hb := b.toNat_lt
  rw [xor_u32 _ _ (by omega) (by omega), BitVec.toNat_xor, BitVec.toNat_ofNat, Nat.mod_eq_of_lt (by omega)]
theorem not_tab (s : Crc.W32) : bits .xor .u32 IntKind.u32.max (s.toNat : Int) = (((~~~ s).toNat : Nat) : Int) := by
  have hs := s.isLt
  rw [show IntKind.u32.max = ((4294967295 : Nat) : Int) from rfl, xor_u32 _ _ (by omega) (by omega), Crc.not_xor, BitVec.toNat_xor, BitVec.toNat_allOnes, Nat.xor_comm]

end Go.Proofs.Ytkabfdclecbnpaa


/- seal.want, seal.summed, seal.Seal. -/
namespace Go.Proofs.Ytkabfdclecbnpaa
open Go.RowKit Go.Lib

/-- A call that gives a row of bytes of its own; of what was there only the blocks of S may read otherwise. -/
def Gives (w : World) (S : List Nat) (bs : List UInt8) (e : Ending) (w' : World) : Prop :=
  ∃ a c, e = .returned (.slice a bs.length c) ∧ Kept S w w' ∧ w'.ownsRow w.heap.size 5 1 (.slice a bs.length c) bs.length (bs.map B)

theorem numB_le (v : Nat) : numB v 4 = Crc.le v := by simp [numB, Crc.le, List.range_succ]
theorem numB_byte (b : UInt8) : numB b.toNat 1 = [b] := by simp [numB]

theorem ownsRow_src {w : World} {base : Nat} {v : Value} {xs : List UInt8} (h : w.ownsRow base 5 1 v xs.length (xs.map B)) : SrcB w v xs := by
  obtain ⟨a, c, rfl⟩ := owns_slice h
  exact (bys_of_row h).1

/-- The bytes and their sum. -/
def withSum (xs : List UInt8) : List UInt8 := xs ++ numB (Crc.sum xs).toNat 4
theorem withSum_len (xs : List UInt8) : (withSum xs).length = xs.length + 4 := by simp [withSum, numB_len]

/-- What is sealed. -/
def sealed (kind : UInt8) (ys : List UInt8) : List UInt8 := withSum (kind :: ys)

end Go.Proofs.Ytkabfdclecbnpaa


/- snap.Encode. -/
namespace Go.Proofs.Ytkabfdclecbnpaa
open Go.RowKit Go.Lib

/-- A snapshot's bytes, ahead of being sealed. -/
def Sp.enc (s : Sp) : List UInt8 := numB s.time.toNat 8 ++ (numB s.host.length 4 ++ s.host) ++ (numB s.tag.length 4 ++ s.tag) ++ s.root ++ numB s.files.toNat 4 ++ numB s.bytes.toNat 8
theorem Sp.err_far {s : Sp} (h : s.err = 0) : ¬ s.far := fun hf => by unfold Sp.err at h; rw [if_pos hf] at h; cases h
theorem Sp.err_part {s : Sp} (h : s.err = 0) : okPart s.host = true ∧ (s.tag = [] ∨ okPart s.tag = true) := by
  unfold Sp.err at h
  rw [if_neg (Sp.err_far h)] at h
  by_cases hp : okPart s.host = true ∧ (s.tag = [] ∨ okPart s.tag = true)
  · exact hp
  · rw [if_neg hp] at h; cases h
theorem Sp.err_len {s : Sp} (h : s.err = 0) : s.host.length ≤ 40 ∧ s.tag.length ≤ 40 := by
  obtain ⟨h1, h2⟩ := Sp.err_part h
  refine ⟨(j_okPart_ne h1).2, ?_⟩
  rcases h2 with h2 | h2
  · rw [h2]; simp
  · exact (j_okPart_ne h2).2
theorem Sp.enc_len {s : Sp} (h : s.ok) : s.enc.length = 60 + s.host.length + s.tag.length := by
  unfold Sp.enc; simp [numB_len, h.root]; omega
theorem sz8 : sz 8 = 8 := by decide

/-- A sum's field within a box, sliced. -/
theorem slice_root (g : Nat) (W : World) : (Instr.sliceAt 40 (.pointer (some ⟨g, 3, none⟩)) none none none).run Try.prog W = .ok (.slice (some ⟨g, 3, none⟩) 32 32) W := by
  have hal : Try.prog.arrayLen 40 = 32 := by simp [Program.arrayLen, Try.underlying40]
  rw [run_sliceAt_array_all W 40 ⟨g, 3, none⟩ (by simp [Program.arrayLen, Program.elem, Try.underlying40])]
  rw [hal]
  go_simp
theorem At.root {w : World} {p : Nat} {s : Sp} (h : At w p s) (hs : s.ok) : SrcB w (.slice (some ⟨p, 3, none⟩) 32 32) s.root := by
  refine Or.inr ⟨⟨p, 3, none⟩, 32, by rw [hs.root], fun j u hj => ?_⟩
  rw [List.getElem?_map] at hj
  obtain ⟨b, hb, rfl⟩ := Option.map_eq_some_iff.1 hj
  have e : (⟨p, 3, none⟩ : Addr).add j = ⟨p, 3 + j, none⟩ := by unfold Addr.add; split <;> simp_all
  rw [e]
  exact h.cell _ _ (Sp.cr hs j b hb)

/-- What Encode answers. -/
def Encoded (s : Sp) (w : World) (e : Ending) (w' : World) : Prop :=
  Kept [] w w' ∧ ((s.err ≠ 0 ∧ e = .returned (.tuple #[.slice none 0 0, .int .i64 s.err])) ∨
    (s.err = 0 ∧ ∃ a c, e = .returned (.tuple #[.slice a (sealed 83 s.enc).length c, .int .i64 0]) ∧ w'.ownsRow w.heap.size 5 1 (.slice a (sealed 83 s.enc).length c) (sealed 83 s.enc).length ((sealed 83 s.enc).map B)))

theorem S_data (a : List UInt8) : (S a).data.toList = a := rfl

end Go.Proofs.Ytkabfdclecbnpaa


/- snap.compare, snap.Less. -/
namespace Go.Proofs.Ytkabfdclecbnpaa
open Go.RowKit Go.Lib Go.Sort

theorem kept_grow (w : World) (q : Nat) (os : Array Obj) : Kept [] w (grow (w.drewN q) os) :=
  ⟨rfl, rfl, rfl, by simp [grow, World.drewN], fun k hk _ => by
    show (w.heap ++ os)[k]? = _
    rw [Array.getElem?_append_left hk]⟩
/-- A world that came of w by draws and new blocks alone. -/
def Grown (w v : World) : Prop := ∃ q os, v = grow (w.drewN q) os
theorem Grown.kept {w v : World} (h : Grown w v) : Kept [] w v := by obtain ⟨q, os, rfl⟩ := h; exact kept_grow w q os
theorem Grown.refl (w : World) : Grown w w := ⟨0, #[], by rw [grow_empty]; rfl⟩
theorem Grown.alloc {w v : World} (h : Grown w v) (o : Obj) : Grown w (v.alloc o) := by
  obtain ⟨q, os, rfl⟩ := h
  exact ⟨q, os ++ #[o], by rw [alloc_eq_grow, grow_grow]⟩
theorem Grown.drew {w v : World} (h : Grown w v) : Grown w v.drew := by
  obtain ⟨q, os, rfl⟩ := h
  exact ⟨q + 1, os, rfl⟩

/-- Which snapshot is ahead: below 0, if x is. -/
def Sp.cmp (x y : Sp) : Int := orL [cmpI x.time y.time, cmpS x.host y.host, cmpS x.tag y.tag, Lib.compareBytes x.root y.root, cmpI x.files y.files, cmpI x.bytes y.bytes]

set_option maxRecDepth 100000 in
set_option maxHeartbeats 4000000 in
theorem j_compare (x y : Sp) (hx : x.ok) (hy : y.ok) (w : World) :
    Calls Try.prog 36 #[.agg x.cells.toArray, .agg y.cells.toArray] w fun e w' => e = .returned (.int .i64 (x.cmp y)) ∧ Grown w w' := by
  obtain ⟨W, hW⟩ : ∃ W, W = (w.alloc (.cells x.cells.toArray 42)).alloc (.cells y.cells.toArray 42) := ⟨_, rfl⟩
  have GW : Grown w W := by rw [hW]; exact ((Grown.refl w).alloc _).alloc _
  have hsz := hid (show W.heap.size = w.heap.size + 2 by rw [hW]; simp)
  have AX0 : At W w.heap.size x := by rw [hW]; exact heap_alloc_old (heap_alloc_at rfl)
  have AY0 : At W (w.heap.size + 1) y := by rw [hW]; exact heap_alloc_at (by simp)
  have hup := hid (show ∀ v, Grown w v → w.heap.size + 2 ≤ v.heap.size → True from fun _ _ _ => trivial)
  have AX := hid (fun (v : World) (h : Grown W v) => AX0.kept h.kept (by simp))
  have AY := hid (fun (v : World) (h : Grown W v) => AY0.kept h.kept (by simp))
  have hcb := hid (fun (v : World) (h : Grown W v) => (show Calls Try.prog 49 #[.slice (some ⟨w.heap.size, 3, none⟩) 32 32, .slice (some ⟨w.heap.size + 1, 3, none⟩) 32 32] v (fun e w' => e = .returned (.int .i64 (Lib.compareBytes x.root y.root)) ∧ Grown W w') from by
    have hc := compare_any ⟨w.heap.size, 3, none⟩ ⟨w.heap.size + 1, 3, none⟩ 32 32 x.root y.root v
      (fun j u hj => by
        rw [List.getElem?_map] at hj
        obtain ⟨b, hb, rfl⟩ := Option.map_eq_some_iff.1 hj
        rw [plain_add]; exact (AX.out v h).cell _ _ (Sp.cr hx j b hb))
      (fun j u hj => by
        rw [List.getElem?_map] at hj
        obtain ⟨b, hb, rfl⟩ := Option.map_eq_some_iff.1 hj
        rw [plain_add]; exact (AY.out v h).cell _ _ (Sp.cr hy j b hb))
    rw [hx.root, hy.root] at hc
    exact hc.mono fun e w' h' => ⟨h'.1, h'.2.symm ▸ h⟩))
  have HW := hid hW; have HGW := hid GW
  clear hW GW AX0 AY0 hup
  go_enter Try.func36, Try.ntmps36
  go_wp2_with fail
  rw [← HW.out]
  refine wp_region_held_drew (S := Grown W) (by kernel_rfl) (Grown.refl W).drew (fun hH => ?_)
  refine takeH 0 (.pointer (some ⟨w.heap.size, 0, none⟩)) rfl (by kernel_rfl) (by kernel_rfl) (by kernel_rfl) (fun _ _ _ h => h) (by rfl) (fun v hv => by go_simp) hH ?_
  simp only [Act.put, List.setIfInBounds_toArray, List.set_cons_succ, List.set_cons_zero]
  refine takeH 2 (.pointer (some ⟨w.heap.size + 1, 0, none⟩)) rfl (by kernel_rfl) (by kernel_rfl) (by kernel_rfl) (fun _ _ _ h => h) (by rfl) (fun v hv => by go_simp) hH ?_
  simp only [Act.put, List.setIfInBounds_toArray, List.set_cons_succ, List.set_cons_zero]
  refine takeH 5 (.pointer (some ⟨w.heap.size, 1, none⟩)) rfl (by kernel_rfl) (by kernel_rfl) (by kernel_rfl) (fun _ _ _ h => h) (by rfl) (fun v hv => by go_simp) hH ?_
  simp only [Act.put, List.setIfInBounds_toArray, List.set_cons_succ, List.set_cons_zero]
  refine takeH 7 (.pointer (some ⟨w.heap.size + 1, 1, none⟩)) rfl (by kernel_rfl) (by kernel_rfl) (by kernel_rfl) (fun _ _ _ h => h) (by rfl) (fun v hv => by go_simp) hH ?_
  simp only [Act.put, List.setIfInBounds_toArray, List.set_cons_succ, List.set_cons_zero]
  refine takeH 10 (.pointer (some ⟨w.heap.size, 2, none⟩)) rfl (by kernel_rfl) (by kernel_rfl) (by kernel_rfl) (fun _ _ _ h => h) (by rfl) (fun v hv => by go_simp) hH ?_
  simp only [Act.put, List.setIfInBounds_toArray, List.set_cons_succ, List.set_cons_zero]
  refine takeH 12 (.pointer (some ⟨w.heap.size + 1, 2, none⟩)) rfl (by kernel_rfl) (by kernel_rfl) (by kernel_rfl) (fun _ _ _ h => h) (by rfl) (fun v hv => by go_simp) hH ?_
  simp only [Act.put, List.setIfInBounds_toArray, List.set_cons_succ, List.set_cons_zero]
  refine takeH 15 (.pointer (some ⟨w.heap.size, 3, none⟩)) rfl (by kernel_rfl) (by kernel_rfl) (by kernel_rfl) (fun _ _ _ h => h) (by rfl) (fun v hv => by go_simp) hH ?_
  simp only [Act.put, List.setIfInBounds_toArray, List.set_cons_succ, List.set_cons_zero]
  refine takeH 17 (.pointer (some ⟨w.heap.size + 1, 3, none⟩)) rfl (by kernel_rfl) (by kernel_rfl) (by kernel_rfl) (fun _ _ _ h => h) (by rfl) (fun v hv => by go_simp) hH ?_
  simp only [Act.put, List.setIfInBounds_toArray, List.set_cons_succ, List.set_cons_zero]
  refine takeH 20 (.pointer (some ⟨w.heap.size, 35, none⟩)) rfl (by kernel_rfl) (by kernel_rfl) (by kernel_rfl) (fun _ _ _ h => h) (by rfl) (fun v hv => by go_simp) hH ?_
  simp only [Act.put, List.setIfInBounds_toArray, List.set_cons_succ, List.set_cons_zero]
  refine takeH 22 (.pointer (some ⟨w.heap.size + 1, 35, none⟩)) rfl (by kernel_rfl) (by kernel_rfl) (by kernel_rfl) (fun _ _ _ h => h) (by rfl) (fun v hv => by go_simp) hH ?_
  simp only [Act.put, List.setIfInBounds_toArray, List.set_cons_succ, List.set_cons_zero]
  refine takeH 25 (.pointer (some ⟨w.heap.size, 36, none⟩)) rfl (by kernel_rfl) (by kernel_rfl) (by kernel_rfl) (fun _ _ _ h => h) (by rfl) (fun v hv => by go_simp) hH ?_
  simp only [Act.put, List.setIfInBounds_toArray, List.set_cons_succ, List.set_cons_zero]
  refine takeH 27 (.pointer (some ⟨w.heap.size + 1, 36, none⟩)) rfl (by kernel_rfl) (by kernel_rfl) (by kernel_rfl) (fun _ _ _ h => h) (by rfl) (fun v hv => by go_simp) hH ?_
  simp only [Act.put, List.setIfInBounds_toArray, List.set_cons_succ, List.set_cons_zero]
  refine takeH 1 (.int .i64 x.time) rfl (by kernel_rfl) (by kernel_rfl) (by kernel_rfl) (fun _ _ _ h => h) (by rfl) (fun v hv => by have g := (AX.out v hv).cell 0 _ x.c0; go_simp) hH ?_
  simp only [Act.put, List.setIfInBounds_toArray, List.set_cons_succ, List.set_cons_zero]
  refine takeH 3 (.int .i64 y.time) rfl (by kernel_rfl) (by kernel_rfl) (by kernel_rfl) (fun _ _ _ h => h) (by rfl) (fun v hv => by have g := (AY.out v hv).cell 0 _ y.c0; go_simp) hH ?_
  simp only [Act.put, List.setIfInBounds_toArray, List.set_cons_succ, List.set_cons_zero]
  refine takeH 6 (.string (S x.host)) rfl (by kernel_rfl) (by kernel_rfl) (by kernel_rfl) (fun _ _ _ h => h) (by rfl) (fun v hv => by have g := (AX.out v hv).cell 1 _ x.c1; go_simp) hH ?_
  simp only [Act.put, List.setIfInBounds_toArray, List.set_cons_succ, List.set_cons_zero]
  refine takeH 8 (.string (S y.host)) rfl (by kernel_rfl) (by kernel_rfl) (by kernel_rfl) (fun _ _ _ h => h) (by rfl) (fun v hv => by have g := (AY.out v hv).cell 1 _ y.c1; go_simp) hH ?_
  simp only [Act.put, List.setIfInBounds_toArray, List.set_cons_succ, List.set_cons_zero]
  refine takeH 11 (.string (S x.tag)) rfl (by kernel_rfl) (by kernel_rfl) (by kernel_rfl) (fun _ _ _ h => h) (by rfl) (fun v hv => by have g := (AX.out v hv).cell 2 _ x.c2; go_simp) hH ?_
  simp only [Act.put, List.setIfInBounds_toArray, List.set_cons_succ, List.set_cons_zero]
  refine takeH 13 (.string (S y.tag)) rfl (by kernel_rfl) (by kernel_rfl) (by kernel_rfl) (fun _ _ _ h => h) (by rfl) (fun v hv => by have g := (AY.out v hv).cell 2 _ y.c2; go_simp) hH ?_
  simp only [Act.put, List.setIfInBounds_toArray, List.set_cons_succ, List.set_cons_zero]
  refine takeH 21 (.int .i64 x.files) rfl (by kernel_rfl) (by kernel_rfl) (by kernel_rfl) (fun _ _ _ h => h) (by rfl) (fun v hv => by have g := (AX.out v hv).cell 35 _ (Sp.c35 hx); go_simp) hH ?_
  simp only [Act.put, List.setIfInBounds_toArray, List.set_cons_succ, List.set_cons_zero]
  refine takeH 23 (.int .i64 y.files) rfl (by kernel_rfl) (by kernel_rfl) (by kernel_rfl) (fun _ _ _ h => h) (by rfl) (fun v hv => by have g := (AY.out v hv).cell 35 _ (Sp.c35 hy); go_simp) hH ?_
  simp only [Act.put, List.setIfInBounds_toArray, List.set_cons_succ, List.set_cons_zero]
  refine takeH 26 (.int .i64 x.bytes) rfl (by kernel_rfl) (by kernel_rfl) (by kernel_rfl) (fun _ _ _ h => h) (by rfl) (fun v hv => by have g := (AX.out v hv).cell 36 _ (Sp.c36 hx); go_simp) hH ?_
  simp only [Act.put, List.setIfInBounds_toArray, List.set_cons_succ, List.set_cons_zero]
  refine takeH 28 (.int .i64 y.bytes) rfl (by kernel_rfl) (by kernel_rfl) (by kernel_rfl) (fun _ _ _ h => h) (by rfl) (fun v hv => by have g := (AY.out v hv).cell 36 _ (Sp.c36 hy); go_simp) hH ?_
  simp only [Act.put, List.setIfInBounds_toArray, List.set_cons_succ, List.set_cons_zero]
  refine takeH 16 (.slice (some ⟨w.heap.size, 3, none⟩) 32 32) rfl (by kernel_rfl) (by kernel_rfl) (by kernel_rfl) (fun _ _ _ h => h) (by rfl) (fun v hv => by have g := slice_root w.heap.size v; go_simp) hH ?_
  simp only [Act.put, List.setIfInBounds_toArray, List.set_cons_succ, List.set_cons_zero]
  refine takeH 18 (.slice (some ⟨w.heap.size + 1, 3, none⟩) 32 32) rfl (by kernel_rfl) (by kernel_rfl) (by kernel_rfl) (fun _ _ _ h => h) (by rfl) (fun v hv => by have g := slice_root (w.heap.size + 1) v; go_simp) hH ?_
  simp only [Act.put, List.setIfInBounds_toArray, List.set_cons_succ, List.set_cons_zero]
  refine callH 4 rfl (by kernel_rfl) (by rfl) 30 #[.int .i64 x.time, .int .i64 y.time] (by go_simp) (.int .i64 (cmpI x.time y.time)) hH (fun hS => (cmp64_any x.time y.time _).mono fun e w' h => ⟨h.1, h.2 ▸ hS⟩) ?_
  clear hH
  intro vv hH
  simp only [Act.put, List.setIfInBounds_toArray, List.set_cons_succ, List.set_cons_zero]
  refine callH 9 rfl (by kernel_rfl) (by rfl) 48 #[.string (S x.host), .string (S y.host)] (by go_simp) (.int .i64 (cmpS x.host y.host)) hH (fun hS => (cmps_any x.host y.host _).mono fun e w' h => ⟨h.1, h.2 ▸ hS⟩) ?_
  clear hH
  intro vv hH
  simp only [Act.put, List.setIfInBounds_toArray, List.set_cons_succ, List.set_cons_zero]
  refine callH 14 rfl (by kernel_rfl) (by rfl) 48 #[.string (S x.tag), .string (S y.tag)] (by go_simp) (.int .i64 (cmpS x.tag y.tag)) hH (fun hS => (cmps_any x.tag y.tag _).mono fun e w' h => ⟨h.1, h.2 ▸ hS⟩) ?_
  clear hH
  intro vv hH
  simp only [Act.put, List.setIfInBounds_toArray, List.set_cons_succ, List.set_cons_zero]
  refine callH 19 rfl (by kernel_rfl) (by rfl) 49 #[.slice (some ⟨w.heap.size, 3, none⟩) 32 32, .slice (some ⟨w.heap.size + 1, 3, none⟩) 32 32] (by go_simp) (.int .i64 (Lib.compareBytes x.root y.root)) hH (fun hS => hcb.out _ hS) ?_
  clear hH
  intro vv hH
  simp only [Act.put, List.setIfInBounds_toArray, List.set_cons_succ, List.set_cons_zero]
  refine callH 24 rfl (by kernel_rfl) (by rfl) 50 #[.int .i64 x.files, .int .i64 y.files] (by go_simp) (.int .i64 (cmpI x.files y.files)) hH (fun hS => (cmpi_any x.files y.files _).mono fun e w' h => ⟨h.1, h.2 ▸ hS⟩) ?_
  clear hH
  intro vv hH
  simp only [Act.put, List.setIfInBounds_toArray, List.set_cons_succ, List.set_cons_zero]
  refine callH 29 rfl (by kernel_rfl) (by rfl) 30 #[.int .i64 x.bytes, .int .i64 y.bytes] (by go_simp) (.int .i64 (cmpI x.bytes y.bytes)) hH (fun hS => (cmp64_any x.bytes y.bytes _).mono fun e w' h => ⟨h.1, h.2 ▸ hS⟩) ?_
  clear hH
  intro vv hH
  simp only [Act.put, List.setIfInBounds_toArray, List.set_cons_succ, List.set_cons_zero]
  have hL := hid (show ∀ n ∈ [cmpI x.time y.time, cmpS x.host y.host, cmpS x.tag y.tag, Lib.compareBytes x.root y.root, cmpI x.files y.files, cmpI x.bytes y.bytes], True from fun _ _ => trivial)
  have hor := hid (show ∀ (v : World), Calls Try.prog 47 #[.slice (some ⟨v.heap.size, 0, none⟩) 6 6] (v.alloc (.cells #[.int .i64 (cmpI x.time y.time), .int .i64 (cmpS x.host y.host), .int .i64 (cmpS x.tag y.tag), .int .i64 (Lib.compareBytes x.root y.root), .int .i64 (cmpI x.files y.files), .int .i64 (cmpI x.bytes y.bytes)] 3)) (fun e w' => e = .returned (.int .i64 (x.cmp y)) ∧ (v.alloc (.cells #[.int .i64 (cmpI x.time y.time), .int .i64 (cmpS x.host y.host), .int .i64 (cmpS x.tag y.tag), .int .i64 (Lib.compareBytes x.root y.root), .int .i64 (cmpI x.files y.files), .int .i64 (cmpI x.bytes y.bytes)] 3)) = w') from fun v => by
    refine or_any ⟨v.heap.size, 0, none⟩ 6 [cmpI x.time y.time, cmpS x.host y.host, cmpS x.tag y.tag, Lib.compareBytes x.root y.root, cmpI x.files y.files, cmpI x.bytes y.bytes] _ (fun i n hn => ?_) (by simp)
    rw [plain_add, Nat.zero_add, cell_of_row _ _ i _ _ _ (heap_alloc_at rfl)]
    have e : (#[Value.int .i64 (cmpI x.time y.time), .int .i64 (cmpS x.host y.host), .int .i64 (cmpS x.tag y.tag), .int .i64 (Lib.compareBytes x.root y.root), .int .i64 (cmpI x.files y.files), .int .i64 (cmpI x.bytes y.bytes)] : Array Value) = ([cmpI x.time y.time, cmpS x.host y.host, cmpS x.tag y.tag, Lib.compareBytes x.root y.root, cmpI x.files y.files, cmpI x.bytes y.bytes].map (Value.int .i64)).toArray := rfl
    rw [e, List.getElem?_toArray, List.getElem?_map, hn]; rfl)
  generalize cmpI x.time y.time = q1 at *
  generalize cmpS x.host y.host = q2 at *
  generalize cmpS x.tag y.tag = q3 at *
  generalize Lib.compareBytes x.root y.root = q4 at *
  generalize cmpI x.files y.files = q5 at *
  generalize cmpI x.bytes y.bytes = q6 at *
  refine runH 30 rfl (by kernel_rfl) (by rfl) (.slice (some ⟨vv.heap.size, 0, none⟩) 6 6) (vv.alloc (.cells #[.int .i64 q1, .int .i64 q2, .int .i64 q3, .int .i64 q4, .int .i64 q5, .int .i64 q6] 3)) (by go_simp) (hH.alloc _) ?_
  simp only [Act.put, List.setIfInBounds_toArray, List.set_cons_succ, List.set_cons_zero]
  refine callH 31 rfl (by kernel_rfl) (by rfl) 47 #[.slice (some ⟨vv.heap.size, 0, none⟩) 6 6] (by go_simp) (.int .i64 (x.cmp y)) (hH.alloc _) (fun hS => (hor.out vv).mono fun e w' h => ⟨h.1, h.2 ▸ hS⟩) ?_
  clear hH
  intro vz hH
  simp only [Act.put, List.setIfInBounds_toArray, List.set_cons_succ, List.set_cons_zero]
  refine takeH 32 (.int .i64 (x.cmp y)) rfl (by kernel_rfl) (by kernel_rfl) (by kernel_rfl) (fun _ _ _ h => h) (by rfl) (fun v hv => by go_simp) hH ?_
  simp only [Act.put, List.setIfInBounds_toArray, List.set_cons_succ, List.set_cons_zero]
  refine wpAnyH_done (by kernel_rfl) ?_ _
  have HG := hid (show Grown w vz from by
    obtain ⟨q1, os1, e1⟩ := HGW.out
    obtain ⟨q2, os2, e2⟩ := hH
    subst e1
    exact ⟨q1 + q2, os1 ++ os2, by rw [e2]; show grow (grow ((w.drewN q1).drewN q2) os1) os2 = _; rw [grow_grow, World.drewN_drewN]⟩)
  go_wp2
  go_ret
  exact ⟨rfl, HG.out⟩

set_option maxRecDepth 100000 in
set_option maxHeartbeats 2000000 in
theorem j_snapless (x y : Sp) (hx : x.ok) (hy : y.ok) (w : World) :
    Calls Try.prog 39 #[.agg x.cells.toArray, .agg y.cells.toArray] w fun e w' => e = .returned (.bool (decide (x.cmp y < 0))) ∧ Kept [] w w' := by
  obtain ⟨cx, hcx⟩ : ∃ cx, cx = x.cells := ⟨_, rfl⟩
  obtain ⟨cy, hcy⟩ : ∃ cy, cy = y.cells := ⟨_, rfl⟩
  obtain ⟨W, hW⟩ : ∃ W, W = (w.alloc (.cells cx.toArray 42)).alloc (.cells cy.toArray 42) := ⟨_, rfl⟩
  have K0 := hid (show Kept [] w W by rw [hW]; exact ((Kept.refl [] w).alloc _).alloc _)
  have AX : At W w.heap.size x := by rw [hW, hcx]; exact heap_alloc_old (heap_alloc_at rfl)
  have AY : At W (w.heap.size + 1) y := by rw [hW, hcy]; exact heap_alloc_at (by simp)
  have rx := hid AX.reads; have ry := hid AY.reads
  have ix := hid (Sp.info hx); have iy := hid (Sp.info hy)
  have hc := hid (j_compare x y hx hy W)
  rw [← hcx] at rx ix hc
  rw [← hcy] at ry iy hc
  rw [hW] at rx ry hc
  rw [← hcx, ← hcy]
  have HW := hid hW
  clear hW hcx hcy AX AY
  obtain ⟨n, hn⟩ : ∃ n, n = x.cmp y := ⟨_, rfl⟩
  rw [← hn] at hc ⊢
  clear hn
  go_enter Try.func39, Try.ntmps39
  go_wp2_with (first | (refine wpList_load_cells rfl 42 (.tmp 2) rfl ⟨w.heap.size, 0, none⟩ rfl cx _ Try.underlying42 rfl ix.out rx.out ?_) | (refine wpList_load_cells rfl 42 (.tmp 3) rfl ⟨w.heap.size + 1, 0, none⟩ rfl cy _ Try.underlying42 rfl iy.out ry.out ?_))
  refine hc.out.mono ?_
  rintro e w1 ⟨rfl, g1⟩
  have K1 := hid (K0.out.trans (HW.out ▸ g1.kept))
  clear g1 hc
  go_wp2
  go_ret
  exact ⟨rfl, K1.out⟩
end Go.Proofs.Ytkabfdclecbnpaa
