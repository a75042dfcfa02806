import Derived.Test.YtmkdjonlfkfnlaaDoorMC
import Derived.WalkSpells
import Derived.Deep.QuietTactic
import Derived.BigQuiet
import Derived.Deep.RegionWith
import Derived.StillTailTactics
import Derived.Deep.LoopGhost
import Derived.Deep.RegionHeld3
import Derived.RegionDies

/- code.Writer.Bytes, of bytes that stand. -/
namespace Go.Proofs.YtmkdjonlfkfnlaaDoor
open Go.RowKit Go.Lib

end Go.Proofs.YtmkdjonlfkfnlaaDoor


/- CRC-32C: plain mathematics on words of 32 bits. No program is named here. -/
namespace Go.Proofs.YtmkdjonlfkfnlaaDoor
namespace Crc
abbrev W32 := BitVec 32
def P : W32 := 0x82F63B78#32
/-- One bit is shifted out. -/
def T (s : W32) : W32 := (s >>> 1) ^^^ (if s.getLsbD 0 then P else 0#32)
def Tn : Nat → W32 → W32
  | 0, s => s
  | n + 1, s => Tn n (T s)
theorem T_xor (a b : W32) : T (a ^^^ b) = T a ^^^ T b := by
  unfold T
  rw [BitVec.ushiftRight_xor_distrib, BitVec.getLsbD_xor]
  cases a.getLsbD 0 <;> cases b.getLsbD 0 <;> simp
  · rw [BitVec.xor_assoc]
  · rw [BitVec.xor_assoc, BitVec.xor_assoc, BitVec.xor_comm P]
  · rw [← BitVec.xor_assoc, BitVec.xor_assoc (a >>> 1) P, BitVec.xor_comm P, ← BitVec.xor_assoc, BitVec.xor_assoc _ P P]; simp
theorem T_zero : T 0#32 = 0#32 := by decide
theorem Tn_xor (n : Nat) : ∀ a b : W32, Tn n (a ^^^ b) = Tn n a ^^^ Tn n b := by
  induction n with
  | zero => intro a b; rfl
  | succ n ih => intro a b; simp only [Tn, T_xor, ih]
theorem Tn_zero (n : Nat) : Tn n 0#32 = 0#32 := by
  induction n with
  | zero => rfl
  | succ n ih => simp only [Tn, T_zero, ih]
theorem Tn_add (m n : Nat) (s : W32) : Tn (m + n) s = Tn n (Tn m s) := by
  induction m generalizing s with
  | zero => simp [Tn]
  | succ m ih => rw [Nat.add_right_comm]; simp only [Tn, ih]
theorem T_msb (s : W32) : (T s).getLsbD 31 = s.getLsbD 0 := by
  unfold T
  rw [BitVec.getLsbD_xor, BitVec.getLsbD_ushiftRight, BitVec.getLsbD_of_ge s (1 + 31) (by decide)]
  cases s.getLsbD 0 <;> decide
theorem T_inj0 (s : W32) (h : T s = 0#32) : s = 0#32 := by
  have h0 : s.getLsbD 0 = false := by rw [← T_msb, h]; rfl
  unfold T at h
  rw [h0] at h
  simp at h
  apply BitVec.eq_of_getLsbD_eq
  intro i hi
  rcases i with _ | i
  · rw [h0]; rfl
  · have : (s >>> 1).getLsbD i = false := by rw [h]; simp
    rw [BitVec.getLsbD_ushiftRight, Nat.add_comm] at this
    rw [this]; simp
theorem Tn_inj0 (n : Nat) : ∀ s : W32, Tn n s = 0#32 → s = 0#32 := by
  induction n with
  | zero => intro s h; exact h
  | succ n ih => intro s h; exact T_inj0 s (ih _ h)
theorem xor_eq_zero {a b : W32} (h : a ^^^ b = 0#32) : a = b := by
  have : a ^^^ b ^^^ b = 0#32 ^^^ b := by rw [h]
  rw [BitVec.xor_assoc] at this
  simpa using this
theorem Tn_inj (n : Nat) (a b : W32) (h : Tn n a = Tn n b) : a = b := by
  apply xor_eq_zero
  apply Tn_inj0 n
  rw [Tn_xor, h]; simp
/-- While the lowest bits are noughts T only shifts. -/
theorem Tn_shl (n : Nat) : ∀ (k : Nat) (x : W32), k = n → x.toNat * 2 ^ n < 2 ^ 32 → Tn n (x <<< n) = x := by
  induction n with
  | zero => intro k x _ _; simp [Tn]
  | succ n ih =>
    intro k x _ hx
    have hT : T (x <<< (n + 1)) = x <<< n := by
      unfold T
      have h0 : (x <<< (n + 1)).getLsbD 0 = false := by simp
      rw [h0]
      simp
      apply BitVec.eq_of_toNat_eq
      rw [Nat.pow_succ] at hx
      have e1 : x.toNat * (2 ^ n * 2) = (x.toNat * 2 ^ n) * 2 := by rw [Nat.mul_assoc]
      rw [e1] at hx
      simp only [BitVec.toNat_ushiftRight, BitVec.toNat_shiftLeft, Nat.shiftLeft_eq, Nat.shiftRight_eq_div_pow, Nat.pow_succ]
      rw [e1, Nat.mod_eq_of_lt hx, Nat.mod_eq_of_lt (by omega)]
      omega
    simp only [Tn, hT]
    exact ih n x rfl (by rw [Nat.pow_succ, ← Nat.mul_assoc] at hx; omega)
/-- A table of what becomes of four bits that are shifted out. -/
def tbl : List Nat := [0x00000000, 0x105ec76f, 0x20bd8ede, 0x30e349b1, 0x417b1dbc, 0x5125dad3, 0x61c69362, 0x7198540d, 0x82f63b78, 0x92a8fc17, 0xa24bb5a6, 0xb21572c9, 0xc38d26c4, 0xd3d3e1ab, 0xe330a81a, 0xf36e6f75]
theorem tbl_T : ∀ k : Fin 16, Tn 4 (BitVec.ofNat 32 k.val) = BitVec.ofNat 32 (tbl.getD k.val 0) := by decide
theorem nib (s : W32) : Tn 4 s = (s >>> 4) ^^^ BitVec.ofNat 32 (tbl.getD (s.toNat % 16) 0) := by
  have e : s = ((s >>> 4) <<< 4) ^^^ BitVec.ofNat 32 (s.toNat % 16) := by
    apply BitVec.eq_of_getLsbD_eq
    intro i hi
    have h16 : s.toNat % 16 = s.toNat % 2 ^ 4 := rfl
    simp only [BitVec.getLsbD_xor, BitVec.getLsbD_shiftLeft, BitVec.getLsbD_ushiftRight, BitVec.getLsbD_ofNat, h16, Nat.testBit_mod_two_pow]
    by_cases h : i < 4
    · simp [h, hi, BitVec.getLsbD]
    · have h4 : 4 + (i - 4) = i := by omega
      simp [h, hi, h4]
  have hlt : (s >>> 4).toNat * 2 ^ 4 < 2 ^ 32 := by
    simp only [BitVec.toNat_ushiftRight, Nat.shiftRight_eq_div_pow]
    have := s.isLt
    omega
  conv => lhs; rw [e, Tn_xor, Tn_shl 4 4 _ rfl hlt]
  rw [tbl_T ⟨s.toNat % 16, Nat.mod_lt _ (by omega)⟩]
/-- A byte more. -/
def put (s : W32) (c : UInt8) : W32 := Tn 8 (s ^^^ BitVec.ofNat 32 c.toNat)
def feed (s : W32) (l : List UInt8) : W32 := l.foldl put s
def sum (l : List UInt8) : W32 := ~~~ feed (BitVec.allOnes 32) l
theorem feed_nil (s : W32) : feed s [] = s := rfl
theorem feed_cons (s : W32) (c : UInt8) (l : List UInt8) : feed s (c :: l) = feed (put s c) l := rfl
theorem feed_append (s : W32) (l m : List UInt8) : feed s (l ++ m) = feed (feed s l) m := List.foldl_append
theorem put_nib (s : W32) (c : UInt8) : put s c = Tn 4 (Tn 4 (s ^^^ BitVec.ofNat 32 c.toNat)) := Tn_add 4 4 _
theorem of_xor (a b : UInt8) : BitVec.ofNat 32 (a ^^^ b).toNat = BitVec.ofNat 32 a.toNat ^^^ BitVec.ofNat 32 b.toNat := by
  rw [UInt8.toNat_xor]
  apply BitVec.eq_of_getLsbD_eq
  intro i hi
  simp [hi]
theorem put_xor (s t : W32) (a b : UInt8) : put (s ^^^ t) (a ^^^ b) = put s a ^^^ put t b := by
  unfold put
  rw [of_xor, ← Tn_xor]
  congr 1
  ac_rfl
def xors (a b : List UInt8) : List UInt8 := List.zipWith (· ^^^ ·) a b
theorem feed_xor : ∀ (a b : List UInt8) (s t : W32), a.length = b.length → feed (s ^^^ t) (xors a b) = feed s a ^^^ feed t b
  | [], [], s, t, _ => rfl
  | x :: a, y :: b, s, t, h => by
    have := feed_xor a b (put s x) (put t y) (by simpa using h)
    simp only [xors, List.zipWith_cons_cons, feed_cons, put_xor] at *
    exact this
  | [], _ :: _, _, _, h => by simp at h
  | _ :: _, [], _, _, h => by simp at h
theorem feed_zeros (n : Nat) (s : W32) : feed s (List.replicate n 0) = Tn (8 * n) s := by
  induction n generalizing s with
  | zero => rfl
  | succ n ih =>
    rw [List.replicate_succ, feed_cons, ih, show 8 * (n + 1) = 8 + 8 * n by omega, Tn_add]
    congr 1
    simp [put]
theorem xors_zero (a : List UInt8) : xors a (List.replicate a.length 0) = a := by
  induction a with
  | nil => rfl
  | cons x a ih =>
    simp only [xors, List.length_cons, List.replicate_succ, List.zipWith_cons_cons] at *
    rw [ih]; simp
/-- How the state hangs on the start: by turning. -/
theorem feed_start (l : List UInt8) (s t : W32) : feed (s ^^^ t) l = feed s l ^^^ Tn (8 * l.length) t := by
  have := feed_xor l (List.replicate l.length 0) s t (by simp)
  rw [xors_zero, feed_zeros] at this
  exact this
theorem not_xor (x : W32) : ~~~ x = x ^^^ BitVec.allOnes 32 := by rw [BitVec.xor_allOnes]
/-- The sums of two rows of as many bytes. -/
theorem sum_xor (a b : List UInt8) (h : a.length = b.length) : sum (xors a b) = sum a ^^^ sum b ^^^ sum (List.replicate a.length 0) := by
  have h1 := feed_xor a b (BitVec.allOnes 32) 0#32 h
  have h2 := feed_start b 0#32 (BitVec.allOnes 32)
  have e1 : (0#32 : W32) ^^^ BitVec.allOnes 32 = BitVec.allOnes 32 := by decide
  have e2 : (BitVec.allOnes 32 : W32) ^^^ 0#32 = BitVec.allOnes 32 := by decide
  rw [e1] at h2
  rw [e2] at h1
  unfold sum
  rw [feed_zeros, h1, h2, h, not_xor, not_xor, not_xor, not_xor]
  have key : ∀ a f t o : W32, (a ^^^ f) ^^^ o = (a ^^^ o) ^^^ ((f ^^^ t) ^^^ o) ^^^ (t ^^^ o) := by
    intro a f t o
    have e : (a ^^^ o) ^^^ ((f ^^^ t) ^^^ o) ^^^ (t ^^^ o) = a ^^^ f ^^^ o ^^^ (t ^^^ t) ^^^ (o ^^^ o) := by ac_rfl
    rw [e]; simp
  exact key _ _ _ _
/-- A word's bytes, the lowest first. -/
def le (v : Nat) : List UInt8 := [UInt8.ofNat v, UInt8.ofNat (v / 256), UInt8.ofNat (v / 65536), UInt8.ofNat (v / 16777216)]
theorem byte_w (v : Nat) (k : Nat) : BitVec.ofNat 32 (UInt8.ofNat (v / 2 ^ (8 * k))).toNat = ((BitVec.ofNat 32 (v / 2 ^ (8 * k))) &&& 255#32) := by
  apply BitVec.eq_of_getLsbD_eq
  intro i hi
  have h255 : (255 : Nat) = 2 ^ 8 - 1 := rfl
  simp only [UInt8.toNat_ofNat', BitVec.getLsbD_ofNat, BitVec.getLsbD_and, h255, Nat.testBit_two_pow_sub_one, Nat.testBit_mod_two_pow]
  by_cases h8 : i < 8 <;> simp [h8, hi]
theorem put_shift (s x : W32) (c : UInt8) (hx : x.toNat < 2 ^ 24) : put (s ^^^ ((x <<< 8) ^^^ BitVec.ofNat 32 c.toNat)) 0 = Tn 8 (s ^^^ BitVec.ofNat 32 c.toNat) ^^^ x := by
  unfold put
  have e : s ^^^ ((x <<< 8) ^^^ BitVec.ofNat 32 c.toNat) ^^^ BitVec.ofNat 32 (0 : UInt8).toNat = (s ^^^ BitVec.ofNat 32 c.toNat) ^^^ (x <<< 8) := by
    have e0 : BitVec.ofNat 32 (0 : UInt8).toNat = 0#32 := rfl
    rw [e0]
    simp only [BitVec.xor_zero]
    ac_rfl
  rw [e, Tn_xor, Tn_shl 8 8 x rfl (by omega)]
theorem split8 (v : Nat) : BitVec.ofNat 32 v = (BitVec.ofNat 32 (v / 256 % 2 ^ 24) <<< 8) ^^^ BitVec.ofNat 32 (UInt8.ofNat v).toNat := by
  apply BitVec.eq_of_getLsbD_eq
  intro i hi
  have h8 : (256 : Nat) = 2 ^ 8 := rfl
  simp only [UInt8.toNat_ofNat', BitVec.getLsbD_ofNat, BitVec.getLsbD_xor, BitVec.getLsbD_shiftLeft, Nat.testBit_mod_two_pow, h8, Nat.testBit_div_two_pow]
  by_cases h : i < 8
  · simp [h, hi]
  · have e : 8 + (i - 8) = i := by omega
    have e2 : i - 8 + 8 = i := by omega
    have h24 : i - 8 < 24 := by omega
    have h32 : i - 8 < 32 := by omega
    simp [h, hi, e2, h24, h32]
/-- A word's four bytes, fed: the word is turned in at once. -/
theorem feed_le (s : W32) (v : Nat) (hv : v < 2 ^ 32) : feed s (le v) = Tn 32 (s ^^^ BitVec.ofNat 32 v) := by
  have step : ∀ (s : W32) (v : Nat), Tn 8 (s ^^^ BitVec.ofNat 32 v) = put s (UInt8.ofNat v) ^^^ BitVec.ofNat 32 (v / 256 % 2 ^ 24) := by
    intro s v
    conv => lhs; rw [split8 v]
    have e : s ^^^ ((BitVec.ofNat 32 (v / 256 % 2 ^ 24) <<< 8) ^^^ BitVec.ofNat 32 (UInt8.ofNat v).toNat) = (s ^^^ BitVec.ofNat 32 (UInt8.ofNat v).toNat) ^^^ (BitVec.ofNat 32 (v / 256 % 2 ^ 24) <<< 8) := by ac_rfl
    have hl : (BitVec.ofNat 32 (v / 256 % 2 ^ 24)).toNat * 2 ^ 8 < 2 ^ 32 := by
      rw [BitVec.toNat_ofNat]
      have := Nat.mod_lt (v / 256) (show 0 < 2 ^ 24 by decide)
      rw [Nat.mod_eq_of_lt (by omega)]
      omega
    rw [e, Tn_xor, Tn_shl 8 8 _ rfl hl]
    rfl
  have d1 : v / 256 % 2 ^ 24 = v / 256 := Nat.mod_eq_of_lt (by omega)
  have d2 : v / 256 / 256 % 2 ^ 24 = v / 65536 := by rw [Nat.div_div_eq_div_mul]; exact Nat.mod_eq_of_lt (by omega)
  have d3 : v / 65536 / 256 % 2 ^ 24 = v / 16777216 := by rw [Nat.div_div_eq_div_mul]; exact Nat.mod_eq_of_lt (by omega)
  have d4 : v / 16777216 / 256 % 2 ^ 24 = 0 := by rw [Nat.div_div_eq_div_mul]; have : v / (16777216 * 256) = 0 := Nat.div_eq_of_lt (by omega); rw [this]
  unfold le
  rw [feed_cons, feed_cons, feed_cons, feed_cons, feed_nil]
  show _ = Tn (8 + (8 + (8 + 8))) _
  rw [Tn_add, Tn_add, Tn_add, step, d1, step, d2, step, d3, step, d4]
  simp
/-- Bytes and their sum always come to the same. -/
def R : W32 := Tn 32 (BitVec.allOnes 32)
theorem feed_sum (l : List UInt8) (v : Nat) (hv : v < 2 ^ 32) : feed (BitVec.allOnes 32) (l ++ le v) = R ↔ v = (sum l).toNat := by
  rw [feed_append, feed_le _ _ hv]
  unfold R sum
  constructor
  · intro h
    have h2 := Tn_inj 32 _ _ h
    have h3 : BitVec.ofNat 32 v = feed (BitVec.allOnes 32) l ^^^ BitVec.allOnes 32 := by
      generalize feed (BitVec.allOnes 32) l = f at h2 ⊢
      rw [← h2, ← BitVec.xor_assoc]; simp
    rw [not_xor, ← h3, BitVec.toNat_ofNat, Nat.mod_eq_of_lt hv]
  · rintro rfl
    congr 1
    rw [BitVec.ofNat_toNat, not_xor, BitVec.setWidth_eq, ← BitVec.xor_assoc]
    simp
theorem sum_whole (l : List UInt8) : sum (l ++ le (sum l).toNat) = sum (List.replicate 4 0) := by
  have h := (feed_sum l _ (sum l).isLt).2 rfl
  unfold sum at *
  rw [h, feed_zeros]
  rfl
/-- One bit is turned. -/
def flip (l : List UInt8) (p : Nat) : List UInt8 := l.modify (p / 8) (· ^^^ UInt8.ofNat (2 ^ (p % 8)))
theorem flip_len (l : List UInt8) (p : Nat) : (flip l p).length = l.length := by simp [flip]
theorem pow_bit (k : Nat) (hk : k < 8) : Tn 8 (BitVec.ofNat 32 (UInt8.ofNat (2 ^ k)).toNat) = Tn (8 - k) 1#32 := by
  have : ∀ k : Fin 8, Tn 8 (BitVec.ofNat 32 (UInt8.ofNat (2 ^ k.val)).toNat) = Tn (8 - k.val) 1#32 := by decide
  exact this ⟨k, hk⟩
theorem put_bit (s : W32) (c : UInt8) (k : Nat) (hk : k < 8) : put s (c ^^^ UInt8.ofNat (2 ^ k)) = put s c ^^^ Tn (8 - k) 1#32 := by
  unfold put
  rw [of_xor, ← BitVec.xor_assoc, Tn_xor, pow_bit k hk]
theorem feed_flip (l : List UInt8) : ∀ (p : Nat) (s : W32), p < 8 * l.length → feed s (flip l p) = feed s l ^^^ Tn (8 * l.length - p) 1#32 := by
  induction l with
  | nil => intro p s h; simp at h
  | cons c l ih =>
    intro p s h
    by_cases h8 : p < 8
    · have e : p / 8 = 0 := by omega
      have e2 : p % 8 = p := by omega
      unfold flip
      rw [e, e2]
      simp only [List.modify_zero_cons, feed_cons]
      rw [put_bit s c p h8, feed_start, ← Tn_add]
      congr 2
      simp; omega
    · have e : p / 8 = (p - 8) / 8 + 1 := by omega
      have e2 : p % 8 = (p - 8) % 8 := by omega
      have := ih (p - 8) (put s c) (by simp at h; omega)
      unfold flip at *
      rw [e, e2, List.modify_succ_cons, feed_cons, feed_cons, this]
      congr 2
      simp; omega
/-- The bits of a number below n, turned from bit p on. -/
def flips (l : List UInt8) (at_ turn : Nat) : Nat → List UInt8
  | 0 => l
  | n + 1 => if turn.testBit n then flip (flips l at_ turn n) (at_ + n) else flips l at_ turn n
theorem flips_len (l : List UInt8) (a t n : Nat) : (flips l a t n).length = l.length := by
  induction n with
  | zero => rfl
  | succ n ih => unfold flips; split <;> simp [flip_len, ih]
theorem Tn_pow (m n : Nat) (hn : n < 32) (h : n ≤ m) : Tn m (BitVec.ofNat 32 (2 ^ n)) = Tn (m - n) 1#32 := by
  have e : BitVec.ofNat 32 (2 ^ n) = (1#32) <<< n := by
    apply BitVec.eq_of_toNat_eq
    simp [Nat.shiftLeft_eq]
  have e2 : m = n + (m - n) := by omega
  conv => lhs; rw [e2]
  rw [Tn_add, e, Tn_shl n n _ rfl]
  have : (2 : Nat) ^ n < 2 ^ 32 := Nat.pow_lt_pow_right (by omega) hn
  simpa using this
theorem low_succ (t n : Nat) (hn : n < 32) : BitVec.ofNat 32 (t % 2 ^ (n + 1)) = if t.testBit n then BitVec.ofNat 32 (t % 2 ^ n) ^^^ BitVec.ofNat 32 (2 ^ n) else BitVec.ofNat 32 (t % 2 ^ n) := by
  apply BitVec.eq_of_getLsbD_eq
  intro i hi
  by_cases ht : t.testBit n
  · rw [if_pos ht]
    simp only [BitVec.getLsbD_ofNat, BitVec.getLsbD_xor, Nat.testBit_mod_two_pow, Nat.testBit_two_pow]
    rcases Nat.lt_trichotomy i n with h | h | h
    · simp [hi, h, show i < n + 1 by omega, show n ≠ i by omega]
    · subst h; simp [hi, ht]
    · simp [hi, show ¬ i < n by omega, show ¬ i < n + 1 by omega, show n ≠ i by omega]
  · rw [if_neg ht]
    simp only [BitVec.getLsbD_ofNat, Nat.testBit_mod_two_pow]
    rcases Nat.lt_trichotomy i n with h | h | h
    · simp [hi, h, show i < n + 1 by omega]
    · subst h; simp [hi, ht]
    · simp [hi, show ¬ i < n by omega, show ¬ i < n + 1 by omega]
theorem feed_flips (l : List UInt8) (a t : Nat) (s : W32) (ha : a + 32 ≤ 8 * l.length) : ∀ n, n ≤ 32 → feed s (flips l a t n) = feed s l ^^^ Tn (8 * l.length - a) (BitVec.ofNat 32 (t % 2 ^ n)) := by
  intro n
  induction n with
  | zero => intro _; simp [flips, Nat.mod_one, Tn_zero]
  | succ n ih =>
    intro hn
    have := ih (by omega)
    rw [low_succ t n (by omega)]
    unfold flips
    split
    · rw [feed_flip _ _ _ (by rw [flips_len]; omega), this, flips_len, Tn_xor, Tn_pow _ n (by omega) (by omega), BitVec.xor_assoc]
      congr 3
      omega
    · exact this
/-- What is turned within 32 bits is told. -/
theorem burst (l : List UInt8) (a t : Nat) (ht : t < 2 ^ 32) (ht0 : t ≠ 0) (ha : a + 32 ≤ 8 * l.length) (hl : feed (BitVec.allOnes 32) l = R) : feed (BitVec.allOnes 32) (flips l a t 32) ≠ R := by
  rw [feed_flips l a t _ ha 32 (by omega), hl, Nat.mod_eq_of_lt ht]
  intro h
  have h2 : Tn (8 * l.length - a) (BitVec.ofNat 32 t) = 0#32 := by
    have : R ^^^ (R ^^^ Tn (8 * l.length - a) (BitVec.ofNat 32 t)) = R ^^^ R := by rw [h]
    rw [← BitVec.xor_assoc] at this
    simpa using this
  have h3 := congrArg BitVec.toNat (Tn_inj0 _ _ h2)
  simp at h3
  omega
/-- Bit by bit: the document's way. -/
theorem T_bit (s : W32) (b : Bool) : T (s ^^^ (if b then 1#32 else 0#32)) = (s >>> 1) ^^^ (if (s.getLsbD 0 ^^ b) then P else 0#32) := by
  rw [T_xor]
  unfold T
  have e1 : (1#32 : W32) >>> 1 = 0#32 := by decide
  have e2 : (1#32 : W32).getLsbD 0 = true := by decide
  cases s.getLsbD 0 <;> cases b <;> simp [BitVec.xor_assoc]
end Crc
end Go.Proofs.YtmkdjonlfkfnlaaDoor


/- seal.Sum: what it tells. -/
namespace Go.Proofs.YtmkdjonlfkfnlaaDoor
open Go.RowKit Go.Lib

theorem xor_u32 (a b : Nat) (ha : a < 4294967296) (hb : b < 4294967296) : bits .xor .u32 (a : Int) (b : Int) = ((a ^^^ b : Nat) : Int) := by
  have key : (BitVec.ofInt 32 (a : Int) ^^^ BitVec.ofInt 32 (b : Int)).toNat = a ^^^ b := by
    rw [BitVec.toNat_xor, BitVec.toNat_ofInt, BitVec.toNat_ofInt]
    have h1 : ((a : Int) % ((2 ^ 32 : Nat) : Int)).toNat = a := by omega
    have h2 : ((b : Int) % ((2 ^ 32 : Nat) : Int)).toNat = b := by omega
    rw [h1, h2]
  have hx : a ^^^ b < 2 ^ 32 := Nat.xor_lt_two_pow (by omega) (by omega)
  show IntKind.u32.wrap ((BitVec.ofInt 32 (a : Int) ^^^ BitVec.ofInt 32 (b : Int)).toNat : Nat) = _
  rw [key, IntKind.wrap_u32]
  omega
theorem and15_u32 (a : Nat) (ha : a < 4294967296) : bits .and .u32 (a : Int) 15 = ((a % 16 : Nat) : Int) := by
  have key : (BitVec.ofInt 32 (a : Int) &&& BitVec.ofInt 32 15).toNat = a % 16 := by
    rw [BitVec.toNat_and, BitVec.toNat_ofInt]
    have h1 : ((a : Int) % ((2 ^ 32 : Nat) : Int)).toNat = a := by omega
    have h2 : (BitVec.ofInt 32 15).toNat = 2 ^ 4 - 1 := by decide
    rw [h1, h2, Nat.and_two_pow_sub_one_eq_mod]
  show IntKind.u32.wrap ((BitVec.ofInt 32 (a : Int) &&& BitVec.ofInt 32 15).toNat : Nat) = _
  rw [key, IntKind.wrap_u32]
  omega

theorem start_tab (s : Crc.W32) (b : UInt8) : bits .xor .u32 (s.toNat : Int) (b.toNat : Int) = (((s ^^^ BitVec.ofNat 32 b.toNat).toNat : Nat) : Int) := by
  have hs := s.isLt
  have hb := b.toNat_lt
  rw [xor_u32 _ _ (by omega) (by omega), BitVec.toNat_xor, BitVec.toNat_ofNat, Nat.mod_eq_of_lt (by omega)]
theorem not_tab (s : Crc.W32) : bits .xor .u32 IntKind.u32.max (s.toNat : Int) = (((~~~ s).toNat : Nat) : Int) := by
  have hs := s.isLt
  rw [show IntKind.u32.max = ((4294967295 : Nat) : Int) from rfl, xor_u32 _ _ (by omega) (by omega), Crc.not_xor, BitVec.toNat_xor, BitVec.toNat_allOnes, Nat.xor_comm]

end Go.Proofs.YtmkdjonlfkfnlaaDoor


/- seal.want, seal.summed, seal.Seal. -/
namespace Go.Proofs.YtmkdjonlfkfnlaaDoor
open Go.RowKit Go.Lib

/-- A call that gives a row of bytes of its own; of what was there only the blocks of S may read otherwise. -/
def Gives (w : World) (S : List Nat) (bs : List UInt8) (e : Ending) (w' : World) : Prop :=
  ∃ a c, e = .returned (.slice a bs.length c) ∧ Kept S w w' ∧ w'.ownsRow w.heap.size 5 1 (.slice a bs.length c) bs.length (bs.map B)

theorem numB_le (v : Nat) : numB v 4 = Crc.le v := by simp [numB, Crc.le, List.range_succ]
theorem numB_byte (b : UInt8) : numB b.toNat 1 = [b] := by simp [numB]

theorem ownsRow_src {w : World} {base : Nat} {v : Value} {xs : List UInt8} (h : w.ownsRow base 5 1 v xs.length (xs.map B)) : SrcB w v xs := by
  obtain ⟨a, c, rfl⟩ := owns_slice h
  exact (bys_of_row h).1

/-- The bytes and their sum. -/
def withSum (xs : List UInt8) : List UInt8 := xs ++ numB (Crc.sum xs).toNat 4
theorem withSum_len (xs : List UInt8) : (withSum xs).length = xs.length + 4 := by simp [withSum, numB_len]

/-- What is sealed. -/
def sealed (kind : UInt8) (ys : List UInt8) : List UInt8 := withSum (kind :: ys)

end Go.Proofs.YtmkdjonlfkfnlaaDoor


/- seal.Unseal. -/
namespace Go.Proofs.YtmkdjonlfkfnlaaDoor
open Go.RowKit Go.Lib

/-- What unsealing bytes by a kind gives: the error's number, and the bytes. -/
def unsealErr (kind : UInt8) (xs : List UInt8) : Int :=
  if xs.length < 5 then 20 else if numOf (xs.drop (xs.length - 4)) ≠ (Crc.sum (xs.take (xs.length - 4))).toNat then 36 else if xs.head? ≠ some kind then 21 else 0
def unsealed (kind : UInt8) (xs : List UInt8) : List UInt8 := if unsealErr kind xs = 0 then (xs.take (xs.length - 4)).drop 1 else []

/-- Behind the reading: the error, and the body's cell. -/
def UnQ (pd b0 : Nat) (kind : UInt8) (xs : List UInt8) (n : Int) (rest : List UInt8) (W' : World) : Prop :=
  n = unsealErr kind xs ∧ (n = 0 → rest = []) ∧ ∃ a' c', W'.heap[pd]? = some (.cells #[.slice a' (unsealed kind xs).length c'] 30 (0, 0)) ∧ Bys W' a' c' (unsealed kind xs) ∧ ∀ x, a' = some x → b0 ≤ x.block

theorem unQ_none {pd b0 : Nat} {kind : UInt8} {xs : List UInt8} {rest : List UInt8} {n : Int} {W' : World} (he : n = unsealErr kind xs) (hn : n ≠ 0) (hd : W'.heap[pd]? = some (.cells #[.slice none 0 0] 30 (0, 0))) : UnQ pd b0 kind xs n rest W' := by
  have e : unsealed kind xs = [] := by unfold unsealed; rw [if_neg (by rw [← he]; exact hn)]
  refine ⟨he, fun h => absurd h hn, none, 0, by rw [e]; exact hd, ?_, fun x hx => by simp at hx⟩
  rw [e]
  exact ⟨Or.inl ⟨rfl, rfl, rfl⟩, fun x hx => by simp at hx⟩

theorem Bys.drop1 {w : World} {a : Option Addr} {m : Nat} {ys : List UInt8} (h : Bys w a m ys) (hm : ys.length = m) (h1 : 1 ≤ m) : Bys w (behind a m 1) (m - 1) (ys.drop 1) := by
  rcases h.1 with ⟨h1', h2, _⟩ | ⟨x, c', h1', hc⟩
  · omega
  · simp at h1'
    obtain ⟨rfl, rfl⟩ := h1'
    refine ⟨?_, behind_plain h.2⟩
    by_cases hm1 : m = 1
    · subst hm1
      have e : ys.drop 1 = [] := List.drop_eq_nil_of_le (by omega)
      rw [e]
      exact Or.inr ⟨x, 0, by simp [behind], fun j u hj => by simp at hj⟩
    · refine Or.inr ⟨x.add 1, m - 1, by simp [behind, hm1], fun j u hj => ?_⟩
      rw [add_add]
      refine hc (1 + j) u ?_
      rw [List.getElem?_map] at hj ⊢; rw [List.getElem?_drop] at hj; exact hj

end Go.Proofs.YtmkdjonlfkfnlaaDoor


/- seal.Unseal: whole. -/
namespace Go.Proofs.YtmkdjonlfkfnlaaDoor
open Go.RowKit Go.Lib

/-- What Unseal gives: bytes of its own, and the error's number. -/
def Unsealed (w : World) (kind : UInt8) (xs : List UInt8) (e : Ending) (w' : World) : Prop :=
  ∃ a c, e = .returned (.tuple #[.slice a (unsealed kind xs).length c, .int .i64 (unsealErr kind xs)]) ∧ Kept [] w w' ∧ Bys w' a c (unsealed kind xs) ∧ ∀ x, a = some x → w.heap.size ≤ x.block

end Go.Proofs.YtmkdjonlfkfnlaaDoor


/- seal.link, seal.Chain. -/
namespace Go.Proofs.YtmkdjonlfkfnlaaDoor
open Go.RowKit Go.Lib

/-- A row of rows of bytes, wherever it lies. -/
def IsRows (w : World) (a : Option Addr) (rows : List (List UInt8)) : Prop :=
  (a = none → rows = []) ∧ ∀ x, a = some x → ∀ i r, rows[i]? = some r → ∃ ar cr, w.cell? (x.add i) = some (.slice ar r.length cr) ∧ SrcB w (.slice ar r.length cr) r

theorem IsRows.kept {w w' : World} {a : Option Addr} {rows : List (List UInt8)} (h : IsRows w a rows) (hk : Kept [] w w') : IsRows w' a rows :=
  ⟨h.1, fun x hx i r hi => by
    obtain ⟨ar, cr, h1, h2⟩ := h.2 x hx i r hi
    exact ⟨ar, cr, (hk.cell (World.block_lt_of_cell? w _ h1) (by simp)).trans h1, h2.kept hk (by simp)⟩⟩

/-- A row as it stands in a chain; a chain. -/
def linkB (r : List UInt8) : List UInt8 := withSum (numB r.length 4 ++ r)
theorem linkB_len (r : List UInt8) : (linkB r).length = r.length + 8 := by simp [linkB, withSum_len, numB_len]; omega
def chainB (rows : List (List UInt8)) : List UInt8 := rows.flatMap linkB
theorem chainB_snoc (rows : List (List UInt8)) (i : Nat) (h : i < rows.length) : chainB (rows.take (i + 1)) = chainB (rows.take i) ++ linkB rows[i] := by
  unfold chainB
  rw [List.take_succ_eq_append_getElem h, List.flatMap_append, List.flatMap_cons, List.flatMap_nil, List.append_nil]
theorem chainB_len {rows : List (List UInt8)} {M : Nat} (h : ∀ r ∈ rows, r.length ≤ M) (i : Nat) : (chainB (rows.take i)).length ≤ (M + 8) * i := by
  induction i with
  | zero => simp [chainB]
  | succ i ih =>
    by_cases hi : i < rows.length
    · rw [chainB_snoc rows i hi, List.length_append, linkB_len, Nat.mul_succ]
      have := h _ (List.getElem_mem hi)
      omega
    · rw [List.take_of_length_le (by omega)] at ih ⊢
      rw [Nat.mul_succ]
      omega

theorem own_later {w' : World} {base b : Nat} {v : Value} {n : Nat} {xs : List Value} (hb : b ≤ base) (h : w'.ownsRow base 5 1 v n xs) : w'.ownsRow b 5 1 v n xs :=
  ⟨h.1, h.2.imp id fun ⟨g, cap, cur, h1, h2, h3⟩ => ⟨g, cap, cur, h1, Nat.le_trans hb h2, h3⟩⟩

end Go.Proofs.YtmkdjonlfkfnlaaDoor


/- Chains as lists: what is whole of them. -/
namespace Go.Proofs.YtmkdjonlfkfnlaaDoor
open Go.RowKit Go.Lib

/-- The row that stands whole ahead, if one does. -/
def row1 (xs : List UInt8) : Option (List UInt8) :=
  if 8 + said xs ≤ xs.length ∧ numOf ((xs.drop (4 + said xs)).take 4) = (Crc.sum (xs.take (4 + said xs))).toNat then some ((xs.drop 4).take (said xs)) else none

/-- Of bytes the rows that are whole, and the rest. -/
inductive Unch : List UInt8 → List (List UInt8) → List UInt8 → Prop
  | stop (xs) : row1 xs = none → Unch xs [] xs
  | more (xs r rows rest) : row1 xs = some r → Unch (xs.drop (8 + said xs)) rows rest → Unch xs (r :: rows) rest

theorem Unch.det {xs : List UInt8} {r1 r2 : List (List UInt8)} {e1 e2 : List UInt8} (h1 : Unch xs r1 e1) (h2 : Unch xs r2 e2) : r1 = r2 ∧ e1 = e2 := by
  induction h1 generalizing r2 with
  | stop xs h =>
    cases h2 with
    | stop _ _ => exact ⟨rfl, rfl⟩
    | more _ r rows _ h' _ => rw [h] at h'; cases h'
  | more xs r rows rest h _ ih =>
    cases h2 with
    | stop _ h' => rw [h] at h'; cases h'
    | more _ r' rows' _ h' h2' =>
      rw [h] at h'
      cases h'
      obtain ⟨h3, h4⟩ := ih h2'
      exact ⟨by rw [h3], h4⟩

theorem said_front' (bs r : List UInt8) (hl : bs.length < 4294967296) : said (numB bs.length 4 ++ bs ++ r) = bs.length := by
  unfold said
  rw [List.append_assoc, List.take_append_of_le_length (by rw [numB_len]; omega), List.take_of_length_le (by rw [numB_len]; omega), numOf_numB]
  exact Nat.mod_eq_of_lt (by omega)

theorem row1_link (r tl : List UInt8) (hl : r.length < 4294967296) : row1 (linkB r ++ tl) = some r ∧ (linkB r ++ tl).drop (8 + said (linkB r ++ tl)) = tl ∧ said (linkB r ++ tl) = r.length := by
  have hs : said (linkB r ++ tl) = r.length := by
    unfold linkB withSum
    rw [List.append_assoc]
    exact said_front' r _ hl
  have hlen : (linkB r ++ tl).length = 8 + r.length + tl.length := by rw [List.length_append, linkB_len]; omega
  have e1 : (linkB r ++ tl).take (4 + r.length) = numB r.length 4 ++ r := by
    unfold linkB withSum
    rw [List.append_assoc]
    exact List.take_left' (by simp [numB_len])
  have e2 : (linkB r ++ tl).drop (4 + r.length) = numB (Crc.sum (numB r.length 4 ++ r)).toNat 4 ++ tl := by
    unfold linkB withSum
    rw [List.append_assoc]
    exact List.drop_left' (by simp [numB_len])
  have e3 : ((linkB r ++ tl).drop 4).take r.length = r := by
    unfold linkB withSum
    rw [List.append_assoc, List.append_assoc, List.drop_left' (numB_len _ _)]
    exact List.take_left' rfl
  refine ⟨?_, ?_, hs⟩
  · unfold row1
    rw [hs, hlen, e1, e2, List.take_left' (numB_len _ _), numOf_numB, if_pos ⟨by omega, Nat.mod_eq_of_lt (Crc.sum (numB r.length 4 ++ r)).isLt⟩, e3]
  · rw [hs]
    exact List.drop_left' (by rw [linkB_len]; omega)

/-- Chained rows are had, ahead of whatever stands behind them. -/
theorem unch_chain (rows : List (List UInt8)) (tl : List UInt8) (r2 : List (List UInt8)) (e : List UInt8) (hl : ∀ r ∈ rows, r.length < 4294967296) (h : Unch tl r2 e) : Unch (chainB rows ++ tl) (rows ++ r2) e := by
  induction rows with
  | nil => simpa [chainB] using h
  | cons r rows ih =>
    have e0 : chainB (r :: rows) ++ tl = linkB r ++ (chainB rows ++ tl) := by simp [chainB]
    rw [e0]
    obtain ⟨h1, h2, _⟩ := row1_link r (chainB rows ++ tl) (hl r (by simp))
    refine Unch.more _ r (rows ++ r2) e h1 ?_
    rw [h2]
    exact ih (fun r hr => hl r (by simp [hr]))
theorem row1_short (xs : List UInt8) (h : xs.length < 8) : row1 xs = none := by
  unfold row1
  rw [if_neg (fun hh => by omega)]
end Go.Proofs.YtmkdjonlfkfnlaaDoor


/- seal.Unchain's closure: words and small lemmas. -/
namespace Go.Proofs.YtmkdjonlfkfnlaaDoor
open Go.RowKit Go.Lib

/-- A slice of bytes, wherever it lies, with its capacity. -/
structure BSl (w : World) (a : Option Addr) (c : Nat) (xs : List UInt8) : Prop where
  src : SrcB w (.slice a xs.length c) xs
  le : xs.length ≤ c
  max : c ≤ maxLen
  nil : a = none → c = 0

theorem BSl.drop {w : World} {a : Option Addr} {c : Nat} {xs : List UInt8} (h : BSl w a c xs) {m : Nat} (hm : m ≤ xs.length) : BSl w (behind a c m) (c - m) (xs.drop m) := by
  have hle := h.le
  have hmx := h.max
  refine ⟨?_, by simp; omega, by omega, fun hb => ?_⟩
  · rcases h.src with ⟨h1, h2, h3⟩ | ⟨x, c', h1, hc⟩
    · have hx : xs = [] := List.eq_nil_of_length_eq_zero h2
      subst hx
      simp at h1 hm
      obtain ⟨rfl, rfl⟩ := h1
      subst hm
      exact Or.inl ⟨by simp [behind], by simp, by simp⟩
    · simp at h1
      obtain ⟨rfl, rfl⟩ := h1
      by_cases hcm : c = m
      · have e : xs.drop m = [] := List.drop_eq_nil_of_le (by omega)
        rw [e]
        exact Or.inr ⟨x, c - m, by simp [behind, hcm], fun j u hj => by simp at hj⟩
      · refine Or.inr ⟨x.add m, c - m, by simp [behind, hcm], fun j u hj => ?_⟩
        rw [add_add]
        refine hc (m + j) u ?_
        rw [List.getElem?_map] at hj ⊢
        rw [List.getElem?_drop] at hj
        exact hj
  · unfold behind at hb
    split at hb
    · omega
    · cases a with
      | none => have := h.nil rfl; omega
      | some x => simp at hb

theorem BSl.take {w : World} {a : Option Addr} {c : Nat} {xs : List UInt8} (h : BSl w a c xs) {m : Nat} (hm : m ≤ xs.length) : SrcB w (.slice a m c) (xs.take m) := by
  have hl : (xs.take m).length = m := by simp; omega
  by_cases hx : xs = []
  · subst hx
    simp at hm
    subst hm
    exact h.src
  · have := h.src.take hm hx
    rwa [hl] at this

/-- Slice values that read as rows of bytes, in blocks that P says. -/
def RowsAt (P : Nat → Prop) (W : World) (vals : List Value) (rows : List (List UInt8)) : Prop :=
  vals.length = rows.length ∧ ∀ (i : Nat) (r : List UInt8), rows[i]? = some r → ∃ a c, vals[i]? = some (Value.slice a r.length c) ∧ Bys W a c r ∧ ∀ x, a = some x → P x.block

theorem RowsAt.nil (P : Nat → Prop) (W : World) : RowsAt P W [] [] := ⟨rfl, fun i r h => by simp at h⟩
theorem RowsAt.kept {P : Nat → Prop} {S : List Nat} {W W' : World} {vals : List Value} {rows : List (List UInt8)} (h : RowsAt P W vals rows) (hk : Kept S W W') (hS : ∀ x ∈ S, ¬ P x) : RowsAt P W' vals rows :=
  ⟨h.1, fun i r hi => by
    obtain ⟨a, c, h1, h2, h3⟩ := h.2 i r hi
    exact ⟨a, c, h1, h2.kept hk (fun x hx hm => hS _ hm (h3 x hx)), h3⟩⟩
theorem RowsAt.weak {P Q : Nat → Prop} {W : World} {vals : List Value} {rows : List (List UInt8)} (h : RowsAt P W vals rows) (hPQ : ∀ k, P k → Q k) : RowsAt Q W vals rows :=
  ⟨h.1, fun i r hi => by
    obtain ⟨a, c, h1, h2, h3⟩ := h.2 i r hi
    exact ⟨a, c, h1, h2, fun x hx => hPQ _ (h3 x hx)⟩⟩
theorem RowsAt.snoc {P : Nat → Prop} {W : World} {vals : List Value} {rows : List (List UInt8)} (h : RowsAt P W vals rows) {a : Option Addr} {c : Nat} {r : List UInt8} (hb : Bys W a c r) (hx : ∀ x, a = some x → P x.block) : RowsAt P W (vals ++ [Value.slice a r.length c]) (rows ++ [r]) := by
  refine ⟨by simp [h.1], fun i r' hi => ?_⟩
  rcases Nat.lt_or_ge i rows.length with h1 | h1
  · rw [List.getElem?_append_left h1] at hi
    obtain ⟨a', c', h2, h3⟩ := h.2 i r' hi
    exact ⟨a', c', by rw [List.getElem?_append_left (by rw [h.1]; exact h1)]; exact h2, h3⟩
  · rw [List.getElem?_append_right h1] at hi
    have h0 : i - rows.length = 0 := by
      rcases Nat.eq_zero_or_pos (i - rows.length) with h2 | h2
      · exact h2
      · rw [List.getElem?_eq_none (by simp; omega)] at hi; simp at hi
    rw [h0] at hi
    simp at hi
    subst hi
    exact ⟨a, c, by rw [List.getElem?_append_right (by rw [h.1]; exact h1), h.1, h0]; rfl, hb, hx⟩

/-- Blocks that were made since w0, ahead of W, and are none of three. -/
def Mid (w0 W : World) (rb pr pl : Nat) (k : Nat) : Prop := w0.heap.size ≤ k ∧ k ∉ [rb, pr, pl] ∧ k < W.heap.size
theorem own_block_ge {w' : World} {base b : Nat} {v : Value} {n : Nat} {xs : List Value} (h : w'.ownsRow base b 1 v n xs) : ∀ g, v.ownBlock = some g → base ≤ g ∧ g < w'.heap.size := by
  intro g hg
  rcases h.2 with ⟨rfl, _⟩ | ⟨g', cap, cur, rfl, hb, hh, _⟩
  · simp [Value.ownBlock] at hg
  · simp [Value.ownBlock] at hg
    subst hg
    exact ⟨hb, lt_of_block hh⟩

theorem row1_err (xs : List UInt8) (h : ¬ 8 + said xs ≤ xs.length) : row1 xs = none := by
  unfold row1
  rw [if_neg (fun hh => h hh.1)]
theorem fieldErr_ok (xs : List UInt8) (h : 4 + said xs ≤ xs.length) : fieldErr xs xs.length = 0 := by
  unfold fieldErr
  rw [if_neg (by omega), if_neg (by omega), if_neg (by omega)]

end Go.Proofs.YtmkdjonlfkfnlaaDoor


/- seal.Unchain's closure. -/
namespace Go.Proofs.YtmkdjonlfkfnlaaDoor
open Go.RowKit Go.Lib

theorem info_sl : (Tryd.prog.info? 30).map (fun i => (i.zero, i.size, i.bytes)) = some (some (.slice none 0 0), 1, 24) := by kernel_rfl

end Go.Proofs.YtmkdjonlfkfnlaaDoor


/- coldstoreref01.Held, coldstoreref02.Num, coldstoreref01.Join of two: the document's bytes. -/
namespace Go.Proofs.YtmkdjonlfkfnlaaDoor
open Go.RowKit Go.Lib

/-- A row of bytes that a call made: v is it, in the world wr. -/
def RowAt (w : World) (base : Nat) (v : Value) (xs : List UInt8) (wr : World) : Prop :=
  Kept [] w wr ∧ w.heap.size ≤ base ∧ base ≤ wr.heap.size ∧ wr.ownsRow base 5 1 v xs.length (xs.map B)
theorem RowAt.step {w wr w1 w2 : World} {base : Nat} {v v2 : Value} {xs ys : List UInt8} (h : RowAt w base v xs wr) (hk : Kept [] wr w1) (hown : w2.ownsRow base 5 1 v2 (xs ++ ys).length ((xs ++ ys).map B)) (hg : w1.grownBy w2 v.ownBlock) : RowAt w base v2 (xs ++ ys) w2 := by
  obtain ⟨h1, h2, h3, h4⟩ := h
  refine ⟨(h1.trans hk).trans' (Kept.of_row hg) (fun x hx hm => ?_), h2, by have := hk.size; have := hg.size; omega, hown⟩
  simp at hm
  rcases h4.2 with ⟨rfl, _⟩ | ⟨g, _, _, rfl, hb, _⟩
  · simp [Value.ownBlock] at hm
  · simp [Value.ownBlock] at hm; omega
theorem RowAt.fresh (w : World) : RowAt w w.heap.size (.slice (some ⟨w.heap.size, 0, none⟩) 0 0) [] (w.alloc (.cells #[] 5)) :=
  ⟨(Kept.refl [] w).alloc _, Nat.le_refl _, by simp, by simp, Or.inr ⟨w.heap.size, 0, #[], rfl, Nat.le_refl _, heap_alloc_new' _ _, by simp, by unfold maxLen; omega, by simp, by simp⟩⟩

theorem RowAt.src {w : World} {base : Nat} {v : Value} {xs : List UInt8} {wr : World} (h : RowAt w base v xs wr) : SrcB wr v xs := by
  obtain ⟨a, c, rfl⟩ := owns_slice h.2.2.2
  exact (bys_of_row h.2.2.2).1

end Go.Proofs.YtmkdjonlfkfnlaaDoor


/- bytes.Clone; seal.Unchain. -/
namespace Go.Proofs.YtmkdjonlfkfnlaaDoor
open Go.RowKit Go.Lib

/-- A copy: bytes of its own. -/
def Copied (w : World) (bs : List UInt8) (e : Ending) (w' : World) : Prop :=
  ∃ a c, e = .returned (.slice a bs.length c) ∧ Kept [] w w' ∧ Bys w' a c bs ∧ ∀ x, a = some x → w.heap.size ≤ x.block

theorem clone_any (a : Option Addr) (c : Nat) (bs : List UInt8) (w : World) (h : SrcB w (.slice a bs.length c) bs) (hlen : bs.length ≤ 500000000) :
    Calls Tryd.prog 29 #[.slice a bs.length c] w (Copied w bs) := by
  obtain ⟨i0, hi0, hz0, hz1, hz2⟩ := info_parts info_u8
  rcases h with ⟨h1, h2, _⟩ | ⟨x, c', h1, hc⟩
  · have hb : bs = [] := List.eq_nil_of_length_eq_zero h2
    subst hb
    simp at h1
    obtain ⟨rfl, rfl⟩ := h1
    have heq := fun (w : World) => run_eql_slice_nil (P := Tryd.prog) w 30 5 none 0 0 0 0 Tryd.underlying30
    go_enter Tryd.func29, Tryd.ntmps29
    go_wp2
    go_ret
    exact ⟨none, 0, rfl, Kept.refl _ _, ⟨Or.inl ⟨rfl, rfl, rfl⟩, fun x hx => by simp at hx⟩, fun x hx => by simp at hx⟩
  · simp at h1
    obtain ⟨rfl, rfl⟩ := h1
    have hsrc := hid (show SrcB w (.slice (some x) bs.length c) bs from Or.inr ⟨x, c, rfl, hc⟩)
    clear hc
    have heq := fun (w : World) => run_eql_slice_nil (P := Tryd.prog) w 30 5 (some x) bs.length c 0 0 Tryd.underlying30
    go_enter Tryd.func29, Tryd.ntmps29
    go_wp2_with (at_builtin; refine halt ?_)
    refine Halt.mk ?_
    refine wpList_append_src _ rfl _ _ _ rfl w.heap.size 5 i0 _ 1 Tryd.underlying30 hi0 hz0 hz1 hz2 rfl (.slice (some ⟨w.heap.size, 0, none⟩) 0 0) ([] : List UInt8).length (([] : List UInt8).map B) rfl (RowAt.fresh w).2.2.2 (.slice (some x) bs.length c) bs.length (bs.map B) rfl (hsrc.out.kept ((Kept.refl [] w).alloc _) (by simp)) (by simp) (B_oneCell bs) ?_ ?_ ?_ ?_
    · unfold maxLen; simp; omega
    · simp; omega
    · simp
    intro v2 w2 hown2 hgrow2 _ hf2
    obtain ⟨a2, c2, rfl⟩ := owns_slice hown2
    have hr := hid (RowAt.step (ys := bs) (RowAt.fresh w) (Kept.refl [] _) (by simpa using hown2) hgrow2)
    clear hown2 hgrow2 hf2
    simp only [List.length_nil, Nat.zero_add] at hr ⊢
    go_wp2
    go_ret
    have hown := hr.out.2.2.2
    simp only [List.nil_append] at hown
    exact ⟨a2, c2, rfl, hr.out.1, bys_of_row hown, fun y hy => (own_block_ge hown y.block (by simp [Value.ownBlock, hy])).1⟩

/-- What Unchain gives. -/
def Unchained (w : World) (xs : List UInt8) (e : Ending) (w' : World) : Prop :=
  ∃ rows rest av cv vals a c, Unch xs rows rest ∧ e = .returned (.tuple #[.slice av rows.length cv, .slice a rest.length c]) ∧ Kept [] w w' ∧ w'.ownsRow w.heap.size 30 1 (.slice av rows.length cv) rows.length vals ∧ RowsAt (w.heap.size ≤ ·) w' vals rows ∧
    Bys w' a c rest ∧ ∀ x, a = some x → w.heap.size ≤ x.block

theorem Unch.len {xs : List UInt8} {rows : List (List UInt8)} {rest : List UInt8} (h : Unch xs rows rest) : rest.length ≤ xs.length := by
  induction h with
  | stop xs _ => exact Nat.le_refl _
  | more xs r rows rest _ _ ih => simp at ih; omega

end Go.Proofs.YtmkdjonlfkfnlaaDoor
