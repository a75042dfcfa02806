import Derived.Test.YtembincggkpflaaDoorMC
import Derived.WalkSpells
import Derived.Deep.QuietTactic
import Derived.BigQuiet
import Derived.Deep.RegionWith
import Derived.StillTailTactics
import Derived.Deep.LoopGhost
import Derived.Deep.RegionHeld3
import Derived.RegionDies
import Derived.Lib.SlBytesConst
import Derived.Laws.OwnMore
import Derived.Lib.SmallJoins

/- CRC-32C: plain mathematics on words of 32 bits. No program is named here. -/
namespace Go.Proofs.YtembincggkpflaaDoor
namespace Crc
abbrev W32 := BitVec 32
def P : W32 := 0x82F63B78#32
/-- One bit is shifted out. -/
def T (s : W32) : W32 := (s >>> 1) ^^^ (if s.getLsbD 0 then P else 0#32)
def Tn : Nat → W32 → W32
  | 0, s => s
  | n + 1, s => Tn n (T s)
theorem T_xor (a b : W32) : T (a ^^^ b) = T a ^^^ T b := by
  unfold T
  rw [BitVec.ushiftRight_xor_distrib, BitVec.getLsbD_xor]
  cases a.getLsbD 0 <;> cases b.getLsbD 0 <;> simp
  · rw [BitVec.xor_assoc]
  · rw [BitVec.xor_assoc, BitVec.xor_assoc, BitVec.xor_comm P]
  · rw [← BitVec.xor_assoc, BitVec.xor_assoc (a >>> 1) P, BitVec.xor_comm P, ← BitVec.xor_assoc, BitVec.xor_assoc _ P P]; simp
theorem T_zero : T 0#32 = 0#32 := by decide
theorem Tn_xor (n : Nat) : ∀ a b : W32, Tn n (a ^^^ b) = Tn n a ^^^ Tn n b := by
  induction n with
  | zero => intro a b; rfl
  | succ n ih => intro a b; simp only [Tn, T_xor, ih]
theorem Tn_zero (n : Nat) : Tn n 0#32 = 0#32 := by
  induction n with
  | zero => rfl
  | succ n ih => simp only [Tn, T_zero, ih]
theorem Tn_add (m n : Nat) (s : W32) : Tn (m + n) s = Tn n (Tn m s) := by
  induction m generalizing s with
  | zero => simp [Tn]
  | succ m ih => rw [Nat.add_right_comm]; simp only [Tn, ih]
theorem T_msb (s : W32) : (T s).getLsbD 31 = s.getLsbD 0 := by
  unfold T
  rw [BitVec.getLsbD_xor, BitVec.getLsbD_ushiftRight, BitVec.getLsbD_of_ge s (1 + 31) (by decide)]
  cases s.getLsbD 0 <;> decide
theorem T_inj0 (s : W32) (h : T s = 0#32) : s = 0#32 := by
  have h0 : s.getLsbD 0 = false := by rw [← T_msb, h]; rfl
  unfold T at h
  rw [h0] at h
  simp at h
  apply BitVec.eq_of_getLsbD_eq
  intro i hi
  rcases i with _ | i
  · rw [h0]; rfl
  · have : (s >>> 1).getLsbD i = false := by rw [h]; simp
    rw [BitVec.getLsbD_ushiftRight, Nat.add_comm] at this
    rw [this]; simp
theorem Tn_inj0 (n : Nat) : ∀ s : W32, Tn n s = 0#32 → s = 0#32 := by
  induction n with
  | zero => intro s h; exact h
  | succ n ih => intro s h; exact T_inj0 s (ih _ h)
theorem xor_eq_zero {a b : W32} (h : a ^^^ b = 0#32) : a = b := by
  have : a ^^^ b ^^^ b = 0#32 ^^^ b := by rw [h]
  rw [BitVec.xor_assoc] at this
  simpa using this
theorem Tn_inj (n : Nat) (a b : W32) (h : Tn n a = Tn n b) : a = b := by
  apply xor_eq_zero
  apply Tn_inj0 n
  rw [Tn_xor, h]; simp
/-- While the lowest bits are noughts T only shifts. -/
theorem Tn_shl (n : Nat) : ∀ (k : Nat) (x : W32), k = n → x.toNat * 2 ^ n < 2 ^ 32 → Tn n (x <<< n) = x := by
  induction n with
  | zero => intro k x _ _; simp [Tn]
  | succ n ih =>
    intro k x _ hx
    have hT : T (x <<< (n + 1)) = x <<< n := by
      unfold T
      have h0 : (x <<< (n + 1)).getLsbD 0 = false := by simp
      rw [h0]
      simp
      apply BitVec.eq_of_toNat_eq
      rw [Nat.pow_succ] at hx
      have e1 : x.toNat * (2 ^ n * 2) = (x.toNat * 2 ^ n) * 2 := by rw [Nat.mul_assoc]
      rw [e1] at hx
      simp only [BitVec.toNat_ushiftRight, BitVec.toNat_shiftLeft, Nat.shiftLeft_eq, Nat.shiftRight_eq_div_pow, Nat.pow_succ]
      rw [e1, Nat.mod_eq_of_lt hx, Nat.mod_eq_of_lt (by omega)]
      omega
    simp only [Tn, hT]
    exact ih n x rfl (by rw [Nat.pow_succ, ← Nat.mul_assoc] at hx; omega)
/-- A table of what becomes of four bits that are shifted out. -/
def tbl : List Nat := [0x00000000, 0x105ec76f, 0x20bd8ede, 0x30e349b1, 0x417b1dbc, 0x5125dad3, 0x61c69362, 0x7198540d, 0x82f63b78, 0x92a8fc17, 0xa24bb5a6, 0xb21572c9, 0xc38d26c4, 0xd3d3e1ab, 0xe330a81a, 0xf36e6f75]
theorem tbl_T : ∀ k : Fin 16, Tn 4 (BitVec.ofNat 32 k.val) = BitVec.ofNat 32 (tbl.getD k.val 0) := by decide
theorem nib (s : W32) : Tn 4 s = (s >>> 4) ^^^ BitVec.ofNat 32 (tbl.getD (s.toNat % 16) 0) := by
  have e : s = ((s >>> 4) <<< 4) ^^^ BitVec.ofNat 32 (s.toNat % 16) := by
    apply BitVec.eq_of_getLsbD_eq
    intro i hi
    have h16 : s.toNat % 16 = s.toNat % 2 ^ 4 := rfl
    simp only [BitVec.getLsbD_xor, BitVec.getLsbD_shiftLeft, BitVec.getLsbD_ushiftRight, BitVec.getLsbD_ofNat, h16, Nat.testBit_mod_two_pow]
    by_cases h : i < 4
    · simp [h, hi, BitVec.getLsbD]
    · have h4 : 4 + (i - 4) = i := by omega
      simp [h, hi, h4]
  have hlt : (s >>> 4).toNat * 2 ^ 4 < 2 ^ 32 := by
    simp only [BitVec.toNat_ushiftRight, Nat.shiftRight_eq_div_pow]
    have := s.isLt
    omega
  conv => lhs; rw [e, Tn_xor, Tn_shl 4 4 _ rfl hlt]
  rw [tbl_T ⟨s.toNat % 16, Nat.mod_lt _ (by omega)⟩]
/-- A byte more. -/
def put (s : W32) (c : UInt8) : W32 := Tn 8 (s ^^^ BitVec.ofNat 32 c.toNat)
def feed (s : W32) (l : List UInt8) : W32 := l.foldl put s
def sum (l : List UInt8) : W32 := ~~~ feed (BitVec.allOnes 32) l
theorem feed_nil (s : W32) : feed s [] = s := rfl
theorem feed_cons (s : W32) (c : UInt8) (l : List UInt8) : feed s (c :: l) = feed (put s c) l := rfl
theorem feed_append (s : W32) (l m : List UInt8) : feed s (l ++ m) = feed (feed s l) m := List.foldl_append
theorem put_nib (s : W32) (c : UInt8) : put s c = Tn 4 (Tn 4 (s ^^^ BitVec.ofNat 32 c.toNat)) := Tn_add 4 4 _
theorem of_xor (a b : UInt8) : BitVec.ofNat 32 (a ^^^ b).toNat = BitVec.ofNat 32 a.toNat ^^^ BitVec.ofNat 32 b.toNat := by
  rw [UInt8.toNat_xor]
  apply BitVec.eq_of_getLsbD_eq
  intro i hi
  simp [hi]
theorem put_xor (s t : W32) (a b : UInt8) : put (s ^^^ t) (a ^^^ b) = put s a ^^^ put t b := by
  unfold put
  rw [of_xor, ← Tn_xor]
  congr 1
  ac_rfl
def xors (a b : List UInt8) : List UInt8 := List.zipWith (· ^^^ ·) a b
theorem feed_xor : ∀ (a b : List UInt8) (s t : W32), a.length = b.length → feed (s ^^^ t) (xors a b) = feed s a ^^^ feed t b
  | [], [], s, t, _ => rfl
  | x :: a, y :: b, s, t, h => by
    have := feed_xor a b (put s x) (put t y) (by simpa using h)
    simp only [xors, List.zipWith_cons_cons, feed_cons, put_xor] at *
    exact this
  | [], _ :: _, _, _, h => by simp at h
  | _ :: _, [], _, _, h => by simp at h
theorem feed_zeros (n : Nat) (s : W32) : feed s (List.replicate n 0) = Tn (8 * n) s := by
  induction n generalizing s with
  | zero => rfl
  | succ n ih =>
    rw [List.replicate_succ, feed_cons, ih, show 8 * (n + 1) = 8 + 8 * n by omega, Tn_add]
    congr 1
    simp [put]
theorem xors_zero (a : List UInt8) : xors a (List.replicate a.length 0) = a := by
  induction a with
  | nil => rfl
  | cons x a ih =>
    simp only [xors, List.length_cons, List.replicate_succ, List.zipWith_cons_cons] at *
    rw [ih]; simp
/-- How the state hangs on the start: by turning. -/
theorem feed_start (l : List UInt8) (s t : W32) : feed (s ^^^ t) l = feed s l ^^^ Tn (8 * l.length) t := by
  have := feed_xor l (List.replicate l.length 0) s t (by simp)
  rw [xors_zero, feed_zeros] at this
  exact this
theorem not_xor (x : W32) : ~~~ x = x ^^^ BitVec.allOnes 32 := by rw [BitVec.xor_allOnes]
/-- The sums of two rows of as many bytes. -/
theorem sum_xor (a b : List UInt8) (h : a.length = b.length) : sum (xors a b) = sum a ^^^ sum b ^^^ sum (List.replicate a.length 0) := by
  have h1 := feed_xor a b (BitVec.allOnes 32) 0#32 h
  have h2 := feed_start b 0#32 (BitVec.allOnes 32)
  have e1 : (0#32 : W32) ^^^ BitVec.allOnes 32 = BitVec.allOnes 32 := by decide
  have e2 : (BitVec.allOnes 32 : W32) ^^^ 0#32 = BitVec.allOnes 32 := by decide
  rw [e1] at h2
  rw [e2] at h1
  unfold sum
  rw [feed_zeros, h1, h2, h, not_xor, not_xor, not_xor, not_xor]
  have key : ∀ a f t o : W32, (a ^^^ f) ^^^ o = (a ^^^ o) ^^^ ((f ^^^ t) ^^^ o) ^^^ (t ^^^ o) := by
    intro a f t o
    have e : (a ^^^ o) ^^^ ((f ^^^ t) ^^^ o) ^^^ (t ^^^ o) = a ^^^ f ^^^ o ^^^ (t ^^^ t) ^^^ (o ^^^ o) := by ac_rfl
    rw [e]; simp
  exact key _ _ _ _
/-- A word's bytes, the lowest first. -/
def le (v : Nat) : List UInt8 := [UInt8.ofNat v, UInt8.ofNat (v / 256), UInt8.ofNat (v / 65536), UInt8.ofNat (v / 16777216)]
theorem byte_w (v : Nat) (k : Nat) : BitVec.ofNat 32 (UInt8.ofNat (v / 2 ^ (8 * k))).toNat = ((BitVec.ofNat 32 (v / 2 ^ (8 * k))) &&& 255#32) := by
  apply BitVec.eq_of_getLsbD_eq
  intro i hi
  have h255 : (255 : Nat) = 2 ^ 8 - 1 := rfl
  simp only [UInt8.toNat_ofNat', BitVec.getLsbD_ofNat, BitVec.getLsbD_and, h255, Nat.testBit_two_pow_sub_one, Nat.testBit_mod_two_pow]
  by_cases h8 : i < 8 <;> simp [h8, hi]
theorem put_shift (s x : W32) (c : UInt8) (hx : x.toNat < 2 ^ 24) : put (s ^^^ ((x <<< 8) ^^^ BitVec.ofNat 32 c.toNat)) 0 = Tn 8 (s ^^^ BitVec.ofNat 32 c.toNat) ^^^ x := by
  unfold put
  have e : s ^^^ ((x <<< 8) ^^^ BitVec.ofNat 32 c.toNat) ^^^ BitVec.ofNat 32 (0 : UInt8).toNat = (s ^^^ BitVec.ofNat 32 c.toNat) ^^^ (x <<< 8) := by
    have e0 : BitVec.ofNat 32 (0 : UInt8).toNat = 0#32 := rfl
    rw [e0]
    simp only [BitVec.xor_zero]
    ac_rfl
  rw [e, Tn_xor, Tn_shl 8 8 x rfl (by omega)]
theorem split8 (v : Nat) : BitVec.ofNat 32 v = (BitVec.ofNat 32 (v / 256 % 2 ^ 24) <<< 8) ^^^ BitVec.ofNat 32 (UInt8.ofNat v).toNat := by
  apply BitVec.eq_of_getLsbD_eq
  intro i hi
  have h8 : (256 : Nat) = 2 ^ 8 := rfl
  simp only [UInt8.toNat_ofNat', BitVec.getLsbD_ofNat, BitVec.getLsbD_xor, BitVec.getLsbD_shiftLeft, Nat.testBit_mod_two_pow, h8, Nat.testBit_div_two_pow]
  by_cases h : i < 8
  · simp [h, hi]
  · have e : 8 + (i - 8) = i := by omega
    have e2 : i - 8 + 8 = i := by omega
    have h24 : i - 8 < 24 := by omega
    have h32 : i - 8 < 32 := by omega
    simp [h, hi, e2, h24, h32]
/-- A word's four bytes, fed: the word is turned in at once. -/
theorem feed_le (s : W32) (v : Nat) (hv : v < 2 ^ 32) : feed s (le v) = Tn 32 (s ^^^ BitVec.ofNat 32 v) := by
  have step : ∀ (s : W32) (v : Nat), Tn 8 (s ^^^ BitVec.ofNat 32 v) = put s (UInt8.ofNat v) ^^^ BitVec.ofNat 32 (v / 256 % 2 ^ 24) := by
    intro s v
    conv => lhs; rw [split8 v]
    have e : s ^^^ ((BitVec.ofNat 32 (v / 256 % 2 ^ 24) <<< 8) ^^^ BitVec.ofNat 32 (UInt8.ofNat v).toNat) = (s ^^^ BitVec.ofNat 32 (UInt8.ofNat v).toNat) ^^^ (BitVec.ofNat 32 (v / 256 % 2 ^ 24) <<< 8) := by ac_rfl
    have hl : (BitVec.ofNat 32 (v / 256 % 2 ^ 24)).toNat * 2 ^ 8 < 2 ^ 32 := by
      rw [BitVec.toNat_ofNat]
      have := Nat.mod_lt (v / 256) (show 0 < 2 ^ 24 by decide)
      rw [Nat.mod_eq_of_lt (by omega)]
      omega
    rw [e, Tn_xor, Tn_shl 8 8 _ rfl hl]
    rfl
  have d1 : v / 256 % 2 ^ 24 = v / 256 := Nat.mod_eq_of_lt (by omega)
  have d2 : v / 256 / 256 % 2 ^ 24 = v / 65536 := by rw [Nat.div_div_eq_div_mul]; exact Nat.mod_eq_of_lt (by omega)
  have d3 : v / 65536 / 256 % 2 ^ 24 = v / 16777216 := by rw [Nat.div_div_eq_div_mul]; exact Nat.mod_eq_of_lt (by omega)
  have d4 : v / 16777216 / 256 % 2 ^ 24 = 0 := by rw [Nat.div_div_eq_div_mul]; have : v / (16777216 * 256) = 0 := Nat.div_eq_of_lt (by omega); rw [this]
  unfold le
  rw [feed_cons, feed_cons, feed_cons, feed_cons, feed_nil]
  show _ = Tn (8 + (8 + (8 + 8))) _
  rw [Tn_add, Tn_add, Tn_add, step, d1, step, d2, step, d3, step, d4]
  simp
/-- Bytes and their sum always come to the same. -/
def R : W32 := Tn 32 (BitVec.allOnes 32)
theorem feed_sum (l : List UInt8) (v : Nat) (hv : v < 2 ^ 32) : feed (BitVec.allOnes 32) (l ++ le v) = R ↔ v = (sum l).toNat := by
  rw [feed_append, feed_le _ _ hv]
  unfold R sum
  constructor
  · intro h
    have h2 := Tn_inj 32 _ _ h
    have h3 : BitVec.ofNat 32 v = feed (BitVec.allOnes 32) l ^^^ BitVec.allOnes 32 := by
      generalize feed (BitVec.allOnes 32) l = f at h2 ⊢
      rw [← h2, ← BitVec.xor_assoc]; simp
    rw [not_xor, ← h3, BitVec.toNat_ofNat, Nat.mod_eq_of_lt hv]
  · rintro rfl
    congr 1
    rw [BitVec.ofNat_toNat, not_xor, BitVec.setWidth_eq, ← BitVec.xor_assoc]
    simp
theorem sum_whole (l : List UInt8) : sum (l ++ le (sum l).toNat) = sum (List.replicate 4 0) := by
  have h := (feed_sum l _ (sum l).isLt).2 rfl
  unfold sum at *
  rw [h, feed_zeros]
  rfl
/-- One bit is turned. -/
def flip (l : List UInt8) (p : Nat) : List UInt8 := l.modify (p / 8) (· ^^^ UInt8.ofNat (2 ^ (p % 8)))
theorem flip_len (l : List UInt8) (p : Nat) : (flip l p).length = l.length := by simp [flip]
theorem pow_bit (k : Nat) (hk : k < 8) : Tn 8 (BitVec.ofNat 32 (UInt8.ofNat (2 ^ k)).toNat) = Tn (8 - k) 1#32 := by
  have : ∀ k : Fin 8, Tn 8 (BitVec.ofNat 32 (UInt8.ofNat (2 ^ k.val)).toNat) = Tn (8 - k.val) 1#32 := by decide
  exact this ⟨k, hk⟩
theorem put_bit (s : W32) (c : UInt8) (k : Nat) (hk : k < 8) : put s (c ^^^ UInt8.ofNat (2 ^ k)) = put s c ^^^ Tn (8 - k) 1#32 := by
  unfold put
  rw [of_xor, ← BitVec.xor_assoc, Tn_xor, pow_bit k hk]
theorem feed_flip (l : List UInt8) : ∀ (p : Nat) (s : W32), p < 8 * l.length → feed s (flip l p) = feed s l ^^^ Tn (8 * l.length - p) 1#32 := by
  induction l with
  | nil => intro p s h; simp at h
  | cons c l ih =>
    intro p s h
    by_cases h8 : p < 8
    · have e : p / 8 = 0 := by omega
      have e2 : p % 8 = p := by omega
      unfold flip
      rw [e, e2]
      simp only [List.modify_zero_cons, feed_cons]
      rw [put_bit s c p h8, feed_start, ← Tn_add]
      congr 2
      simp; omega
    · have e : p / 8 = (p - 8) / 8 + 1 := by omega
      have e2 : p % 8 = (p - 8) % 8 := by omega
      have := ih (p - 8) (put s c) (by simp at h; omega)
      unfold flip at *
      rw [e, e2, List.modify_succ_cons, feed_cons, feed_cons, this]
      congr 2
      simp; omega
/-- The bits of a number below n, turned from bit p on. -/
def flips (l : List UInt8) (at_ turn : Nat) : Nat → List UInt8
  | 0 => l
  | n + 1 => if turn.testBit n then flip (flips l at_ turn n) (at_ + n) else flips l at_ turn n
theorem flips_len (l : List UInt8) (a t n : Nat) : (flips l a t n).length = l.length := by
  induction n with
  | zero => rfl
  | succ n ih => unfold flips; split <;> simp [flip_len, ih]
theorem Tn_pow (m n : Nat) (hn : n < 32) (h : n ≤ m) : Tn m (BitVec.ofNat 32 (2 ^ n)) = Tn (m - n) 1#32 := by
  have e : BitVec.ofNat 32 (2 ^ n) = (1#32) <<< n := by
    apply BitVec.eq_of_toNat_eq
    simp [Nat.shiftLeft_eq]
  have e2 : m = n + (m - n) := by omega
  conv => lhs; rw [e2]
  rw [Tn_add, e, Tn_shl n n _ rfl]
  have : (2 : Nat) ^ n < 2 ^ 32 := Nat.pow_lt_pow_right (by omega) hn
  simpa using this
theorem low_succ (t n : Nat) (hn : n < 32) : BitVec.ofNat 32 (t % 2 ^ (n + 1)) = if t.testBit n then BitVec.ofNat 32 (t % 2 ^ n) ^^^ BitVec.ofNat 32 (2 ^ n) else BitVec.ofNat 32 (t % 2 ^ n) := by
  apply BitVec.eq_of_getLsbD_eq
  intro i hi
  by_cases ht : t.testBit n
  · rw [if_pos ht]
    simp only [BitVec.getLsbD_ofNat, BitVec.getLsbD_xor, Nat.testBit_mod_two_pow, Nat.testBit_two_pow]
    rcases Nat.lt_trichotomy i n with h | h | h
    · simp [hi, h, show i < n + 1 by omega, show n ≠ i by omega]
    · subst h; simp [hi, ht]
    · simp [hi, show ¬ i < n by omega, show ¬ i < n + 1 by omega, show n ≠ i by omega]
  · rw [if_neg ht]
    simp only [BitVec.getLsbD_ofNat, Nat.testBit_mod_two_pow]
    rcases Nat.lt_trichotomy i n with h | h | h
    · simp [hi, h, show i < n + 1 by omega]
    · subst h; simp [hi, ht]
    · simp [hi, show ¬ i < n by omega, show ¬ i < n + 1 by omega]
theorem feed_flips (l : List UInt8) (a t : Nat) (s : W32) (ha : a + 32 ≤ 8 * l.length) : ∀ n, n ≤ 32 → feed s (flips l a t n) = feed s l ^^^ Tn (8 * l.length - a) (BitVec.ofNat 32 (t % 2 ^ n)) := by
  intro n
  induction n with
  | zero => intro _; simp [flips, Nat.mod_one, Tn_zero]
  | succ n ih =>
    intro hn
    have := ih (by omega)
    rw [low_succ t n (by omega)]
    unfold flips
    split
    · rw [feed_flip _ _ _ (by rw [flips_len]; omega), this, flips_len, Tn_xor, Tn_pow _ n (by omega) (by omega), BitVec.xor_assoc]
      congr 3
      omega
    · exact this
/-- What is turned within 32 bits is told. -/
theorem burst (l : List UInt8) (a t : Nat) (ht : t < 2 ^ 32) (ht0 : t ≠ 0) (ha : a + 32 ≤ 8 * l.length) (hl : feed (BitVec.allOnes 32) l = R) : feed (BitVec.allOnes 32) (flips l a t 32) ≠ R := by
  rw [feed_flips l a t _ ha 32 (by omega), hl, Nat.mod_eq_of_lt ht]
  intro h
  have h2 : Tn (8 * l.length - a) (BitVec.ofNat 32 t) = 0#32 := by
    have : R ^^^ (R ^^^ Tn (8 * l.length - a) (BitVec.ofNat 32 t)) = R ^^^ R := by rw [h]
    rw [← BitVec.xor_assoc] at this
    simpa using this
  have h3 := congrArg BitVec.toNat (Tn_inj0 _ _ h2)
  simp at h3
  omega
/-- Bit by bit: the document's way. -/
theorem T_bit (s : W32) (b : Bool) : T (s ^^^ (if b then 1#32 else 0#32)) = (s >>> 1) ^^^ (if (s.getLsbD 0 ^^ b) then P else 0#32) := by
  rw [T_xor]
  unfold T
  have e1 : (1#32 : W32) >>> 1 = 0#32 := by decide
  have e2 : (1#32 : W32).getLsbD 0 = true := by decide
  cases s.getLsbD 0 <;> cases b <;> simp [BitVec.xor_assoc]
end Crc
end Go.Proofs.YtembincggkpflaaDoor


/- seal.Sum: what it tells. -/
namespace Go.Proofs.YtembincggkpflaaDoor
open Go.RowKit Go.Lib

/-- The table stands where its initialiser laid it. -/
def Tab (w : World) : Prop := ∀ i, i < 16 → w.cell? ⟨1, i, none⟩ = some (.int .u32 ((Crc.tbl.getD i 0 : Nat) : Int))
theorem Tab.pos {w : World} (h : Tab w) : 1 < w.heap.size := World.block_lt_of_cell? w _ (h 0 (by omega))
theorem Tab.kept {S : List Nat} {w w' : World} (h : Tab w) (hk : Kept S w w') (hS : 1 ∉ S) : Tab w' := fun i hi => (hk.cell (p := ⟨1, i, none⟩) h.pos hS).trans (h i hi)

theorem xor_u32 (a b : Nat) (ha : a < 4294967296) (hb : b < 4294967296) : bits .xor .u32 (a : Int) (b : Int) = ((a ^^^ b : Nat) : Int) := by
  have key : (BitVec.ofInt 32 (a : Int) ^^^ BitVec.ofInt 32 (b : Int)).toNat = a ^^^ b := by
    rw [BitVec.toNat_xor, BitVec.toNat_ofInt, BitVec.toNat_ofInt]
    have h1 : ((a : Int) % ((2 ^ 32 : Nat) : Int)).toNat = a := by omega
    have h2 : ((b : Int) % ((2 ^ 32 : Nat) : Int)).toNat = b := by omega
    rw [h1, h2]
  have hx : a ^^^ b < 2 ^ 32 := Nat.xor_lt_two_pow (by omega) (by omega)
  show IntKind.u32.wrap ((BitVec.ofInt 32 (a : Int) ^^^ BitVec.ofInt 32 (b : Int)).toNat : Nat) = _
  rw [key, IntKind.wrap_u32]
  omega
theorem and15_u32 (a : Nat) (ha : a < 4294967296) : bits .and .u32 (a : Int) 15 = ((a % 16 : Nat) : Int) := by
  have key : (BitVec.ofInt 32 (a : Int) &&& BitVec.ofInt 32 15).toNat = a % 16 := by
    rw [BitVec.toNat_and, BitVec.toNat_ofInt]
    have h1 : ((a : Int) % ((2 ^ 32 : Nat) : Int)).toNat = a := by omega
    have h2 : (BitVec.ofInt 32 15).toNat = 2 ^ 4 - 1 := by decide
    rw [h1, h2, Nat.and_two_pow_sub_one_eq_mod]
  show IntKind.u32.wrap ((BitVec.ofInt 32 (a : Int) &&& BitVec.ofInt 32 15).toNat : Nat) = _
  rw [key, IntKind.wrap_u32]
  omega

theorem nib_tab {w : World} (ht : Tab w) (x : Int) (s : Crc.W32) (hx : x = (s.toNat : Int)) :
    ∃ t : Nat, 0 ≤ bits .and .u32 x 15 ∧ bits .and .u32 x 15 < 16 ∧ w.cell? ⟨1, (bits .and .u32 x 15).toNat, none⟩ = some (.int .u32 (t : Int)) ∧ bits .xor .u32 (x / 16) (t : Int) = ((Crc.Tn 4 s).toNat : Int) := by
  subst hx
  have hs := s.isLt
  have ha := and15_u32 s.toNat (by omega)
  have hm : s.toNat % 16 < 16 := Nat.mod_lt _ (by omega)
  have htl : Crc.tbl.getD (s.toNat % 16) 0 < 4294967296 := by
    have : ∀ k : Fin 16, Crc.tbl.getD k.val 0 < 4294967296 := by decide
    exact this ⟨_, hm⟩
  refine ⟨Crc.tbl.getD (s.toNat % 16) 0, by rw [ha]; omega, by rw [ha]; omega, ?_, ?_⟩
  · rw [ha, Int.toNat_natCast]
    exact ht _ hm
  · rw [show ((s.toNat : Int) / 16) = ((s.toNat / 16 : Nat) : Int) by omega, xor_u32 _ _ (by omega) htl, Crc.nib, BitVec.toNat_xor, BitVec.toNat_ushiftRight, Nat.shiftRight_eq_div_pow, BitVec.toNat_ofNat, Nat.mod_eq_of_lt htl]
theorem start_tab (s : Crc.W32) (b : UInt8) : bits .xor .u32 (s.toNat : Int) (b.toNat : Int) = (((s ^^^ BitVec.ofNat 32 b.toNat).toNat : Nat) : Int) := by
  have hs := s.isLt
  have hb := b.toNat_lt
  rw [xor_u32 _ _ (by omega) (by omega), BitVec.toNat_xor, BitVec.toNat_ofNat, Nat.mod_eq_of_lt (by omega)]
theorem not_tab (s : Crc.W32) : bits .xor .u32 IntKind.u32.max (s.toNat : Int) = (((~~~ s).toNat : Nat) : Int) := by
  have hs := s.isLt
  rw [show IntKind.u32.max = ((4294967295 : Nat) : Int) from rfl, xor_u32 _ _ (by omega) (by omega), Crc.not_xor, BitVec.toNat_xor, BitVec.toNat_allOnes, Nat.xor_comm]

set_option maxHeartbeats 1000000 in
theorem sum_any (sv : Value) (ys : List UInt8) (w : World) (h : SrcB w sv ys) (ht : Tab w) (hlen : ys.length ≤ 1000000000) :
    Calls Tryd.prog 56 #[sv] w fun e w' => e = .returned (.int .u32 (((Crc.sum ys).toNat : Nat) : Int)) ∧ w = w' := by
  obtain ⟨a, c, rfl⟩ := h.size
  have Hs := hid h; have Ht := hid ht
  clear h ht
  go_enter Tryd.func56, Tryd.ntmps56
  go_wp2_with fail
  go_loop [3, 8] (fun n s => ∃ i : Nat, i ≤ ys.length ∧ s = .int .i64 i ∧ n = .int .u32 (((Crc.feed (BitVec.allOnes 32) (ys.take i)).toNat : Nat) : Int)) (fun _ s => ys.length - (intOf s).toNat)
  case atStart => exact ⟨0, Nat.zero_le _, rfl, by simp [Crc.feed]⟩
  case round =>
    obtain ⟨i, hi, rfl, rfl⟩ := hrel
    by_cases hlt : i < ys.length
    · rcases Hs.out with ⟨h1, _⟩ | ⟨ad, c', h1, hc⟩
      · simp at h1; omega
      · simp at h1
        obtain ⟨rfl, rfl⟩ := h1
        have gx : w.cell? (ad.add i) = some (.int .u8 (ys[i].toNat : Int)) := hc i (B ys[i]) (by simp [hlt])
        clear hc
        obtain ⟨st, hst⟩ : ∃ st, st = Crc.feed (BitVec.allOnes 32) (ys.take i) := ⟨_, rfl⟩
        have hc256 : ys[i].toNat < 256 := ys[i].toNat_lt
        obtain ⟨t1, f1, f1', g1, e1⟩ := nib_tab Ht.out _ _ (start_tab st ys[i])
        obtain ⟨t2, f2, f2', g2, e2⟩ := nib_tab Ht.out _ _ e1
        have hfin : Hid (bits .xor .u32 (bits .xor .u32 (bits .xor .u32 (st.toNat : Int) (ys[i].toNat : Int) / 16) (t1 : Int) / 16) (t2 : Int) = (((Crc.feed (BitVec.allOnes 32) (ys.take (i + 1))).toNat : Nat) : Int)) := by
          refine hid ?_
          rw [e2, List.take_succ_eq_append_getElem hlt, Crc.feed_append, ← hst, Crc.feed_cons, Crc.feed_nil, Crc.put_nib]
        rw [← hst]
        clear hst e1 e2
        generalize ys[i].toNat = cc at *
        generalize st.toNat = n at *
        go_wp2
        go_round
        case rel => exact ⟨i + 1, by omega, by go_num, by rw [hfin.out]⟩
        case measure => simp [intOf]; omega
    · have hin : i = ys.length := by omega
      subst hin
      obtain ⟨f, hf⟩ : ∃ f, f = Crc.feed (BitVec.allOnes 32) ys := ⟨_, rfl⟩
      have hn := hid (show bits .xor .u32 IntKind.u32.max (f.toNat : Int) = (((Crc.sum ys).toNat : Nat) : Int) by rw [not_tab, hf]; rfl)
      rw [List.take_length, ← hf]
      clear hf
      go_wp2
      go_ret
      exact ⟨by rw [hn.out]; rfl, rfl⟩
end Go.Proofs.YtembincggkpflaaDoor


/- seal.want, seal.summed, seal.Seal. -/
namespace Go.Proofs.YtembincggkpflaaDoor
open Go.RowKit Go.Lib

theorem want_ok (n : Int) (w : World) : Calls Tryd.prog 55 #[.bool true, .int .i64 n] w fun e w' => e = .returned (.tuple #[]) ∧ w = w' := by
  go_enter Tryd.func55, Tryd.ntmps55
  go_wp2
  go_end0
  exact ⟨rfl, rfl⟩

theorem want_err (n : Int) (hn : (n == 0) = false) (w : World) :
    Calls Tryd.prog 55 #[.bool false, .int .i64 n] w fun e w' => Thrown 39 (.int .i64 n) e ∧ w = w' := by
  have hm := hid (must_err n hn w)
  clear hn
  go_enter Tryd.func55, Tryd.ntmps55
  go_wp2_with fail
  refine hm.out.mono ?_
  rintro e w' ⟨rfl, rfl⟩
  exact ⟨rfl, ⟨_, rfl, Calm.nil⟩, rfl⟩

/-- A call that gives a row of bytes of its own; of what was there only the blocks of S may read otherwise. -/
def Gives (w : World) (S : List Nat) (bs : List UInt8) (e : Ending) (w' : World) : Prop :=
  ∃ a c, e = .returned (.slice a bs.length c) ∧ Kept S w w' ∧ w'.ownsRow w.heap.size 5 1 (.slice a bs.length c) bs.length (bs.map B)

theorem numB_le (v : Nat) : numB v 4 = Crc.le v := by simp [numB, Crc.le, List.range_succ]
theorem numB_byte (b : UInt8) : numB b.toNat 1 = [b] := by simp [numB]

theorem wdone' (p : Nat) (v : Value) (xs : List UInt8) (w : World) (h : Wr w p v xs) (hlen : xs.length ≤ 1000000000) :
    Calls Tryd.prog 29 #[.pointer (some ⟨p, 0, none⟩)] w (Gives w [] xs) := wdone p v xs w h hlen

theorem ownsRow_src {w : World} {base : Nat} {v : Value} {xs : List UInt8} (h : w.ownsRow base 5 1 v xs.length (xs.map B)) : SrcB w v xs := by
  obtain ⟨a, c, rfl⟩ := owns_slice h
  exact (bys_of_row h).1

/-- The bytes and their sum. -/
def withSum (xs : List UInt8) : List UInt8 := xs ++ numB (Crc.sum xs).toNat 4
theorem withSum_len (xs : List UInt8) : (withSum xs).length = xs.length + 4 := by simp [withSum, numB_len]

theorem summed_any (p : Nat) (v : Value) (xs : List UInt8) (w : World) (h : Wr w p v xs) (ht : Tab w) (hp : 1 < p) (hlen : xs.length ≤ 500000000) :
    Calls Tryd.prog 43 #[.pointer (some ⟨p, 0, none⟩)] w (Gives w (p :: v.ownBlock.toList) (withSum xs)) := by
  have hd := hid (wdone' p v xs w h (by omega))
  have H := hid h; have Ht := hid ht
  clear h ht
  go_enter Tryd.func43, Tryd.ntmps43
  go_wp2_with fail
  refine hd.out.mono ?_
  rintro e w1 ⟨a, c, rfl, hk1, hown1⟩
  have hs := hid (sum_any _ xs w1 (ownsRow_src hown1) (Ht.out.kept hk1 (by simp)) (by omega))
  have Hk1 := hid hk1
  clear hk1 hown1 hd
  go_wp2_with fail
  refine hs.out.mono ?_
  rintro e w2 ⟨rfl, rfl⟩
  have hlt := (Crc.sum xs).isLt
  have hn := hid (wnum p (Crc.sum xs).toNat 4 (by omega) v xs w1 (H.out.kept Hk1.out (by simp) (by simp)) (by omega))
  have hws := hid (show xs ++ numB (Crc.sum xs).toNat (sz 4) = withSum xs from by rw [sz4]; rfl)
  clear hs
  generalize (Crc.sum xs).toNat = z at *
  go_wp2_with fail
  refine hn.out.mono ?_
  rintro e w3 ⟨rfl, v3, hk3, hw3, hf3⟩
  rw [hws.out] at hw3
  have hd3 := hid (wdone' p v3 (withSum xs) w3 hw3 (by rw [withSum_len]; omega))
  have Hk3 := hid hk3
  clear hk3 hw3 hf3 hn
  go_wp2_with fail
  refine hd3.out.mono ?_
  rintro e w4 ⟨a4, c4, rfl, hk4, hown4⟩
  have Hk4 := hid hk4; have Ho4 := hid hown4
  clear hk4 hown4 hd3
  go_wp2
  go_ret
  refine ⟨a4, c4, rfl, ((Hk1.out.wider (by simp)).trans Hk3.out).trans' Hk4.out (by simp), ?_⟩
  have hsz : w.heap.size ≤ w3.heap.size := Nat.le_trans Hk1.out.size Hk3.out.size
  exact ⟨Ho4.out.1, Ho4.out.2.imp id fun ⟨g, cap, cur, h1, h2, h3⟩ => ⟨g, cap, cur, h1, Nat.le_trans hsz h2, h3⟩⟩

/-- What is sealed. -/
def sealed (kind : UInt8) (ys : List UInt8) : List UInt8 := withSum (kind :: ys)

theorem seal_any (kind : UInt8) (sv : Value) (ys : List UInt8) (w : World) (hsrc : SrcB w sv ys) (ht : Tab w) (hlen : ys.length ≤ 400000000) :
    Calls Tryd.prog 25 #[.int .u8 (kind.toNat : Int), sv] w (Gives w [] (sealed kind ys)) := by
  have hfr := Wr.fresh w
  have hk0 := hid ((Kept.refl [] w).alloc (.cells #[.slice none 0 0] 64))
  have hpos := ht.pos
  have hkl := kind.toNat_lt
  have hw1 := hid (wnum w.heap.size kind.toNat 1 (by omega) _ [] _ hfr (by simp))
  have hkb := hid (show [] ++ numB kind.toNat (sz 1) = [kind] from numB_byte kind)
  obtain ⟨a, c, rfl⟩ := hsrc.size
  have Hs := hid hsrc; have Ht := hid ht
  clear hsrc ht hfr
  go_enter Tryd.func25, Tryd.ntmps25
  generalize kind.toNat = kn at *
  go_wp2_with fail
  refine hw1.out.mono ?_
  rintro e w1 ⟨rfl, v1, hk1, hwr1, hf1⟩
  rw [hkb.out] at hwr1
  have Hk1 := hid (hk0.out.trans' hk1 (fun x hx hm => by simp [Value.ownBlock] at hm; omega))
  have hf1' := hid (show ∀ g, v1.ownBlock = some g → w.heap.size + 1 ≤ g from fun g hg => by
    rcases hf1 g hg with h | h
    · simp [Value.ownBlock] at h
    · simpa using h)
  have hsrc1 := Hs.out.kept Hk1.out (by simp)
  have hw2 := hid (wraw w.heap.size v1 _ [kind] ys w1 hwr1 hsrc1 (by simp) (by omega))
  have Hwr1 := hid hwr1
  clear hk1 hwr1 hf1 hw1 hsrc1
  go_wp2_with fail
  refine hw2.out.mono ?_
  rintro e w2 ⟨rfl, v2, hk2, hwr2, hf2⟩
  have Hk2 := hid (Hk1.out.trans' hk2 (fun x hx hm => by
    simp at hm
    rcases hm with hm | hm
    · omega
    · have := hf1'.out x hm; omega))
  have hf2' := hid (show ∀ g, v2.ownBlock = some g → w.heap.size + 1 ≤ g from fun g hg => by
    rcases hf2 g hg with h | h
    · exact hf1'.out g h
    · have := lt_of_block Hwr1.out.1; omega)
  have hw3 := hid (summed_any w.heap.size v2 ([kind] ++ ys) w2 hwr2 (Ht.out.kept Hk2.out (by simp)) hpos (by simp; omega))
  clear hk2 hwr2 hf2 hw2
  go_wp2_with fail
  refine hw3.out.mono ?_
  rintro e w3 ⟨a3, c3, rfl, hk3, hown3⟩
  have Hk3 := hid hk3; have Ho3 := hid hown3
  clear hk3 hown3 hw3
  go_wp2
  go_ret
  refine ⟨a3, c3, rfl, Hk2.out.trans' Hk3.out (fun x hx hm => by
    simp at hm
    rcases hm with hm | hm
    · omega
    · have := hf2'.out x hm; omega), ?_⟩
  have hsz : w.heap.size ≤ w2.heap.size := Hk2.out.size
  exact ⟨Ho3.out.1, Ho3.out.2.imp id fun ⟨g, cap, cur, h1, h2, h3⟩ => ⟨g, cap, cur, h1, Nat.le_trans hsz h2, h3⟩⟩
end Go.Proofs.YtembincggkpflaaDoor


/- seal.Unseal. -/
namespace Go.Proofs.YtembincggkpflaaDoor
open Go.RowKit Go.Lib

/-- What unsealing bytes by a kind gives: the error's number, and the bytes. -/
def unsealErr (kind : UInt8) (xs : List UInt8) : Int :=
  if xs.length < 5 then 20 else if numOf (xs.drop (xs.length - 4)) ≠ (Crc.sum (xs.take (xs.length - 4))).toNat then 36 else if xs.head? ≠ some kind then 21 else 0
def unsealed (kind : UInt8) (xs : List UInt8) : List UInt8 := if unsealErr kind xs = 0 then (xs.take (xs.length - 4)).drop 1 else []

/-- Behind the reading: the error, and the body's cell. -/
def UnQ (pd b0 : Nat) (kind : UInt8) (xs : List UInt8) (n : Int) (rest : List UInt8) (W' : World) : Prop :=
  n = unsealErr kind xs ∧ (n = 0 → rest = []) ∧ ∃ a' c', W'.heap[pd]? = some (.cells #[.slice a' (unsealed kind xs).length c'] 29 (0, 0)) ∧ Bys W' a' c' (unsealed kind xs) ∧ ∀ x, a' = some x → b0 ≤ x.block

theorem unQ_none {pd b0 : Nat} {kind : UInt8} {xs : List UInt8} {rest : List UInt8} {n : Int} {W' : World} (he : n = unsealErr kind xs) (hn : n ≠ 0) (hd : W'.heap[pd]? = some (.cells #[.slice none 0 0] 29 (0, 0))) : UnQ pd b0 kind xs n rest W' := by
  have e : unsealed kind xs = [] := by unfold unsealed; rw [if_neg (by rw [← he]; exact hn)]
  refine ⟨he, fun h => absurd h hn, none, 0, by rw [e]; exact hd, ?_, fun x hx => by simp at hx⟩
  rw [e]
  exact ⟨Or.inl ⟨rfl, rfl, rfl⟩, fun x hx => by simp at hx⟩

theorem Bys.drop1 {w : World} {a : Option Addr} {m : Nat} {ys : List UInt8} (h : Bys w a m ys) (hm : ys.length = m) (h1 : 1 ≤ m) : Bys w (behind a m 1) (m - 1) (ys.drop 1) := by
  rcases h.1 with ⟨h1', h2, _⟩ | ⟨x, c', h1', hc⟩
  · omega
  · simp at h1'
    obtain ⟨rfl, rfl⟩ := h1'
    refine ⟨?_, behind_plain h.2⟩
    by_cases hm1 : m = 1
    · subst hm1
      have e : ys.drop 1 = [] := List.drop_eq_nil_of_le (by omega)
      rw [e]
      exact Or.inr ⟨x, 0, by simp [behind], fun j u hj => by simp at hj⟩
    · refine Or.inr ⟨x.add 1, m - 1, by simp [behind, hm1], fun j u hj => ?_⟩
      rw [add_add]
      refine hc (1 + j) u ?_
      rw [List.getElem?_map] at hj ⊢; rw [List.getElem?_drop] at hj; exact hj

theorem unseal1_short (rb kb pd b0 : Nat) (kind : UInt8) (a : Option Addr) (c : Nat) (xs : List UInt8) (W : World) (h : Rd W rb a c xs) (hd : W.heap[pd]? = some (.cells #[.slice none 0 0] 29 (0, 0))) (hpr : pd ≠ rb) (hl : xs.length < 5) :
    Calls Tryd.prog 52 #[.pointer (some ⟨rb, 0, none⟩), .pointer (some ⟨kb, 0, none⟩), .pointer (some ⟨pd, 0, none⟩)] W (Threw (ReadOn rb a [pd] W (UnQ pd b0 kind xs))) := by
  have hleft := hid (left_any' rb a c xs W h)
  have hr := hid h
  have he := hid (show (20 : Int) = unsealErr kind xs by unfold unsealErr; rw [if_pos hl])
  have hD := hid hd; have hP := hid hpr
  have hlt : (xs.length : Int) - 4 < 1 := by omega
  have hlt2 : ¬ (1 : Int) < (xs.length : Int) - 4 := by omega
  clear h hd hpr
  go_enter Tryd.func52, Tryd.ntmps52
  go_wp2_with fail
  refine hleft.out.mono ?_
  rintro e w1 ⟨rfl, rfl⟩
  by_cases h0 : xs.length = 0
  · have hs := hid (raw_short rb a c xs 1 (by omega) W hr.out)
    go_wp2_with fail
    refine hs.out.mono ?_
    rintro e w1 ⟨⟨older, rfl, hcalm⟩, rfl⟩
    exact ⟨rfl, Or.inr ⟨20, ⟨older, rfl, hcalm⟩, a, c, xs, hr.out, Kept.refl _ _, fun x hx => ⟨x, hx, rfl⟩, unQ_none he.out (by decide) hD.out⟩⟩
  · have hs := hid (raw_ok rb a c xs 1 1 (by decide) (by omega) W hr.out)
    have hnx := hid (hr.out.next (m := 1) (by omega))
    have hk1 := hid (next_kept W rb a c xs 1)
    go_wp2_with fail
    refine hs.out.mono ?_
    rintro e w1 ⟨rfl, rfl⟩
    generalize nextW W rb a c xs 1 = W1 at *
    have hn := hid (rnum_short rb _ _ _ 4 (by rw [sz4]; simp; omega) W1 hnx.out)
    clear hs
    go_wp2_with fail
    refine hn.out.mono ?_
    rintro e w1 ⟨⟨older, rfl, hcalm⟩, rfl⟩
    exact ⟨rfl, Or.inr ⟨20, ⟨older, rfl, hcalm⟩, _, _, _, hnx.out, hk1.out.wider (fun x _ hx => by simp at hx; simp [hx]), behind_block, unQ_none he.out (by decide) (hk1.out.at hD.out (by simpa using hP.out))⟩⟩

theorem un_end {W W2 W4 : World} {rb pd b0 : Nat} {kind : UInt8} {xs : List UInt8} {x : Addr} {m : Nat} {a2 : Option Addr} {c2 : Nat} {rest : List UInt8} (hk12 : Kept [rb] W W2) (hk24 : Kept [pd] W2 W4) (hrd : Rd W2 rb a2 c2 rest) (hrest : rest = [])
    (hab2 : ∀ y, a2 = some y → y.block = x.block) (hx : b0 ≤ x.block ∧ x.block ≠ pd) (hpr : pd ≠ rb) (hby : Bys W2 (some x) m (xs.take m)) (hm : (xs.take m).length = m) (hm1 : 1 ≤ m) (he : unsealErr kind xs = 0) (hU : unsealed kind xs = (xs.take m).drop 1)
    (hd4 : W4.heap[pd]? = some (.cells #[.slice (behind (some x) m 1) (m - 1) (m - 1)] 29 (0, 0))) : ReadOn rb (some x) [pd] W (UnQ pd b0 kind xs) 0 W4 := by
  refine ⟨a2, c2, rest, hrd.kept hk24 (by simpa using fun h => hpr h.symm) (fun y hy => by rw [hab2 y hy]; simpa using hx.2), hk12.wider (T := [rb, pd]) (fun x _ hx => by simp at hx; simp [hx]) |>.trans' hk24 (fun x _ hx => by simp at hx; simp [hx]),
    fun y hy => ⟨x, rfl, hab2 y hy⟩, he.symm, fun _ => hrest, behind (some x) m 1, m - 1, ?_, ?_, fun y hy => ?_⟩
  · rw [hU, List.length_drop, hm]; exact hd4
  · rw [hU]
    exact (hby.drop1 hm hm1).kept hk24 (fun y hy => by
      obtain ⟨z, hz, h1⟩ := behind_block y hy
      simp at hz; subst hz
      rw [h1]; simpa using hx.2)
  · obtain ⟨z, hz, h1⟩ := behind_block y hy
    simp at hz; subst hz
    rw [h1]; exact hx.1

set_option maxRecDepth 100000 in
set_option maxHeartbeats 1000000 in
theorem unseal1_long (rb kb pd b0 : Nat) (kind : UInt8) (a : Option Addr) (c : Nat) (xs : List UInt8) (W : World) (h : Rd W rb a c xs) (hkb : W.heap[kb]? = some (.cells #[.int .u8 (kind.toNat : Int)] 5 (0, 0))) (hd : W.heap[pd]? = some (.cells #[.slice none 0 0] 29 (0, 0)))
    (ht : Tab W) (hne : 1 ≠ rb ∧ pd ≠ rb ∧ kb ≠ rb ∧ kb ≠ pd) (hax : ∀ x, a = some x → b0 ≤ x.block ∧ x.block ≠ pd) (hl : 5 ≤ xs.length) (hlen : xs.length ≤ 500000000) :
    Calls Tryd.prog 52 #[.pointer (some ⟨rb, 0, none⟩), .pointer (some ⟨kb, 0, none⟩), .pointer (some ⟨pd, 0, none⟩)] W (Threw (ReadOn rb a [pd] W (UnQ pd b0 kind xs))) := by
  obtain ⟨m, hm⟩ : ∃ m, m + 4 = xs.length := ⟨xs.length - 4, by omega⟩
  have hm1 : 1 ≤ m := by omega
  have hmb : m ≤ 500000000 := by omega
  have hleft := left_any' rb a c xs W h
  rw [← hm] at hleft
  have hleft := hid hleft
  have hs := hid (raw_ok rb a c xs (m : Int) m (by omega) (by omega) W h)
  have hnx := h.next (m := m) (by omega)
  have hk1 := next_kept W rb a c xs m
  have hbys : ∀ {S w'}, Kept S W w' → (∀ x, a = some x → x.block ∉ S) → Bys w' a m (xs.take m) := fun hk hS => ⟨by have := h.read (m := m) (by omega) hk hS; rwa [show (xs.take m).length = m by simp; omega], h.plain⟩
  have hsome : ∃ x, a = some x := by
    cases a with
    | none => have := h.nil rfl; have := h.le; omega
    | some x => exact ⟨x, rfl⟩
  obtain ⟨x, rfl⟩ := hsome
  have hxr := (h.src x rfl).1
  have hxp := h.plain x rfl
  obtain ⟨b, hbq⟩ : ∃ b, xs[0]? = some b := ⟨xs[0]'(by omega), by simp⟩
  have hb0 : W.cell? x = some (.int .u8 (b.toNat : Int)) := by
    have := (h.src x rfl).2 0 b hbq
    rwa [add_0] at this
  obtain ⟨W1, hW1⟩ : ∃ W1, W1 = nextW W rb (some x) c xs m := ⟨_, rfl⟩
  rw [← hW1] at hs hnx hk1
  have hdl : (xs.drop m).length = 4 := by simp; omega
  have hn := rnum_ok rb _ _ (xs.drop m) 4 (by rw [sz4, hdl]; omega) W1 hnx
  have hnx2 := hnx.next (m := 4) (by omega)
  have hk2 := next_kept W1 rb (behind (some x) c m) (c - m) (xs.drop m) 4
  rw [sz4, List.take_of_length_le (by omega)] at hn
  obtain ⟨W2, hW2⟩ : ∃ W2, W2 = nextW W1 rb (behind (some x) c m) (c - m) (xs.drop m) 4 := ⟨_, rfl⟩
  rw [← hW2] at hn hnx2 hk2
  have hk12 := hk1.trans hk2
  have hzl : numOf (xs.drop m) < 4294967296 := by have := numOf_lt (xs.drop m); rw [hdl] at this; omega
  have hby2 := hid (hbys hk12 (by simpa using hxr))
  have hsum := sum_any _ (xs.take m) W2 (hby2.out.1) (ht.kept hk12 (by simpa using hne.1)) (by simp; omega)
  rw [show (xs.take m).length = m by simp; omega] at hsum
  have hsl := (Crc.sum (xs.take m)).isLt
  have hkb2 := cell_of_one (hk12.at hkb (by simpa using hne.2.2.1))
  have hd2 := hid (hk12.at hd (by simpa using hne.2.1))
  have hgd2 := cell_of_one hd2.out
  have hgf2 := free_of_one hd2.out
  have hx2 : W2.cell? x = some (.int .u8 (b.toNat : Int)) := (hk12.cell (World.block_lt_of_cell? W _ hb0) (by simpa using hxr)).trans hb0
  have hmE : xs.length - 4 = m := by omega
  have hE0 : unsealErr kind xs = if numOf (xs.drop m) ≠ (Crc.sum (xs.take m)).toNat then 36 else if xs.head? ≠ some kind then 21 else 0 := by
    unfold unsealErr; rw [if_neg (by omega), hmE]
  rw [show xs.head? = some b by rw [List.head?_eq_getElem?]; exact hbq] at hE0
  have hU0 : unsealErr kind xs = 0 → unsealed kind xs = (xs.take m).drop 1 := fun he => by unfold unsealed; rw [if_pos he, hmE]
  have hbk : b = kind ∨ (b.toNat : Int) ≠ (kind.toNat : Int) := by
    by_cases hq : b = kind
    · exact Or.inl hq
    · exact Or.inr fun h => hq (UInt8.toNat_inj.1 (by omega))
  have Hn := hid hn; have Hnx2 := hid hnx2; have Hk12 := hid hk12; have Hsum := hid hsum; have HE0 := hid hE0; have HU0 := hid hU0; have Hne := hid hne; have Hax := hid hax; have Hm := hid hm; have Hxr := hid hxr; have Hxp := hid hxp
  clear h hkb hd hax hbys hnx hk1 hW1 hW2 hn hnx2 hk2 hk12 hsum hE0 hU0 hmE hbq hne hm hb0 hdl ht hxr hxp
  have hb1 : b.toNat < 256 := UInt8.toNat_lt _
  generalize hz : numOf (xs.drop m) = z at *
  generalize hv : (Crc.sum (xs.take m)).toNat = v at *
  clear hz hv
  go_enter Tryd.func52, Tryd.ntmps52
  go_wp2_with fail
  refine hleft.out.mono ?_
  rintro e w1 ⟨rfl, rfl⟩
  go_wp2_with fail
  refine hs.out.mono ?_
  rintro e w1 ⟨rfl, rfl⟩
  clear hs hleft
  go_wp2_with fail
  refine Hn.out.mono ?_
  rintro e w1 ⟨rfl, rfl⟩
  clear Hn
  go_wp2_with fail
  refine Hsum.out.mono ?_
  rintro e w1 ⟨rfl, rfl⟩
  clear Hsum
  by_cases hzv : z = v
  · subst hzv
    go_wp2_with fail
    refine (want_ok 36 _).mono ?_
    rintro e w1 ⟨rfl, rfl⟩
    go_wp2_with fail
    rcases hbk with rfl | hbk
    · have he := hid (show unsealErr b xs = 0 by rw [HE0.out]; simp)
      clear HE0
      by_cases hm2 : m = 1
      · subst hm2
        go_quiet ((go_at_call 55; exact Calls.quiet_of_same ((want_ok 21 _).mono fun _ _ h => ⟨h.1, h.2.symm⟩)))
        go_wp2
        go_end0
        refine Or.inl ⟨rfl, un_end Hk12.out (((Kept.refl [] W2).drewN nq).wider (T := [pd]) (by simp) |>.trans ((Kept.refl _ _).setCell (p := ⟨pd, 0, none⟩) (fun _ => by simp) _)) Hnx2.out (by have := Hm.out; simp; omega) (fun y hy => by
          obtain ⟨z, hz, h1⟩ := behind_block y hy
          obtain ⟨z', hz', h2⟩ := behind_block z hz
          simp at hz'; subst hz'
          exact h1.trans h2) (Hax.out x rfl) Hne.out.2.1 hby2.out (by simp; have := Hm.out; omega) (by omega) he.out (HU0.out he.out) ?_⟩
        exact one_setCell (((Kept.refl [] W2).drewN nq).at hd2.out (by simp))
      · go_quiet ((go_at_call 55; exact Calls.quiet_of_same ((want_ok 21 _).mono fun _ _ h => ⟨h.1, h.2.symm⟩)))
        go_wp2
        go_end0
        refine Or.inl ⟨rfl, un_end Hk12.out (((Kept.refl [] W2).drewN nq).wider (T := [pd]) (by simp) |>.trans ((Kept.refl _ _).setCell (p := ⟨pd, 0, none⟩) (fun _ => by simp) _)) Hnx2.out (by have := Hm.out; simp; omega) (fun y hy => by
          obtain ⟨z, hz, h1⟩ := behind_block y hy
          obtain ⟨z', hz', h2⟩ := behind_block z hz
          simp at hz'; subst hz'
          exact h1.trans h2) (Hax.out x rfl) Hne.out.2.1 hby2.out (by simp; have := Hm.out; omega) (by omega) he.out (HU0.out he.out) ?_⟩
        rw [show behind (some x) m 1 = some ⟨x.block, x.off + 1, none⟩ by
          unfold behind; rw [if_neg hm2]
          have := Hxp.out
          obtain ⟨xb, xo, xs'⟩ := x
          simp at this
          subst this
          simp [Addr.add]]
        exact one_setCell (((Kept.refl [] W2).drewN nq).at hd2.out (by simp))
    · have hbf : ((b.toNat : Int) == (kind.toNat : Int)) = false := by simpa using hbk
      have he := hid (show (21 : Int) = unsealErr kind xs by rw [HE0.out, if_neg (by simp), if_pos (fun h => hbk (by simp at h; rw [h]))])
      clear HE0 hbk
      have hm0 : 0 < m := hm1
      have hm0' : (0 : Int) < (m : Int) := by omega
      refine wp_region_still_tail 5 (by kernel_rfl) (by kernel_rfl) ?_
      simp only [List.take_succ_cons, List.take_zero, List.drop_succ_cons, List.drop_zero]
      change wpStill _ _ W2.drew _ _ _
      repeat still_step
      refine wpStill_nil ?_
      have hk3 := hid (Kept.of_drew [] W2)
      have hr3 := hid (Hnx2.out.kept (Kept.of_drew [] W2) (by simp) (fun _ _ => by simp))
      have hd3 := hid ((Kept.of_drew [] W2).at hd2.out (by simp))
      have hkf := hid (show Kept [rb, pd] W W2.drew from (Hk12.out.trans' (Kept.of_drew [] W2) (by simp)).wider (fun x _ hx => by simp at hx; simp [hx]))
      go_wp2_with fail
      refine (want_err 21 (by decide) _).mono ?_
      rintro e w1 ⟨⟨older, rfl, hcalm⟩, rfl⟩
      exact ⟨rfl, Or.inr ⟨21, ⟨older, rfl, hcalm⟩, _, _, _, hr3.out, hkf.out, fun x hx => by
        obtain ⟨y, hy, h1⟩ := behind_block x hx
        obtain ⟨z, hz, h2⟩ := behind_block y hy
        exact ⟨z, hz, h1.trans h2⟩, unQ_none he.out (by decide) hd3.out⟩⟩
  · have hzf : ((z : Int) == (v : Int)) = false := by simp; omega
    have he := hid (show (36 : Int) = unsealErr kind xs by rw [HE0.out, if_pos hzv])
    go_wp2_with fail
    refine (want_err 36 (by decide) _).mono ?_
    rintro e w1 ⟨⟨older, rfl, hcalm⟩, rfl⟩
    exact ⟨rfl, Or.inr ⟨36, ⟨older, rfl, hcalm⟩, _, _, _, Hnx2.out, Hk12.out.wider (fun x _ hx => by simp at hx; simp [hx]), fun x hx => by
      obtain ⟨y, hy, h1⟩ := behind_block x hx
      obtain ⟨z, hz, h2⟩ := behind_block y hy
      exact ⟨z, hz, h1.trans h2⟩, unQ_none he.out (by decide) hd2.out⟩⟩
end Go.Proofs.YtembincggkpflaaDoor


/- seal.Unseal: whole. -/
namespace Go.Proofs.YtembincggkpflaaDoor
open Go.RowKit Go.Lib

/-- What Unseal gives: bytes of its own, and the error's number. -/
def Unsealed (w : World) (kind : UInt8) (xs : List UInt8) (e : Ending) (w' : World) : Prop :=
  ∃ a c, e = .returned (.tuple #[.slice a (unsealed kind xs).length c, .int .i64 (unsealErr kind xs)]) ∧ Kept [] w w' ∧ Bys w' a c (unsealed kind xs) ∧ ∀ x, a = some x → w.heap.size ≤ x.block

theorem enters_unseal1 : Enters 52 := fun args w => by simp [go_sem]

theorem UnQ.err {pd b0 : Nat} {kind : UInt8} {xs : List UInt8} {n : Int} {rest : List UInt8} {W W' : World} {x : Nat} (h : UnQ pd b0 kind xs n rest W) (hx : pd ≠ x) (he : ErrAt W x) (hk : Kept [x] W W') : UnQ pd b0 kind xs n rest W' := by
  obtain ⟨h1, h2, a, c, h3, h4, h5⟩ := h
  exact ⟨h1, h2, a, c, hk.at h3 (by simpa using hx), h4.err he hk, h5⟩

theorem unseal_any (kind : UInt8) (sv : Value) (xs : List UInt8) (w : World) (hsrc : SrcB w sv xs) (ht : Tab w) (hlen : xs.length ≤ 500000000) :
    Calls Tryd.prog 35 #[.int .u8 (kind.toNat : Int), sv] w (Unsealed w kind xs) := by
  have hmf : ∀ (fn : Fn) (first cap : Array Value) (w : World), (Instr.makeFunc fn first cap).run Tryd.prog w = .ok (.func fn first cap) w := fun _ _ _ _ => rfl
  obtain ⟨a, c, rfl⟩ := hsrc.size
  obtain ⟨W0, hW0⟩ : ∃ W, W = ((w.alloc (.cells #[.int .u8 (kind.toNat : Int)] 5)).alloc (.cells #[.slice none 0 0] 29)) := ⟨_, rfl⟩
  have hkW := hid (show Kept [] w W0 from hW0 ▸ ((Kept.refl [] w).alloc _).alloc _)
  have hkb := hid (show W0.heap[w.heap.size]? = some (.cells #[.int .u8 (kind.toNat : Int)] 5 (0, 0)) from hW0 ▸ heap_alloc_old (heap_alloc_at rfl))
  have hpd := hid (show W0.heap[w.heap.size + 1]? = some (.cells #[.slice none 0 0] 29 (0, 0)) from hW0 ▸ heap_alloc_at (by simp))
  have lb := lt_of_block hkb.out
  have lp := lt_of_block hpd.out
  have hpos := ht.pos
  have hT := hid (ht.kept hkW.out (by simp))
  have hd := hid (decode_any' 52 enters_unseal1 #[.pointer (some ⟨w.heap.size, 0, none⟩), .pointer (some ⟨w.heap.size + 1, 0, none⟩)] (.slice a xs.length c) xs W0 (hsrc.kept hkW.out (by simp)) (by omega) [w.heap.size + 1] (fun x hx => by simp at hx; omega)
    (UnQ (w.heap.size + 1) w.heap.size kind xs) (fun n rest W W' x hq hx he hk => hq.err (by omega) he hk)
    (fun rb a' c' W hkW' hrb hab hrd => by
      have h1 := hkW'.at hkb.out (by simp)
      have h2 := hkW'.at hpd.out (by simp)
      rcases Nat.lt_or_ge xs.length 5 with hl | hl
      · exact unseal1_short rb _ _ w.heap.size kind a' c' xs W hrd h2 (by omega) hl
      · exact unseal1_long rb _ _ w.heap.size kind a' c' xs W hrd h1 h2 (hT.out.kept hkW' (by simp)) (by omega) (fun x hx => by have := (hab x hx).1; omega) hl hlen))
  have HW0 := hid hW0
  clear hsrc ht hW0
  go_enter Tryd.func35, Tryd.ntmps35
  go_wp2_with fail
  rw [← HW0.out]
  refine hd.out.mono ?_
  rintro e w4 ⟨n, rest, rfl, hk4, rfl, hrest, a4, c4, h4, hb4, hx4⟩
  have hn : (if unsealErr kind xs = 0 ∧ rest ≠ [] then (22 : Int) else unsealErr kind xs) = unsealErr kind xs := by
    by_cases h0 : unsealErr kind xs = 0
    · rw [if_neg (fun h => h.2 (hrest h0))]
    · rw [if_neg (fun h => h0 h.1)]
  rw [hn]
  have gc := cell_of_one h4
  have hsz := hkW.out.size
  have Hk4 := hid (show Kept [] w w4 from hkW.out.trans' hk4 (fun x hx hm => by simp at hm; omega))
  have Hb4 := hid hb4; have Hx4 := hid hx4
  clear hn hk4 h4 hb4 hx4 hrest hd
  obtain ⟨er, her⟩ : ∃ er, er = unsealErr kind xs := ⟨_, rfl⟩
  rw [← her]
  have Her := hid her
  clear her
  go_wp2
  go_ret2
  exact ⟨a4, c4, by rw [← Her.out]; rfl, Hk4.out, Hb4.out, Hx4.out⟩
end Go.Proofs.YtembincggkpflaaDoor


/- code.Writer.Bytes, of bytes that stand. -/
namespace Go.Proofs.YtembincggkpflaaDoor
open Go.RowKit Go.Lib

end Go.Proofs.YtembincggkpflaaDoor


/- seal.link, seal.Chain. -/
namespace Go.Proofs.YtembincggkpflaaDoor
open Go.RowKit Go.Lib

/-- A row of rows of bytes, wherever it lies. -/
def IsRows (w : World) (a : Option Addr) (rows : List (List UInt8)) : Prop :=
  (a = none → rows = []) ∧ ∀ x, a = some x → ∀ i r, rows[i]? = some r → ∃ ar cr, w.cell? (x.add i) = some (.slice ar r.length cr) ∧ SrcB w (.slice ar r.length cr) r

theorem IsRows.kept {w w' : World} {a : Option Addr} {rows : List (List UInt8)} (h : IsRows w a rows) (hk : Kept [] w w') : IsRows w' a rows :=
  ⟨h.1, fun x hx i r hi => by
    obtain ⟨ar, cr, h1, h2⟩ := h.2 x hx i r hi
    exact ⟨ar, cr, (hk.cell (World.block_lt_of_cell? w _ h1) (by simp)).trans h1, h2.kept hk (by simp)⟩⟩

/-- A row as it stands in a chain; a chain. -/
def linkB (r : List UInt8) : List UInt8 := withSum (numB r.length 4 ++ r)
theorem linkB_len (r : List UInt8) : (linkB r).length = r.length + 8 := by simp [linkB, withSum_len, numB_len]; omega
def chainB (rows : List (List UInt8)) : List UInt8 := rows.flatMap linkB
theorem chainB_snoc (rows : List (List UInt8)) (i : Nat) (h : i < rows.length) : chainB (rows.take (i + 1)) = chainB (rows.take i) ++ linkB rows[i] := by
  unfold chainB
  rw [List.take_succ_eq_append_getElem h, List.flatMap_append, List.flatMap_cons, List.flatMap_nil, List.append_nil]
theorem chainB_len {rows : List (List UInt8)} {M : Nat} (h : ∀ r ∈ rows, r.length ≤ M) (i : Nat) : (chainB (rows.take i)).length ≤ (M + 8) * i := by
  induction i with
  | zero => simp [chainB]
  | succ i ih =>
    by_cases hi : i < rows.length
    · rw [chainB_snoc rows i hi, List.length_append, linkB_len, Nat.mul_succ]
      have := h _ (List.getElem_mem hi)
      omega
    · rw [List.take_of_length_le (by omega)] at ih ⊢
      rw [Nat.mul_succ]
      omega

/-- A writer of the call's own, in block p; nothing that was there has turned. -/
def WAt (p : Nat) (w : World) (xs : List UInt8) (wr : World) : Prop := Kept [] w wr ∧ ∃ v, Wr wr p v xs ∧ ∀ g, v.ownBlock = some g → w.heap.size ≤ g
theorem WAt.step {p : Nat} {w wr w1 w2 : World} {ys : List UInt8} {v : Value} (hp : w.heap.size ≤ p) (hk : Kept [] w wr) (hv : ∀ g, v.ownBlock = some g → w.heap.size ≤ g) (hk1 : Kept [] wr w1) (h : Wrote p v w1 ys w2) : WAt p w ys w2 := by
  obtain ⟨v', hk2, hw, hf⟩ := h
  refine ⟨(hk.trans hk1).trans' hk2 (fun x hx hm => ?_), v', hw, fun g hg => ?_⟩
  · simp at hm
    rcases hm with hm | hm
    · omega
    · have := hv x hm; omega
  · rcases hf g hg with h | h
    · exact hv g h
    · exact Nat.le_trans (hk.trans hk1).size h

theorem own_later {w' : World} {base b : Nat} {v : Value} {n : Nat} {xs : List Value} (hb : b ≤ base) (h : w'.ownsRow base 5 1 v n xs) : w'.ownsRow b 5 1 v n xs :=
  ⟨h.1, h.2.imp id fun ⟨g, cap, cur, h1, h2, h3⟩ => ⟨g, cap, cur, h1, Nat.le_trans hb h2, h3⟩⟩

end Go.Proofs.YtembincggkpflaaDoor


/- Chains as lists: what is whole of them. -/
namespace Go.Proofs.YtembincggkpflaaDoor
open Go.RowKit Go.Lib

/-- The row that stands whole ahead, if one does. -/
def row1 (xs : List UInt8) : Option (List UInt8) :=
  if 8 + said xs ≤ xs.length ∧ numOf ((xs.drop (4 + said xs)).take 4) = (Crc.sum (xs.take (4 + said xs))).toNat then some ((xs.drop 4).take (said xs)) else none

/-- Of bytes the rows that are whole, and the rest. -/
inductive Unch : List UInt8 → List (List UInt8) → List UInt8 → Prop
  | stop (xs) : row1 xs = none → Unch xs [] xs
  | more (xs r rows rest) : row1 xs = some r → Unch (xs.drop (8 + said xs)) rows rest → Unch xs (r :: rows) rest

theorem Unch.det {xs : List UInt8} {r1 r2 : List (List UInt8)} {e1 e2 : List UInt8} (h1 : Unch xs r1 e1) (h2 : Unch xs r2 e2) : r1 = r2 ∧ e1 = e2 := by
  induction h1 generalizing r2 with
  | stop xs h =>
    cases h2 with
    | stop _ _ => exact ⟨rfl, rfl⟩
    | more _ r rows _ h' _ => rw [h] at h'; cases h'
  | more xs r rows rest h _ ih =>
    cases h2 with
    | stop _ h' => rw [h] at h'; cases h'
    | more _ r' rows' _ h' h2' =>
      rw [h] at h'
      cases h'
      obtain ⟨h3, h4⟩ := ih h2'
      exact ⟨by rw [h3], h4⟩

theorem said_front' (bs r : List UInt8) (hl : bs.length < 4294967296) : said (numB bs.length 4 ++ bs ++ r) = bs.length := by
  unfold said
  rw [List.append_assoc, List.take_append_of_le_length (by rw [numB_len]; omega), List.take_of_length_le (by rw [numB_len]; omega), numOf_numB]
  exact Nat.mod_eq_of_lt (by omega)

theorem row1_link (r tl : List UInt8) (hl : r.length < 4294967296) : row1 (linkB r ++ tl) = some r ∧ (linkB r ++ tl).drop (8 + said (linkB r ++ tl)) = tl ∧ said (linkB r ++ tl) = r.length := by
  have hs : said (linkB r ++ tl) = r.length := by
    unfold linkB withSum
    rw [List.append_assoc]
    exact said_front' r _ hl
  have hlen : (linkB r ++ tl).length = 8 + r.length + tl.length := by rw [List.length_append, linkB_len]; omega
  have e1 : (linkB r ++ tl).take (4 + r.length) = numB r.length 4 ++ r := by
    unfold linkB withSum
    rw [List.append_assoc]
    exact List.take_left' (by simp [numB_len])
  have e2 : (linkB r ++ tl).drop (4 + r.length) = numB (Crc.sum (numB r.length 4 ++ r)).toNat 4 ++ tl := by
    unfold linkB withSum
    rw [List.append_assoc]
    exact List.drop_left' (by simp [numB_len])
  have e3 : ((linkB r ++ tl).drop 4).take r.length = r := by
    unfold linkB withSum
    rw [List.append_assoc, List.append_assoc, List.drop_left' (numB_len _ _)]
    exact List.take_left' rfl
  refine ⟨?_, ?_, hs⟩
  · unfold row1
    rw [hs, hlen, e1, e2, List.take_left' (numB_len _ _), numOf_numB, if_pos ⟨by omega, Nat.mod_eq_of_lt (Crc.sum (numB r.length 4 ++ r)).isLt⟩, e3]
  · rw [hs]
    exact List.drop_left' (by rw [linkB_len]; omega)

/-- Chained rows are had, ahead of whatever stands behind them. -/
theorem unch_chain (rows : List (List UInt8)) (tl : List UInt8) (r2 : List (List UInt8)) (e : List UInt8) (hl : ∀ r ∈ rows, r.length < 4294967296) (h : Unch tl r2 e) : Unch (chainB rows ++ tl) (rows ++ r2) e := by
  induction rows with
  | nil => simpa [chainB] using h
  | cons r rows ih =>
    have e0 : chainB (r :: rows) ++ tl = linkB r ++ (chainB rows ++ tl) := by simp [chainB]
    rw [e0]
    obtain ⟨h1, h2, _⟩ := row1_link r (chainB rows ++ tl) (hl r (by simp))
    refine Unch.more _ r (rows ++ r2) e h1 ?_
    rw [h2]
    exact ih (fun r hr => hl r (by simp [hr]))
theorem row1_short (xs : List UInt8) (h : xs.length < 8) : row1 xs = none := by
  unfold row1
  rw [if_neg (fun hh => by omega)]
end Go.Proofs.YtembincggkpflaaDoor


/- seal.Unchain's closure: words and small lemmas. -/
namespace Go.Proofs.YtembincggkpflaaDoor
open Go.RowKit Go.Lib

/-- A slice of bytes, wherever it lies, with its capacity. -/
structure BSl (w : World) (a : Option Addr) (c : Nat) (xs : List UInt8) : Prop where
  src : SrcB w (.slice a xs.length c) xs
  le : xs.length ≤ c
  max : c ≤ maxLen
  nil : a = none → c = 0

theorem BSl.drop {w : World} {a : Option Addr} {c : Nat} {xs : List UInt8} (h : BSl w a c xs) {m : Nat} (hm : m ≤ xs.length) : BSl w (behind a c m) (c - m) (xs.drop m) := by
  have hle := h.le
  have hmx := h.max
  refine ⟨?_, by simp; omega, by omega, fun hb => ?_⟩
  · rcases h.src with ⟨h1, h2, h3⟩ | ⟨x, c', h1, hc⟩
    · have hx : xs = [] := List.eq_nil_of_length_eq_zero h2
      subst hx
      simp at h1 hm
      obtain ⟨rfl, rfl⟩ := h1
      subst hm
      exact Or.inl ⟨by simp [behind], by simp, by simp⟩
    · simp at h1
      obtain ⟨rfl, rfl⟩ := h1
      by_cases hcm : c = m
      · have e : xs.drop m = [] := List.drop_eq_nil_of_le (by omega)
        rw [e]
        exact Or.inr ⟨x, c - m, by simp [behind, hcm], fun j u hj => by simp at hj⟩
      · refine Or.inr ⟨x.add m, c - m, by simp [behind, hcm], fun j u hj => ?_⟩
        rw [add_add]
        refine hc (m + j) u ?_
        rw [List.getElem?_map] at hj ⊢
        rw [List.getElem?_drop] at hj
        exact hj
  · unfold behind at hb
    split at hb
    · omega
    · cases a with
      | none => have := h.nil rfl; omega
      | some x => simp at hb

theorem BSl.take {w : World} {a : Option Addr} {c : Nat} {xs : List UInt8} (h : BSl w a c xs) {m : Nat} (hm : m ≤ xs.length) : SrcB w (.slice a m c) (xs.take m) := by
  have hl : (xs.take m).length = m := by simp; omega
  by_cases hx : xs = []
  · subst hx
    simp at hm
    subst hm
    exact h.src
  · have := h.src.take hm hx
    rwa [hl] at this

/-- Slice values that read as rows of bytes, in blocks that P says. -/
def RowsAt (P : Nat → Prop) (W : World) (vals : List Value) (rows : List (List UInt8)) : Prop :=
  vals.length = rows.length ∧ ∀ (i : Nat) (r : List UInt8), rows[i]? = some r → ∃ a c, vals[i]? = some (Value.slice a r.length c) ∧ Bys W a c r ∧ ∀ x, a = some x → P x.block

theorem RowsAt.nil (P : Nat → Prop) (W : World) : RowsAt P W [] [] := ⟨rfl, fun i r h => by simp at h⟩
theorem RowsAt.kept {P : Nat → Prop} {S : List Nat} {W W' : World} {vals : List Value} {rows : List (List UInt8)} (h : RowsAt P W vals rows) (hk : Kept S W W') (hS : ∀ x ∈ S, ¬ P x) : RowsAt P W' vals rows :=
  ⟨h.1, fun i r hi => by
    obtain ⟨a, c, h1, h2, h3⟩ := h.2 i r hi
    exact ⟨a, c, h1, h2.kept hk (fun x hx hm => hS _ hm (h3 x hx)), h3⟩⟩
theorem RowsAt.err {P : Nat → Prop} {x : Nat} {W W' : World} {vals : List Value} {rows : List (List UInt8)} (h : RowsAt P W vals rows) (he : ErrAt W x) (hk : Kept [x] W W') : RowsAt P W' vals rows :=
  ⟨h.1, fun i r hi => by
    obtain ⟨a, c, h1, h2, h3⟩ := h.2 i r hi
    exact ⟨a, c, h1, h2.err he hk, h3⟩⟩
theorem RowsAt.weak {P Q : Nat → Prop} {W : World} {vals : List Value} {rows : List (List UInt8)} (h : RowsAt P W vals rows) (hPQ : ∀ k, P k → Q k) : RowsAt Q W vals rows :=
  ⟨h.1, fun i r hi => by
    obtain ⟨a, c, h1, h2, h3⟩ := h.2 i r hi
    exact ⟨a, c, h1, h2, fun x hx => hPQ _ (h3 x hx)⟩⟩
theorem RowsAt.snoc {P : Nat → Prop} {W : World} {vals : List Value} {rows : List (List UInt8)} (h : RowsAt P W vals rows) {a : Option Addr} {c : Nat} {r : List UInt8} (hb : Bys W a c r) (hx : ∀ x, a = some x → P x.block) : RowsAt P W (vals ++ [Value.slice a r.length c]) (rows ++ [r]) := by
  refine ⟨by simp [h.1], fun i r' hi => ?_⟩
  rcases Nat.lt_or_ge i rows.length with h1 | h1
  · rw [List.getElem?_append_left h1] at hi
    obtain ⟨a', c', h2, h3⟩ := h.2 i r' hi
    exact ⟨a', c', by rw [List.getElem?_append_left (by rw [h.1]; exact h1)]; exact h2, h3⟩
  · rw [List.getElem?_append_right h1] at hi
    have h0 : i - rows.length = 0 := by
      rcases Nat.eq_zero_or_pos (i - rows.length) with h2 | h2
      · exact h2
      · rw [List.getElem?_eq_none (by simp; omega)] at hi; simp at hi
    rw [h0] at hi
    simp at hi
    subst hi
    exact ⟨a, c, by rw [List.getElem?_append_right (by rw [h.1]; exact h1), h.1, h0]; rfl, hb, hx⟩

theorem owns_err {W W' : World} {base n x : Nat} {v : Value} {vals : List Value} (h : W.ownsRow base 29 1 v n vals) (he : ErrAt W x) (hk : Kept [x] W W') : W'.ownsRow base 29 1 v n vals := by
  refine hk.owns h (fun g hg hm => ?_)
  simp at hm
  subst hm
  obtain ⟨k, hk'⟩ := he
  rcases h.2 with ⟨rfl, _⟩ | ⟨g', cap, cur, rfl, _, hh, _⟩
  · simp [Value.ownBlock] at hg
  · simp [Value.ownBlock] at hg
    subst hg
    rw [hh] at hk'
    simp at hk'

/-- Behind the reading: the rows that were whole, and what is left. -/
def UcQ (w0 : World) (pr pl : Nat) (xs0 : List UInt8) (W' : World) : Prop :=
  ∃ rows rest, Unch xs0 rows rest ∧ (∃ ar cr, W'.heap[pr]? = some (.cells #[.slice ar rest.length cr] 29 (0, 0)) ∧ ∀ W, Kept [] w0 W → BSl W ar cr rest) ∧
    ∃ v vals, W'.heap[pl]? = some (.cells #[v] 22 (0, 0)) ∧ W'.ownsRow (w0.heap.size) 29 1 v rows.length vals ∧ (∀ g, v.ownBlock = some g → g ≠ pr ∧ g ≠ pl) ∧ RowsAt (w0.heap.size ≤ ·) W' vals rows

/-- Blocks that were made since w0, ahead of W, and are none of three. -/
def Mid (w0 W : World) (rb pr pl : Nat) (k : Nat) : Prop := w0.heap.size ≤ k ∧ k ∉ [rb, pr, pl] ∧ k < W.heap.size
/-- What is had when xs are still to be read. -/
def UcSt (w0 W : World) (rb pr pl : Nat) (xs0 xs : List UInt8) (wr : World) : Prop :=
  ∃ done, 8 * done.length + xs.length ≤ xs0.length ∧ (∀ rows rest, Unch xs rows rest → Unch xs0 (done ++ rows) rest) ∧
    (∃ ar cr, wr.heap[pr]? = some (.cells #[.slice ar xs.length cr] 29 (0, 0)) ∧ ∀ W', Kept [] w0 W' → BSl W' ar cr xs) ∧
    ∃ v vals, wr.heap[pl]? = some (.cells #[v] 22 (0, 0)) ∧ wr.ownsRow W.heap.size 29 1 v done.length vals ∧ RowsAt (Mid w0 W rb pr pl) wr vals done
/-- Where the loop stands: xs are still to be read. -/
def UcAt (w0 W : World) (rb pr pl : Nat) (a : Option Addr) (xs0 xs : List UInt8) (wr : World) : Prop :=
  ∃ a1 c1, Kept [rb, pr, pl] W wr ∧ Rd wr rb a1 c1 xs ∧ (∀ x, a1 = some x → ∃ y, a = some y ∧ x.block = y.block) ∧ UcSt w0 W rb pr pl xs0 xs wr

theorem own_block_ge {w' : World} {base b : Nat} {v : Value} {n : Nat} {xs : List Value} (h : w'.ownsRow base b 1 v n xs) : ∀ g, v.ownBlock = some g → base ≤ g ∧ g < w'.heap.size := by
  intro g hg
  rcases h.2 with ⟨rfl, _⟩ | ⟨g', cap, cur, rfl, hb, hh, _⟩
  · simp [Value.ownBlock] at hg
  · simp [Value.ownBlock] at hg
    subst hg
    exact ⟨hb, lt_of_block hh⟩

theorem UcSt.kept {w0 W wr w' : World} {rb pr pl : Nat} {xs0 xs : List UInt8} (h : UcSt w0 W rb pr pl xs0 xs wr) (hrb : rb < W.heap.size) (hne : pr ≠ rb ∧ pl ≠ rb) (hk : Kept [rb] wr w') : UcSt w0 W rb pr pl xs0 xs w' := by
  obtain ⟨done, h1, h2, ⟨ar, cr, h3, h4⟩, v, vals, h5, h6, h7⟩ := h
  exact ⟨done, h1, h2, ⟨ar, cr, hk.at h3 (by simpa using hne.1), h4⟩, v, vals, hk.at h5 (by simpa using hne.2), hk.owns h6 (fun g hg => by have := (own_block_ge h6 g hg).1; simp; omega), h7.kept hk (fun x hx hp => by simp at hx; subst hx; exact hp.2.1 (by simp))⟩

theorem UcSt.stop {w0 W wr : World} {rb pr pl : Nat} {xs0 xs : List UInt8} (hW : w0.heap.size ≤ W.heap.size) (hp : pr < W.heap.size ∧ pl < W.heap.size) (h : UcSt w0 W rb pr pl xs0 xs wr) (hs : row1 xs = none) :
    UcQ w0 pr pl xs0 wr := by
  obtain ⟨done, _, hun, ⟨ar, cr, h1, h2⟩, v, vals, h3, h4, h5⟩ := h
  have hu := hun [] xs (Unch.stop xs hs)
  rw [List.append_nil] at hu
  refine ⟨done, xs, hu, ⟨ar, cr, h1, h2⟩, v, vals, h3, ⟨h4.1, h4.2.imp id fun ⟨g, cap, cur, k1, k2, k3⟩ => ⟨g, cap, cur, k1, Nat.le_trans hW k2, k3⟩⟩, fun g hg => ?_, h5.weak fun k hk => hk.1⟩
  have := (own_block_ge h4 g hg).1; omega

theorem row1_err (xs : List UInt8) (h : ¬ 8 + said xs ≤ xs.length) : row1 xs = none := by
  unfold row1
  rw [if_neg (fun hh => h hh.1)]
theorem fieldErr_ok (xs : List UInt8) (h : 4 + said xs ≤ xs.length) : fieldErr xs xs.length = 0 := by
  unfold fieldErr
  rw [if_neg (by omega), if_neg (by omega), if_neg (by omega)]

/-- A row more. -/
theorem UcSt.more {w0 W w' : World} {rb pr pl : Nat} {xs0 xs : List UInt8} {r : List UInt8} (h : row1 xs = some r) {done : List (List UInt8)} (hdl : 8 * done.length + xs.length ≤ xs0.length) (hun : ∀ rows rest, Unch xs rows rest → Unch xs0 (done ++ rows) rest)
    {ar : Option Addr} {cr : Nat} (hpr : w'.heap[pr]? = some (.cells #[.slice (behind ar cr (8 + said xs)) (xs.length - (8 + said xs)) (cr - (8 + said xs))] 29 (0, 0))) (hb : ∀ W', Kept [] w0 W' → BSl W' ar cr xs)
    {v : Value} {vals : List Value} (hpl : w'.heap[pl]? = some (.cells #[v] 22 (0, 0))) (hown : w'.ownsRow W.heap.size 29 1 v (done.length + 1) vals) (hrows : RowsAt (Mid w0 W rb pr pl) w' vals (done ++ [r])) :
    UcSt w0 W rb pr pl xs0 (xs.drop (8 + said xs)) w' := by
  have h8 : 8 + said xs ≤ xs.length := by
    rcases Nat.lt_or_ge xs.length (8 + said xs) with hl | hl
    · rw [row1_err xs (by omega)] at h; simp at h
    · exact hl
  refine ⟨done ++ [r], by simp; omega, fun rows rest hu => ?_, ⟨_, _, by rw [List.length_drop]; exact hpr, fun W' hk => (hb W' hk).drop h8⟩, v, vals, hpl, by simpa using hown, hrows⟩
  rw [List.append_assoc]
  exact hun _ _ (Unch.more xs r rows rest h hu)
end Go.Proofs.YtembincggkpflaaDoor


/- seal.Unchain's closure. -/
namespace Go.Proofs.YtembincggkpflaaDoor
open Go.RowKit Go.Lib

theorem info_sl : (Tryd.prog.info? 29).map (fun i => (i.zero, i.size, i.bytes)) = some (some (.slice none 0 0), 1, 24) := by kernel_rfl

end Go.Proofs.YtembincggkpflaaDoor


/- coldstoreref01.Held, coldstoreref02.Num, coldstoreref01.Join of two: the document's bytes. -/
namespace Go.Proofs.YtembincggkpflaaDoor
open Go.RowKit Go.Lib

theorem held_any (size : Int) (w : World) : Calls Tryd.prog 47 #[.int .i64 size, .int .i64 1, .int .i64 8] w fun e w' => e = .returned (.int .i64 (sz size)) ∧ w = w' := by
  by_cases h1 : size < 1
  · have e : sz size = 1 := by unfold sz; rw [if_pos h1]
    have h2 : ¬ 8 < size := by omega
    rw [e]
    go_enter Tryd.func47, Tryd.ntmps47
    go_wp2
    go_ret
    exact ⟨by simp, rfl⟩
  · by_cases h2 : 8 < size
    · have e : sz size = 8 := by unfold sz; rw [if_neg h1, if_pos h2]
      rw [e]
      go_enter Tryd.func47, Tryd.ntmps47
      go_wp2
      go_ret
      exact ⟨by simp, rfl⟩
    · have e : (sz size : Int) = size := by unfold sz; rw [if_neg h1, if_neg h2]; omega
      rw [e]
      go_enter Tryd.func47, Tryd.ntmps47
      go_wp2
      go_ret
      exact ⟨by simp, rfl⟩

/-- A row of bytes that a call made: v is it, in the world wr. -/
def RowAt (w : World) (base : Nat) (v : Value) (xs : List UInt8) (wr : World) : Prop :=
  Kept [] w wr ∧ w.heap.size ≤ base ∧ base ≤ wr.heap.size ∧ wr.ownsRow base 5 1 v xs.length (xs.map B)
theorem RowAt.step {w wr w1 w2 : World} {base : Nat} {v v2 : Value} {xs ys : List UInt8} (h : RowAt w base v xs wr) (hk : Kept [] wr w1) (hown : w2.ownsRow base 5 1 v2 (xs ++ ys).length ((xs ++ ys).map B)) (hg : w1.grownBy w2 v.ownBlock) : RowAt w base v2 (xs ++ ys) w2 := by
  obtain ⟨h1, h2, h3, h4⟩ := h
  refine ⟨(h1.trans hk).trans' (Kept.of_row hg) (fun x hx hm => ?_), h2, by have := hk.size; have := hg.size; omega, hown⟩
  simp at hm
  rcases h4.2 with ⟨rfl, _⟩ | ⟨g, _, _, rfl, hb, _⟩
  · simp [Value.ownBlock] at hm
  · simp [Value.ownBlock] at hm; omega
theorem RowAt.fresh (w : World) : RowAt w w.heap.size (.slice (some ⟨w.heap.size, 0, none⟩) 0 0) [] (w.alloc (.cells #[] 5)) :=
  ⟨(Kept.refl [] w).alloc _, Nat.le_refl _, by simp, by simp, Or.inr ⟨w.heap.size, 0, #[], rfl, Nat.le_refl _, heap_alloc_new' _ _, by simp, by unfold maxLen; omega, by simp, by simp⟩⟩

set_option maxHeartbeats 1000000 in
theorem refnum_any (N : Nat) (hN : N < 18446744073709551616) (size : Int) (w : World) :
    Calls Tryd.prog 31 #[.int .u64 N, .int .i64 size] w fun e w' => ∃ v, e = .returned v ∧ RowAt w w.heap.size v (numB N (sz size)) w' := by
  obtain ⟨i0, hi0, hz0, hz1, hz2⟩ := info_parts info_u8
  have hs := sz_le size
  have hfr := hid (RowAt.fresh w)
  go_enter Tryd.func31, Tryd.ntmps31
  go_wp2_with fail
  go_loopw [0, 5, 6] (fun n v s wr => ∃ i : Nat, i ≤ sz size ∧ s = .int .i64 i ∧ n = .int .u64 ((N / 256 ^ i : Nat) : Int) ∧ RowAt w w.heap.size v (numB N i) wr) (fun _ _ s _ => sz size - (intOf s).toNat)
  case atStart => exact ⟨0, Nat.zero_le _, rfl, by simp, by simpa [numB] using hfr.out⟩
  case round =>
    obtain ⟨i, hi, rfl, rfl, hw⟩ := hrel
    have HW := hid hw
    clear hw
    by_cases hlt : i < sz size
    · have hb : N / 256 ^ i < 18446744073709551616 := Nat.lt_of_le_of_lt (Nat.div_le_self _ _) hN
      obtain ⟨M, hM⟩ : ∃ M, M = N / 256 ^ i := ⟨_, rfl⟩
      have hM2 : Hid (M / 256 = N / 256 ^ (i + 1)) := hid (by rw [hM, Nat.div_div_eq_div_mul, Nat.pow_succ])
      have hnb : Hid (numB N (i + 1) = numB N i ++ [UInt8.ofNat M]) := hid (by rw [numB_succ, hM])
      rw [← hM] at hb ⊢
      clear hM
      have hlt' : (i : Int) < (sz size : Int) := by omega
      go_wp2_with fail
      refine (held_any _ _).mono ?_
      rintro e w1 ⟨rfl, rfl⟩
      have hown := hid (((Kept.refl [] wr).alloc (.cells #[.int .u8 ((M : Int) % 256)] 5)).owns HW.out.2.2.2 (by simp))
      go_wp2_with (at_builtin; refine halt ?_)
      refine Halt.mk ?_
      refine wpList_append_src _ rfl _ _ _ rfl w.heap.size 5 i0 _ 1 Tryd.underlying29 hi0 hz0 hz1 hz2 rfl u5 (numB N i).length ((numB N i).map B) rfl hown.out _ 1 [B (UInt8.ofNat M)] rfl (Or.inr ⟨_, _, rfl, by rw [B_ofNat]; exact cell_one_new _ _ _⟩) rfl (by simp [B, Value.oneCell']) ?_ ?_ ?_ ?_
      · have := numB_len N i; unfold maxLen; omega
      · have := numB_len N i; omega
      · have := HW.out.2.2.1; simp; omega
      intro v2 w2 hown2 hgrow2 _ hf2
      obtain ⟨a2, c2, rfl⟩ := owns_slice hown2
      have hstep := hid (RowAt.step (ys := [UInt8.ofNat M]) HW.out ((Kept.refl [] wr).alloc (.cells #[.int .u8 ((M : Int) % 256)] 5)) (by simpa using hown2) hgrow2)
      clear hown2 hgrow2 hf2 hown
      go_wp2
      go_roundw
      case rel => exact ⟨i + 1, by omega, by go_num, by rw [← hM2.out]; go_num, by rw [hnb.out]; exact hstep.out⟩
      case measure => simp [intOf]; omega
    · have hin : i = sz size := by omega
      subst hin
      have hlt' : ¬ ((sz size : Nat) : Int) < (sz size : Int) := by omega
      go_wp2_with fail
      refine (held_any _ _).mono ?_
      rintro e w1 ⟨rfl, rfl⟩
      go_wp2
      go_ret
      exact ⟨_, rfl, HW.out⟩

theorem RowAt.src {w : World} {base : Nat} {v : Value} {xs : List UInt8} {wr : World} (h : RowAt w base v xs wr) : SrcB wr v xs := by
  obtain ⟨a, c, rfl⟩ := owns_slice h.2.2.2
  exact (bys_of_row h.2.2.2).1

/-- A row of two slices of bytes, joined. -/
theorem join2_any (p : Nat) (v1 v2 : Value) (xs ys : List UInt8) (w : World) (hp : w.heap[p]? = some (.cells #[v1, v2] 29 (0, 0))) (h1 : SrcB w v1 xs) (h2 : SrcB w v2 ys) (hx : xs.length ≤ 1000) (hy : ys.length ≤ 1000) :
    Calls Tryd.prog 23 #[.slice (some ⟨p, 0, none⟩) 2 2] w fun e w' => ∃ v, e = .returned v ∧ RowAt w w.heap.size v (xs ++ ys) w' := by
  obtain ⟨i0, hi0, hz0, hz1, hz2⟩ := info_parts info_u8
  obtain ⟨a1, c1, rfl⟩ := h1.size
  obtain ⟨a2, c2, rfl⟩ := h2.size
  have hc0 : w.cell? ⟨p, 0, none⟩ = some (.slice a1 xs.length c1) := by unfold World.cell?; simp [hp]
  have hc1 : w.cell? ⟨p, 1, none⟩ = some (.slice a2 ys.length c2) := by unfold World.cell?; simp [hp]
  have lp := lt_of_block hp
  have hfr := hid (RowAt.fresh w)
  have H1 := hid h1; have H2 := hid h2
  clear hp h1 h2
  go_enter Tryd.func23, Tryd.ntmps23
  go_wp2_with fail
  go_loopw [3, 4] (fun v s wr => (s = .int .i64 0 ∧ RowAt w w.heap.size v [] wr) ∨ (s = .int .i64 1 ∧ RowAt w w.heap.size v xs wr) ∨ (s = .int .i64 2 ∧ RowAt w w.heap.size v (xs ++ ys) wr)) (fun _ s _ => 2 - (intOf s).toNat)
  case atStart => exact Or.inl ⟨rfl, hfr.out⟩
  case round =>
    rcases hrel with ⟨rfl, hr⟩ | ⟨rfl, hr⟩ | ⟨rfl, hr⟩
    · have hk := hr.1
      have kc := (hk.cell (p := ⟨p, 0, none⟩) lp (by simp)).trans hc0
      have hsrc := hid (H1.out.kept hk (by simp))
      have HR := hid hr
      clear hk hr
      go_wp2_with (at_builtin; refine halt ?_)
      refine Halt.mk ?_
      refine wpList_append_src _ rfl _ _ _ rfl w.heap.size 5 i0 _ 1 Tryd.underlying29 hi0 hz0 hz1 hz2 rfl u3 ([] : List UInt8).length (([] : List UInt8).map B) rfl HR.out.2.2.2 (.slice a1 xs.length c1) xs.length (xs.map B) rfl hsrc.out (by simp) (B_oneCell _) ?_ ?_ ?_ ?_
      · unfold maxLen; simp; omega
      · simp; omega
      · exact HR.out.2.2.1
      intro v2 w2 hown2 hgrow2 _ hf2
      obtain ⟨b2, d2, rfl⟩ := owns_slice hown2
      have hstep := hid (RowAt.step (ys := xs) HR.out (Kept.refl [] wr) (by simpa using hown2) hgrow2)
      clear hown2 hgrow2 hf2
      go_wp2
      go_roundw
      case rel => exact Or.inr (Or.inl ⟨by go_num, by simpa using hstep.out⟩)
      case measure => simp [intOf]
    · have hk := hr.1
      have kc := (hk.cell (p := ⟨p, 1, none⟩) lp (by simp)).trans hc1
      have hsrc := hid (H2.out.kept hk (by simp))
      have HR := hid hr
      clear hk hr
      go_wp2_with (at_builtin; refine halt ?_)
      refine Halt.mk ?_
      refine wpList_append_src _ rfl _ _ _ rfl w.heap.size 5 i0 _ 1 Tryd.underlying29 hi0 hz0 hz1 hz2 rfl u3 (xs).length ((xs).map B) rfl HR.out.2.2.2 (.slice a2 ys.length c2) ys.length (ys.map B) rfl hsrc.out (by simp) (B_oneCell _) ?_ ?_ ?_ ?_
      · unfold maxLen; simp; omega
      · simp; omega
      · exact HR.out.2.2.1
      intro v2 w2 hown2 hgrow2 _ hf2
      obtain ⟨b2, d2, rfl⟩ := owns_slice hown2
      have hstep := hid (RowAt.step (ys := ys) HR.out (Kept.refl [] wr) (by simpa using hown2) hgrow2)
      clear hown2 hgrow2 hf2
      go_wp2
      go_roundw
      case rel => exact Or.inr (Or.inr ⟨by go_num, by simpa using hstep.out⟩)
      case measure => simp [intOf]
    · have HR := hid hr
      clear hr
      go_wp2
      go_ret
      exact ⟨_, rfl, HR.out⟩
end Go.Proofs.YtembincggkpflaaDoor


/- bytes.Clone; seal.Unchain. -/
namespace Go.Proofs.YtembincggkpflaaDoor
open Go.RowKit Go.Lib

/-- A copy: bytes of its own. -/
def Copied (w : World) (bs : List UInt8) (e : Ending) (w' : World) : Prop :=
  ∃ a c, e = .returned (.slice a bs.length c) ∧ Kept [] w w' ∧ Bys w' a c bs ∧ ∀ x, a = some x → w.heap.size ≤ x.block

theorem clone_any (a : Option Addr) (c : Nat) (bs : List UInt8) (w : World) (h : SrcB w (.slice a bs.length c) bs) (hlen : bs.length ≤ 500000000) :
    Calls Tryd.prog 37 #[.slice a bs.length c] w (Copied w bs) := by
  obtain ⟨i0, hi0, hz0, hz1, hz2⟩ := info_parts info_u8
  rcases h with ⟨h1, h2, _⟩ | ⟨x, c', h1, hc⟩
  · have hb : bs = [] := List.eq_nil_of_length_eq_zero h2
    subst hb
    simp at h1
    obtain ⟨rfl, rfl⟩ := h1
    have heq := fun (w : World) => run_eql_slice_nil (P := Tryd.prog) w 29 5 none 0 0 0 0 Tryd.underlying29
    go_enter Tryd.func37, Tryd.ntmps37
    go_wp2
    go_ret
    exact ⟨none, 0, rfl, Kept.refl _ _, ⟨Or.inl ⟨rfl, rfl, rfl⟩, fun x hx => by simp at hx⟩, fun x hx => by simp at hx⟩
  · simp at h1
    obtain ⟨rfl, rfl⟩ := h1
    have hsrc := hid (show SrcB w (.slice (some x) bs.length c) bs from Or.inr ⟨x, c, rfl, hc⟩)
    clear hc
    have heq := fun (w : World) => run_eql_slice_nil (P := Tryd.prog) w 29 5 (some x) bs.length c 0 0 Tryd.underlying29
    go_enter Tryd.func37, Tryd.ntmps37
    go_wp2_with (at_builtin; refine halt ?_)
    refine Halt.mk ?_
    refine wpList_append_src _ rfl _ _ _ rfl w.heap.size 5 i0 _ 1 Tryd.underlying29 hi0 hz0 hz1 hz2 rfl (.slice (some ⟨w.heap.size, 0, none⟩) 0 0) ([] : List UInt8).length (([] : List UInt8).map B) rfl (RowAt.fresh w).2.2.2 (.slice (some x) bs.length c) bs.length (bs.map B) rfl (hsrc.out.kept ((Kept.refl [] w).alloc _) (by simp)) (by simp) (B_oneCell bs) ?_ ?_ ?_ ?_
    · unfold maxLen; simp; omega
    · simp; omega
    · simp
    intro v2 w2 hown2 hgrow2 _ hf2
    obtain ⟨a2, c2, rfl⟩ := owns_slice hown2
    have hr := hid (RowAt.step (ys := bs) (RowAt.fresh w) (Kept.refl [] _) (by simpa using hown2) hgrow2)
    clear hown2 hgrow2 hf2
    simp only [List.length_nil, Nat.zero_add] at hr ⊢
    go_wp2
    go_ret
    have hown := hr.out.2.2.2
    simp only [List.nil_append] at hown
    exact ⟨a2, c2, rfl, hr.out.1, bys_of_row hown, fun y hy => (own_block_ge hown y.block (by simp [Value.ownBlock, hy])).1⟩

/-- What Unchain gives. -/
def Unchained (w : World) (xs : List UInt8) (e : Ending) (w' : World) : Prop :=
  ∃ rows rest av cv vals a c, Unch xs rows rest ∧ e = .returned (.tuple #[.slice av rows.length cv, .slice a rest.length c]) ∧ Kept [] w w' ∧ w'.ownsRow w.heap.size 29 1 (.slice av rows.length cv) rows.length vals ∧ RowsAt (w.heap.size ≤ ·) w' vals rows ∧
    Bys w' a c rest ∧ ∀ x, a = some x → w.heap.size ≤ x.block

theorem UcQ.err {w0 W W' : World} {pr pl : Nat} {xs : List UInt8} {x : Nat} (h : UcQ w0 pr pl xs W) (hx : pr ≠ x ∧ pl ≠ x) (he : ErrAt W x) (hk : Kept [x] W W') : UcQ w0 pr pl xs W' := by
  obtain ⟨rows, rest, h1, ⟨ar, cr, h2, h3⟩, v, vals, h4, h5, h6, h7⟩ := h
  exact ⟨rows, rest, h1, ⟨ar, cr, hk.at h2 (by simpa using hx.1), h3⟩, v, vals, hk.at h4 (by simpa using hx.2), owns_err h5 he hk, h6, h7.err he hk⟩

theorem Unch.len {xs : List UInt8} {rows : List (List UInt8)} {rest : List UInt8} (h : Unch xs rows rest) : rest.length ≤ xs.length := by
  induction h with
  | stop xs _ => exact Nat.le_refl _
  | more xs r rows rest _ _ ih => simp at ih; omega

end Go.Proofs.YtembincggkpflaaDoor


/- What is sealed, unsealed: lists only; fresh rows. -/
namespace Go.Proofs.YtembincggkpflaaDoor
open Go.RowKit Go.Lib

theorem sealed_len (k : UInt8) (ys : List UInt8) : (sealed k ys).length = ys.length + 5 := by simp [sealed, withSum_len]
theorem sealed_cut (k : UInt8) (ys : List UInt8) : (sealed k ys).take ((sealed k ys).length - 4) = k :: ys ∧ (sealed k ys).drop ((sealed k ys).length - 4) = numB (Crc.sum (k :: ys)).toNat 4 := by
  have e : (sealed k ys).length - 4 = (k :: ys).length := by rw [sealed_len]; simp
  rw [e]
  exact ⟨List.take_left' rfl, List.drop_left' rfl⟩
theorem sealed_num (k : UInt8) (ys : List UInt8) : numOf (numB (Crc.sum (k :: ys)).toNat 4) = (Crc.sum (k :: ys)).toNat := by
  rw [numOf_numB]
  exact Nat.mod_eq_of_lt (Crc.sum (k :: ys)).isLt
theorem sealed_head (k : UInt8) (ys : List UInt8) : (sealed k ys).head? = some k := rfl

theorem unseal_own (k : UInt8) (ys : List UInt8) : unsealErr k (sealed k ys) = 0 ∧ unsealed k (sealed k ys) = ys := by
  have h := sealed_cut k ys
  have he : unsealErr k (sealed k ys) = 0 := by
    unfold unsealErr
    rw [h.1, h.2, sealed_num, sealed_head, if_neg (by rw [sealed_len]; omega), if_neg (by simp), if_neg (by simp)]
  refine ⟨he, ?_⟩
  unfold unsealed
  rw [if_pos he, h.1]
  rfl
theorem unseal_other (k o : UInt8) (ys : List UInt8) (hko : k ≠ o) : unsealErr o (sealed k ys) = 21 ∧ unsealed o (sealed k ys) = [] := by
  have h := sealed_cut k ys
  have he : unsealErr o (sealed k ys) = 21 := by
    unfold unsealErr
    rw [h.1, h.2, sealed_num, sealed_head, if_neg (by rw [sealed_len]; omega), if_neg (by simp), if_pos (by simpa using hko)]
  refine ⟨he, ?_⟩
  unfold unsealed
  rw [if_neg (by rw [he]; decide)]
theorem unseal_short (k : UInt8) (xs : List UInt8) (h : xs.length < 5) : unsealErr k xs = 20 ∧ unsealed k xs = [] := by
  have he : unsealErr k xs = 20 := by unfold unsealErr; rw [if_pos h]
  exact ⟨he, by unfold unsealed; rw [if_neg (by rw [he]; decide)]⟩

/-- Bytes in a block that was just made. -/
theorem src_alloc (w : World) (bs : List UInt8) (c : Nat) (f : Nat × Nat) : SrcB (w.alloc (.cells (bs.map B).toArray 5 f)) (.slice (some ⟨w.heap.size, 0, none⟩) bs.length c) bs := by
  refine Or.inr ⟨_, c, rfl, fun j u hj => ?_⟩
  have h := heap_alloc_new' w (.cells (bs.map B).toArray 5 f)
  have e : (⟨w.heap.size, 0, none⟩ : Addr).add j = ⟨w.heap.size, j, none⟩ := by unfold Addr.add; split <;> simp_all
  rw [e]
  unfold World.cell?
  rw [h]
  simpa using hj
theorem bys_alloc (w : World) (bs : List UInt8) (c : Nat) (f : Nat × Nat) : Bys (w.alloc (.cells (bs.map B).toArray 5 f)) (some ⟨w.heap.size, 0, none⟩) c bs := ⟨src_alloc w bs c f, fun x hx => by simp at hx; subst hx; rfl⟩

theorem bsl_of_row {W : World} {base : Nat} {a : Option Addr} {c : Nat} {xs : List UInt8} (ho : W.ownsRow base 5 1 (.slice a xs.length c) xs.length (xs.map B)) : BSl W a c xs := by
  have hs := (bys_of_row ho).1
  rcases ho.2 with ⟨h1, h2⟩ | ⟨g, cap, cur, hv, hg, hh, hc, hm, hcs, ht⟩
  · simp at h1
    obtain ⟨rfl, h1, rfl⟩ := h1
    exact ⟨hs, by omega, by unfold maxLen; omega, fun _ => rfl⟩
  · simp at hv
    obtain ⟨rfl, rfl⟩ := hv
    exact ⟨hs, hc, hm, fun h => by simp at h⟩
end Go.Proofs.YtembincggkpflaaDoor


/- coldstorelaw04.alive. -/
namespace Go.Proofs.YtembincggkpflaaDoor
open Go.RowKit Go.Lib

def nine : List UInt8 := [49, 50, 51, 52, 53, 54, 55, 56, 57]
theorem sum_nine : (Crc.sum nine).toNat = 3808858755 := by decide +kernel
theorem sum_nil : (Crc.sum []).toNat = 0 := by decide +kernel

def ab : List UInt8 := [97, 98]
def ab7 : List UInt8 := sealed 7 ab
theorem ab7_len : ab7.length = 7 := sealed_len _ _

def two : List (List UInt8) := [[97], []]
def two17 : List UInt8 := chainB two
theorem two17_len : two17.length = 17 := by simp [two17, two, chainB, linkB_len]
theorem two18 {rows : List (List UInt8)} {rest : List UInt8} (h : Unch (two17 ++ [1]) rows rest) : rows.length = 2 ∧ rest.length = 1 := by
  have h2 := unch_chain two [1] [] [1] (by intro r hr; simp [two] at hr; rcases hr with rfl | rfl <;> decide) (Unch.stop _ (row1_short _ (by decide)))
  obtain ⟨h3, h4⟩ := h.det h2
  subst h3 h4
  exact ⟨rfl, rfl⟩

theorem unseal_own' (k : UInt8) (sv : Value) (ys xs : List UInt8) (w : World) (hx : xs = sealed k ys) (hsrc : SrcB w sv xs) (ht : Tab w) (hlen : ys.length ≤ 400000000) :
    Calls Tryd.prog 35 #[.int .u8 (k.toNat : Int), sv] w fun e w' => ∃ a c, e = .returned (.tuple #[.slice a ys.length c, .int .i64 0]) ∧ Kept [] w w' ∧ Bys w' a c ys ∧ ∀ x, a = some x → w.heap.size ≤ x.block := by
  subst hx
  have h := unseal_any k sv _ w hsrc ht (by rw [sealed_len]; omega)
  unfold Unsealed at h
  rw [(unseal_own k ys).1, (unseal_own k ys).2] at h
  exact h
theorem unseal_none' (k : UInt8) (sv : Value) (xs : List UInt8) (n : Int) (w : World) (hx : unsealErr k xs = n ∧ unsealed k xs = []) (hsrc : SrcB w sv xs) (ht : Tab w) (hlen : xs.length ≤ 500000000) :
    Calls Tryd.prog 35 #[.int .u8 (k.toNat : Int), sv] w fun e w' => ∃ a c, e = .returned (.tuple #[.slice a 0 c, .int .i64 n]) ∧ Kept [] w w' := by
  have h := unseal_any k sv xs w hsrc ht hlen
  unfold Unsealed at h
  rw [hx.1, hx.2] at h
  exact h.mono fun e w' ⟨a, c, h1, h2, _⟩ => ⟨a, c, h1, h2⟩

end Go.Proofs.YtembincggkpflaaDoor


/- Turned bits, and what unsealing tells of them: lists only; a cell of a row that is set. -/
namespace Go.Proofs.YtembincggkpflaaDoor
open Go.RowKit Go.Lib

theorem le_numOf (l : List UInt8) (h : l.length = 4) : Crc.le (numOf l) = l := by
  match l, h with
  | [a, b, c, d], _ =>
    have ha := a.toNat_lt; have hb := b.toNat_lt; have hc := c.toNat_lt; have hd := d.toNat_lt
    have e : numOf [a, b, c, d] = a.toNat + 256 * (b.toNat + 256 * (c.toNat + 256 * d.toNat)) := by simp [numOf]
    unfold Crc.le
    rw [e]
    congr 1
    · apply UInt8.toNat_inj.1; simp
    congr 1
    · apply UInt8.toNat_inj.1; simp; omega
    congr 1
    · apply UInt8.toNat_inj.1; simp; omega
    congr 1
    · apply UInt8.toNat_inj.1; simp; omega

/-- Whether bytes have their sum behind them, by all of them at once. -/
theorem sum_iff (xs : List UInt8) (h : 4 ≤ xs.length) : numOf (xs.drop (xs.length - 4)) = (Crc.sum (xs.take (xs.length - 4))).toNat ↔ Crc.feed (BitVec.allOnes 32) xs = Crc.R := by
  have hl : (xs.drop (xs.length - 4)).length = 4 := by simp; omega
  have hlt : numOf (xs.drop (xs.length - 4)) < 2 ^ 32 := by
    have := numOf_lt (xs.drop (xs.length - 4)); rw [hl] at this; omega
  have e : xs.take (xs.length - 4) ++ Crc.le (numOf (xs.drop (xs.length - 4))) = xs := by rw [le_numOf _ hl, List.take_append_drop]
  rw [← Crc.feed_sum _ _ hlt, e]

theorem sealed_good (k : UInt8) (ys : List UInt8) : Crc.feed (BitVec.allOnes 32) (sealed k ys) = Crc.R := by
  refine (sum_iff _ (by rw [sealed_len]; omega)).1 ?_
  rw [(sealed_cut k ys).1, (sealed_cut k ys).2, sealed_num]

theorem unseal_bad (k : UInt8) (xs : List UInt8) (h5 : 5 ≤ xs.length) (h : Crc.feed (BitVec.allOnes 32) xs ≠ Crc.R) : unsealErr k xs = 36 ∧ unsealed k xs = [] := by
  have he : unsealErr k xs = 36 := by
    unfold unsealErr
    rw [if_neg (by omega), if_pos (fun hh => h ((sum_iff xs (by omega)).1 hh))]
  exact ⟨he, by unfold unsealed; rw [if_neg (by rw [he]; decide)]⟩

theorem flip_bad (l : List UInt8) (p : Nat) (hp : p < 8 * l.length) (hl : Crc.feed (BitVec.allOnes 32) l = Crc.R) : Crc.feed (BitVec.allOnes 32) (Crc.flip l p) ≠ Crc.R := by
  rw [Crc.feed_flip l p _ hp, hl]
  intro h
  have h2 : Crc.Tn (8 * l.length - p) 1#32 = 0#32 := by
    have : Crc.R ^^^ (Crc.R ^^^ Crc.Tn (8 * l.length - p) 1#32) = Crc.R ^^^ Crc.R := by rw [h]
    rw [← BitVec.xor_assoc] at this
    simpa using this
  exact absurd (Crc.Tn_inj0 _ _ h2) (by decide)

/-- A cell of a row of bytes is set. -/
theorem own_set {w : World} {base g n c : Nat} {xs : List UInt8} (h : w.ownsRow base 5 1 (.slice (some ⟨g, 0, none⟩) n c) n (xs.map B)) (i : Nat) (b : UInt8) :
    (w.setCell ⟨g, i, none⟩ (B b)).ownsRow base 5 1 (.slice (some ⟨g, 0, none⟩) n c) n ((xs.set i b).map B) := by
  have := (h.stored i (B b)).1
  rwa [← List.map_set] at this

theorem xor_u8 (a b : UInt8) : bits .xor .u8 (a.toNat : Int) (b.toNat : Int) = (((a ^^^ b).toNat : Nat) : Int) := by
  have ha := a.toNat_lt
  have hb := b.toNat_lt
  have key : (BitVec.ofInt 8 (a.toNat : Int) ^^^ BitVec.ofInt 8 (b.toNat : Int)).toNat = a.toNat ^^^ b.toNat := by
    rw [BitVec.toNat_xor, BitVec.toNat_ofInt, BitVec.toNat_ofInt]
    have h1 : ((a.toNat : Int) % ((2 ^ 8 : Nat) : Int)).toNat = a.toNat := by omega
    have h2 : ((b.toNat : Int) % ((2 ^ 8 : Nat) : Int)).toNat = b.toNat := by omega
    rw [h1, h2]
  have hx : a.toNat ^^^ b.toNat < 2 ^ 8 := Nat.xor_lt_two_pow (by omega) (by omega)
  show IntKind.u8.wrap ((BitVec.ofInt 8 (a.toNat : Int) ^^^ BitVec.ofInt 8 (b.toNat : Int)).toNat : Nat) = _
  rw [key, UInt8.toNat_xor, IntKind.wrap_u8]
  omega

theorem flip_set (l : List UInt8) (p : Nat) (b : UInt8) (h : l[p / 8]? = some b) : l.set (p / 8) (b ^^^ UInt8.ofNat (2 ^ (p % 8))) = Crc.flip l p := by
  unfold Crc.flip
  apply List.ext_getElem?
  intro i
  rw [List.getElem?_set, List.getElem?_modify]
  have hlt : p / 8 < l.length := by
    rcases Nat.lt_or_ge (p / 8) l.length with h' | h'
    · exact h'
    · rw [List.getElem?_eq_none h'] at h; simp at h
  by_cases hi : p / 8 = i
  · subst hi
    rw [List.getElem?_eq_getElem hlt] at h
    simp at h
    simp [hlt, h]
  · simp [hi]
end Go.Proofs.YtembincggkpflaaDoor


/- coldstorelaw04.SealKinds: the walk. -/
namespace Go.Proofs.YtembincggkpflaaDoor
open Go.RowKit Go.Lib

theorem seal_any' (kind : UInt8) (sv : Value) (ys : List UInt8) (w : World) (hsrc : SrcB w sv ys) (ht : Tab w) (hlen : ys.length ≤ 400000000) :
    Calls Tryd.prog 25 #[.int .u8 (kind.toNat : Int), sv] w fun e w' => ∃ g c, e = .returned (.slice (some ⟨g, 0, none⟩) (ys.length + 5) c) ∧ w.heap.size ≤ g ∧ Kept [] w w' ∧ w'.ownsRow w.heap.size 5 1 (.slice (some ⟨g, 0, none⟩) (ys.length + 5) c) (ys.length + 5) ((sealed kind ys).map B) := by
  refine (seal_any kind sv ys w hsrc ht hlen).mono ?_
  rintro e w' ⟨a, c, rfl, hk, ho⟩
  rw [sealed_len] at ho ⊢
  obtain ⟨g, cap, hv⟩ := Go.Joins.ownsRow_form ho (by omega)
  rw [hv] at ho ⊢
  exact ⟨g, cap, rfl, (own_block_ge ho g rfl).1, hk, ho⟩

end Go.Proofs.YtembincggkpflaaDoor


/- coldstoreref04.Sum, Seal, Unseal: the document's answers. -/
namespace Go.Proofs.YtembincggkpflaaDoor
open Go.RowKit Go.Lib

/-- Bit i of bytes, the lowest of each first. -/
def bitOf (ys : List UInt8) (i : Nat) : Bool := (ys.getD (i / 8) 0).toNat.testBit (i % 8)
def b1 (b : Bool) : Crc.W32 := if b then 1#32 else 0#32
/-- The document's state behind i bits. -/
def bst (ys : List UInt8) : Nat → Crc.W32
  | 0 => BitVec.allOnes 32
  | i + 1 => Crc.T (bst ys i ^^^ b1 (bitOf ys i))

/-- Eight bits, one by one. -/
def eight (s : Crc.W32) (c : UInt8) : Crc.W32 :=
  Crc.T (Crc.T (Crc.T (Crc.T (Crc.T (Crc.T (Crc.T (Crc.T (s ^^^ b1 (c.toNat.testBit 0)) ^^^ b1 (c.toNat.testBit 1)) ^^^ b1 (c.toNat.testBit 2)) ^^^ b1 (c.toNat.testBit 3)) ^^^ b1 (c.toNat.testBit 4)) ^^^ b1 (c.toNat.testBit 5)) ^^^ b1 (c.toNat.testBit 6)) ^^^ b1 (c.toNat.testBit 7))
theorem eight_zero (c : UInt8) : eight 0#32 c = Crc.Tn 8 (BitVec.ofNat 32 c.toNat) := by
  have : ∀ k : Fin 256, eight 0#32 (UInt8.ofNat k.val) = Crc.Tn 8 (BitVec.ofNat 32 (UInt8.ofNat k.val).toNat) := by decide +kernel
  have h := this ⟨c.toNat, c.toNat_lt⟩
  simpa using h
theorem eight_put (s : Crc.W32) (c : UInt8) : eight s c = Crc.put s c := by
  have h1 : eight s c = Crc.Tn 8 s ^^^ eight 0#32 c := by
    unfold eight
    simp only [Crc.T_xor, Crc.Tn, BitVec.xor_assoc, Crc.T_zero, BitVec.zero_xor]
  rw [h1, eight_zero]
  unfold Crc.put
  rw [Crc.Tn_xor]
theorem bst_feed (ys : List UInt8) (k : Nat) (h : k ≤ ys.length) : bst ys (8 * k) = Crc.feed (BitVec.allOnes 32) (ys.take k) := by
  induction k with
  | zero => rfl
  | succ k ih =>
    have hb : ∀ j, j < 8 → bitOf ys (8 * k + j) = (ys[k]'(by omega)).toNat.testBit j := by
      intro j hj
      unfold bitOf
      rw [show (8 * k + j) / 8 = k by omega, show (8 * k + j) % 8 = j by omega]
      simp [List.getD, show k < ys.length by omega]
    rw [List.take_succ_eq_append_getElem (by omega), Crc.feed_append, Crc.feed_cons, Crc.feed_nil, ← ih (by omega), ← eight_put]
    show bst ys (8 * k + 8) = _
    unfold eight
    simp only [bst]
    have h0 := hb 0 (by omega)
    rw [Nat.add_zero] at h0
    rw [h0, hb 1 (by omega), hb 2 (by omega), hb 3 (by omega), hb 4 (by omega), hb 5 (by omega), hb 6 (by omega), hb 7 (by omega)]

theorem bst_all (ys : List UInt8) : ~~~ bst ys (8 * ys.length) = Crc.sum ys := by
  rw [bst_feed ys ys.length (Nat.le_refl _), List.take_length]
  rfl

theorem bst_step (s : Crc.W32) (b : Bool) (cb : Nat) (hb : b = decide (cb % 2 = 1)) :
    ((s.toNat + cb) % 2 = 1 → bits .xor .u32 ((s.toNat : Int) / 2) 2197175160 = (((Crc.T (s ^^^ b1 b)).toNat : Nat) : Int)) ∧ ((s.toNat + cb) % 2 = 0 → (s.toNat : Int) / 2 = (((Crc.T (s ^^^ b1 b)).toNat : Nat) : Int)) := by
  have hs := s.isLt
  have hl : s.getLsbD 0 = decide (s.toNat % 2 = 1) := by
    rw [BitVec.getLsbD, Nat.testBit_zero]
  have hT : Crc.T (s ^^^ b1 b) = (s >>> 1) ^^^ (if (s.getLsbD 0 ^^ b) then Crc.P else 0#32) := Crc.T_bit s b
  have hP : Crc.P.toNat = 2197175160 := by decide
  have hsh : (s >>> 1).toNat = s.toNat / 2 := by rw [BitVec.toNat_ushiftRight, Nat.shiftRight_eq_div_pow]
  refine ⟨fun h => ?_, fun h => ?_⟩
  · have hx : (s.getLsbD 0 ^^ b) = true := by
      rw [hl, hb]
      by_cases h1 : s.toNat % 2 = 1 <;> by_cases h2 : cb % 2 = 1 <;> simp [h1, h2] <;> omega
    rw [hT, hx, if_pos rfl, BitVec.toNat_xor, hsh, hP, show ((s.toNat : Int) / 2) = ((s.toNat / 2 : Nat) : Int) by omega]
    exact xor_u32 (s.toNat / 2) 2197175160 (by omega) (by omega)
  · have hx : (s.getLsbD 0 ^^ b) = false := by
      rw [hl, hb]
      by_cases h1 : s.toNat % 2 = 1 <;> by_cases h2 : cb % 2 = 1 <;> simp [h1, h2] <;> omega
    rw [hT, hx, BitVec.toNat_xor, hsh]
    simp

set_option maxHeartbeats 2000000 in
theorem refsum_any (sv : Value) (ys : List UInt8) (w : World) (h : SrcB w sv ys) (hlen : ys.length ≤ 1000) :
    Calls Tryd.prog 63 #[sv] w fun e w' => e = .returned (.int .u32 (((Crc.sum ys).toNat : Nat) : Int)) ∧ w = w' := by
  obtain ⟨a, c, rfl⟩ := h.size
  have Hs := hid h
  clear h
  go_enter Tryd.func63, Tryd.ntmps63
  go_wp2_with fail
  go_loop [3, 4] (fun n s => ∃ i : Nat, i ≤ 8 * ys.length ∧ s = .int .i64 i ∧ n = .int .u32 (((bst ys i).toNat : Nat) : Int)) (fun _ s => 8 * ys.length - (intOf s).toNat)
  case atStart => exact ⟨0, Nat.zero_le _, rfl, rfl⟩
  case round =>
    obtain ⟨i, hi, rfl, rfl⟩ := hrel
    by_cases hlt : i < 8 * ys.length
    · rcases Hs.out with ⟨h1, _⟩ | ⟨ad, c', h1, hc⟩
      · simp at h1; omega
      · simp at h1
        obtain ⟨rfl, rfl⟩ := h1
        have hk : i / 8 < ys.length := by omega
        have gx : w.cell? (ad.add (i / 8)) = some (.int .u8 (ys[i / 8].toNat : Int)) := hc (i / 8) (B ys[i / 8]) (by simp [hk])
        have hcl := ys[i / 8].toNat_lt
        have hsl := (bst ys i).isLt
        have hbit : bitOf ys i = decide (ys[i / 8].toNat / 2 ^ (i % 8) % 2 = 1) := by
          unfold bitOf
          rw [show ys.getD (i / 8) 0 = ys[i / 8] by simp [List.getD, hk], Nat.testBit_eq_decide_div_mod_eq]
        have hstep := bst_step (bst ys i) (bitOf ys i) (ys[i / 8].toNat / 2 ^ (i % 8)) hbit
        have hst1 := hid (show bst ys (i + 1) = Crc.T (bst ys i ^^^ b1 (bitOf ys i)) from rfl)
        clear hc hbit
        generalize ys[i / 8].toNat = cc at *
        rw [← hst1.out] at hstep
        generalize (bst ys i).toNat = st at *
        have hcast : ((cc : Int) / 2 ^ (i % 8)) = ((cc / 2 ^ (i % 8) : Nat) : Int) := by push_cast; rfl
        have hkI : (i : Int) / 8 < (ys.length : Int) := by omega
        by_cases hodd : (st + cc / 2 ^ (i % 8)) % 2 = 1
        · have ht1 : (((st : Int) + (cc : Int) / 2 ^ (i % 8)) % 2 == 1) = true := by
            rw [hcast]; simp only [beq_iff_eq]; omega
          have hfin := hid (hstep.1 hodd)
          clear hstep hodd hcast
          go_wp2
          go_round
          case rel => exact ⟨i + 1, by omega, by go_num, by rw [hfin.out]⟩
          case measure => simp [intOf]; omega
        · have ht1 : (((st : Int) + (cc : Int) / 2 ^ (i % 8)) % 2 == 1) = false := by
            rw [hcast]; simp only [beq_eq_false_iff_ne]; omega
          have hfin := hid (hstep.2 (by omega))
          clear hstep hodd hcast
          go_wp2
          go_round
          case rel => exact ⟨i + 1, by omega, by go_num, by rw [hfin.out]⟩
          case measure => simp [intOf]; omega
    · have hin : i = 8 * ys.length := by omega
      subst hin
      have hn := bst_all ys
      have hsl := (bst ys (8 * ys.length)).isLt
      have hfin := hid (show (4294967295 : Int) - ((bst ys (8 * ys.length)).toNat : Int) = (((Crc.sum ys).toNat : Nat) : Int) by
        rw [← hn, BitVec.toNat_not]
        omega)
      clear hn
      generalize (bst ys (8 * ys.length)).toNat = st at *
      go_wp2
      go_ret
      exact ⟨by rw [hfin.out]; rfl, rfl⟩
end Go.Proofs.YtembincggkpflaaDoor


/- coldstoreref04.Seal, Unseal: the document's answers. -/
namespace Go.Proofs.YtembincggkpflaaDoor
open Go.RowKit Go.Lib

theorem same_dec (a b : Option Addr) (c d : Nat) (xs ys : List UInt8) (w : World) (ha : SrcB w (.slice a xs.length c) xs) (hb : SrcB w (.slice b ys.length d) ys) :
    Calls Tryd.prog 12 #[.slice a xs.length c, .slice b ys.length d] w fun e w' => e = .returned (.bool (decide (xs = ys))) ∧ w = w' := by
  by_cases hxy : xs = ys
  · subst hxy
    exact (same_src a b c d xs w ha hb).mono fun e w' h => ⟨by rw [h.1]; simp, h.2⟩
  · have h1 := text_any w a c xs ha
    have h2 := text_any w b d ys hb
    have Hxy := hid hxy
    have hD := hid (show decide (xs = ys) = false from decide_eq_false hxy)
    clear ha hb hxy
    rw [hD.out]
    clear hD
    generalize xs.length = n at *
    generalize ys.length = m at *
    go_enter Tryd.func12, Tryd.ntmps12
    go_wp2
    go_ret
    exact ⟨by simpa using Hxy.out, rfl⟩

/-- A row of bytes that a call made; nothing that was there has turned. -/
def Made (w : World) (xs : List UInt8) (e : Ending) (w' : World) : Prop := ∃ a c, e = .returned (.slice a xs.length c) ∧ Kept [] w w' ∧ Bys w' a c xs ∧ ∀ x, a = some x → w.heap.size ≤ x.block

theorem RowAt.made {w : World} {base : Nat} {v : Value} {xs : List UInt8} {wr : World} (h : RowAt w base v xs wr) : ∃ a c, v = .slice a xs.length c ∧ Kept [] w wr ∧ Bys wr a c xs ∧ ∀ x, a = some x → w.heap.size ≤ x.block := by
  obtain ⟨h1, h2, h3, h4⟩ := h
  obtain ⟨a, c, rfl⟩ := owns_slice h4
  exact ⟨a, c, rfl, h1, bys_of_row h4, fun x hx => Nat.le_trans h2 (own_block_ge h4 x.block (by simp [Value.ownBlock, hx])).1⟩

set_option maxHeartbeats 1000000 in
theorem refseal_any (kind : UInt8) (a : Option Addr) (c : Nat) (ys : List UInt8) (w : World) (h : SrcB w (.slice a ys.length c) ys) (hlen : ys.length ≤ 900) :
    Calls Tryd.prog 46 #[.int .u8 (kind.toNat : Int), .slice a ys.length c] w (Made w (sealed kind ys)) := by
  obtain ⟨w1, hw1⟩ : ∃ w1, w1 = (w.alloc (.cells #[.int .u8 (kind.toNat : Int)] 5)).alloc (.cells #[.slice (some ⟨w.heap.size, 0, none⟩) 1 1, .slice a ys.length c] 29) := ⟨_, rfl⟩
  have hk1 := hid (show Kept [] w w1 from hw1 ▸ ((Kept.refl [] w).alloc _).alloc _)
  have hp1 := hid (show w1.heap[w.heap.size + 1]? = some (.cells #[.slice (some ⟨w.heap.size, 0, none⟩) 1 1, .slice a ys.length c] 29 (0, 0)) from hw1 ▸ heap_alloc_at (by simp))
  have hs1 : SrcB w1 (.slice (some ⟨w.heap.size, 0, none⟩) 1 1) [kind] := (src_alloc w [kind] 1 (0, 0)).kept (hw1 ▸ (Kept.refl [] _).alloc _) (by simp)
  have hj := hid (join2_any (w.heap.size + 1) _ _ [kind] ys w1 hp1.out hs1 (h.kept hk1.out (by simp)) (by simp) (by omega))
  have HW1 := hid hw1
  clear h hw1 hs1
  go_enter Tryd.func46, Tryd.ntmps46
  go_wp2_with fail
  rw [← HW1.out]
  refine hj.out.mono ?_
  rintro e w2 ⟨v2, rfl, hr2⟩
  obtain ⟨a2, c2, rfl, hk2, hb2, _⟩ := hr2.made
  have Hk2 := hid (hk1.out.trans hk2)
  have Hb2 := hid hb2
  have hs := hid (refsum_any _ ([kind] ++ ys) w2 hb2.1 (by simp; omega))
  have hlt := (Crc.sum ([kind] ++ ys)).isLt
  have hnum0 := fun (w : World) => refnum_any (Crc.sum ([kind] ++ ys)).toNat (by omega) 4 w
  have hws := hid (show ([kind] ++ ys) ++ numB (Crc.sum ([kind] ++ ys)).toNat (sz 4) = sealed kind ys from by rw [sz4]; rfl)
  have hlen2 := hid (show ([kind] ++ ys).length ≤ 1000 by simp; omega)
  clear hr2 hk2 hb2 hj
  have hnum := hid hnum0
  clear hnum0
  generalize hz : (Crc.sum ([kind] ++ ys)).toNat = z at *
  clear hz
  generalize ([kind] ++ ys) = all at *
  go_wp2_with fail
  refine hs.out.mono ?_
  rintro e w3 ⟨rfl, rfl⟩
  go_wp2_with fail
  refine (hnum.out _).mono ?_
  rintro e w4 ⟨v4, rfl, hr4⟩
  obtain ⟨a4, c4, rfl, hk4, hb4, _⟩ := hr4.made
  have Hk4 := hid (Hk2.out.trans hk4)
  have Hb4 := hid hb4
  have Hb24 := hid (Hb2.out.kept hk4 (by simp))
  clear hr4 hk4 hb4 hs hnum
  go_wp2_with fail
  obtain ⟨w5, hw5⟩ : ∃ w5, w5 = w4.alloc (.cells #[.slice a2 all.length c2, .slice a4 (numB z (sz 4)).length c4] 29) := ⟨_, rfl⟩
  rw [← hw5]
  have hk45 := hid (show Kept [] w4 w5 from hw5 ▸ (Kept.refl [] w4).alloc _)
  have hp5 := hid (show w5.heap[w4.heap.size]? = some (.cells #[.slice a2 all.length c2, .slice a4 (numB z (sz 4)).length c4] 29 (0, 0)) from hw5 ▸ heap_alloc_at rfl)
  have hj2 := hid (join2_any w4.heap.size _ _ all (numB z (sz 4)) w5 hp5.out (Hb24.out.1.kept hk45.out (by simp)) (Hb4.out.1.kept hk45.out (by simp)) hlen2.out (by rw [numB_len, sz4]; omega))
  clear hw5
  refine hj2.out.mono ?_
  rintro e w6 ⟨v6, rfl, hr6⟩
  rw [hws.out] at hr6
  obtain ⟨a6, c6, rfl, hk6, hb6, hx6⟩ := hr6.made
  have Hk5 := hid (Hk4.out.trans hk45.out)
  have Hk6 := hid (Hk5.out.trans hk6)
  have Hb6 := hid hb6; have Hx6 := hid hx6
  clear hr6 hk6 hb6 hx6 hj2
  go_wp2
  go_ret
  exact ⟨a6, c6, rfl, Hk6.out, Hb6.out, fun x hx => Nat.le_trans Hk5.out.size (Hx6.out x hx)⟩

theorem sealed_cons (b0 : UInt8) (inner l4 : List UInt8) (h4 : l4.length = 4) : (sealed b0 inner = b0 :: inner ++ l4) ↔ numOf l4 = (Crc.sum (b0 :: inner)).toNat := by
  have hc := (Crc.sum (b0 :: inner)).isLt
  have e : sealed b0 inner = (b0 :: inner) ++ numB (Crc.sum (b0 :: inner)).toNat 4 := rfl
  rw [e]
  constructor
  · intro h
    have h2 : numB (Crc.sum (b0 :: inner)).toNat 4 = l4 := List.append_cancel_left h
    rw [← h2, numOf_numB]
    exact Nat.mod_eq_of_lt hc
  · intro h
    have h2 := le_numOf l4 h4
    rw [← h2, h, numB_le]

/-- What the document's Unseal gives: bytes, and the error's number. -/
def RefUnsealed (w : World) (kind : UInt8) (xs : List UInt8) (e : Ending) (w' : World) : Prop :=
  ∃ a c, e = .returned (.tuple #[.slice a (unsealed kind xs).length c, .int .i64 (unsealErr kind xs)]) ∧ Kept [] w w' ∧ ∀ W, Kept [] w' W → SrcB W (.slice a (unsealed kind xs).length c) (unsealed kind xs)

end Go.Proofs.YtembincggkpflaaDoor
