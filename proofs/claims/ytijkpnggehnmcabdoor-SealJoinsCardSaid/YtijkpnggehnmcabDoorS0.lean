/- CRC-32C: plain mathematics on words of 32 bits. No program is named here. -/
namespace Go.Proofs.YtijkpnggehnmcabDoor
namespace Crc
abbrev W32 := BitVec 32
def P : W32 := 0x82F63B78#32
/-- One bit is shifted out. -/
def T (s : W32) : W32 := (s >>> 1) ^^^ (if s.getLsbD 0 then P else 0#32)
def Tn : Nat → W32 → W32
  | 0, s => s
  | n + 1, s => Tn n (T s)
theorem T_xor (a b : W32) : T (a ^^^ b) = T a ^^^ T b := by
  unfold T
  rw [BitVec.ushiftRight_xor_distrib, BitVec.getLsbD_xor]
  cases a.getLsbD 0 <;> cases b.getLsbD 0 <;> simp
  · rw [BitVec.xor_assoc]
  · rw [BitVec.xor_assoc, BitVec.xor_assoc, BitVec.xor_comm P]
  · rw [← BitVec.xor_assoc, BitVec.xor_assoc (a >>> 1) P, BitVec.xor_comm P, ← BitVec.xor_assoc, BitVec.xor_assoc _ P P]; simp
theorem T_zero : T 0#32 = 0#32 := by decide
theorem Tn_xor (n : Nat) : ∀ a b : W32, Tn n (a ^^^ b) = Tn n a ^^^ Tn n b := by
  induction n with
  | zero => intro a b; rfl
  | succ n ih => intro a b; simp only [Tn, T_xor, ih]
theorem Tn_zero (n : Nat) : Tn n 0#32 = 0#32 := by
  induction n with
  | zero => rfl
  | succ n ih => simp only [Tn, T_zero, ih]
theorem Tn_add (m n : Nat) (s : W32) : Tn (m + n) s = Tn n (Tn m s) := by
  induction m generalizing s with
  | zero => simp [Tn]
  | succ m ih => rw [Nat.add_right_comm]; simp only [Tn, ih]
theorem T_msb (s : W32) : (T s).getLsbD 31 = s.getLsbD 0 := by
  unfold T
  rw [BitVec.getLsbD_xor, BitVec.getLsbD_ushiftRight, BitVec.getLsbD_of_ge s (1 + 31) (by decide)]
  cases s.getLsbD 0 <;> decide
theorem T_inj0 (s : W32) (h : T s = 0#32) : s = 0#32 := by
  have h0 : s.getLsbD 0 = false := by rw [← T_msb, h]; rfl
  unfold T at h
  rw [h0] at h
  simp at h
  apply BitVec.eq_of_getLsbD_eq
  intro i hi
  rcases i with _ | i
  · rw [h0]; rfl
  · have : (s >>> 1).getLsbD i = false := by rw [h]; simp
    rw [BitVec.getLsbD_ushiftRight, Nat.add_comm] at this
    rw [this]; simp
theorem Tn_inj0 (n : Nat) : ∀ s : W32, Tn n s = 0#32 → s = 0#32 := by
  induction n with
  | zero => intro s h; exact h
  | succ n ih => intro s h; exact T_inj0 s (ih _ h)
theorem xor_eq_zero {a b : W32} (h : a ^^^ b = 0#32) : a = b := by
  have : a ^^^ b ^^^ b = 0#32 ^^^ b := by rw [h]
  rw [BitVec.xor_assoc] at this
  simpa using this
theorem Tn_inj (n : Nat) (a b : W32) (h : Tn n a = Tn n b) : a = b := by
  apply xor_eq_zero
  apply Tn_inj0 n
  rw [Tn_xor, h]; simp
/-- While the lowest bits are noughts T only shifts. -/
theorem Tn_shl (n : Nat) : ∀ (k : Nat) (x : W32), k = n → x.toNat * 2 ^ n < 2 ^ 32 → Tn n (x <<< n) = x := by
  induction n with
  | zero => intro k x _ _; simp [Tn]
  | succ n ih =>
    intro k x _ hx
    have hT : T (x <<< (n + 1)) = x <<< n := by
      unfold T
      have h0 : (x <<< (n + 1)).getLsbD 0 = false := by simp
      rw [h0]
      simp
      apply BitVec.eq_of_toNat_eq
      rw [Nat.pow_succ] at hx
      have e1 : x.toNat * (2 ^ n * 2) = (x.toNat * 2 ^ n) * 2 := by rw [Nat.mul_assoc]
      rw [e1] at hx
      simp only [BitVec.toNat_ushiftRight, BitVec.toNat_shiftLeft, Nat.shiftLeft_eq, Nat.shiftRight_eq_div_pow, Nat.pow_succ]
      rw [e1, Nat.mod_eq_of_lt hx, Nat.mod_eq_of_lt (by omega)]
      omega
    simp only [Tn, hT]
    exact ih n x rfl (by rw [Nat.pow_succ, ← Nat.mul_assoc] at hx; omega)
/-- A table of what becomes of four bits that are shifted out. -/
def tbl : List Nat := [0x00000000, 0x105ec76f, 0x20bd8ede, 0x30e349b1, 0x417b1dbc, 0x5125dad3, 0x61c69362, 0x7198540d, 0x82f63b78, 0x92a8fc17, 0xa24bb5a6, 0xb21572c9, 0xc38d26c4, 0xd3d3e1ab, 0xe330a81a, 0xf36e6f75]
theorem tbl_T : ∀ k : Fin 16, Tn 4 (BitVec.ofNat 32 k.val) = BitVec.ofNat 32 (tbl.getD k.val 0) := by decide
theorem nib (s : W32) : Tn 4 s = (s >>> 4) ^^^ BitVec.ofNat 32 (tbl.getD (s.toNat % 16) 0) := by
  have e : s = ((s >>> 4) <<< 4) ^^^ BitVec.ofNat 32 (s.toNat % 16) := by
    apply BitVec.eq_of_getLsbD_eq
    intro i hi
    have h16 : s.toNat % 16 = s.toNat % 2 ^ 4 := rfl
    simp only [BitVec.getLsbD_xor, BitVec.getLsbD_shiftLeft, BitVec.getLsbD_ushiftRight, BitVec.getLsbD_ofNat, h16, Nat.testBit_mod_two_pow]
    by_cases h : i < 4
    · simp [h, hi, BitVec.getLsbD]
    · have h4 : 4 + (i - 4) = i := by omega
      simp [h, hi, h4]
  have hlt : (s >>> 4).toNat * 2 ^ 4 < 2 ^ 32 := by
    simp only [BitVec.toNat_ushiftRight, Nat.shiftRight_eq_div_pow]
    have := s.isLt
    omega
  conv => lhs; rw [e, Tn_xor, Tn_shl 4 4 _ rfl hlt]
  rw [tbl_T ⟨s.toNat % 16, Nat.mod_lt _ (by omega)⟩]
/-- A byte more. -/
def put (s : W32) (c : UInt8) : W32 := Tn 8 (s ^^^ BitVec.ofNat 32 c.toNat)
def feed (s : W32) (l : List UInt8) : W32 := l.foldl put s
def sum (l : List UInt8) : W32 := ~~~ feed (BitVec.allOnes 32) l
theorem feed_nil (s : W32) : feed s [] = s := rfl
theorem feed_cons (s : W32) (c : UInt8) (l : List UInt8) : feed s (c :: l) = feed (put s c) l := rfl
theorem feed_append (s : W32) (l m : List UInt8) : feed s (l ++ m) = feed (feed s l) m := List.foldl_append
theorem put_nib (s : W32) (c : UInt8) : put s c = Tn 4 (Tn 4 (s ^^^ BitVec.ofNat 32 c.toNat)) := Tn_add 4 4 _
theorem of_xor (a b : UInt8) : BitVec.ofNat 32 (a ^^^ b).toNat = BitVec.ofNat 32 a.toNat ^^^ BitVec.ofNat 32 b.toNat := by
  rw [UInt8.toNat_xor]
  apply BitVec.eq_of_getLsbD_eq
  intro i hi
  simp [hi]
theorem put_xor (s t : W32) (a b : UInt8) : put (s ^^^ t) (a ^^^ b) = put s a ^^^ put t b := by
  unfold put
  rw [of_xor, ← Tn_xor]
  congr 1
  ac_rfl
def xors (a b : List UInt8) : List UInt8 := List.zipWith (· ^^^ ·) a b
theorem feed_xor : ∀ (a b : List UInt8) (s t : W32), a.length = b.length → feed (s ^^^ t) (xors a b) = feed s a ^^^ feed t b
  | [], [], s, t, _ => rfl
  | x :: a, y :: b, s, t, h => by
    have := feed_xor a b (put s x) (put t y) (by simpa using h)
    simp only [xors, List.zipWith_cons_cons, feed_cons, put_xor] at *
    exact this
  | [], _ :: _, _, _, h => by simp at h
  | _ :: _, [], _, _, h => by simp at h
theorem feed_zeros (n : Nat) (s : W32) : feed s (List.replicate n 0) = Tn (8 * n) s := by
  induction n generalizing s with
  | zero => rfl
  | succ n ih =>
    rw [List.replicate_succ, feed_cons, ih, show 8 * (n + 1) = 8 + 8 * n by omega, Tn_add]
    congr 1
    simp [put]
theorem xors_zero (a : List UInt8) : xors a (List.replicate a.length 0) = a := by
  induction a with
  | nil => rfl
  | cons x a ih =>
    simp only [xors, List.length_cons, List.replicate_succ, List.zipWith_cons_cons] at *
    rw [ih]; simp
/-- How the state hangs on the start: by turning. -/
theorem feed_start (l : List UInt8) (s t : W32) : feed (s ^^^ t) l = feed s l ^^^ Tn (8 * l.length) t := by
  have := feed_xor l (List.replicate l.length 0) s t (by simp)
  rw [xors_zero, feed_zeros] at this
  exact this
theorem not_xor (x : W32) : ~~~ x = x ^^^ BitVec.allOnes 32 := by rw [BitVec.xor_allOnes]
/-- The sums of two rows of as many bytes. -/
theorem sum_xor (a b : List UInt8) (h : a.length = b.length) : sum (xors a b) = sum a ^^^ sum b ^^^ sum (List.replicate a.length 0) := by
  have h1 := feed_xor a b (BitVec.allOnes 32) 0#32 h
  have h2 := feed_start b 0#32 (BitVec.allOnes 32)
  have e1 : (0#32 : W32) ^^^ BitVec.allOnes 32 = BitVec.allOnes 32 := by decide
  have e2 : (BitVec.allOnes 32 : W32) ^^^ 0#32 = BitVec.allOnes 32 := by decide
  rw [e1] at h2
  rw [e2] at h1
  unfold sum
  rw [feed_zeros, h1, h2, h, not_xor, not_xor, not_xor, not_xor]
  have key : ∀ a f t o : W32, (a ^^^ f) ^^^ o = (a ^^^ o) ^^^ ((f ^^^ t) ^^^ o) ^^^ (t ^^^ o) := by
    intro a f t o
    have e : (a ^^^ o) ^^^ ((f ^^^ t) ^^^ o) ^^^ (t ^^^ o) = a ^^^ f ^^^ o ^^^ (t ^^^ t) ^^^ (o ^^^ o) := by ac_rfl
    rw [e]; simp
  exact key _ _ _ _
/-- A word's bytes, the lowest first. -/
def le (v : Nat) : List UInt8 := [UInt8.ofNat v, UInt8.ofNat (v / 256), UInt8.ofNat (v / 65536), UInt8.ofNat (v / 16777216)]
theorem byte_w (v : Nat) (k : Nat) : BitVec.ofNat 32 (UInt8.ofNat (v / 2 ^ (8 * k))).toNat = ((BitVec.ofNat 32 (v / 2 ^ (8 * k))) &&& 255#32) := by
  apply BitVec.eq_of_getLsbD_eq
  intro i hi
  have h255 : (255 : Nat) = 2 ^ 8 - 1 := rfl
  simp only [UInt8.toNat_ofNat', BitVec.getLsbD_ofNat, BitVec.getLsbD_and, h255, Nat.testBit_two_pow_sub_one, Nat.testBit_mod_two_pow]
  by_cases h8 : i < 8 <;> simp [h8, hi]
theorem put_shift (s x : W32) (c : UInt8) (hx : x.toNat < 2 ^ 24) : put (s ^^^ ((x <<< 8) ^^^ BitVec.ofNat 32 c.toNat)) 0 = Tn 8 (s ^^^ BitVec.ofNat 32 c.toNat) ^^^ x := by
  unfold put
  have e : s ^^^ ((x <<< 8) ^^^ BitVec.ofNat 32 c.toNat) ^^^ BitVec.ofNat 32 (0 : UInt8).toNat = (s ^^^ BitVec.ofNat 32 c.toNat) ^^^ (x <<< 8) := by
    have e0 : BitVec.ofNat 32 (0 : UInt8).toNat = 0#32 := rfl
    rw [e0]
    simp only [BitVec.xor_zero]
    ac_rfl
  rw [e, Tn_xor, Tn_shl 8 8 x rfl (by omega)]
theorem split8 (v : Nat) : BitVec.ofNat 32 v = (BitVec.ofNat 32 (v / 256 % 2 ^ 24) <<< 8) ^^^ BitVec.ofNat 32 (UInt8.ofNat v).toNat := by
  apply BitVec.eq_of_getLsbD_eq
  intro i hi
  have h8 : (256 : Nat) = 2 ^ 8 := rfl
  simp only [UInt8.toNat_ofNat', BitVec.getLsbD_ofNat, BitVec.getLsbD_xor, BitVec.getLsbD_shiftLeft, Nat.testBit_mod_two_pow, h8, Nat.testBit_div_two_pow]
  by_cases h : i < 8
  · simp [h, hi]
  · have e : 8 + (i - 8) = i := by omega
    have e2 : i - 8 + 8 = i := by omega
    have h24 : i - 8 < 24 := by omega
    have h32 : i - 8 < 32 := by omega
    simp [h, hi, e2, h24, h32]
/-- A word's four bytes, fed: the word is turned in at once. -/
theorem feed_le (s : W32) (v : Nat) (hv : v < 2 ^ 32) : feed s (le v) = Tn 32 (s ^^^ BitVec.ofNat 32 v) := by
  have step : ∀ (s : W32) (v : Nat), Tn 8 (s ^^^ BitVec.ofNat 32 v) = put s (UInt8.ofNat v) ^^^ BitVec.ofNat 32 (v / 256 % 2 ^ 24) := by
    intro s v
    conv => lhs; rw [split8 v]
    have e : s ^^^ ((BitVec.ofNat 32 (v / 256 % 2 ^ 24) <<< 8) ^^^ BitVec.ofNat 32 (UInt8.ofNat v).toNat) = (s ^^^ BitVec.ofNat 32 (UInt8.ofNat v).toNat) ^^^ (BitVec.ofNat 32 (v / 256 % 2 ^ 24) <<< 8) := by ac_rfl
    have hl : (BitVec.ofNat 32 (v / 256 % 2 ^ 24)).toNat * 2 ^ 8 < 2 ^ 32 := by
      rw [BitVec.toNat_ofNat]
      have := Nat.mod_lt (v / 256) (show 0 < 2 ^ 24 by decide)
      rw [Nat.mod_eq_of_lt (by omega)]
      omega
    rw [e, Tn_xor, Tn_shl 8 8 _ rfl hl]
    rfl
  have d1 : v / 256 % 2 ^ 24 = v / 256 := Nat.mod_eq_of_lt (by omega)
  have d2 : v / 256 / 256 % 2 ^ 24 = v / 65536 := by rw [Nat.div_div_eq_div_mul]; exact Nat.mod_eq_of_lt (by omega)
  have d3 : v / 65536 / 256 % 2 ^ 24 = v / 16777216 := by rw [Nat.div_div_eq_div_mul]; exact Nat.mod_eq_of_lt (by omega)
  have d4 : v / 16777216 / 256 % 2 ^ 24 = 0 := by rw [Nat.div_div_eq_div_mul]; have : v / (16777216 * 256) = 0 := Nat.div_eq_of_lt (by omega); rw [this]
  unfold le
  rw [feed_cons, feed_cons, feed_cons, feed_cons, feed_nil]
  show _ = Tn (8 + (8 + (8 + 8))) _
  rw [Tn_add, Tn_add, Tn_add, step, d1, step, d2, step, d3, step, d4]
  simp
/-- Bytes and their sum always come to the same. -/
def R : W32 := Tn 32 (BitVec.allOnes 32)
theorem feed_sum (l : List UInt8) (v : Nat) (hv : v < 2 ^ 32) : feed (BitVec.allOnes 32) (l ++ le v) = R ↔ v = (sum l).toNat := by
  rw [feed_append, feed_le _ _ hv]
  unfold R sum
  constructor
  · intro h
    have h2 := Tn_inj 32 _ _ h
    have h3 : BitVec.ofNat 32 v = feed (BitVec.allOnes 32) l ^^^ BitVec.allOnes 32 := by
      generalize feed (BitVec.allOnes 32) l = f at h2 ⊢
      rw [← h2, ← BitVec.xor_assoc]; simp
    rw [not_xor, ← h3, BitVec.toNat_ofNat, Nat.mod_eq_of_lt hv]
  · rintro rfl
    congr 1
    rw [BitVec.ofNat_toNat, not_xor, BitVec.setWidth_eq, ← BitVec.xor_assoc]
    simp
theorem sum_whole (l : List UInt8) : sum (l ++ le (sum l).toNat) = sum (List.replicate 4 0) := by
  have h := (feed_sum l _ (sum l).isLt).2 rfl
  unfold sum at *
  rw [h, feed_zeros]
  rfl
/-- One bit is turned. -/
def flip (l : List UInt8) (p : Nat) : List UInt8 := l.modify (p / 8) (· ^^^ UInt8.ofNat (2 ^ (p % 8)))
theorem flip_len (l : List UInt8) (p : Nat) : (flip l p).length = l.length := by simp [flip]
theorem pow_bit (k : Nat) (hk : k < 8) : Tn 8 (BitVec.ofNat 32 (UInt8.ofNat (2 ^ k)).toNat) = Tn (8 - k) 1#32 := by
  have : ∀ k : Fin 8, Tn 8 (BitVec.ofNat 32 (UInt8.ofNat (2 ^ k.val)).toNat) = Tn (8 - k.val) 1#32 := by decide
  exact this ⟨k, hk⟩
theorem put_bit (s : W32) (c : UInt8) (k : Nat) (hk : k < 8) : put s (c ^^^ UInt8.ofNat (2 ^ k)) = put s c ^^^ Tn (8 - k) 1#32 := by
  unfold put
  rw [of_xor, ← BitVec.xor_assoc, Tn_xor, pow_bit k hk]
theorem feed_flip (l : List UInt8) : ∀ (p : Nat) (s : W32), p < 8 * l.length → feed s (flip l p) = feed s l ^^^ Tn (8 * l.length - p) 1#32 := by
  induction l with
  | nil => intro p s h; simp at h
  | cons c l ih =>
    intro p s h
    by_cases h8 : p < 8
    · have e : p / 8 = 0 := by omega
      have e2 : p % 8 = p := by omega
      unfold flip
      rw [e, e2]
      simp only [List.modify_zero_cons, feed_cons]
      rw [put_bit s c p h8, feed_start, ← Tn_add]
      congr 2
      simp; omega
    · have e : p / 8 = (p - 8) / 8 + 1 := by omega
      have e2 : p % 8 = (p - 8) % 8 := by omega
      have := ih (p - 8) (put s c) (by simp at h; omega)
      unfold flip at *
      rw [e, e2, List.modify_succ_cons, feed_cons, feed_cons, this]
      congr 2
      simp; omega
/-- The bits of a number below n, turned from bit p on. -/
def flips (l : List UInt8) (at_ turn : Nat) : Nat → List UInt8
  | 0 => l
  | n + 1 => if turn.testBit n then flip (flips l at_ turn n) (at_ + n) else flips l at_ turn n
theorem flips_len (l : List UInt8) (a t n : Nat) : (flips l a t n).length = l.length := by
  induction n with
  | zero => rfl
  | succ n ih => unfold flips; split <;> simp [flip_len, ih]
theorem Tn_pow (m n : Nat) (hn : n < 32) (h : n ≤ m) : Tn m (BitVec.ofNat 32 (2 ^ n)) = Tn (m - n) 1#32 := by
  have e : BitVec.ofNat 32 (2 ^ n) = (1#32) <<< n := by
    apply BitVec.eq_of_toNat_eq
    simp [Nat.shiftLeft_eq]
  have e2 : m = n + (m - n) := by omega
  conv => lhs; rw [e2]
  rw [Tn_add, e, Tn_shl n n _ rfl]
  have : (2 : Nat) ^ n < 2 ^ 32 := Nat.pow_lt_pow_right (by omega) hn
  simpa using this
theorem low_succ (t n : Nat) (hn : n < 32) : BitVec.ofNat 32 (t % 2 ^ (n + 1)) = if t.testBit n then BitVec.ofNat 32 (t % 2 ^ n) ^^^ BitVec.ofNat 32 (2 ^ n) else BitVec.ofNat 32 (t % 2 ^ n) := by
  apply BitVec.eq_of_getLsbD_eq
  intro i hi
  by_cases ht : t.testBit n
  · rw [if_pos ht]
    simp only [BitVec.getLsbD_ofNat, BitVec.getLsbD_xor, Nat.testBit_mod_two_pow, Nat.testBit_two_pow]
    rcases Nat.lt_trichotomy i n with h | h | h
    · simp [hi, h, show i < n + 1 by omega, show n ≠ i by omega]
    · subst h; simp [hi, ht]
    · simp [hi, show ¬ i < n by omega, show ¬ i < n + 1 by omega, show n ≠ i by omega]
  · rw [if_neg ht]
    simp only [BitVec.getLsbD_ofNat, Nat.testBit_mod_two_pow]
    rcases Nat.lt_trichotomy i n with h | h | h
    · simp [hi, h, show i < n + 1 by omega]
    · subst h; simp [hi, ht]
    · simp [hi, show ¬ i < n by omega, show ¬ i < n + 1 by omega]
theorem feed_flips (l : List UInt8) (a t : Nat) (s : W32) (ha : a + 32 ≤ 8 * l.length) : ∀ n, n ≤ 32 → feed s (flips l a t n) = feed s l ^^^ Tn (8 * l.length - a) (BitVec.ofNat 32 (t % 2 ^ n)) := by
  intro n
  induction n with
  | zero => intro _; simp [flips, Nat.mod_one, Tn_zero]
  | succ n ih =>
    intro hn
    have := ih (by omega)
    rw [low_succ t n (by omega)]
    unfold flips
    split
    · rw [feed_flip _ _ _ (by rw [flips_len]; omega), this, flips_len, Tn_xor, Tn_pow _ n (by omega) (by omega), BitVec.xor_assoc]
      congr 3
      omega
    · exact this
/-- What is turned within 32 bits is told. -/
theorem burst (l : List UInt8) (a t : Nat) (ht : t < 2 ^ 32) (ht0 : t ≠ 0) (ha : a + 32 ≤ 8 * l.length) (hl : feed (BitVec.allOnes 32) l = R) : feed (BitVec.allOnes 32) (flips l a t 32) ≠ R := by
  rw [feed_flips l a t _ ha 32 (by omega), hl, Nat.mod_eq_of_lt ht]
  intro h
  have h2 : Tn (8 * l.length - a) (BitVec.ofNat 32 t) = 0#32 := by
    have : R ^^^ (R ^^^ Tn (8 * l.length - a) (BitVec.ofNat 32 t)) = R ^^^ R := by rw [h]
    rw [← BitVec.xor_assoc] at this
    simpa using this
  have h3 := congrArg BitVec.toNat (Tn_inj0 _ _ h2)
  simp at h3
  omega
/-- Bit by bit: the document's way. -/
theorem T_bit (s : W32) (b : Bool) : T (s ^^^ (if b then 1#32 else 0#32)) = (s >>> 1) ^^^ (if (s.getLsbD 0 ^^ b) then P else 0#32) := by
  rw [T_xor]
  unfold T
  have e1 : (1#32 : W32) >>> 1 = 0#32 := by decide
  have e2 : (1#32 : W32).getLsbD 0 = true := by decide
  cases s.getLsbD 0 <;> cases b <;> simp [BitVec.xor_assoc]
end Crc
end Go.Proofs.YtijkpnggehnmcabDoor
