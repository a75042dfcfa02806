import Derived.WalkKit
import Derived.Test.YtkabfdclecbnpaaRows
import Derived.Test.YtkabfdclecbnpaaC0
import Derived.WalkSpells
import Derived.BigRegion
import Derived.RegionTactic
import Derived.StillTailTactics
import Derived.BigQuiet
import Derived.Deep.QuietTactic
import Derived.LoopTactic
import Derived.Deep.WholeRow
import Derived.Test.YtkabfdclecbnpaaH4

/- SHA-256, as plain mathematics: words, rounds, blocks, the sum of bytes. No program is named here. -/
namespace Go.Proofs.Ytkabfdclecbnpaa
namespace Sha

abbrev W := BitVec 32
/-- A word turned to the right. -/
def rotr (x : W) (n : Nat) : W := (x <<< (32 - n)) ||| (x >>> n)
def sig (x : W) (a b c : Nat) : W := rotr x a ^^^ rotr x b ^^^ rotr x c

/-- The numbers of the rounds, and the first state. -/
def kN : List Nat := [1116352408, 1899447441, 3049323471, 3921009573, 961987163, 1508970993, 2453635748, 2870763221, 3624381080, 310598401, 607225278, 1426881987, 1925078388, 2162078206, 2614888103, 3248222580, 3835390401, 4022224774, 264347078, 604807628, 770255983, 1249150122, 1555081692, 1996064986, 2554220882, 2821834349, 2952996808, 3210313671, 3336571891, 3584528711, 113926993, 338241895, 666307205, 773529912, 1294757372, 1396182291, 1695183700, 1986661051, 2177026350, 2456956037, 2730485921, 2820302411, 3259730800, 3345764771, 3516065817, 3600352804, 4094571909, 275423344, 430227734, 506948616, 659060556, 883997877, 958139571, 1322822218, 1537002063, 1747873779, 1955562222, 2024104815, 2227730452, 2361852424, 2428436474, 2756734187, 3204031479, 3329325298]
def sN : List Nat := [1779033703, 3144134277, 1013904242, 2773480762, 1359893119, 2600822924, 528734635, 1541459225]

/-- The i-th word of a block's bytes. -/
def word (b : List UInt8) (i : Nat) : W :=
  (BitVec.ofNat 32 (b.getD (4 * i) 0).toNat <<< 24) ||| (BitVec.ofNat 32 (b.getD (4 * i + 1) 0).toNat <<< 16) ||| (BitVec.ofNat 32 (b.getD (4 * i + 2) 0).toNat <<< 8) ||| BitVec.ofNat 32 (b.getD (4 * i + 3) 0).toNat

/-- The next word behind n words. -/
def nextW (l : List W) : W :=
  let e := l.getD (l.length - 15) 0
  let f := l.getD (l.length - 2) 0
  l.getD (l.length - 16) 0 + l.getD (l.length - 7) 0 + (rotr e 7 ^^^ rotr e 18 ^^^ (e >>> 3)) + (rotr f 17 ^^^ rotr f 19 ^^^ (f >>> 10))

/-- The first n words of a block. -/
def words (b : List UInt8) : Nat → List W
  | 0 => []
  | n + 1 => words b n ++ [if n < 16 then word b n else nextW (words b n)]

theorem words_len (b : List UInt8) (n : Nat) : (words b n).length = n := by
  induction n with
  | zero => rfl
  | succ n ih => simp [words, ih]

structure St where
  a : W
  b : W
  c : W
  d : W
  e : W
  f : W
  g : W
  h : W

def St.list (s : St) : List W := [s.a, s.b, s.c, s.d, s.e, s.f, s.g, s.h]
def ofList (l : List W) : St := ⟨l.getD 0 0, l.getD 1 0, l.getD 2 0, l.getD 3 0, l.getD 4 0, l.getD 5 0, l.getD 6 0, l.getD 7 0⟩
def first : St := ofList (sN.map (BitVec.ofNat 32))

def choice (e f g : W) : W := (e &&& f) ^^^ (~~~ e &&& g)
def major (a b c : W) : W := (a &&& b) ^^^ (a &&& c) ^^^ (b &&& c)
def one (s : St) (k w : W) : W := s.h + sig s.e 6 11 25 + choice s.e s.f s.g + k + w
def two (s : St) : W := sig s.a 2 13 22 + major s.a s.b s.c
def rnd (s : St) (k w : W) : St := ⟨one s k w + two s, s.a, s.b, s.c, s.d + one s k w, s.e, s.f, s.g⟩

def kAt (i : Nat) : W := BitVec.ofNat 32 (kN.getD i 0)
/-- The first n rounds. -/
def rnds (s : St) (ws : List W) : Nat → St
  | 0 => s
  | n + 1 => rnd (rnds s ws n) (kAt n) (ws.getD n 0)

def St.add (s t : St) : St := ⟨s.a + t.a, s.b + t.b, s.c + t.c, s.d + t.d, s.e + t.e, s.f + t.f, s.g + t.g, s.h + t.h⟩
def mix (s : St) (b : List UInt8) : St := (rnds s (words b 64) 64).add s

/-- The state behind n blocks. -/
def stN (xs : List UInt8) : Nat → St
  | 0 => first
  | n + 1 => mix (stN xs n) ((xs.drop (64 * n)).take 64)
def stOf (xs : List UInt8) : St := stN xs (xs.length / 64)

theorem stN_append (xs ys : List UInt8) (n : Nat) (h : 64 * n ≤ xs.length) : stN (xs ++ ys) n = stN xs n := by
  induction n with
  | zero => rfl
  | succ n ih =>
    unfold stN
    rw [ih (by omega), List.drop_append_of_le_length (by omega), List.take_append_of_le_length (by simp; omega)]

/-- The bytes that end a row of n bytes. -/
def pad (n : Nat) : List UInt8 :=
  128 :: (List.replicate ((119 - n % 64) % 64) 0 ++ (List.range 8).map fun j => UInt8.ofNat (8 * n / 256 ^ (7 - j)))
theorem pad_len (n : Nat) : (pad n).length = 9 + (119 - n % 64) % 64 := by simp [pad]; omega
theorem pad_whole (n : Nat) : (n + (pad n).length) % 64 = 0 := by rw [pad_len]; omega

/-- The sum's bytes. -/
def bytesOf (s : St) : List UInt8 := (List.range 32).map fun i => UInt8.ofNat ((s.list.getD (i / 4) 0).toNat >>> (24 - i % 4 * 8))
def sum (xs : List UInt8) : List UInt8 := bytesOf (stOf (xs ++ pad xs.length))
theorem sum_len (xs : List UInt8) : (sum xs).length = 32 := by simp [sum, bytesOf]

theorem sum_nil : (sum []).take 4 = [0xe3, 0xb0, 0xc4, 0x42] := by decide +kernel
theorem sum_abc : (sum [97, 98, 99]).take 4 = [0xba, 0x78, 0x16, 0xbf] := by decide +kernel
end Sha
end Go.Proofs.Ytkabfdclecbnpaa


/- 32 bits as the walk spells them; bits.RotateLeft32, sha.turned. -/
namespace Go.Proofs.Ytkabfdclecbnpaa
open Go.RowKit

/-- A word's value. -/
abbrev U (x : Sha.W) : Value := .int .u32 (x.toNat : Int)

theorem xor_bv (a b : Sha.W) : bits .xor .u32 (a.toNat : Int) (b.toNat : Int) = ((a ^^^ b).toNat : Int) := by
  show IntKind.u32.wrap ((BitVec.ofInt 32 (a.toNat : Int) ^^^ BitVec.ofInt 32 (b.toNat : Int)).toNat : Nat) = _
  rw [BitVec.ofInt_natCast, BitVec.ofInt_natCast, BitVec.ofNat_toNat, BitVec.ofNat_toNat, IntKind.wrap_u32]
  have := (a ^^^ b).isLt
  simp only [BitVec.setWidth_eq]; omega
theorem and_bv (a b : Sha.W) : bits .and .u32 (a.toNat : Int) (b.toNat : Int) = ((a &&& b).toNat : Int) := by
  show IntKind.u32.wrap ((BitVec.ofInt 32 (a.toNat : Int) &&& BitVec.ofInt 32 (b.toNat : Int)).toNat : Nat) = _
  rw [BitVec.ofInt_natCast, BitVec.ofInt_natCast, BitVec.ofNat_toNat, BitVec.ofNat_toNat, IntKind.wrap_u32]
  have := (a &&& b).isLt
  simp only [BitVec.setWidth_eq]; omega
theorem or_bv (a b : Sha.W) : bits .or .u32 (a.toNat : Int) (b.toNat : Int) = ((a ||| b).toNat : Int) := by
  show IntKind.u32.wrap ((BitVec.ofInt 32 (a.toNat : Int) ||| BitVec.ofInt 32 (b.toNat : Int)).toNat : Nat) = _
  rw [BitVec.ofInt_natCast, BitVec.ofInt_natCast, BitVec.ofNat_toNat, BitVec.ofNat_toNat, IntKind.wrap_u32]
  have := (a ||| b).isLt
  simp only [BitVec.setWidth_eq]; omega
theorem not_bv (a : Sha.W) : bits .xor .u32 IntKind.u32.max (a.toNat : Int) = ((~~~ a).toNat : Int) := by
  rw [show IntKind.u32.max = (((BitVec.allOnes 32).toNat : Nat) : Int) from rfl, xor_bv, BitVec.allOnes_xor]
theorem add_bv (a b : Sha.W) : ((a.toNat : Int) + (b.toNat : Int)) % 4294967296 = ((a + b).toNat : Int) := by
  rw [BitVec.toNat_add]; omega
theorem shl_bv (a : Sha.W) (n : Nat) : ((a.toNat : Int) * ((2 ^ n : Nat) : Int)) % 4294967296 = ((a <<< n).toNat : Int) := by
  rw [BitVec.toNat_shiftLeft, Nat.shiftLeft_eq, ← Int.natCast_mul]
  generalize a.toNat * 2 ^ n = m
  omega
theorem shr_bv (a : Sha.W) (n : Nat) : (a.toNat : Int) / ((2 ^ n : Nat) : Int) = ((a >>> n).toNat : Int) := by
  rw [BitVec.toNat_ushiftRight, Nat.shiftRight_eq_div_pow]
  exact (Int.natCast_ediv _ _).symm

theorem rot_lit (x : Sha.W) (n : Nat) (a b : Int) (ha : a = ((2 ^ (32 - n) : Nat) : Int)) (hb : b = ((2 ^ n : Nat) : Int)) :
    bits .or .u32 ((x.toNat : Int) * a % 4294967296) ((x.toNat : Int) / b) = ((Sha.rotr x n).toNat : Int) := by
  rw [ha, hb, shl_bv, shr_bv, or_bv]; rfl

end Go.Proofs.Ytkabfdclecbnpaa


/- sha.spread: a block's words. -/
namespace Go.Proofs.Ytkabfdclecbnpaa
open Go.RowKit

/-- The value of a byte. -/
theorem bs_get (bs : List UInt8) (i : Nat) (h : i < bs.length) : (bs.map B).toArray[i]? = some (Value.int .u8 ((bs.getD i 0).toNat : Int)) := by
  simp [B, h]

/-- The words so far, and noughts. -/
def wArr (b : List UInt8) (i : Nat) : Array Value := ((Sha.words b i).map U ++ List.replicate (64 - i) (Value.int .u32 0)).toArray
theorem wArr_size (b : List UInt8) (i : Nat) (h : i ≤ 64) : (wArr b i).size = 64 := by simp [wArr, Sha.words_len]; omega
theorem wArr_get (b : List UInt8) (i j : Nat) (h : j < i) : (wArr b i)[j]? = some (U ((Sha.words b i).getD j 0)) := by
  have hl : j < (Sha.words b i).length := by rw [Sha.words_len]; exact h
  simp only [wArr, List.getElem?_toArray]
  rw [List.getElem?_append_left (by simpa using hl)]
  simp [hl]
theorem wArr_set (b : List UInt8) (i : Nat) (h : i < 64) (x : Sha.W) (hx : Sha.words b (i + 1) = Sha.words b i ++ [x]) : (wArr b i).setIfInBounds i (U x) = wArr b (i + 1) := by
  unfold wArr
  rw [hx]
  have hl := Sha.words_len b i
  obtain ⟨n, hn⟩ : ∃ n, 64 - i = n + 1 := ⟨64 - i - 1, by omega⟩
  have hn' : 64 - (i + 1) = n := by omega
  rw [hn, hn', List.replicate_succ]
  simp
  rw [List.set_append_right _ _ (by simp [hl])]
  simp [hl]

theorem wArr_one (b : List UInt8) (i : Nat) : (wArr b i).all (·.oneCell') = true := by
  rw [Array.all_eq_true_iff_forall_mem]
  intro x hx
  simp [wArr] at hx
  rcases hx with ⟨y, _, rfl⟩ | ⟨_, rfl⟩ <;> rfl

theorem word_spelled (n0 n1 n2 n3 : Nat) (h0 : n0 < 256) (h1 : n1 < 256) (h2 : n2 < 256) (h3 : n3 < 256) :
    bits .or .u32 (bits .or .u32 (bits .or .u32 (IntKind.u32.wrap (IntKind.u32.wrap (n0 : Int) * 16777216)) (IntKind.u32.wrap (IntKind.u32.wrap (n1 : Int) * 65536))) (IntKind.u32.wrap (IntKind.u32.wrap (n2 : Int) * 256))) (IntKind.u32.wrap (n3 : Int)) =
      (((BitVec.ofNat 32 n0 <<< 24) ||| (BitVec.ofNat 32 n1 <<< 16) ||| (BitVec.ofNat 32 n2 <<< 8) ||| BitVec.ofNat 32 n3 : Sha.W).toNat : Int) := by
  have e : ∀ n : Nat, n < 256 → IntKind.u32.wrap (n : Int) = ((BitVec.ofNat 32 n : Sha.W).toNat : Int) := fun n h => by
    rw [IntKind.wrap_u32, BitVec.toNat_ofNat]; omega
  rw [e n0 h0, e n1 h1, e n2 h2, e n3 h3]
  have s24 := fun a : Sha.W => shl_bv a 24
  have s16 := fun a : Sha.W => shl_bv a 16
  have s8 := fun a : Sha.W => shl_bv a 8
  simp only [IntKind.wrap_u32]
  rw [show (16777216 : Int) = ((2 ^ 24 : Nat) : Int) from rfl, show (65536 : Int) = ((2 ^ 16 : Nat) : Int) from rfl, show (256 : Int) = ((2 ^ 8 : Nat) : Int) from rfl, s24, s16, s8, or_bv, or_bv, or_bv]

theorem next_spelled (c d e f : Sha.W) :
    IntKind.u32.wrap (IntKind.u32.wrap (IntKind.u32.wrap ((c.toNat : Int) + (d.toNat : Int)) + bits .xor .u32 (bits .xor .u32 ((Sha.rotr e 7).toNat : Int) ((Sha.rotr e 18).toNat : Int)) ((e.toNat : Int) / 8)) + bits .xor .u32 (bits .xor .u32 ((Sha.rotr f 17).toNat : Int) ((Sha.rotr f 19).toNat : Int)) ((f.toNat : Int) / 1024)) =
      ((c + d + (Sha.rotr e 7 ^^^ Sha.rotr e 18 ^^^ (e >>> 3)) + (Sha.rotr f 17 ^^^ Sha.rotr f 19 ^^^ (f >>> 10))).toNat : Int) := by
  have h3 := shr_bv e 3
  have h10 := shr_bv f 10
  simp only [IntKind.wrap_u32]
  rw [show (8 : Int) = ((2 ^ 3 : Nat) : Int) from rfl, show (1024 : Int) = ((2 ^ 10 : Nat) : Int) from rfl, h3, h10, xor_bv, xor_bv, xor_bv, xor_bv, add_bv, add_bv, add_bv]

end Go.Proofs.Ytkabfdclecbnpaa


/- sha.mix: the state behind a block. -/
namespace Go.Proofs.Ytkabfdclecbnpaa
open Go.RowKit

theorem choice_spelled (e f g : Sha.W) : bits .xor .u32 (bits .and .u32 (e.toNat : Int) (f.toNat : Int)) (bits .and .u32 (bits .xor .u32 IntKind.u32.max (e.toNat : Int)) (g.toNat : Int)) = ((Sha.choice e f g).toNat : Int) := by
  rw [not_bv, and_bv, and_bv, xor_bv]; rfl
theorem major_spelled (a b c : Sha.W) : bits .xor .u32 (bits .xor .u32 (bits .and .u32 (a.toNat : Int) (b.toNat : Int)) (bits .and .u32 (a.toNat : Int) (c.toNat : Int))) (bits .and .u32 (b.toNat : Int) (c.toNat : Int)) = ((Sha.major a b c).toNat : Int) := by
  rw [and_bv, and_bv, and_bv, xor_bv, xor_bv]; rfl
theorem one_spelled (h s c k w : Sha.W) : IntKind.u32.wrap (IntKind.u32.wrap (IntKind.u32.wrap (IntKind.u32.wrap ((h.toNat : Int) + (s.toNat : Int)) + (c.toNat : Int)) + (k.toNat : Int)) + (w.toNat : Int)) = ((h + s + c + k + w).toNat : Int) := by
  simp only [IntKind.wrap_u32]
  rw [add_bv, add_bv, add_bv, add_bv]

/-- The last sums: the first i are added. -/
def addArr (t s : List Sha.W) (i : Nat) : Array Value := ((List.range 8).map fun j => U (if j < i then t.getD j 0 + s.getD j 0 else t.getD j 0)).toArray
theorem addArr_size (t s : List Sha.W) (i : Nat) : (addArr t s i).size = 8 := by simp [addArr]
theorem addArr_get (t s : List Sha.W) (i : Nat) (hi : i < 8) : (addArr t s i)[i]? = some (U (t.getD i 0)) := by
  simp [addArr, hi]
theorem addArr_set (t s : List Sha.W) (i : Nat) (hi : i < 8) (x : Sha.W) (hx : t.getD i 0 + s.getD i 0 = x) : (addArr t s i).setIfInBounds i (U x) = addArr t s (i + 1) := by
  subst hx
  apply Array.ext_getElem?
  intro j
  rw [Array.getElem?_setIfInBounds]
  by_cases hj : i = j
  · subst hj
    simp [addArr, hi]
  · simp only [hj, if_false]
    by_cases h8 : j < 8
    · have e : (j < i + 1) = (j < i) := by simp; omega
      simp [addArr, h8, e]
    · simp [addArr, h8]
theorem addArr_one (t s : List Sha.W) (i : Nat) : (addArr t s i).all (·.oneCell') = true := by
  rw [Array.all_eq_true_iff_forall_mem]
  intro x hx
  simp [addArr] at hx
  obtain ⟨_, _, rfl⟩ := hx
  rfl
theorem addArr_zero (t s : Sha.St) : addArr t.list s.list 0 = #[U t.a, U t.b, U t.c, U t.d, U t.e, U t.f, U t.g, U t.h] := rfl
theorem addArr_end (t s : Sha.St) : addArr t.list s.list 8 = #[U (t.add s).a, U (t.add s).b, U (t.add s).c, U (t.add s).d, U (t.add s).e, U (t.add s).f, U (t.add s).g, U (t.add s).h] := rfl
end Go.Proofs.Ytkabfdclecbnpaa


/- A hash in memory: its cells, what it holds; lists of bytes in parts. -/
namespace Go.Proofs.Ytkabfdclecbnpaa
open Go.RowKit

theorem sha_add_add (x : Addr) (i j : Nat) : (x.add i).add j = x.add (i + j) := by
  unfold Addr.add
  by_cases hi : i = 0
  · subst hi; simp
  · by_cases hj : j = 0
    · subst hj; simp [hi]
    · simp [hi, hj, Nat.add_assoc]

/-- A slice of bytes reads as a list. -/
def Reads (w : World) (a : Option Addr) (ys : List UInt8) : Prop :=
  (a = none → ys = []) ∧ ∀ ad, a = some ad → ∀ (j : Nat) (u : Value), (ys.map B)[j]? = some u → w.cell? (ad.add j) = some u
theorem Reads.kept {S : List Nat} {w w' : World} {a : Option Addr} {ys : List UInt8} (h : Reads w a ys) (hk : Kept S w w') (hS : ys ≠ [] → ∀ x, a = some x → x.block ∉ S) : Reads w' a ys :=
  ⟨h.1, fun ad ha j u hu => by
    have hc := h.2 ad ha j u hu
    have hl := World.block_lt_of_cell? w _ hc
    have hne : ys ≠ [] := fun e => by rw [e] at hu; simp at hu
    exact (hk.cell hl (by rw [add_block]; exact hS hne ad ha)).trans hc⟩
theorem Reads.lt {w : World} {a : Option Addr} {ys : List UInt8} (h : Reads w a ys) (hne : ys ≠ []) : ∀ x, a = some x → x.block < w.heap.size := by
  intro x hx
  cases ys with
  | nil => exact absurd rfl hne
  | cons y ys =>
    have hc := h.2 x hx 0 (B y) rfl
    have := World.block_lt_of_cell? w _ hc
    rwa [add_block] at this
theorem B_one (l : List UInt8) : ∀ u ∈ l.map B, u.oneCell' = true := by
  intro u hu
  simp at hu
  obtain ⟨b, _, rfl⟩ := hu
  simp [B, Value.oneCell']

def stL (s : Sha.St) : List Value := [U s.a, U s.b, U s.c, U s.d, U s.e, U s.f, U s.g, U s.h]
theorem stL_one (s : Sha.St) : ∀ u ∈ stL s, u.oneCell' = true := by
  intro u hu
  simp [stL] at hu
  rcases hu with rfl | rfl | rfl | rfl | rfl | rfl | rfl | rfl <;> rfl
/-- A hash's cells. -/
def hL (s : Sha.St) (bl : List UInt8) (n : Nat) : List Value := stL s ++ (bl.map B ++ [.int .i64 (n : Int)])
theorem hL_len (s : Sha.St) (bl : List UInt8) (n : Nat) (h : bl.length = 64) : (hL s bl n).length = 73 := by simp [hL, stL, h]
theorem hL_st (s : Sha.St) (bl : List UInt8) (n j : Nat) (v : Value) (h : (stL s)[j]? = some v) : (hL s bl n)[j]? = some v := by
  have hj := (List.getElem?_eq_some_iff.1 h).1
  unfold hL
  rw [List.getElem?_append_left hj]; exact h
theorem hL_bl (s : Sha.St) (bl : List UInt8) (n j : Nat) (v : Value) (h : (bl.map B)[j]? = some v) : (hL s bl n)[8 + j]? = some v := by
  have hj := (List.getElem?_eq_some_iff.1 h).1
  unfold hL
  rw [List.getElem?_append_right (by simp [stL]), show 8 + j - (stL s).length = j by simp [stL], List.getElem?_append_left hj]; exact h
theorem hL_n (s : Sha.St) (bl : List UInt8) (n : Nat) (h : bl.length = 64) : (hL s bl n)[72]? = some (.int .i64 (n : Int)) := by
  unfold hL
  rw [List.getElem?_append_right (by simp [stL]), List.getElem?_append_right (by simp [stL, h])]
  simp [stL, h]

theorem splice_map {α β : Type} (f : α → β) (L : List α) (k : Nat) (cs : List α) : splice (L.map f) k (cs.map f) = (splice L k cs).map f := by simp [splice]
theorem hL_copy (s : Sha.St) (bl cs : List UInt8) (n r : Nat) (h : r + cs.length ≤ bl.length) : splice (hL s bl n) (8 + r) (cs.map B) = hL s (splice bl r cs) n := by
  unfold hL
  rw [← splice_map]
  unfold splice
  have h8 : (stL s).length = 8 := rfl
  rw [List.take_append, h8, List.drop_append, h8, List.take_append, List.drop_append]
  simp [List.length_map]
  have e1 : 8 + r + cs.length - 8 = r + cs.length := by omega
  have e2 : r + cs.length - bl.length = 0 := by omega
  have e3 : r - bl.length = 0 := by omega
  have e4 : List.drop (8 + r + cs.length) (stL s) = [] := List.drop_eq_nil_of_le (by rw [h8]; omega)
  have e5 : List.take (8 + r) (stL s) = stL s := List.take_of_length_le (by rw [h8]; omega)
  simp [e1, e2, e3, e4, e5]
theorem hL_set (s : Sha.St) (bl : List UInt8) (n m : Nat) (h : bl.length = 64) : (hL s bl n).set 72 (.int .i64 (m : Int)) = hL s bl m := by
  unfold hL
  rw [List.set_append_right _ _ (by simp [stL]), List.set_append_right _ _ (by simp [stL, h])]
  simp [stL, h]
theorem hL_state (s t : Sha.St) (bl : List UInt8) (n : Nat) : splice (hL s bl n) 0 (stL t) = hL t bl n := by
  unfold splice hL
  have h8 : (stL t).length = 8 := rfl
  have e4 : List.drop 8 (stL s) = [] := rfl
  rw [h8, Nat.zero_add, List.drop_append, e4]
  simp [stL]

theorem splice_take {α : Type} (bl c : List α) (r : Nat) (h : r ≤ bl.length) : (splice bl r c).take (r + c.length) = bl.take r ++ c := by
  unfold splice
  rw [← List.append_assoc, List.take_append_of_le_length (by simp; omega), List.take_of_length_le (by simp; omega)]

/-- Some bytes more, and the block isn't whole. -/
theorem more_part (X c bl : List UInt8) (hb : bl.length = 64) (hbl : bl.take (X.length % 64) = X.drop (64 * (X.length / 64))) (hr : X.length % 64 + c.length < 64) :
    Sha.stOf (X ++ c) = Sha.stOf X ∧ (splice bl (X.length % 64) c).take ((X ++ c).length % 64) = (X ++ c).drop (64 * ((X ++ c).length / 64)) := by
  have e1 : (X ++ c).length / 64 = X.length / 64 := by simp; omega
  have e2 : (X ++ c).length % 64 = X.length % 64 + c.length := by simp; omega
  refine ⟨?_, ?_⟩
  · unfold Sha.stOf
    rw [e1, Sha.stN_append _ _ _ (by omega)]
  · rw [e1, e2, splice_take _ _ _ (by omega), List.drop_append_of_le_length (by omega), hbl]
/-- Some bytes more, and the block is whole. -/
theorem more_whole (X c bl : List UInt8) (hb : bl.length = 64) (hbl : bl.take (X.length % 64) = X.drop (64 * (X.length / 64))) (hr : X.length % 64 + c.length = 64) :
    Sha.mix (Sha.stOf X) (splice bl (X.length % 64) c) = Sha.stOf (X ++ c) ∧ (splice bl (X.length % 64) c).length = 64 ∧ (splice bl (X.length % 64) c).take ((X ++ c).length % 64) = (X ++ c).drop (64 * ((X ++ c).length / 64)) := by
  have e1 : (X ++ c).length / 64 = X.length / 64 + 1 := by simp; omega
  have e2 : (X ++ c).length % 64 = 0 := by simp; omega
  have hl : (splice bl (X.length % 64) c).length = 64 := by rw [length_splice _ _ _ (by omega)]; exact hb
  have hs : splice bl (X.length % 64) c = (X ++ c).drop (64 * (X.length / 64)) := by
    have := splice_take bl c (X.length % 64) (by omega)
    rw [hr, List.take_of_length_le (by omega)] at this
    rw [this, hbl, List.drop_append_of_le_length (by omega)]
  refine ⟨?_, hl, ?_⟩
  · unfold Sha.stOf
    rw [e1, Sha.stN, Sha.stN_append _ _ _ (by omega), hs, List.take_of_length_le]
    simp; omega
  · rw [e1, e2, List.take_zero, List.drop_eq_nil_of_le]
    simp; omega

theorem slice_rest (ad : Addr) (m c n : Nat) (h : n ≤ m) (hmc : m ≤ c) : ∃ ad' : Addr, (∀ W, (Instr.sliceAt 85 (.slice (some ad) m c) (some (.int .i64 (n : Int))) none none).run Try.prog W = .ok (.slice (some ad') (m - n) (c - n)) W) ∧ (n < m → ad' = ad.add n) ∧ ad'.block = ad.block := by
  refine ⟨if c = n then ad else ad.add n, fun W => ?_, fun h => by rw [if_neg (by omega)], ?_⟩
  · rw [run_sliceAt_slice W 85 _ _ _ _ (by simp [Program.elem, Try.underlying85])]
    have hs : (sizeOf 5).run Try.prog W = .ok 1 W := by kernel_rfl
    rw [run_slice_l W 85 _ _ _ (by simp [Program.elem, Try.underlying85]) .i64 (n : Int) (by omega) (by omega)]
    have he : Try.prog.elem 85 = 5 := by simp [Program.elem, Try.underlying85]
    rw [he, hs]
    simp [Result.andThen, sliced]
    split <;> rfl
  · split
    · rfl
    · exact add_block _ _
end Go.Proofs.Ytkabfdclecbnpaa


/- sha.Hash.Write: in whichever parts bytes come. -/
namespace Go.Proofs.Ytkabfdclecbnpaa
open Go.RowKit

theorem plain_add (g o j : Nat) : (⟨g, o, none⟩ : Addr).add j = ⟨g, o + j, none⟩ := by unfold Addr.add; split <;> simp_all
theorem stOf_nil : Sha.stOf [] = Sha.first := rfl
def sliceLen : Value → Nat
  | .slice _ n _ => n
  | _ => 0

end Go.Proofs.Ytkabfdclecbnpaa
