import Derived.WalkKit

/- SHA-256, as plain mathematics: words, rounds, blocks, the sum of bytes. No program is named here. -/
namespace Go.Proofs.YtcdbgijbfppmoaaDoor
namespace Sha

abbrev W := BitVec 32
/-- A word turned to the right. -/
def rotr (x : W) (n : Nat) : W := (x <<< (32 - n)) ||| (x >>> n)
def sig (x : W) (a b c : Nat) : W := rotr x a ^^^ rotr x b ^^^ rotr x c

/-- The numbers of the rounds, and the first state. -/
def kN : List Nat := [1116352408, 1899447441, 3049323471, 3921009573, 961987163, 1508970993, 2453635748, 2870763221, 3624381080, 310598401, 607225278, 1426881987, 1925078388, 2162078206, 2614888103, 3248222580, 3835390401, 4022224774, 264347078, 604807628, 770255983, 1249150122, 1555081692, 1996064986, 2554220882, 2821834349, 2952996808, 3210313671, 3336571891, 3584528711, 113926993, 338241895, 666307205, 773529912, 1294757372, 1396182291, 1695183700, 1986661051, 2177026350, 2456956037, 2730485921, 2820302411, 3259730800, 3345764771, 3516065817, 3600352804, 4094571909, 275423344, 430227734, 506948616, 659060556, 883997877, 958139571, 1322822218, 1537002063, 1747873779, 1955562222, 2024104815, 2227730452, 2361852424, 2428436474, 2756734187, 3204031479, 3329325298]
def sN : List Nat := [1779033703, 3144134277, 1013904242, 2773480762, 1359893119, 2600822924, 528734635, 1541459225]

/-- The i-th word of a block's bytes. -/
def word (b : List UInt8) (i : Nat) : W :=
  (BitVec.ofNat 32 (b.getD (4 * i) 0).toNat <<< 24) ||| (BitVec.ofNat 32 (b.getD (4 * i + 1) 0).toNat <<< 16) ||| (BitVec.ofNat 32 (b.getD (4 * i + 2) 0).toNat <<< 8) ||| BitVec.ofNat 32 (b.getD (4 * i + 3) 0).toNat

/-- The next word behind n words. -/
def nextW (l : List W) : W :=
  let e := l.getD (l.length - 15) 0
  let f := l.getD (l.length - 2) 0
  l.getD (l.length - 16) 0 + l.getD (l.length - 7) 0 + (rotr e 7 ^^^ rotr e 18 ^^^ (e >>> 3)) + (rotr f 17 ^^^ rotr f 19 ^^^ (f >>> 10))

/-- The first n words of a block. -/
def words (b : List UInt8) : Nat → List W
  | 0 => []
  | n + 1 => words b n ++ [if n < 16 then word b n else nextW (words b n)]

theorem words_len (b : List UInt8) (n : Nat) : (words b n).length = n := by
  induction n with
  | zero => rfl
  | succ n ih => simp [words, ih]

structure St where
  a : W
  b : W
  c : W
  d : W
  e : W
  f : W
  g : W
  h : W

def St.list (s : St) : List W := [s.a, s.b, s.c, s.d, s.e, s.f, s.g, s.h]
def ofList (l : List W) : St := ⟨l.getD 0 0, l.getD 1 0, l.getD 2 0, l.getD 3 0, l.getD 4 0, l.getD 5 0, l.getD 6 0, l.getD 7 0⟩
def first : St := ofList (sN.map (BitVec.ofNat 32))

def choice (e f g : W) : W := (e &&& f) ^^^ (~~~ e &&& g)
def major (a b c : W) : W := (a &&& b) ^^^ (a &&& c) ^^^ (b &&& c)
def one (s : St) (k w : W) : W := s.h + sig s.e 6 11 25 + choice s.e s.f s.g + k + w
def two (s : St) : W := sig s.a 2 13 22 + major s.a s.b s.c
def rnd (s : St) (k w : W) : St := ⟨one s k w + two s, s.a, s.b, s.c, s.d + one s k w, s.e, s.f, s.g⟩

def kAt (i : Nat) : W := BitVec.ofNat 32 (kN.getD i 0)
/-- The first n rounds. -/
def rnds (s : St) (ws : List W) : Nat → St
  | 0 => s
  | n + 1 => rnd (rnds s ws n) (kAt n) (ws.getD n 0)

def St.add (s t : St) : St := ⟨s.a + t.a, s.b + t.b, s.c + t.c, s.d + t.d, s.e + t.e, s.f + t.f, s.g + t.g, s.h + t.h⟩
def mix (s : St) (b : List UInt8) : St := (rnds s (words b 64) 64).add s

/-- The state behind n blocks. -/
def stN (xs : List UInt8) : Nat → St
  | 0 => first
  | n + 1 => mix (stN xs n) ((xs.drop (64 * n)).take 64)
def stOf (xs : List UInt8) : St := stN xs (xs.length / 64)

theorem stN_append (xs ys : List UInt8) (n : Nat) (h : 64 * n ≤ xs.length) : stN (xs ++ ys) n = stN xs n := by
  induction n with
  | zero => rfl
  | succ n ih =>
    unfold stN
    rw [ih (by omega), List.drop_append_of_le_length (by omega), List.take_append_of_le_length (by simp; omega)]

/-- The bytes that end a row of n bytes. -/
def pad (n : Nat) : List UInt8 :=
  128 :: (List.replicate ((119 - n % 64) % 64) 0 ++ (List.range 8).map fun j => UInt8.ofNat (8 * n / 256 ^ (7 - j)))
theorem pad_len (n : Nat) : (pad n).length = 9 + (119 - n % 64) % 64 := by simp [pad]; omega
theorem pad_whole (n : Nat) : (n + (pad n).length) % 64 = 0 := by rw [pad_len]; omega

/-- The sum's bytes. -/
def bytesOf (s : St) : List UInt8 := (List.range 32).map fun i => UInt8.ofNat ((s.list.getD (i / 4) 0).toNat >>> (24 - i % 4 * 8))
def sum (xs : List UInt8) : List UInt8 := bytesOf (stOf (xs ++ pad xs.length))
theorem sum_len (xs : List UInt8) : (sum xs).length = 32 := by simp [sum, bytesOf]

theorem sum_nil : (sum []).take 4 = [0xe3, 0xb0, 0xc4, 0x42] := by decide +kernel
theorem sum_abc : (sum [97, 98, 99]).take 4 = [0xba, 0x78, 0x16, 0xbf] := by decide +kernel
end Sha
end Go.Proofs.YtcdbgijbfppmoaaDoor
