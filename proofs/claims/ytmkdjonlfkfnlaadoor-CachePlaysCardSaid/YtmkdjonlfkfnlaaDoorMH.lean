import Derived.WalkKit
import Derived.Test.YtmkdjonlfkfnlaaDoorRows
import Derived.Test.YtmkdjonlfkfnlaaDoorC0
import Derived.WalkSpells
import Derived.BigRegion
import Derived.RegionTactic
import Derived.StillTailTactics
import Derived.BigQuiet
import Derived.Deep.QuietTactic
import Derived.LoopTactic

/- SHA-256, as plain mathematics: words, rounds, blocks, the sum of bytes. No program is named here. -/
namespace Go.Proofs.YtmkdjonlfkfnlaaDoor
namespace Sha

abbrev W := BitVec 32
/-- A word turned to the right. -/
def rotr (x : W) (n : Nat) : W := (x <<< (32 - n)) ||| (x >>> n)
def sig (x : W) (a b c : Nat) : W := rotr x a ^^^ rotr x b ^^^ rotr x c

/-- The numbers of the rounds, and the first state. -/
def kN : List Nat := [1116352408, 1899447441, 3049323471, 3921009573, 961987163, 1508970993, 2453635748, 2870763221, 3624381080, 310598401, 607225278, 1426881987, 1925078388, 2162078206, 2614888103, 3248222580, 3835390401, 4022224774, 264347078, 604807628, 770255983, 1249150122, 1555081692, 1996064986, 2554220882, 2821834349, 2952996808, 3210313671, 3336571891, 3584528711, 113926993, 338241895, 666307205, 773529912, 1294757372, 1396182291, 1695183700, 1986661051, 2177026350, 2456956037, 2730485921, 2820302411, 3259730800, 3345764771, 3516065817, 3600352804, 4094571909, 275423344, 430227734, 506948616, 659060556, 883997877, 958139571, 1322822218, 1537002063, 1747873779, 1955562222, 2024104815, 2227730452, 2361852424, 2428436474, 2756734187, 3204031479, 3329325298]
def sN : List Nat := [1779033703, 3144134277, 1013904242, 2773480762, 1359893119, 2600822924, 528734635, 1541459225]

/-- The i-th word of a block's bytes. -/
def word (b : List UInt8) (i : Nat) : W :=
  (BitVec.ofNat 32 (b.getD (4 * i) 0).toNat <<< 24) ||| (BitVec.ofNat 32 (b.getD (4 * i + 1) 0).toNat <<< 16) ||| (BitVec.ofNat 32 (b.getD (4 * i + 2) 0).toNat <<< 8) ||| BitVec.ofNat 32 (b.getD (4 * i + 3) 0).toNat

/-- The next word behind n words. -/
def nextW (l : List W) : W :=
  let e := l.getD (l.length - 15) 0
  let f := l.getD (l.length - 2) 0
  l.getD (l.length - 16) 0 + l.getD (l.length - 7) 0 + (rotr e 7 ^^^ rotr e 18 ^^^ (e >>> 3)) + (rotr f 17 ^^^ rotr f 19 ^^^ (f >>> 10))

/-- The first n words of a block. -/
def words (b : List UInt8) : Nat → List W
  | 0 => []
  | n + 1 => words b n ++ [if n < 16 then word b n else nextW (words b n)]

theorem words_len (b : List UInt8) (n : Nat) : (words b n).length = n := by
  induction n with
  | zero => rfl
  | succ n ih => simp [words, ih]

structure St where
  a : W
  b : W
  c : W
  d : W
  e : W
  f : W
  g : W
  h : W

def St.list (s : St) : List W := [s.a, s.b, s.c, s.d, s.e, s.f, s.g, s.h]
def ofList (l : List W) : St := ⟨l.getD 0 0, l.getD 1 0, l.getD 2 0, l.getD 3 0, l.getD 4 0, l.getD 5 0, l.getD 6 0, l.getD 7 0⟩
def first : St := ofList (sN.map (BitVec.ofNat 32))

def choice (e f g : W) : W := (e &&& f) ^^^ (~~~ e &&& g)
def major (a b c : W) : W := (a &&& b) ^^^ (a &&& c) ^^^ (b &&& c)
def one (s : St) (k w : W) : W := s.h + sig s.e 6 11 25 + choice s.e s.f s.g + k + w
def two (s : St) : W := sig s.a 2 13 22 + major s.a s.b s.c
def rnd (s : St) (k w : W) : St := ⟨one s k w + two s, s.a, s.b, s.c, s.d + one s k w, s.e, s.f, s.g⟩

def kAt (i : Nat) : W := BitVec.ofNat 32 (kN.getD i 0)
/-- The first n rounds. -/
def rnds (s : St) (ws : List W) : Nat → St
  | 0 => s
  | n + 1 => rnd (rnds s ws n) (kAt n) (ws.getD n 0)

def St.add (s t : St) : St := ⟨s.a + t.a, s.b + t.b, s.c + t.c, s.d + t.d, s.e + t.e, s.f + t.f, s.g + t.g, s.h + t.h⟩
def mix (s : St) (b : List UInt8) : St := (rnds s (words b 64) 64).add s

/-- The state behind n blocks. -/
def stN (xs : List UInt8) : Nat → St
  | 0 => first
  | n + 1 => mix (stN xs n) ((xs.drop (64 * n)).take 64)
def stOf (xs : List UInt8) : St := stN xs (xs.length / 64)

theorem stN_append (xs ys : List UInt8) (n : Nat) (h : 64 * n ≤ xs.length) : stN (xs ++ ys) n = stN xs n := by
  induction n with
  | zero => rfl
  | succ n ih =>
    unfold stN
    rw [ih (by omega), List.drop_append_of_le_length (by omega), List.take_append_of_le_length (by simp; omega)]

/-- The bytes that end a row of n bytes. -/
def pad (n : Nat) : List UInt8 :=
  128 :: (List.replicate ((119 - n % 64) % 64) 0 ++ (List.range 8).map fun j => UInt8.ofNat (8 * n / 256 ^ (7 - j)))
theorem pad_len (n : Nat) : (pad n).length = 9 + (119 - n % 64) % 64 := by simp [pad]; omega
theorem pad_whole (n : Nat) : (n + (pad n).length) % 64 = 0 := by rw [pad_len]; omega

/-- The sum's bytes. -/
def bytesOf (s : St) : List UInt8 := (List.range 32).map fun i => UInt8.ofNat ((s.list.getD (i / 4) 0).toNat >>> (24 - i % 4 * 8))
def sum (xs : List UInt8) : List UInt8 := bytesOf (stOf (xs ++ pad xs.length))
theorem sum_len (xs : List UInt8) : (sum xs).length = 32 := by simp [sum, bytesOf]

theorem sum_nil : (sum []).take 4 = [0xe3, 0xb0, 0xc4, 0x42] := by decide +kernel
theorem sum_abc : (sum [97, 98, 99]).take 4 = [0xba, 0x78, 0x16, 0xbf] := by decide +kernel
end Sha
end Go.Proofs.YtmkdjonlfkfnlaaDoor


/- 32 bits as the walk spells them; bits.RotateLeft32, sha.turned. -/
namespace Go.Proofs.YtmkdjonlfkfnlaaDoor
open Go.RowKit

/-- A word's value. -/
abbrev U (x : Sha.W) : Value := .int .u32 (x.toNat : Int)

theorem xor_bv (a b : Sha.W) : bits .xor .u32 (a.toNat : Int) (b.toNat : Int) = ((a ^^^ b).toNat : Int) := by
  show IntKind.u32.wrap ((BitVec.ofInt 32 (a.toNat : Int) ^^^ BitVec.ofInt 32 (b.toNat : Int)).toNat : Nat) = _
  rw [BitVec.ofInt_natCast, BitVec.ofInt_natCast, BitVec.ofNat_toNat, BitVec.ofNat_toNat, IntKind.wrap_u32]
  have := (a ^^^ b).isLt
  simp only [BitVec.setWidth_eq]; omega
theorem and_bv (a b : Sha.W) : bits .and .u32 (a.toNat : Int) (b.toNat : Int) = ((a &&& b).toNat : Int) := by
  show IntKind.u32.wrap ((BitVec.ofInt 32 (a.toNat : Int) &&& BitVec.ofInt 32 (b.toNat : Int)).toNat : Nat) = _
  rw [BitVec.ofInt_natCast, BitVec.ofInt_natCast, BitVec.ofNat_toNat, BitVec.ofNat_toNat, IntKind.wrap_u32]
  have := (a &&& b).isLt
  simp only [BitVec.setWidth_eq]; omega
theorem or_bv (a b : Sha.W) : bits .or .u32 (a.toNat : Int) (b.toNat : Int) = ((a ||| b).toNat : Int) := by
  show IntKind.u32.wrap ((BitVec.ofInt 32 (a.toNat : Int) ||| BitVec.ofInt 32 (b.toNat : Int)).toNat : Nat) = _
  rw [BitVec.ofInt_natCast, BitVec.ofInt_natCast, BitVec.ofNat_toNat, BitVec.ofNat_toNat, IntKind.wrap_u32]
  have := (a ||| b).isLt
  simp only [BitVec.setWidth_eq]; omega
theorem not_bv (a : Sha.W) : bits .xor .u32 IntKind.u32.max (a.toNat : Int) = ((~~~ a).toNat : Int) := by
  rw [show IntKind.u32.max = (((BitVec.allOnes 32).toNat : Nat) : Int) from rfl, xor_bv, BitVec.allOnes_xor]
theorem add_bv (a b : Sha.W) : ((a.toNat : Int) + (b.toNat : Int)) % 4294967296 = ((a + b).toNat : Int) := by
  rw [BitVec.toNat_add]; omega
theorem shl_bv (a : Sha.W) (n : Nat) : ((a.toNat : Int) * ((2 ^ n : Nat) : Int)) % 4294967296 = ((a <<< n).toNat : Int) := by
  rw [BitVec.toNat_shiftLeft, Nat.shiftLeft_eq, ← Int.natCast_mul]
  generalize a.toNat * 2 ^ n = m
  omega
theorem shr_bv (a : Sha.W) (n : Nat) : (a.toNat : Int) / ((2 ^ n : Nat) : Int) = ((a >>> n).toNat : Int) := by
  rw [BitVec.toNat_ushiftRight, Nat.shiftRight_eq_div_pow]
  exact (Int.natCast_ediv _ _).symm

theorem rot_lit (x : Sha.W) (n : Nat) (a b : Int) (ha : a = ((2 ^ (32 - n) : Nat) : Int)) (hb : b = ((2 ^ n : Nat) : Int)) :
    bits .or .u32 ((x.toNat : Int) * a % 4294967296) ((x.toNat : Int) / b) = ((Sha.rotr x n).toNat : Int) := by
  rw [ha, hb, shl_bv, shr_bv, or_bv]; rfl

theorem rot_at (x : Sha.W) (m s : Int) (n : Nat) (hn : n ≤ 31) (h1 : 1 ≤ n) (hm : bits .and .u64 (IntKind.u64.wrap m) 31 = s) (hs : s = 32 - (n : Int)) (w : World) :
    Calls Tryd.prog 42 #[U x, .int .i64 m] w fun e w' => e = .returned (U (Sha.rotr x n)) ∧ w = w' := by
  have hx := x.isLt
  obtain ⟨a, ha⟩ : ∃ a : Int, a = ((2 ^ (32 - n) : Nat) : Int) := ⟨_, rfl⟩
  obtain ⟨b, hb⟩ : ∃ b : Int, b = ((2 ^ n : Nat) : Int) := ⟨_, rfl⟩
  have h1 := rot_lit x n a b ha hb
  have e1 : (2 : Int) ^ s.toNat = a := by
    rw [ha, show s.toNat = 32 - n by omega]; simp
  have e2 : (2 : Int) ^ (32 - s).toNat = b := by
    rw [hb, show (32 - s).toNat = n by omega]; simp
  have b1 : 0 ≤ s := by omega
  have b2 : s ≤ 32 := by omega
  have b3 : 0 ≤ 32 - s := by omega
  have b4 : 32 - s ≤ 32 := by omega
  clear ha hb hs hn
  have H := hid h1
  clear h1
  go_enter Tryd.func42, Tryd.ntmps42
  go_wp2
  go_ret
  exact ⟨by rw [H.out]; rfl, rfl⟩

theorem rot_still (x : Sha.W) (m s : Int) (n : Nat) (hn : n ≤ 31) (h1 : 1 ≤ n) (hm : bits .and .u64 (IntKind.u64.wrap m) 31 = s) (hs : s = 32 - (n : Int)) (w : World) :
    Calls Tryd.prog 42 #[U x, .int .i64 m] w fun e w' => e = .returned (U (Sha.rotr x n)) ∧ w' = w :=
  (rot_at x m s n hn h1 hm hs w).mono fun _ _ h => ⟨h.1, h.2.symm⟩

theorem turned_e (x : Sha.W) (w : World) :
    Calls Tryd.prog 41 #[U x, .int .i64 6, .int .i64 11, .int .i64 25] w fun e w' => e = .returned (U (Sha.sig x 6 11 25)) ∧ w = w' := by
  have r1 := fun w => rot_at x (-6) 26 6 (by omega) (by omega) (by decide) (by decide) w
  have r2 := fun w => rot_at x (-11) 21 11 (by omega) (by omega) (by decide) (by decide) w
  have r3 := fun w => rot_at x (-25) 7 25 (by omega) (by omega) (by decide) (by decide) w
  have h := hid (show bits .xor .u32 (bits .xor .u32 ((Sha.rotr x 6).toNat : Int) ((Sha.rotr x 11).toNat : Int)) ((Sha.rotr x 25).toNat : Int) = ((Sha.sig x 6 11 25).toNat : Int) by rw [xor_bv, xor_bv]; rfl)
  have R1 := hid r1; have R2 := hid r2; have R3 := hid r3
  clear r1 r2 r3
  go_enter Tryd.func41, Tryd.ntmps41
  go_wp2_with fail
  refine (R1.out _).mono ?_
  rintro e w' ⟨rfl, rfl⟩
  go_wp2_with fail
  refine (R2.out _).mono ?_
  rintro e w' ⟨rfl, rfl⟩
  go_wp2_with fail
  refine (R3.out _).mono ?_
  rintro e w' ⟨rfl, rfl⟩
  go_wp2_with fail
  go_ret
  exact ⟨by rw [h.out]; rfl, rfl⟩

theorem turned_a (x : Sha.W) (w : World) :
    Calls Tryd.prog 41 #[U x, .int .i64 2, .int .i64 13, .int .i64 22] w fun e w' => e = .returned (U (Sha.sig x 2 13 22)) ∧ w = w' := by
  have r1 := fun w => rot_at x (-2) 30 2 (by omega) (by omega) (by decide) (by decide) w
  have r2 := fun w => rot_at x (-13) 19 13 (by omega) (by omega) (by decide) (by decide) w
  have r3 := fun w => rot_at x (-22) 10 22 (by omega) (by omega) (by decide) (by decide) w
  have h := hid (show bits .xor .u32 (bits .xor .u32 ((Sha.rotr x 2).toNat : Int) ((Sha.rotr x 13).toNat : Int)) ((Sha.rotr x 22).toNat : Int) = ((Sha.sig x 2 13 22).toNat : Int) by rw [xor_bv, xor_bv]; rfl)
  have R1 := hid r1; have R2 := hid r2; have R3 := hid r3
  clear r1 r2 r3
  go_enter Tryd.func41, Tryd.ntmps41
  go_wp2_with fail
  refine (R1.out _).mono ?_
  rintro e w' ⟨rfl, rfl⟩
  go_wp2_with fail
  refine (R2.out _).mono ?_
  rintro e w' ⟨rfl, rfl⟩
  go_wp2_with fail
  refine (R3.out _).mono ?_
  rintro e w' ⟨rfl, rfl⟩
  go_wp2_with fail
  go_ret
  exact ⟨by rw [h.out]; rfl, rfl⟩
theorem turned_e_still (x : Sha.W) (w : World) :
    Calls Tryd.prog 41 #[U x, .int .i64 6, .int .i64 11, .int .i64 25] w fun e w' => e = .returned (U (Sha.sig x 6 11 25)) ∧ w' = w :=
  (turned_e x w).mono fun _ _ h => ⟨h.1, h.2.symm⟩
end Go.Proofs.YtmkdjonlfkfnlaaDoor


/- sha.spread: a block's words. -/
namespace Go.Proofs.YtmkdjonlfkfnlaaDoor
open Go.RowKit

/-- The value of a byte. -/
theorem bs_get (bs : List UInt8) (i : Nat) (h : i < bs.length) : (bs.map B).toArray[i]? = some (Value.int .u8 ((bs.getD i 0).toNat : Int)) := by
  simp [B, h]

/-- The words so far, and noughts. -/
def wArr (b : List UInt8) (i : Nat) : Array Value := ((Sha.words b i).map U ++ List.replicate (64 - i) (Value.int .u32 0)).toArray
theorem wArr_size (b : List UInt8) (i : Nat) (h : i ≤ 64) : (wArr b i).size = 64 := by simp [wArr, Sha.words_len]; omega
theorem wArr_get (b : List UInt8) (i j : Nat) (h : j < i) : (wArr b i)[j]? = some (U ((Sha.words b i).getD j 0)) := by
  have hl : j < (Sha.words b i).length := by rw [Sha.words_len]; exact h
  simp only [wArr, List.getElem?_toArray]
  rw [List.getElem?_append_left (by simpa using hl)]
  simp [hl]
theorem wArr_set (b : List UInt8) (i : Nat) (h : i < 64) (x : Sha.W) (hx : Sha.words b (i + 1) = Sha.words b i ++ [x]) : (wArr b i).setIfInBounds i (U x) = wArr b (i + 1) := by
  unfold wArr
  rw [hx]
  have hl := Sha.words_len b i
  obtain ⟨n, hn⟩ : ∃ n, 64 - i = n + 1 := ⟨64 - i - 1, by omega⟩
  have hn' : 64 - (i + 1) = n := by omega
  rw [hn, hn', List.replicate_succ]
  simp
  rw [List.set_append_right _ _ (by simp [hl])]
  simp [hl]

theorem wArr_one (b : List UInt8) (i : Nat) : (wArr b i).all (·.oneCell') = true := by
  rw [Array.all_eq_true_iff_forall_mem]
  intro x hx
  simp [wArr] at hx
  rcases hx with ⟨y, _, rfl⟩ | ⟨_, rfl⟩ <;> rfl

def SpRel (k : Nat) (b : List UInt8) (w : World) (i : Nat) (wr : World) : Prop :=
  k = w.heap.size ∧ Kept [] w wr ∧ wr.heap[k]? = some (.cells (b.map B).toArray 82 (0, 0)) ∧ wr.heap[k + 1]? = some (.cells (wArr [] 0) 93 (0, 0)) ∧ wr.heap[k + 1 + 1]? = some (.cells (wArr b i) 93 (0, 0))

theorem SpRel.drew {k : Nat} {b : List UInt8} {w wr : World} {i : Nat} (h : SpRel k b w i wr) : SpRel k b w i wr.drew := ⟨h.1, h.2.1.drew, h.2.2⟩
theorem SpRel.step {k : Nat} {b : List UInt8} {w wr : World} {i : Nat} (h : SpRel k b w i wr) (hi : i < 64) (x : Sha.W) (hx : Sha.words b (i + 1) = Sha.words b i ++ [x]) : SpRel k b w (i + 1) (wr.setCell ⟨k + 1 + 1, i, none⟩ (U x)) := by
  obtain ⟨h0, h1, h2, h3, h4⟩ := h
  refine ⟨h0, h1.setCell (fun e => absurd e (by simp; omega)) _, heap_setCell_other h2 (by simp; omega), heap_setCell_other h3 (by simp), ?_⟩
  rw [Go.heap_setCell_same wr (k + 1 + 1) i _ _ _ h4, wArr_set b i hi x hx]

theorem word_spelled (n0 n1 n2 n3 : Nat) (h0 : n0 < 256) (h1 : n1 < 256) (h2 : n2 < 256) (h3 : n3 < 256) :
    bits .or .u32 (bits .or .u32 (bits .or .u32 (IntKind.u32.wrap (IntKind.u32.wrap (n0 : Int) * 16777216)) (IntKind.u32.wrap (IntKind.u32.wrap (n1 : Int) * 65536))) (IntKind.u32.wrap (IntKind.u32.wrap (n2 : Int) * 256))) (IntKind.u32.wrap (n3 : Int)) =
      (((BitVec.ofNat 32 n0 <<< 24) ||| (BitVec.ofNat 32 n1 <<< 16) ||| (BitVec.ofNat 32 n2 <<< 8) ||| BitVec.ofNat 32 n3 : Sha.W).toNat : Int) := by
  have e : ∀ n : Nat, n < 256 → IntKind.u32.wrap (n : Int) = ((BitVec.ofNat 32 n : Sha.W).toNat : Int) := fun n h => by
    rw [IntKind.wrap_u32, BitVec.toNat_ofNat]; omega
  rw [e n0 h0, e n1 h1, e n2 h2, e n3 h3]
  have s24 := fun a : Sha.W => shl_bv a 24
  have s16 := fun a : Sha.W => shl_bv a 16
  have s8 := fun a : Sha.W => shl_bv a 8
  simp only [IntKind.wrap_u32]
  rw [show (16777216 : Int) = ((2 ^ 24 : Nat) : Int) from rfl, show (65536 : Int) = ((2 ^ 16 : Nat) : Int) from rfl, show (256 : Int) = ((2 ^ 8 : Nat) : Int) from rfl, s24, s16, s8, or_bv, or_bv, or_bv]

theorem next_spelled (c d e f : Sha.W) :
    IntKind.u32.wrap (IntKind.u32.wrap (IntKind.u32.wrap ((c.toNat : Int) + (d.toNat : Int)) + bits .xor .u32 (bits .xor .u32 ((Sha.rotr e 7).toNat : Int) ((Sha.rotr e 18).toNat : Int)) ((e.toNat : Int) / 8)) + bits .xor .u32 (bits .xor .u32 ((Sha.rotr f 17).toNat : Int) ((Sha.rotr f 19).toNat : Int)) ((f.toNat : Int) / 1024)) =
      ((c + d + (Sha.rotr e 7 ^^^ Sha.rotr e 18 ^^^ (e >>> 3)) + (Sha.rotr f 17 ^^^ Sha.rotr f 19 ^^^ (f >>> 10))).toNat : Int) := by
  have h3 := shr_bv e 3
  have h10 := shr_bv f 10
  simp only [IntKind.wrap_u32]
  rw [show (8 : Int) = ((2 ^ 3 : Nat) : Int) from rfl, show (1024 : Int) = ((2 ^ 10 : Nat) : Int) from rfl, h3, h10, xor_bv, xor_bv, xor_bv, xor_bv, add_bv, add_bv, add_bv]

theorem slice_word (k i : Nat) (hi : i < 16) (W : World) : (Instr.sliceAt 82 (.pointer (some ⟨k, 0, none⟩)) (some (.int .i64 (4 * (i : Int)))) (some (.int .i64 (4 * (i : Int) + 4))) none).run Tryd.prog W = .ok (.slice (some ⟨k, 4 * i, none⟩) 4 (64 - 4 * i)) W := by
  have hal : Tryd.prog.arrayLen 82 = 64 := by simp [Program.arrayLen, Tryd.underlying82]
  rw [run_sliceAt_array_lh W 82 ⟨k, 0, none⟩ (by simp [Program.arrayLen, Program.elem, Tryd.underlying82]) .i64 .i64 (4 * (i : Int)) (4 * (i : Int) + 4) (by omega) (by omega) (by rw [hal]; omega)]
  have e1 : (4 * (i : Int)).toNat = 4 * i := by omega
  have e2 : (4 * (i : Int) + 4).toNat = 4 * i + 4 := by omega
  have e3 : (4 * i + 4) - 4 * i = 4 := by omega
  have e4 : ¬ 64 = 4 * i := by omega
  rw [hal, e1, e2]
  go_simp

set_option maxRecDepth 100000 in
set_option maxHeartbeats 4000000 in
theorem spread_any (b : List UInt8) (hb : b.length = 64) (w : World) :
    Calls Tryd.prog 40 #[.agg (b.map B).toArray] w fun e w' => e = .returned (.agg (wArr b 64)) ∧ Kept [] w w' := by
  go_enter Tryd.func40, Tryd.ntmps40
  go_wp2
  have h0 : Hid (SpRel w.heap.size b w 0 (((w.alloc (.cells (b.map B).toArray 82)).alloc (.cells (wArr [] 0) 93)).alloc (.cells (wArr b 0) 93))) :=
    hid ⟨rfl, (((Kept.refl [] w).alloc _).alloc _).alloc _, heap_alloc_old (heap_alloc_old (heap_alloc_at rfl)), heap_alloc_old (heap_alloc_at (by simp)), heap_alloc_at (by simp)⟩
  go_loopw [9] (fun s wr => ∃ i : Nat, i ≤ 16 ∧ s = .int .i64 i ∧ Hid (SpRel w.heap.size b w i wr)) (fun s _ => 16 - (intOf s).toNat)
  case atStart => exact ⟨0, Nat.zero_le _, rfl, h0⟩
  case round =>
    obtain ⟨i, hi, rfl, hr⟩ := hrel
    by_cases hlt : i < 16
    · obtain ⟨-, -, c1, -, c3⟩ := hr.out
      have g0 : wr.cell? ⟨w.heap.size, 4 * i, none⟩ = some (.int .u8 ((b.getD (4 * i) 0).toNat : Int)) := (cell_of_row wr _ _ _ _ _ c1).trans (bs_get b _ (by omega))
      have g1 : wr.cell? ⟨w.heap.size, 4 * i + 1, none⟩ = some (.int .u8 ((b.getD (4 * i + 1) 0).toNat : Int)) := (cell_of_row wr _ _ _ _ _ c1).trans (bs_get b _ (by omega))
      have g2 : wr.cell? ⟨w.heap.size, 4 * i + 2, none⟩ = some (.int .u8 ((b.getD (4 * i + 2) 0).toNat : Int)) := (cell_of_row wr _ _ _ _ _ c1).trans (bs_get b _ (by omega))
      have g3 : wr.cell? ⟨w.heap.size, 4 * i + 3, none⟩ = some (.int .u8 ((b.getD (4 * i + 3) 0).toNat : Int)) := (cell_of_row wr _ _ _ _ _ c1).trans (bs_get b _ (by omega))
      obtain ⟨v, gx⟩ : ∃ v, wr.cell? ⟨w.heap.size + 1 + 1, i, none⟩ = some v := ⟨(wArr b i)[i]'(by rw [wArr_size] <;> omega), (cell_of_row wr _ _ _ _ _ c3).trans (Array.getElem?_eq_getElem _)⟩
      have gf := frozen_of_row wr _ i _ _ c3
      have b0 := (b.getD (4 * i) 0).toNat_lt
      have b1 := (b.getD (4 * i + 1) 0).toNat_lt
      have b2 := (b.getD (4 * i + 2) 0).toNat_lt
      have b3 := (b.getD (4 * i + 3) 0).toNat_lt
      clear c1 c3
      have hx : Hid (∃ n0 n1 n2 n3 : Nat, n0 = (b.getD (4 * i) 0).toNat ∧ n1 = (b.getD (4 * i + 1) 0).toNat ∧ n2 = (b.getD (4 * i + 2) 0).toNat ∧ n3 = (b.getD (4 * i + 3) 0).toNat ∧
        Sha.word b i = (BitVec.ofNat 32 n0 <<< 24) ||| (BitVec.ofNat 32 n1 <<< 16) ||| (BitVec.ofNat 32 n2 <<< 8) ||| BitVec.ofNat 32 n3) := hid ⟨_, _, _, _, rfl, rfl, rfl, rfl, rfl⟩
      have hx := hx.out
      obtain ⟨n0, n1, n2, n3, e0, e1, e2, e3, hx⟩ := hx
      rw [← e0] at g0 b0; rw [← e1] at g1 b1; rw [← e2] at g2 b2; rw [← e3] at g3 b3
      have HX := hid hx
      clear e0 e1 e2 e3 hx
      have hw : i < 64 := by omega
      have hsl := fun W => slice_word w.heap.size i hlt W
      have i0 : (0 : Int) ≤ (i : Int) := by omega
      have i1 : (i : Int) < 64 := by omega
      have hwd := hid (word_spelled n0 n1 n2 n3 b0 b1 b2 b3)
      go_wp2
      clear hsl
      go_still_tail 24, (by kernel_rfl)
      change wpList _ _ _ _ _ wr.drew
      rw [hwd.out, ← HX.out]
      have hr2 := hid (hr.out.drew.step hw (Sha.word b i) (by rw [Sha.words, if_pos hlt]))
      clear hwd HX g0 g1 g2 g3 hr b0 b1 b2 b3
      go_wp2
      go_roundw
      case rel => exact ⟨i + 1, by omega, by go_num, hr2⟩
      case measure => simp [intOf]; omega
    · obtain rfl : i = 16 := by omega
      go_wp2_with fail
      clear h0
      rw [show ((16 : Nat) : Int) = 16 from rfl]
      go_loopw [6] (fun s wr => ∃ i : Nat, 16 ≤ i ∧ i ≤ 64 ∧ s = .int .i64 i ∧ Hid (SpRel w.heap.size b w i wr)) (fun s _ => 64 - (intOf s).toNat)
      case atStart => exact ⟨16, by omega, by omega, rfl, hr⟩
      case round =>
        clear hr hlt hi
        obtain ⟨i, hi, hi2, rfl, hr⟩ := hrel
        by_cases hlt : i < 64
        · obtain ⟨-, -, -, -, c3⟩ := hr.out
          have gw := fun j (hj : j < i) => (cell_of_row _ _ j _ _ _ c3).trans (wArr_get b i j hj)
          have g15 := gw (i - 15) (by omega)
          have g2 := gw (i - 2) (by omega)
          have g16 := gw (i - 16) (by omega)
          have g7 := gw (i - 7) (by omega)
          obtain ⟨v, gx⟩ : ∃ v, wr.cell? ⟨w.heap.size + 1 + 1, i, none⟩ = some v := ⟨(wArr b i)[i]'(by rw [wArr_size] <;> omega), (cell_of_row wr _ _ _ _ _ c3).trans (Array.getElem?_eq_getElem _)⟩
          have gf := frozen_of_row wr _ i _ _ c3
          obtain ⟨e, he⟩ : ∃ e, (Sha.words b i).getD (i - 15) 0 = e := ⟨_, rfl⟩
          obtain ⟨f, hf⟩ : ∃ f, (Sha.words b i).getD (i - 2) 0 = f := ⟨_, rfl⟩
          obtain ⟨c, hc⟩ : ∃ c, (Sha.words b i).getD (i - 16) 0 = c := ⟨_, rfl⟩
          obtain ⟨d, hd⟩ : ∃ d, (Sha.words b i).getD (i - 7) 0 = d := ⟨_, rfl⟩
          obtain ⟨z, hz1, hz2⟩ : ∃ z : Sha.W, IntKind.u32.wrap (IntKind.u32.wrap (IntKind.u32.wrap ((c.toNat : Int) + (d.toNat : Int)) + bits .xor .u32 (bits .xor .u32 ((Sha.rotr e 7).toNat : Int) ((Sha.rotr e 18).toNat : Int)) ((e.toNat : Int) / 8)) + bits .xor .u32 (bits .xor .u32 ((Sha.rotr f 17).toNat : Int) ((Sha.rotr f 19).toNat : Int)) ((f.toNat : Int) / 1024)) = (z.toNat : Int) ∧ Sha.words b (i + 1) = Sha.words b i ++ [z] :=
            ⟨_, next_spelled c d e f, by rw [Sha.words, if_neg (by omega)]; simp only [Sha.nextW, Sha.words_len, he, hf, hc, hd]⟩
          have hx := hid hz1
          have hn := hid hz2
          clear hz1 hz2
          rw [he] at g15; rw [hf] at g2; rw [hc] at g16; rw [hd] at g7
          have hr2 := hid (hr.out.drew.drew.step hlt _ hn.out)
          have i0 : (0 : Int) ≤ (i : Int) := by omega
          have i1 : (i : Int) < 64 := by omega
          have j15 : (0 : Int) ≤ (i : Int) - 15 := by omega
          have k15 : (i : Int) - 15 < 64 := by omega
          have l15 : (15 : Int) ≤ (i : Int) := by omega
          have n15 : ((i : Int) - 15).toNat = i - 15 := by omega
          have l2 : (2 : Int) ≤ (i : Int) := by omega
          have k2 : (i : Int) - 2 < 64 := by omega
          have n2 : ((i : Int) - 2).toNat = i - 2 := by omega
          have l7 : (7 : Int) ≤ (i : Int) := by omega
          have k7 : (i : Int) - 7 < 64 := by omega
          have n7 : ((i : Int) - 7).toNat = i - 7 := by omega
          have l16 : (16 : Int) ≤ (i : Int) := by omega
          have k16 : (i : Int) - 16 < 64 := by omega
          have n16 : ((i : Int) - 16).toNat = i - 16 := by omega
          have w15 : IntKind.i64.wrap ((i : Int) - 15) = (i : Int) - 15 := IntWalk.i64_in _ (by omega)
          have w2 : IntKind.i64.wrap ((i : Int) - 2) = (i : Int) - 2 := IntWalk.i64_in _ (by omega)
          have w7 : IntKind.i64.wrap ((i : Int) - 7) = (i : Int) - 7 := IntWalk.i64_in _ (by omega)
          have w16 : IntKind.i64.wrap ((i : Int) - 16) = (i : Int) - 16 := IntWalk.i64_in _ (by omega)
          have r1 := fun w => rot_still e (-7) 25 7 (by omega) (by omega) (by decide) (by decide) w
          have r2 := fun w => rot_still e (-18) 14 18 (by omega) (by omega) (by decide) (by decide) w
          have r3 := fun w => rot_still f (-17) 15 17 (by omega) (by omega) (by decide) (by decide) w
          have r4 := fun w => rot_still f (-19) 13 19 (by omega) (by omega) (by decide) (by decide) w
          have R1 := hid r1; have R2 := hid r2; have R3 := hid r3; have R4 := hid r4
          clear r1 r2 r3 r4 gw c3 hr he hf hc hd
          go_wp2_with fail
          go_still (by kernel_rfl)
          go_wp2_with fail
          refine wp_region_still_tail 29 (by kernel_rfl) (by kernel_rfl) ?_
          simp only [List.take_succ_cons, List.take_zero, List.drop_succ_cons, List.drop_zero]
          change wpStill _ _ wr.drew.drew _ _ _
          repeat still_step
          still_call (R1.out _)
          repeat still_step
          still_call (R2.out _)
          repeat still_step
          still_call (R3.out _)
          repeat still_step
          still_call (R4.out _)
          repeat still_step
          refine wpStill_nil ?_
          change wpList _ _ _ _ _ wr.drew.drew
          clear R1 R2 R3 R4 w15 w2 w7 w16
          rw [hx.out]
          clear hx hn
          go_wp2
          go_roundw
          case rel => exact ⟨i + 1, by omega, by omega, by go_num, hr2⟩
          case measure => simp [intOf]; omega
        · obtain rfl : i = 64 := by omega
          obtain ⟨hz, hk, -, c4, c5⟩ := hr.out
          have hsz : Hid (wr.heap.size = wr.heap.size) := hid rfl
          go_wp2_with (first
            | (refine wpList_load_row rfl 93 (.tmp 3) rfl (w.heap.size + 1 + 1) rfl _ _ _ _ c5 Tryd.underlying93 rfl (by rw [wArr_size _ _ (Nat.le_refl _)]; kernel_rfl) ?_)
            | (refine wpList_store_row rfl 93 (.tmp 2) (.tmp 84) rfl (w.heap.size + 1) (wArr b 64) rfl rfl _ _ c4 (by rw [wArr_size _ _ (Nat.le_refl _)]; kernel_rfl) (by rw [wArr_size _ _ (by omega), wArr_size _ _ (Nat.le_refl _)]) (wArr_one b 64) ?_))
          refine bodyPost_ret (v := .agg (wArr b 64)) (results_cell_row Tryd.results40 _ _ (w.heap.size + 1) _ _ _ _ (by simp) (setRow_heap _ _ _ _ _ _ c4) Tryd.underlying93 rfl (by rw [wArr_size _ _ (Nat.le_refl _)]; kernel_rfl)) rfl ⟨rfl, hk.setRow (fun h => absurd h (by omega)) _⟩
end Go.Proofs.YtmkdjonlfkfnlaaDoor
