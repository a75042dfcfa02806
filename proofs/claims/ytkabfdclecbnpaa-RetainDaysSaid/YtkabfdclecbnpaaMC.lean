import Derived.Test.YtkabfdclecbnpaaC0
import Derived.Test.YtkabfdclecbnpaaMJ
import Derived.OpenShut

/- code.Writer: what each call writes. -/
namespace Go.Proofs.Ytkabfdclecbnpaa
open Go.RowKit Go.Lib

theorem info_u8 : (Try.prog.info? 5).map (fun i => (i.zero, i.size, i.bytes)) = some (some (.int .u8 0), 1, 1) := by kernel_rfl

/-- The lowest k bytes of a number, the lowest first. -/
def numB (N k : Nat) : List UInt8 := (List.range k).map fun j => UInt8.ofNat (N / 256 ^ j)
theorem numB_len (N k : Nat) : (numB N k).length = k := by simp [numB]
theorem numB_succ (N k : Nat) : numB N (k + 1) = numB N k ++ [UInt8.ofNat (N / 256 ^ k)] := by simp [numB, List.range_succ]

/-- How many bytes a number has that is asked to have so many. -/
def sz (size : Int) : Nat := if size < 1 then 1 else if 8 < size then 8 else size.toNat
theorem sz4 : sz 4 = 4 := by decide
theorem sz_le (size : Int) : 1 ≤ sz size ∧ sz size ≤ 8 := by unfold sz; split <;> (try split) <;> omega

theorem owns_slice {w : World} {base : Nat} {e : TypeId} {size : Nat} {v : Value} {n : Nat} {xs : List Value} (h : w.ownsRow base e size v n xs) : ∃ a c, v = .slice a n c := by
  rcases h.2 with ⟨rfl, rfl⟩ | ⟨g, cap, _, rfl, _⟩
  · exact ⟨none, 0, rfl⟩
  · exact ⟨_, cap, rfl⟩

theorem B_ofNat (M : Nat) : B (UInt8.ofNat M) = .int .u8 ((M : Int) % 256) := by unfold B; simp
theorem strCells_B (s : ByteArray) : strCells s = s.data.toList.map B := rfl
theorem B_oneCell (l : List UInt8) : ∀ u ∈ l.map B, u.oneCell' = true := by
  intro u hu
  simp at hu
  obtain ⟨b, _, rfl⟩ := hu
  simp [B, Value.oneCell']

/-- What is appended to a writer's bytes is bytes. -/
def SrcB (w : World) (sv : Value) (ys : List UInt8) : Prop := Src w sv ys.length (ys.map B)
theorem SrcB.kept {S : List Nat} {w w' : World} {sv : Value} {ys : List UInt8} (h : SrcB w sv ys) (hk : Kept S w w') (hS : ∀ x, sv.ownBlock = some x → x ∉ S) : SrcB w' sv ys := by
  rcases h with h | ⟨ad, c, rfl, h⟩
  · exact Or.inl h
  · refine Or.inr ⟨ad, c, rfl, fun j u hj => ?_⟩
    have hc := h j u hj
    have hl := World.block_lt_of_cell? w _ hc
    exact (hk.cell hl (by rw [add_block]; exact hS _ rfl)).trans hc
theorem SrcB.size {w : World} {sv : Value} {ys : List UInt8} (h : SrcB w sv ys) : ∃ a c, sv = .slice a ys.length c := by
  rcases h with ⟨rfl, h, _⟩ | ⟨ad, c, rfl, _⟩
  · exact ⟨none, 0, by rw [h]⟩
  · exact ⟨_, c, rfl⟩

end Go.Proofs.Ytkabfdclecbnpaa


/- code.Writer: Raw, Bytes. -/
namespace Go.Proofs.Ytkabfdclecbnpaa
open Go.RowKit Go.Lib

end Go.Proofs.Ytkabfdclecbnpaa


/- code.Writer.Text: what it writes. -/
namespace Go.Proofs.Ytkabfdclecbnpaa
open Go.RowKit Go.Lib

end Go.Proofs.Ytkabfdclecbnpaa


/- code.Reader: what each call reads. -/
namespace Go.Proofs.Ytkabfdclecbnpaa
open Go.RowKit Go.Lib

/-- The number of bytes, the lowest first. -/
def numOf : List UInt8 → Nat
  | [] => 0
  | b :: r => b.toNat + 256 * numOf r

theorem numOf_lt : ∀ l : List UInt8, numOf l < 256 ^ l.length
  | [] => by simp [numOf]
  | b :: r => by
    have h := numOf_lt r
    have hb := b.toNat_lt
    simp only [numOf, List.length_cons, Nat.pow_succ]
    omega
theorem numOf_snoc (l : List UInt8) (b : UInt8) : numOf (l ++ [b]) = numOf l + 256 ^ l.length * b.toNat := by
  induction l with
  | nil => simp [numOf]
  | cons a r ih =>
    simp only [List.cons_append, numOf, ih, List.length_cons, Nat.pow_succ]
    rw [Nat.mul_add, ← Nat.mul_assoc, Nat.mul_comm 256 (256 ^ r.length)]
    omega

theorem or_step (m b i : Nat) (hi : i < 8) (hm : m < 256 ^ i) (hb : b < 256) :
    bits .or .u64 (m : Int) (IntKind.u64.wrap (IntKind.u64.wrap (b : Int) * 2 ^ (8 * i))) = ((m + 256 ^ i * b : Nat) : Int) := by
  have e0 : (256 : Nat) ^ i = 2 ^ (8 * i) := by rw [show (256 : Nat) = 2 ^ 8 from rfl, ← Nat.pow_mul]
  have hle : 256 ^ i * b < 256 ^ 8 := by
    have h1 : 256 ^ i * b < 256 ^ i * 256 := Nat.mul_lt_mul_of_pos_left hb (Nat.pow_pos (by omega))
    have h2 : 256 ^ (i + 1) ≤ 256 ^ 8 := Nat.pow_le_pow_right (by omega) (by omega)
    rw [Nat.pow_succ] at h2
    omega
  have e1 : IntKind.u64.wrap (b : Int) = (b : Int) := by rw [IntKind.wrap_u64]; omega
  have e2 : ((b : Int) * 2 ^ (8 * i)) = ((256 ^ i * b : Nat) : Int) := by rw [e0]; push_cast; rw [Int.mul_comm]
  have e3 : IntKind.u64.wrap ((256 ^ i * b : Nat) : Int) = ((256 ^ i * b : Nat) : Int) := by
    rw [IntKind.wrap_u64]
    have : (256 : Nat) ^ 8 = 18446744073709551616 := by decide
    omega
  have hm64 : m < 18446744073709551616 := by
    have h2 : 256 ^ i ≤ 256 ^ 8 := Nat.pow_le_pow_right (by omega) (by omega)
    have : (256 : Nat) ^ 8 = 18446744073709551616 := by decide
    omega
  have hle' : 256 ^ i * b < 18446744073709551616 := by
    have : (256 : Nat) ^ 8 = 18446744073709551616 := by decide
    omega
  rw [e1, e2, e3, bits_or_u64_nat m (256 ^ i * b) hm64 hle', Nat.or_comm]
  rw [e0] at hm ⊢
  rw [← Nat.two_pow_add_eq_or_of_lt hm, Nat.add_comm]

/-- Where the rest of a row of c cells begins, behind m of them. -/
def behind (a : Option Addr) (c m : Nat) : Option Addr := if c = m then a else a.map (·.add m)

theorem add_0 (x : Addr) : x.add 0 = x := by unfold Addr.add; simp
theorem add_add (x : Addr) (i j : Nat) : (x.add i).add j = x.add (i + j) := by
  unfold Addr.add
  by_cases hi : i = 0
  · subst hi; simp
  · by_cases hj : j = 0
    · subst hj; simp [hi]
    · simp [hi, hj, Nat.add_assoc]

theorem add_spot (x : Addr) (i : Nat) (h : x.spot = none) : (x.add i).spot = none := by unfold Addr.add; split <;> simp_all

/-- The world behind reading m bytes. -/
def nextW (w : World) (r : Nat) (a : Option Addr) (c : Nat) (xs : List UInt8) (m : Nat) : World := w.setCell ⟨r, 0, none⟩ (.slice (behind a c m) (xs.length - m) (c - m))

theorem next_kept (w : World) (r : Nat) (a : Option Addr) (c : Nat) (xs : List UInt8) (m : Nat) : Kept [r] w (nextW w r a c xs m) := (Kept.refl _ _).setCell (p := ⟨r, 0, none⟩) (fun _ => by simp) _

/-- How long the next field is said to be. -/
def said (xs : List UInt8) : Nat := numOf (xs.take 4)
theorem said_lt (xs : List UInt8) : said xs < 4294967296 := by
  have h := numOf_lt (xs.take 4)
  have h2 : (xs.take 4).length ≤ 4 := by simp; omega
  have h3 : 256 ^ (xs.take 4).length ≤ 256 ^ 4 := Nat.pow_le_pow_right (by omega) h2
  unfold said
  omega

theorem behind_plain {a : Option Addr} {c m : Nat} (h : ∀ x, a = some x → x.spot = none) : ∀ x, behind a c m = some x → x.spot = none := by
  intro x hx
  unfold behind at hx
  split at hx
  · exact h x hx
  · cases a with
    | none => simp at hx
    | some y => simp at hx; subst hx; exact add_spot y m (h y rfl)

/-- A slice of bytes, turned into a text. -/
theorem text_of (w : World) (a : Option Addr) (c : Nat) (ys : List UInt8) (hp : ∀ x, a = some x → x.spot = none) (h : SrcB w (.slice a ys.length c) ys) :
    (convert 85 9 (.slice a ys.length c)).run Try.prog w = .ok (.string ⟨ys.toArray⟩) w := by
  rcases h with ⟨h1, h2, _⟩ | ⟨x, c', h1, hc⟩
  · simp at h1
    obtain ⟨rfl, h1, rfl⟩ := h1
    have hy : ys = [] := List.eq_nil_of_length_eq_zero h2
    subst hy
    exact run_convert_bytes_nil (P := Try.prog) w _ _ Try.underlying85 Try.underlying5 0 0 _ Try.underlying9
  · simp at h1
    obtain ⟨rfl, rfl⟩ := h1
    have hx := hp x rfl
    obtain ⟨b, off, sp⟩ := x
    simp at hx
    subst hx
    have e : strOfNums (ys.map fun y => (y.toNat : Int)) = ⟨ys.toArray⟩ := by
      unfold strOfNums
      congr 1
      rw [List.map_map]
      congr 1
      conv => rhs; rw [← List.map_id ys]
      apply List.map_congr_left
      intro y _
      simp
    have := run_convert_bytes_arg (P := Try.prog) w _ _ Try.underlying85 Try.underlying5 b off ys.length c (ys.map fun y => (y.toNat : Int)) (by simp) (fun i hi => by
      have h2 := hc i (B ys[i]) (by simp [hi])
      have ea : (⟨b, off, none⟩ : Addr).add i = ⟨b, off + i, none⟩ := by unfold Addr.add; split <;> simp_all
      rw [ea] at h2
      simpa [B, hi] using h2) _ Try.underlying9
    rw [e] at this
    exact this
end Go.Proofs.Ytkabfdclecbnpaa


/- code.Decode. -/
namespace Go.Proofs.Ytkabfdclecbnpaa
open Go.RowKit Go.Lib

/-- Bytes of which a reading is made: its error, or else ErrMore, where bytes are left. -/
def Decoded (w : World) (S : List Nat) (Q : Int → List UInt8 → World → Prop) (e : Ending) (w' : World) : Prop :=
  ∃ n rest, e = .returned (.int .i64 (if n = 0 ∧ rest ≠ [] then 22 else n)) ∧ Kept S w w' ∧ Q n rest w'

theorem row_block {W : World} {base : Nat} {a : Option Addr} {c n : Nat} {xs : List Value} (ho : W.ownsRow base 5 1 (.slice a n c) n xs) : ∀ x, a = some x → base ≤ x.block ∧ x.block < W.heap.size := by
  intro x hx
  rcases ho.2 with ⟨h1, h2⟩ | ⟨g, cap, cur, hv, hg, hh, _⟩
  · simp at h1; obtain ⟨rfl, _⟩ := h1; simp at hx
  · simp at hv; obtain ⟨rfl, rfl⟩ := hv; simp at hx; subst hx; exact ⟨hg, lt_of_block hh⟩

end Go.Proofs.Ytkabfdclecbnpaa


/- coldstoreref01.Same; bytes that lie plain; where a reader's rest begins. -/
namespace Go.Proofs.Ytkabfdclecbnpaa
open Go.RowKit Go.Lib

/-- A slice value that reads as bytes: nil or a row of plain cells. -/
def Bys (w : World) (a : Option Addr) (c : Nat) (xs : List UInt8) : Prop := SrcB w (.slice a xs.length c) xs ∧ (∀ x, a = some x → x.spot = none)
theorem Bys.kept {S : List Nat} {w w' : World} {a : Option Addr} {c : Nat} {xs : List UInt8} (h : Bys w a c xs) (hk : Kept S w w') (hS : ∀ x, a = some x → x.block ∉ S) : Bys w' a c xs :=
  ⟨h.1.kept hk (fun y hy => by
    cases a with
    | none => simp [Value.ownBlock] at hy
    | some x => simp [Value.ownBlock] at hy; exact hy ▸ hS x rfl), h.2⟩
theorem bys_of_row {W : World} {base : Nat} {a : Option Addr} {c : Nat} {xs : List UInt8} (ho : W.ownsRow base 5 1 (.slice a xs.length c) xs.length (xs.map B)) : Bys W a c xs := by
  rcases ho.2 with ⟨h1, h2⟩ | ⟨g, cap, cur, hv, hg, hh, hc, hm, hs, ht⟩
  · simp at h1
    obtain ⟨rfl, h1, rfl⟩ := h1
    exact ⟨Or.inl ⟨by simp [h2], h2, by rw [List.eq_nil_of_length_eq_zero h2]; rfl⟩, fun x hx => by simp at hx⟩
  · simp at hv
    obtain ⟨rfl, rfl⟩ := hv
    exact ⟨Or.inr ⟨_, c, rfl, ho.cells (g := g) rfl⟩, fun x hx => by simp at hx; subst hx; rfl⟩
theorem Bys.text {w : World} {a : Option Addr} {c : Nat} {xs : List UInt8} (h : Bys w a c xs) : (convert 85 9 (.slice a xs.length c)).run Try.prog w = .ok (.string ⟨xs.toArray⟩) w := text_of w a c xs h.2 h.1

theorem behind_block {a : Option Addr} {c m : Nat} : ∀ x, behind a c m = some x → ∃ y, a = some y ∧ x.block = y.block := by
  intro x hx
  unfold behind at hx
  split at hx
  · exact ⟨x, hx, rfl⟩
  · cases a with
    | none => simp at hx
    | some y => simp at hx; subst hx; exact ⟨y, rfl, add_block y m⟩
end Go.Proofs.Ytkabfdclecbnpaa


/- code.Reader.Bytes, at any bytes; guard.Run of a reading. -/
namespace Go.Proofs.Ytkabfdclecbnpaa
open Go.RowKit Go.Lib

theorem numOf_numB (N k : Nat) : numOf (numB N k) = N % 256 ^ k := by
  induction k with
  | zero => simp [numB, numOf, Nat.mod_one]
  | succ k ih =>
    rw [numB_succ, numOf_snoc, ih, numB_len, Nat.pow_succ, Nat.mod_mul]
    simp

/-- What a field that is asked for is told as. -/
def fieldErr (xs : List UInt8) (most : Int) : Int := if xs.length < 4 then 20 else if max most 0 < (said xs : Int) then 2 else if xs.length < 4 + said xs then 20 else 0

theorem Bys.take {w : World} {a : Option Addr} {c : Nat} {xs : List UInt8} (h : Bys w a c xs) {n : Nat} (hn : n ≤ xs.length) (hne : xs ≠ []) : Bys w a c (xs.take n) := by
  have hl : (xs.take n).length = n := by simp; omega
  rcases h.1 with ⟨h1, h2, _⟩ | ⟨x, c', h1, hc⟩
  · exact absurd (List.eq_nil_of_length_eq_zero h2) hne
  · simp at h1
    obtain ⟨rfl, rfl⟩ := h1
    refine ⟨Or.inr ⟨x, c, rfl, fun j u hj => ?_⟩, h.2⟩
    have hjl : j < n := by
      rcases Nat.lt_or_ge j n with h' | h'
      · exact h'
      · rw [List.getElem?_eq_none (by simp; omega)] at hj; simp at hj
    exact hc j u (by simpa [List.getElem?_take, hjl] using hj)

end Go.Proofs.Ytkabfdclecbnpaa


/- Bytes as they were handed: written, turned into a text, held against others. -/
namespace Go.Proofs.Ytkabfdclecbnpaa
open Go.RowKit Go.Lib

/-- A slice of bytes at any address, turned into a text. -/
theorem text_any (w : World) (a : Option Addr) (c : Nat) (ys : List UInt8) (h : SrcB w (.slice a ys.length c) ys) :
    (convert 85 9 (.slice a ys.length c)).run Try.prog w = .ok (.string ⟨ys.toArray⟩) w := by
  rcases h with ⟨h1, h2, _⟩ | ⟨x, c', h1, hc⟩
  · simp at h1
    obtain ⟨rfl, h1, rfl⟩ := h1
    have hy : ys = [] := List.eq_nil_of_length_eq_zero h2
    subst hy
    exact run_convert_bytes_nil (P := Try.prog) w _ _ Try.underlying85 Try.underlying5 0 0 _ Try.underlying9
  · simp at h1
    obtain ⟨rfl, rfl⟩ := h1
    have hl : (loadCells x ys.length).run Try.prog w = .ok ((ys.map fun y => (y.toNat : Int)).map (Value.int .u8)).toArray w := by
      have := run_loadCells_list (P := Try.prog) w x (ys.map B) hc
      have eB : (ys.map fun y => (y.toNat : Int)).map (Value.int .u8) = ys.map B := by rw [List.map_map]; rfl
      rw [eB]
      simpa using this
    rw [run_convert_bytes_string w _ _ _ _ ys.length c Try.underlying85 Try.underlying5 Try.underlying9, run_bytesToString w _ ys.length c _ hl, foldl_push_bytes]
    have e : (ys.map fun y => (y.toNat : Int)).map (fun n => UInt8.ofNat n.toNat) = ys := by
      rw [List.map_map]
      conv => rhs; rw [← List.map_id ys]
      apply List.map_congr_left
      intro y _
      simp
    rw [e]
    simp [ByteArray.empty, ByteArray.emptyWithCapacity]
    rfl

/-- A row of bytes that was handed. -/
theorem src_of_row {w : World} {a : Option Addr} {len cap : Nat} {zs : List Int} (h : (a = none ∧ len = 0 ∧ cap = 0 ∧ zs = []) ∨
    ∃ x, a = some x ∧ len ≤ cap ∧ cap ≤ maxLen ∧ zs.length = cap ∧ (∀ i, i < zs.length → w.cell? (x.add i) = some (.int .u8 (zs.getD i 0))) ∧ ∀ n ∈ zs, (Lit.int .u8 n).wf = true) :
    ∃ bs : List UInt8, bs.length = len ∧ SrcB w (.slice a bs.length cap) bs ∧ (a = none → cap = 0) ∧ len ≤ cap ∧ cap ≤ maxLen := by
  rcases h with ⟨rfl, rfl, rfl, rfl⟩ | ⟨x, rfl, h1, h2, h3, h4, h5⟩
  · exact ⟨[], rfl, Or.inl ⟨rfl, rfl, rfl⟩, fun _ => rfl, Nat.le_refl _, by unfold maxLen; omega⟩
  · have hl : ((zs.take len).map fun z => UInt8.ofNat z.toNat).length = len := by simp; omega
    refine ⟨(zs.take len).map fun z => UInt8.ofNat z.toNat, hl, Or.inr ⟨x, cap, rfl, fun j u hj => ?_⟩, fun h => by simp at h, h1, h2⟩
    have hjl : j < len := by
      rcases Nat.lt_or_ge j len with h' | h'
      · exact h'
      · rw [List.getElem?_eq_none (by simp; omega)] at hj; simp at hj
    have hz : j < zs.length := by omega
    simp [List.getElem?_take, hjl, hz] at hj
    subst hj
    rw [h4 j hz]
    have hw := bounds_u8 (h5 zs[j] (List.getElem_mem hz))
    simp [B, List.getD, hz]
    omega

theorem SrcB.take {w : World} {a : Option Addr} {c : Nat} {xs : List UInt8} (h : SrcB w (.slice a xs.length c) xs) {n : Nat} (hn : n ≤ xs.length) (hne : xs ≠ []) : SrcB w (.slice a (xs.take n).length c) (xs.take n) := by
  rcases h with ⟨h1, h2, _⟩ | ⟨x, c', h1, hc⟩
  · exact absurd (List.eq_nil_of_length_eq_zero h2) hne
  · simp at h1
    obtain ⟨rfl, rfl⟩ := h1
    refine Or.inr ⟨x, c, rfl, fun j u hj => ?_⟩
    have hjl : j < n := by
      rcases Nat.lt_or_ge j n with h' | h'
      · exact h'
      · rw [List.getElem?_eq_none (by simp; omega)] at hj; simp at hj
    exact hc j u (by simpa [List.getElem?_take, hjl] using hj)

theorem i64_and255 (n : Int) : bits .and .i64 n 255 = n % 256 := by
  have h7 : (BitVec.ofInt 64 255).toNat = 2 ^ 8 - 1 := by decide
  have key : (BitVec.ofInt 64 n &&& BitVec.ofInt 64 255).toNat = (n % ((2 ^ 64 : Nat) : Int)).toNat % 2 ^ 8 := by
    rw [BitVec.toNat_and, BitVec.toNat_ofInt, h7, Nat.and_two_pow_sub_one_eq_mod]
  show IntKind.i64.wrap ((BitVec.ofInt 64 n &&& BitVec.ofInt 64 255).toNat : Nat) = n % 256
  rw [key, IntKind.wrap_i64]
  omega
end Go.Proofs.Ytkabfdclecbnpaa


/- code.Reader.Text: what it reads. -/
namespace Go.Proofs.Ytkabfdclecbnpaa
open Go.RowKit Go.Lib

end Go.Proofs.Ytkabfdclecbnpaa
