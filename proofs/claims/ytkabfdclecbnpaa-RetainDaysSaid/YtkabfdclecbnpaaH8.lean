import Derived.Test.YtkabfdclecbnpaaH7
import Derived.Laws.Externs
import Derived.Lib.Bytealg
import Derived.Deep.RegionLaw
import Derived.WalkLawsBesides

/- sha.digit, sha.Text. -/
namespace Go.Proofs.Ytkabfdclecbnpaa
open Go.RowKit

/-- A number's digit; a digit's number. -/
def hexd (k : Nat) : UInt8 := if k < 10 then UInt8.ofNat (48 + k) else UInt8.ofNat (87 + k)
def dig (c : UInt8) : Int := if 48 ≤ c.toNat ∧ c.toNat ≤ 57 then (c.toNat : Int) - 48 else if 97 ≤ c.toNat ∧ c.toNat ≤ 102 then (c.toNat : Int) - 87 else -1
theorem dig_hexd (k : Nat) (h : k < 16) : dig (hexd k) = (k : Int) := by
  have : ∀ k : Fin 16, dig (hexd k.val) = (k.val : Int) := by decide
  exact this ⟨k, h⟩
theorem hexd_dig (c : UInt8) (h : 0 ≤ dig c) : hexd (dig c).toNat = c := by
  have : ∀ c : Fin 256, 0 ≤ dig (UInt8.ofNat c.val) → hexd (dig (UInt8.ofNat c.val)).toNat = UInt8.ofNat c.val := by decide +kernel
  have h2 := this ⟨c.toNat, c.toNat_lt⟩
  simp only [UInt8.ofNat_toNat] at h2
  exact h2 h
theorem dig_lt (c : UInt8) : dig c < 16 := by unfold dig; split <;> (try split) <;> omega

theorem call_compare (args : Array Value) (w : World) : (callFunc 66 args).run Try.prog w = ((Extern.BytealgCompare.compare args).run Try.prog w).andThen fun v w' => .ok (.value v) w' :=
  run_callFunc_extern Try.func66 (by kernel_rfl) (by kernel_rfl) (by kernel_rfl) (by kernel_rfl) args w

theorem run_loadBytes {P : Program} (w : World) : ∀ (ys : List UInt8) (ad : Addr) (acc : ByteArray), (∀ (j : Nat) u, (ys.map B)[j]? = some u → w.cell? (ad.add j) = some u) →
    (Extern.Bytes.loadBytes ad ys.length acc).run P w = .ok ⟨(acc.data.toList ++ ys).toArray⟩ w
  | [], ad, acc, _ => by
    show Result.ok acc w = _
    simp
  | y :: ys, ad, acc, h => by
    have h0 : w.cell? ad = some (.int .u8 (y.toNat : Int)) := by
      have := h 0 (B y) rfl
      rwa [show ad.add 0 = ad by unfold Addr.add; simp] at this
    have hl : (load ad).run P w = .ok (.int .u8 (y.toNat : Int)) w := by rw [run_load, h0]
    have ih := run_loadBytes (P := P) w ys (ad.add 1) (acc.push y) (fun j u hj => by rw [sha_add_add, Nat.add_comm]; exact h (j + 1) u hj)
    show (Extern.Bytes.loadBytes ad (ys.length + 1) acc).run P w = _
    unfold Extern.Bytes.loadBytes
    rw [Sem.run_bind, hl]
    simp only [Result.andThen_ok]
    have e : ((y.toNat : Int).toNat).toUInt8 = y := by simp
    rw [e, ih]
    congr 2
    simp

def lessL : List UInt8 → List UInt8 → Bool
  | [], [] => false
  | [], _ :: _ => true
  | _ :: _, [] => false
  | a :: x, b :: y => if a < b then true else if b < a then false else lessL x y
theorem lessL_cmp : ∀ (a b : List UInt8), (Lib.compareBytes a b < 0) = (lessL a b = true)
  | [], [] => by simp [Lib.compareBytes, lessL]
  | [], _ :: _ => by simp [Lib.compareBytes, lessL]
  | _ :: _, [] => by simp [Lib.compareBytes, lessL]
  | a :: x, b :: y => by
    unfold Lib.compareBytes lessL
    by_cases h1 : a < b
    · simp [h1]
    · by_cases h2 : b < a
      · simp [h1, h2]
      · simp only [h1, h2, if_false]
        exact lessL_cmp x y

theorem run_compare_slices {P : Program} (w : World) (ad bd : Addr) (c d : Nat) (xs ys : List UInt8) (hx : ∀ (j : Nat) u, (xs.map B)[j]? = some u → w.cell? (ad.add j) = some u) (hy : ∀ (j : Nat) u, (ys.map B)[j]? = some u → w.cell? (bd.add j) = some u) :
    (Extern.BytealgCompare.compare #[.slice (some ad) xs.length c, .slice (some bd) ys.length d]).run P w = .ok (.int .i64 (Lib.compareBytes xs ys)) w := by
  change Sem.run P (do pure (goInt (Extern.BytealgCompare.cmp (← Extern.Bytes.loadBytes ad xs.length .empty) (← Extern.Bytes.loadBytes bd ys.length .empty)))) w = _
  rw [Sem.run_bind, run_loadBytes w xs ad _ hx]
  simp only [Result.andThen_ok]
  rw [Sem.run_bind, run_loadBytes w ys bd _ hy]
  simp only [Result.andThen_ok]
  rw [Lib.cmp_eq]
  rfl

theorem compare_any (ad bd : Addr) (c d : Nat) (xs ys : List UInt8) (w : World) (hx : ∀ (j : Nat) u, (xs.map B)[j]? = some u → w.cell? (ad.add j) = some u) (hy : ∀ (j : Nat) u, (ys.map B)[j]? = some u → w.cell? (bd.add j) = some u) :
    Calls Try.prog 49 #[.slice (some ad) xs.length c, .slice (some bd) ys.length d] w fun e w' => e = .returned (.int .i64 (Lib.compareBytes xs ys)) ∧ w' = w := by
  have hcf : (callFunc 66 #[.slice (some ad) xs.length c, .slice (some bd) ys.length d]).run Try.prog w = .ok (.value (.int .i64 (Lib.compareBytes xs ys))) w := by
    rw [call_compare, run_compare_slices w ad bd c d xs ys hx hy]; rfl
  clear hx hy
  go_enter Try.func49, Try.ntmps49
  go_wp2
  go_ret
  exact ⟨rfl, rfl⟩

theorem slice_id (g : Nat) (W : World) : (Instr.sliceAt 40 (.pointer (some ⟨g, 0, none⟩)) none none none).run Try.prog W = .ok (.slice (some ⟨g, 0, none⟩) 32 32) W := by
  have hal : Try.prog.arrayLen 40 = 32 := by simp [Program.arrayLen, Try.underlying40]
  rw [run_sliceAt_array_all W 40 ⟨g, 0, none⟩ (by simp [Program.arrayLen, Program.elem, Try.underlying40])]
  rw [hal]
  go_simp

/-- A sum's digits. -/
def hexOf (l : List UInt8) : List UInt8 := l.flatMap fun b => [hexd (b.toNat / 16), hexd (b.toNat % 16)]
theorem hexOf_len (l : List UInt8) : (hexOf l).length = 2 * l.length := by
  induction l with
  | nil => rfl
  | cons b l ih => simp [hexOf] at ih ⊢; omega
/-- An append of whatever slice, as one step of a region that draws its order. -/
theorem step_append_src {P : Program} {w : World} {ops : Array Oper} {o : Oper} {a : Act} {K : Act → World → Prop} {Q : Exit → Act → World → Prop} {E : Prop} (hgd : o.guard = none) (s x : Operand) (t : TypeId)
    (ho : o.op = .call { callee := .builtin .append, args := #[s, x], argTypes := #[t, t] }) (base : Nat) (e : TypeId) (i : TypeInfo) (z : Value) (bytes : Nat) (ht : P.underlying t = some (.slice e)) (hi : P.info? e = some i) (hz : i.zero = some z)
    (hsize : i.size = 1) (hby : i.bytes = bytes) (hzs : z.cells.size = 1) (v : Value) (n : Nat) (xs : List Value) (hs : a.eval s = v) (hown : w.ownsRow base e 1 v n xs)
    (sv : Value) (m : Nat) (news : List Value) (hx : a.eval x = sv) (hsrc : Src w sv m news) (hl : news.length = m) (h1 : ∀ u ∈ news, u.oneCell' = true)
    (h63 : n + m ≤ maxLen) (hbytes : (n + m) * bytes ≤ 140737488355328) (hbase : base ≤ w.heap.size)
    (h : ∀ b c w', w'.ownsRow base e 1 (.slice b (n + m) c) (n + m) (xs ++ news) → w.grownBy w' v.ownBlock → (∀ g, (Value.slice b (n + m) c).ownBlock = some g → v.ownBlock = some g ∨ w.heap.size ≤ g) → K (a.put o.dst (.slice b (n + m) c)) w') :
    if Region.wanted o (yielded ops a.tmps) = true then Oper.wp P o a w K Q else E := by
  have hw : Region.wanted o (yielded ops a.tmps) = true := by simp [Region.wanted, hgd]
  rw [if_pos hw]
  obtain ⟨v', w', hr, h2, h3, h4, h5⟩ := run_append_src (P := P) w t o.type base e i z bytes ht hi hz hsize hby hzs v n xs hown sv m news hsrc hl h1 h63 hbytes hbase
  obtain ⟨b, c, rfl⟩ : ∃ b c, v' = .slice b (n + m) c := by
    rcases h2.2 with ⟨rfl, h0⟩ | ⟨g, cap, _, rfl, _⟩
    · exact ⟨none, 0, by rw [h0]⟩
    · exact ⟨_, cap, rfl⟩
  unfold Oper.wp execOp
  simp only [ho, resolve, invoke, builtin, Sem.run_bind, Sem.run_pure, Result.andThen_ok, List.map_toArray, List.map_cons, List.map_nil, hs, hx, hr]
  exact h b c w' h2 h3 h5

theorem hexOf_snoc (l : List UInt8) (b : UInt8) : hexOf (l ++ [b]) = hexOf l ++ [hexd (b.toNat / 16), hexd (b.toNat % 16)] := by simp [hexOf]

theorem hex_index (k : Nat) (hk : k < 16) (W : World) : (Instr.index 9 (.string ⟨#[48, 49, 50, 51, 52, 53, 54, 55, 56, 57, 97, 98, 99, 100, 101, 102]⟩) (.int .u8 (k : Int))).run Try.prog W = .ok (.int .u8 ((hexd k).toNat : Int)) W := by
  have : ∀ k : Fin 16, (⟨#[48, 49, 50, 51, 52, 53, 54, 55, 56, 57, 97, 98, 99, 100, 101, 102]⟩ : ByteArray)[k.val]? = some (hexd k.val) := by decide
  have h := this ⟨k, hk⟩
  simp only at h
  have h0 : (0 : Int) ≤ (k : Int) := by omega
  simp [Instr.index, asIntOf, run_underlying Try.underlying9, Sem.run_bind, h]

theorem id_index (l : List UInt8) (_ : l.length = 32) (i : Nat) (hi : i < 32) (b : UInt8) (hb : l[i]? = some b) (W : World) : (Instr.index 40 (.agg (l.map B).toArray) (.int .i64 (i : Int))).run Try.prog W = .ok (.int .u8 (b.toNat : Int)) W := by
  have h : (l.map B).toArray[i]? = some (.int .u8 (b.toNat : Int)) := by simp [hb, B]
  have hs : (sizeOf 5).run Try.prog W = .ok 1 W := by kernel_rfl
  have hp : (part 5 (l.map B).toArray i).run Try.prog W = .ok (.int .u8 (b.toNat : Int)) W := by
    simp only [part, isAgg, Sem.run_bind, run_underlying Try.underlying5, Result.andThen_ok, Sem.run_pure, h]
    rfl
  simp only [Instr.index, asIntOf, run_underlying Try.underlying40, Sem.run_bind, Sem.run_pure, Result.andThen_ok]
  simp [hs, hp, Sem.run_bind]
  intro h8
  omega

end Go.Proofs.Ytkabfdclecbnpaa
