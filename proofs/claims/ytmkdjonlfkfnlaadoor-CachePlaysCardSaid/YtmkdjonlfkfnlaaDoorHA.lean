import Derived.Test.YtmkdjonlfkfnlaaDoorMI

/- sha.Parse. -/
namespace Go.Proofs.YtmkdjonlfkfnlaaDoor
open Go.RowKit

def okHex (bs : List UInt8) : Bool := bs.length == 64 && bs.all fun c => decide (0 ≤ dig c)
/-- The first i bytes that digits tell. -/
def unhex (bs : List UInt8) (i : Nat) : List UInt8 := (List.range i).map fun j => UInt8.ofNat (dig (bs.getD (2 * j) 0) * 16 + dig (bs.getD (2 * j + 1) 0)).toNat
def parsedL (bs : List UInt8) : List UInt8 := if okHex bs = true then unhex bs 32 else List.replicate 32 0
def parsedE (bs : List UInt8) : Int := if okHex bs = true then 0 else 21
theorem unhex_len (bs : List UInt8) (i : Nat) : (unhex bs i).length = i := by simp [unhex]
theorem unhex_succ (bs : List UInt8) (i : Nat) : unhex bs (i + 1) = unhex bs i ++ [UInt8.ofNat (dig (bs.getD (2 * i) 0) * 16 + dig (bs.getD (2 * i + 1) 0)).toNat] := by simp [unhex, List.range_succ]
/-- The first i bytes, and noughts. -/
def uL (bs : List UInt8) (i : Nat) : List UInt8 := unhex bs i ++ List.replicate (32 - i) 0
theorem uL_len (bs : List UInt8) (i : Nat) (h : i ≤ 32) : (uL bs i).length = 32 := by simp [uL, unhex_len]; omega
theorem uL_set (bs : List UInt8) (i : Nat) (h : i < 32) : (uL bs i).set i (UInt8.ofNat (dig (bs.getD (2 * i) 0) * 16 + dig (bs.getD (2 * i + 1) 0)).toNat) = uL bs (i + 1) := by
  unfold uL
  obtain ⟨m, hm⟩ : ∃ m, 32 - i = m + 1 := ⟨32 - i - 1, by omega⟩
  rw [hm, show 32 - (i + 1) = m by omega, List.set_append_right _ _ (by simp [unhex_len]), unhex_succ, List.replicate_succ, unhex_len, Nat.sub_self, List.set_cons_zero, List.append_assoc]
  rfl

theorem sha_str_index (bs : List UInt8) (i : Nat) (hi : i < bs.length) (W : World) : (Instr.index 9 (.string ⟨bs.toArray⟩) (.int .i64 (i : Int))).run Tryd.prog W = .ok (.int .u8 ((bs.getD i 0).toNat : Int)) W := by
  have h : (⟨bs.toArray⟩ : ByteArray)[i]? = some (bs.getD i 0) := by
    rw [getElem?_pos (⟨bs.toArray⟩ : ByteArray) i (by show i < bs.toArray.size; simpa using hi)]
    simp [hi]
    rfl
  simp [Instr.index, asIntOf, run_underlying Tryd.underlying9, Sem.run_bind, h]

theorem or4_i64 (h l : Int) (h0 : 0 ≤ h) (h1 : h < 16) (l0 : 0 ≤ l) (l1 : l < 16) : bits .or .i64 (h * 16) l = h * 16 + l := by
  refine bits_join .i64 63 (by decide) (fun n h0 h1 => ?_) 4 (h * 16) l (by omega) (by omega) (by omega) l0 (by omega) (by omega)
  rw [IntKind.wrap_i64]
  omega

def PaRel (w : World) (bs : List UInt8) (i : Nat) (wr : World) : Prop :=
  Kept [] w wr ∧ wr.heap[w.heap.size]? = some (.cells ((List.replicate 32 (0 : UInt8)).map B).toArray 34 (0, 0)) ∧ wr.heap[w.heap.size + 1]? = some (.cells ((uL bs i).map B).toArray 34 (0, 0))
theorem PaRel.drew {w wr : World} {bs : List UInt8} {i : Nat} (h : PaRel w bs i wr) : PaRel w bs i wr.drew := ⟨h.1.drew, h.2⟩
theorem PaRel.step {w wr : World} {bs : List UInt8} {i : Nat} (h : PaRel w bs i wr) (hi : i < 32) : PaRel w bs (i + 1) (wr.setCell ⟨w.heap.size + 1, i, none⟩ (B (UInt8.ofNat (dig (bs.getD (2 * i) 0) * 16 + dig (bs.getD (2 * i + 1) 0)).toNat))) := by
  obtain ⟨h1, h2, h3⟩ := h
  refine ⟨h1.setCell (fun e => absurd e (by simp)) _, heap_setCell_other h2 (by simp), ?_⟩
  rw [Go.heap_setCell_same wr _ _ _ _ _ h3, ← uL_set bs i hi]
  simp

theorem okHex_no (bs : List UInt8) (i : Nat) (hi : i < bs.length) (h : dig (bs.getD i 0) < 0) : okHex bs = false := by
  unfold okHex
  rw [Bool.and_eq_false_iff]
  right
  rw [List.all_eq_false]
  exact ⟨bs.getD i 0, by simp [hi], by simp; simpa [hi] using h⟩

theorem info_id : (Tryd.prog.info? 34).map (·.size) = some 32 := by kernel_rfl
theorem results_id_slot {fn : Func} {p q : Tmp} (h : fn.results = #[.cell p 34, .tmp q]) (tmps : Array Value) (w : World) (g : Nat) (t : TypeId) (cs : Array Value) (fr : Nat × Nat)
    (hp : tmps.getD p undef = .pointer (some ⟨g, 0, none⟩)) (hg : w.heap[g]? = some (.cells cs t fr)) (hi : cs.size = 32) :
    (results fn tmps).run Tryd.prog w = .ok (.tuple #[.agg cs, tmps.getD q undef]) w := by
  have hp' : tmps[p]?.getD undef = .pointer (some ⟨g, 0, none⟩) := by simpa using hp
  have hl := run_loadVar_row (P := Tryd.prog) w g t 34 cs fr _ hg Tryd.underlying34 rfl (by rw [hi]; exact info_id)
  simp [results, h, hp', asAddr, hl]

end Go.Proofs.YtmkdjonlfkfnlaaDoor
