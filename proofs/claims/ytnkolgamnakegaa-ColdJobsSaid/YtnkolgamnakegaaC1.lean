
/- code.Writer: what each call writes. -/
import Derived.Test.YtnkolgamnakegaaC0
import Derived.Test.YtnkolgamnakegaaG1
namespace Go.Proofs.Ytnkolgamnakegaa
open Go.RowKit Go.Lib

theorem info_u8 : (Try.prog.info? 5).map (fun i => (i.zero, i.size, i.bytes)) = some (some (.int .u8 0), 1, 1) := by kernel_rfl

/-- The lowest k bytes of a number, the lowest first. -/
def numB (N k : Nat) : List UInt8 := (List.range k).map fun j => UInt8.ofNat (N / 256 ^ j)
theorem numB_len (N k : Nat) : (numB N k).length = k := by simp [numB]
theorem numB_succ (N k : Nat) : numB N (k + 1) = numB N k ++ [UInt8.ofNat (N / 256 ^ k)] := by simp [numB, List.range_succ]

/-- How many bytes a number has that is asked to have so many. -/
def sz (size : Int) : Nat := if size < 1 then 1 else if 8 < size then 8 else size.toNat
theorem sz4 : sz 4 = 4 := by decide
theorem sz_le (size : Int) : 1 ≤ sz size ∧ sz size ≤ 8 := by unfold sz; split <;> (try split) <;> omega

theorem owns_slice {w : World} {base : Nat} {e : TypeId} {size : Nat} {v : Value} {n : Nat} {xs : List Value} (h : w.ownsRow base e size v n xs) : ∃ a c, v = .slice a n c := by
  rcases h.2 with ⟨rfl, rfl⟩ | ⟨g, cap, _, rfl, _⟩
  · exact ⟨none, 0, rfl⟩
  · exact ⟨_, cap, rfl⟩

theorem B_ofNat (M : Nat) : B (UInt8.ofNat M) = .int .u8 ((M : Int) % 256) := by unfold B; simp
theorem strCells_B (s : ByteArray) : strCells s = s.data.toList.map B := rfl
theorem B_oneCell (l : List UInt8) : ∀ u ∈ l.map B, u.oneCell' = true := by
  intro u hu
  simp at hu
  obtain ⟨b, _, rfl⟩ := hu
  simp [B, Value.oneCell']

/-- What is appended to a writer's bytes is bytes. -/
def SrcB (w : World) (sv : Value) (ys : List UInt8) : Prop := Src w sv ys.length (ys.map B)
theorem SrcB.kept {S : List Nat} {w w' : World} {sv : Value} {ys : List UInt8} (h : SrcB w sv ys) (hk : Kept S w w') (hS : ∀ x, sv.ownBlock = some x → x ∉ S) : SrcB w' sv ys := by
  rcases h with h | ⟨ad, c, rfl, h⟩
  · exact Or.inl h
  · refine Or.inr ⟨ad, c, rfl, fun j u hj => ?_⟩
    have hc := h j u hj
    have hl := World.block_lt_of_cell? w _ hc
    exact (hk.cell hl (by rw [add_block]; exact hS _ rfl)).trans hc
theorem SrcB.size {w : World} {sv : Value} {ys : List UInt8} (h : SrcB w sv ys) : ∃ a c, sv = .slice a ys.length c := by
  rcases h with ⟨rfl, h, _⟩ | ⟨ad, c, rfl, _⟩
  · exact ⟨none, 0, by rw [h]⟩
  · exact ⟨_, c, rfl⟩

end Go.Proofs.Ytnkolgamnakegaa
