/- ChunkPlain. -/
import Derived.Test.YtllcfffpagogbaaDoorQ8
namespace Go.Proofs.YtllcfffpagogbaaDoor
open Go.RowKit Go.Lib

theorem ends_plain {P : Chunk.Par} (h : P.bits = 0) (hm : P.min ≤ P.max) (n : Nat) (s : Roll.W) : Chunk.ends P n s = decide (P.min ≤ n) := by
  unfold Chunk.ends
  rw [h, decide_eq_true (Nat.zero_le _), Bool.and_true]
  by_cases e : P.min ≤ n
  · simp [e]
  · have : ¬ P.max ≤ n := by omega
    simp [e, this]
theorem spl_step {P : Chunk.Par} (hE : ∀ n s, Chunk.ends P n s = decide (P.min ≤ n)) (h1 : 1 ≤ P.min) (T : UInt8 → Roll.W) (ys : List UInt8) (hy : ys ≠ []) : spl P T ys = ys.take P.min :: spl P T (ys.drop P.min) := by
  unfold spl
  rw [Chunk.split_cons ys hy, Chunk.first_even P.min h1 hE]
  rcases Nat.le_total P.min ys.length with h2 | h2
  · rw [Nat.min_eq_left h2]
  · rw [Nat.min_eq_right h2, List.take_length, List.drop_length, List.take_of_length_le h2, List.drop_eq_nil_of_le h2]
theorem spl_lens {P : Chunk.Par} (hE : ∀ n s, Chunk.ends P n s = decide (P.min ≤ n)) (h1 : 1 ≤ P.min) (T : UInt8 → Roll.W) : ∀ (f : Nat) (ys : List UInt8), ys.length ≤ f → ∀ i x, (spl P T ys)[i]? = some x → (i + 1 < (spl P T ys).length → x.length = P.min) ∧ x.length = min P.min (ys.length - i * P.min)
  | _, [], _ => fun i x hx => by simp [spl_nil] at hx
  | 0, _ :: _, h => by simp at h
  | f + 1, y :: ys, h => by
    intro i x hx
    obtain ⟨c, hc⟩ : ∃ c, c = y :: ys := ⟨_, rfl⟩
    have hcn : c ≠ [] := by rw [hc]; simp
    rw [← hc] at hx h ⊢
    rw [spl_step hE h1 T c hcn] at hx ⊢
    cases i with
    | zero =>
      simp at hx
      subst hx
      refine ⟨fun hl => ?_, by rw [List.length_take]; simp⟩
      rw [List.length_take]
      simp only [List.length_cons] at hl
      by_cases e : c.drop P.min = []
      · rw [e, spl_nil] at hl; simp at hl
      · have := List.length_pos_iff.2 e
        rw [List.length_drop] at this
        omega
    | succ i =>
      simp only [List.getElem?_cons_succ] at hx
      obtain ⟨h2, h3⟩ := spl_lens hE h1 T f (c.drop P.min) (by rw [List.length_drop]; omega) i x hx
      refine ⟨fun hl => h2 (by simpa using hl), ?_⟩
      rw [h3, List.length_drop, Nat.succ_mul]
      congr 1; omega
theorem spl_count {P : Chunk.Par} (hE : ∀ n s, Chunk.ends P n s = decide (P.min ≤ n)) (h1 : 1 ≤ P.min) (T : UInt8 → Roll.W) : ∀ (f : Nat) (ys : List UInt8), ys.length ≤ f → (spl P T ys).length = (ys.length + P.min - 1) / P.min
  | _, [], _ => by rw [spl_nil]; simp; symm; exact Nat.div_eq_of_lt (by omega)
  | 0, _ :: _, h => by simp at h
  | f + 1, y :: ys, h => by
    obtain ⟨c, hc⟩ : ∃ c, c = y :: ys := ⟨_, rfl⟩
    have hcn : c ≠ [] := by rw [hc]; simp
    have hcp := List.length_pos_iff.2 hcn
    rw [← hc] at h ⊢
    rw [spl_step hE h1 T c hcn, List.length_cons, spl_count hE h1 T f (c.drop P.min) (by rw [List.length_drop]; omega), List.length_drop]
    rcases Nat.le_total c.length P.min with h2 | h2
    · rw [show c.length - P.min + P.min - 1 = P.min - 1 by omega, Nat.div_eq_of_lt (by omega), show c.length + P.min - 1 = (c.length - 1) + P.min by omega, Nat.add_div_right _ (by omega), Nat.div_eq_of_lt (by omega)]
    · rw [show c.length - P.min + P.min - 1 = c.length - 1 by omega, show c.length + P.min - 1 = (c.length - 1) + P.min by omega, Nat.add_div_right _ (by omega)]

theorem Sl.kept0 {S : List Nat} {w w' : World} {a : Option Addr} {c : Nat} {ys : List UInt8} (h : Sl w a c ys) (hk : Kept S w w') (hS : ∀ k ∈ S, ys ≠ [] → ∀ x, a = some x → x.block ≠ k) : Sl w' a c ys :=
  ⟨h.reads.kept hk (fun hn x hx hm => hS _ hm hn x hx rfl), h.le, h.max, h.nil⟩
/-- A box of Params. -/
def ParAt (W : World) (b : Nat) (a c d e s : Int) : Prop := W.heap[b]? = some (.cells #[.int .i64 a, .int .i64 c, .int .i64 d, .int .i64 e, .int .u64 s] 24 (0, 0))
theorem ParAt.cells {W : World} {b : Nat} {a c d e s : Int} (h : ParAt W b a c d e s) : W.cell? ⟨b, 0, none⟩ = some (.int .i64 a) ∧ W.cell? ⟨b, 1, none⟩ = some (.int .i64 c) ∧ W.cell? ⟨b, 2, none⟩ = some (.int .i64 d) ∧ W.cell? ⟨b, 3, none⟩ = some (.int .i64 e) ∧ W.cell? ⟨b, 4, none⟩ = some (.int .u64 s) ∧
    W.frozen? ⟨b, 0, none⟩ = false ∧ W.frozen? ⟨b, 1, none⟩ = false ∧ W.frozen? ⟨b, 2, none⟩ = false :=
  ⟨cell_of_row W b 0 _ _ _ h, cell_of_row W b 1 _ _ _ h, cell_of_row W b 2 _ _ _ h, cell_of_row W b 3 _ _ _ h, cell_of_row W b 4 _ _ _ h, frozen_of_row W b 0 _ _ h, frozen_of_row W b 1 _ _ h, frozen_of_row W b 2 _ _ h⟩
/-- What New tells of any numbers. -/
theorem new_any (a b d e s : Int) (hs0 : 0 ≤ s) (hs1 : s < 18446744073709551616) : (∃ P : Chunk.Par, ParOk P ∧ a = P.min ∧ b = P.max ∧ d = P.bits ∧ e = P.width) ∨
    ∀ w, Calls Tryd.prog 10 #[parV a b d e s] w fun r w' => r = .returned (.tuple #[.pointer none, .int .i64 1]) ∧ Kept [] w w' := by
  by_cases h : a < 1 ∨ b < a ∨ 65536 < b ∨ d < 0 ∨ 20 < d
  · exact .inr fun w => new_bad a b d e s h w
  by_cases he : e < 1 ∨ 64 < e
  · exact .inr fun w => new_width a b d e s (by omega) (by omega) (by omega) (by omega) (by omega) he hs0 hs1 w
  exact .inl ⟨⟨a.toNat, b.toNat, d.toNat, e.toNat⟩, ⟨by show 1 ≤ a.toNat; omega, by show a.toNat ≤ b.toNat; omega, by show b.toNat ≤ 65536; omega, by show d.toNat ≤ 20; omega, by show 1 ≤ e.toNat; omega, by show e.toNat ≤ 64; omega⟩, by show a = (a.toNat : Int); omega, by show b = (b.toNat : Int); omega, by show d = (d.toNat : Int); omega, by show e = (e.toNat : Int); omega⟩
end Go.Proofs.YtllcfffpagogbaaDoor
