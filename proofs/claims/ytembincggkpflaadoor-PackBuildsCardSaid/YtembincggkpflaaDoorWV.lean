import Derived.Test.YtembincggkpflaaDoorMC

/- code.Writer made by the call itself: what each call writes, all else as it was. -/
namespace Go.Proofs.YtembincggkpflaaDoor
open Go.RowKit Go.Lib

theorem owns_lower {w : World} {base b : Nat} {e : TypeId} {size : Nat} {v : Value} {n : Nat} {xs : List Value} (h : w.ownsRow base e size v n xs) (hb : b ≤ base) : w.ownsRow b e size v n xs := by
  obtain ⟨h1, h2⟩ := h
  refine ⟨h1, ?_⟩
  rcases h2 with h2 | ⟨g, cap, cur, hv, hg, r⟩
  · exact Or.inl h2
  · exact Or.inr ⟨g, cap, cur, hv, Nat.le_trans hb hg, r⟩

/-- A writer in block p that was made behind the world w0 holds xs; all that w0 had is as it was. -/
def Wv (w0 : World) (p : Nat) (xs : List UInt8) (W : World) : Prop :=
  w0.heap.size ≤ p ∧ Kept [] w0 W ∧ ∃ v, Wr W p v xs ∧ ∀ g, v.ownBlock = some g → w0.heap.size ≤ g
theorem Wv.new (w0 : World) : Wv w0 w0.heap.size [] (w0.alloc (.cells #[.slice none 0 0] 64)) :=
  ⟨Nat.le_refl _, (Kept.refl [] w0).alloc _, _, Wr.fresh w0, fun g hg => by simp [Value.ownBlock] at hg⟩
theorem Wv.kept {w0 : World} {p : Nat} {xs : List UInt8} {W : World} (h : Wv w0 p xs W) : Kept [] w0 W := h.2.1
theorem Wv.wrote {w0 W w' : World} {p : Nat} {v : Value} {ys : List UInt8} (hp : w0.heap.size ≤ p) (hk : Kept [] w0 W) (hv : ∀ g, v.ownBlock = some g → w0.heap.size ≤ g) (h : Wrote p v W ys w') : Wv w0 p ys w' := by
  obtain ⟨v', k', h', f'⟩ := h
  refine ⟨hp, hk.trans' k' (fun x hx hm => ?_), v', h', fun g hg => ?_⟩
  · simp at hm
    rcases hm with rfl | hm
    · omega
    · have := hv x hm; omega
  · rcases f' g hg with h | h
    · exact hv g h
    · exact Nat.le_trans hk.size h
/-- What came behind by growth alone. -/
theorem Wv.later {w0 W W' : World} {p : Nat} {xs : List UInt8} (h : Wv w0 p xs W) (hk : Kept [] W W') : Wv w0 p xs W' := by
  obtain ⟨hp, hk0, v, hw, hv⟩ := h
  exact ⟨hp, hk0.trans hk, v, hw.kept hk (by simp) (by simp), hv⟩
theorem Wv.num {w0 W : World} {p : Nat} {xs : List UInt8} (h : Wv w0 p xs W) (N : Nat) (hN : N < 18446744073709551616) (size : Int) (hlen : xs.length ≤ 1000000000) :
    Calls Tryd.prog 28 #[.pointer (some ⟨p, 0, none⟩), .int .u64 N, .int .i64 size] W fun e w' => e = .returned (.tuple #[]) ∧ Wv w0 p (xs ++ numB N (sz size)) w' := by
  obtain ⟨hp, hk, v, hw, hv⟩ := h
  exact (wnum p N size hN v xs W hw hlen).mono fun e w' h => ⟨h.1, Wv.wrote hp hk hv h.2⟩
theorem Wv.raw {w0 W : World} {p : Nat} {xs : List UInt8} (h : Wv w0 p xs W) (sv : Value) (ys : List UInt8) (hsrc : SrcB W sv ys) (hlen : xs.length ≤ 1000000000) (hs : ys.length ≤ 1000000000) :
    Calls Tryd.prog 27 #[.pointer (some ⟨p, 0, none⟩), sv] W fun e w' => e = .returned (.tuple #[]) ∧ Wv w0 p (xs ++ ys) w' := by
  obtain ⟨hp, hk, v, hw, hv⟩ := h
  exact (wraw p v sv xs ys W hw hsrc hlen hs).mono fun e w' h => ⟨h.1, Wv.wrote hp hk hv h.2⟩
theorem Wv.done {w0 W : World} {p : Nat} {xs : List UInt8} (h : Wv w0 p xs W) (hlen : xs.length ≤ 1000000000) :
    Calls Tryd.prog 29 #[.pointer (some ⟨p, 0, none⟩)] W fun e w' => ∃ a c, e = .returned (.slice a xs.length c) ∧ Kept [] w0 w' ∧ w'.ownsRow w0.heap.size 5 1 (.slice a xs.length c) xs.length (xs.map B) := by
  obtain ⟨hp, hk, v, hw, hv⟩ := h
  refine (wdone p v xs W hw hlen).mono ?_
  rintro e w' ⟨a, c, rfl, k, ho⟩
  exact ⟨a, c, rfl, hk.trans k, owns_lower ho hk.size⟩
end Go.Proofs.YtembincggkpflaaDoor
