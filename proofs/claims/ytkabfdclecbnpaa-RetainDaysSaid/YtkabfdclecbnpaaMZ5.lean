import Derived.Test.YtkabfdclecbnpaaZ4

/- The stable sort of snapshots, whatever their number. -/
namespace Go.Proofs.Ytkabfdclecbnpaa
open Go.RowKit Go.Lib Go.Sort Go.Shelf

/-- [lo, hi) lies in sorted runs of B, the last one maybe shorter. -/
inductive Runs (lt : Sq → Sq → Bool) (d : Array Sq) (B : Nat) : Nat → Nat → Prop
  | last (lo hi : Nat) : lo ≤ hi → hi ≤ lo + B → SortedIn lt lo hi d → Runs lt d B lo hi
  | step (lo hi : Nat) : lo + B ≤ hi → SortedIn lt lo (lo + B) d → Runs lt d B (lo + B) hi → Runs lt d B lo hi
/-- [0, a) lies in sorted runs of B. -/
inductive Full (lt : Sq → Sq → Bool) (d : Array Sq) (B : Nat) : Nat → Prop
  | zero : Full lt d B 0
  | step (a : Nat) : Full lt d B a → SortedIn lt a (a + B) d → Full lt d B (a + B)
theorem Full.runs {lt : Sq → Sq → Bool} {d : Array Sq} {B a hi : Nat} (h : Full lt d B a) : Runs lt d B a hi → a ≤ hi → Runs lt d B 0 hi := by
  induction h with
  | zero => exact fun h _ => h
  | step a _ hs ih => exact fun h hh => ih (.step _ _ hh hs h) (by omega)
theorem Full.same {lt : Sq → Sq → Bool} {d d' : Array Sq} {B a : Nat} (h : Full lt d B a) : (∀ x, x < a → d'[x]! = d[x]!) → Full lt d' B a := by
  induction h with
  | zero => exact fun _ => .zero
  | step a _ hs ih => exact fun h => .step a (ih (fun x hx => h x (by omega))) (fun i j hi hij hj => by rw [h i (by omega), h j hj]; exact hs i j hi hij hj)
theorem Runs.same {lt : Sq → Sq → Bool} {d d' : Array Sq} {B lo hi : Nat} (h : Runs lt d B lo hi) : (∀ x, lo ≤ x → d'[x]! = d[x]!) → Runs lt d' B lo hi := by
  induction h with
  | last lo hi h1 h2 hs => exact fun h => .last _ _ h1 h2 (fun i j hi hij hj => by rw [h i hi, h j (by omega)]; exact hs i j hi hij hj)
  | step lo hi h1 hs _ ih => exact fun h => .step _ _ h1 (fun i j hi hij hj => by rw [h i hi, h j (by omega)]; exact hs i j hi hij hj) (ih (fun x hx => h x (by omega)))
theorem Runs.two {lt : Sq → Sq → Bool} {d : Array Sq} {B lo hi : Nat} (h : Runs lt d B lo hi) (hB : 0 < B) (h2 : lo + 2 * B ≤ hi) : SortedIn lt lo (lo + B) d ∧ SortedIn lt (lo + B) (lo + 2 * B) d ∧ Runs lt d B (lo + 2 * B) hi := by
  cases h with
  | last _ _ h1 h3 hs => omega
  | step _ _ h1 hs hr =>
    refine ⟨hs, ?_⟩
    cases hr with
    | last _ _ h4 h5 hs2 =>
      have e : hi = lo + 2 * B := by omega
      subst e
      exact ⟨hs2, .last _ _ (Nat.le_refl _) (by omega) (fun i j hi hij hj => by omega)⟩
    | step _ _ h4 hs2 hr2 =>
      rw [show lo + B + B = lo + 2 * B by omega] at hs2 hr2
      exact ⟨hs2, hr2⟩
theorem Runs.rest {lt : Sq → Sq → Bool} {d : Array Sq} {B lo hi : Nat} (h : Runs lt d B lo hi) (h1 : lo + B < hi) (h2 : hi < lo + 2 * B) : SortedIn lt lo (lo + B) d ∧ SortedIn lt (lo + B) hi d := by
  cases h with
  | last _ _ _ h3 hs => omega
  | step _ _ _ hs hr =>
    refine ⟨hs, ?_⟩
    cases hr with
    | last _ _ h4 h5 hs2 => exact hs2
    | step _ _ h4 hs2 hr2 => omega
theorem Runs.one {lt : Sq → Sq → Bool} {d : Array Sq} {B lo hi : Nat} (h : Runs lt d B lo hi) (h1 : hi ≤ lo + B) : SortedIn lt lo hi d := by
  cases h with
  | last _ _ _ h3 hs => exact hs
  | step _ _ h2 hs hr => rwa [show lo + B = hi by omega] at hs

theorem insertion_w (blk off cap sz a b : Nat) (w0 W : World) (d0 dk : Array Sq) (R : RowK encQ 37 w0 blk off d0) (hs0 : d0.size = sz) (hs : dk.size = sz) (h : SWK encQ 37 w0 blk off dk W) (hab : a ≤ b) (hb : b ≤ sz) (hsz : sz < 4611686018427387904) :
    Calls Try.prog 63 #[.slice (some ⟨blk, off, none⟩) sz cap, .int .i64 (a : Int), .int .i64 (b : Int), .func (.func 36) #[] #[]] W fun e w' =>
      e = .returned (.tuple #[]) ∧ ∃ d', d'.size = sz ∧ SWK encQ 37 w0 blk off d' w' ∧ PermIn a b dk d' ∧ SortedIn (ltOf cmpQ) a b d' := by
  have hi := insertion_any blk off cap a b dk W (h.holds R.hblk R.hH (by rw [hs, hs0])) (h.lt R.hblk) hab (by rw [hs]; exact hb) (by rw [hs]; exact hsz)
  rw [hs] at hi
  refine hi.mono ?_
  rintro e w' ⟨he, n, os, hw⟩
  obtain ⟨h1, h2⟩ := insertionSort_holds swoQ dk a b hab (by rw [hs]; exact hb)
  exact ⟨he, _, by rw [h1.1, hs], hw ▸ h.on R.hblk n _ os h1.1, h1, h2⟩
end Go.Proofs.Ytkabfdclecbnpaa


/- slices.SortStableFunc at snapshots, whatever their number. -/
namespace Go.Proofs.Ytkabfdclecbnpaa
open Go.RowKit Go.Lib Go.Sort Go.Shelf

end Go.Proofs.Ytkabfdclecbnpaa


/- snap.Sort, whatever the number. -/
namespace Go.Proofs.Ytkabfdclecbnpaa
open Go.RowKit Go.Lib Go.Sort Go.Shelf

end Go.Proofs.Ytkabfdclecbnpaa


/- One sorted list alone of a list. -/
namespace Go.Proofs.Ytkabfdclecbnpaa
open Go.RowKit Go.Lib Go.Sort Go.Shelf

theorem sorted_one : ∀ {ys zs : List Sq}, ys.Perm zs → ys.Pairwise (fun p q => ltOf cmpQ q p = false) → zs.Pairwise (fun p q => ltOf cmpQ q p = false) → ys = zs
  | [], zs, hp, _, _ => (List.nil_perm.1 hp).symm
  | y :: ys, [], hp, _, _ => by have := hp.length_eq; simp at this
  | y :: ys, z :: zs, hp, h1, h2 => by
    have e : y = z := by
      have my : y ∈ z :: zs := hp.mem_iff.1 (by simp)
      have mz : z ∈ y :: ys := hp.mem_iff.2 (by simp)
      rcases List.mem_cons.1 my with e | my
      · exact e
      · rcases List.mem_cons.1 mz with e | mz
        · exact e.symm
        · exact ltQ_total y z ((List.pairwise_cons.1 h2).1 y my) ((List.pairwise_cons.1 h1).1 z mz)
    subst e
    rw [sorted_one (List.perm_cons _ |>.1 hp) (List.pairwise_cons.1 h1).2 (List.pairwise_cons.1 h2).2]
end Go.Proofs.Ytkabfdclecbnpaa
