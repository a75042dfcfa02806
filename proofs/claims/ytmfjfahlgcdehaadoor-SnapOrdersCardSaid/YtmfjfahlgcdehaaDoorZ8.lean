import Derived.Test.YtmfjfahlgcdehaaDoorMY

/- One sorted list alone of a list. -/
namespace Go.Proofs.YtmfjfahlgcdehaaDoor
open Go.RowKit Go.Lib Go.Sort Go.Shelf

theorem sorted_one : ∀ {ys zs : List Sq}, ys.Perm zs → ys.Pairwise (fun p q => ltOf cmpQ q p = false) → zs.Pairwise (fun p q => ltOf cmpQ q p = false) → ys = zs
  | [], zs, hp, _, _ => (List.nil_perm.1 hp).symm
  | y :: ys, [], hp, _, _ => by have := hp.length_eq; simp at this
  | y :: ys, z :: zs, hp, h1, h2 => by
    have e : y = z := by
      have my : y ∈ z :: zs := hp.mem_iff.1 (by simp)
      have mz : z ∈ y :: ys := hp.mem_iff.2 (by simp)
      rcases List.mem_cons.1 my with e | my
      · exact e
      · rcases List.mem_cons.1 mz with e | mz
        · exact e.symm
        · exact ltQ_total y z ((List.pairwise_cons.1 h2).1 y my) ((List.pairwise_cons.1 h1).1 z mz)
    subst e
    rw [sorted_one (List.perm_cons _ |>.1 hp) (List.pairwise_cons.1 h1).2 (List.pairwise_cons.1 h2).2]
end Go.Proofs.YtmfjfahlgcdehaaDoor
