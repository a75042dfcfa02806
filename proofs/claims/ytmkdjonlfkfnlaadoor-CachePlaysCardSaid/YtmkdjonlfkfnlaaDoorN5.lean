import Derived.Test.YtmkdjonlfkfnlaaDoorN4
import Derived.Test.YtmkdjonlfkfnlaaDoorMJ
import Derived.Test.YtmkdjonlfkfnlaaDoorHL

/- tree.Check. -/
namespace Go.Proofs.YtmkdjonlfkfnlaaDoor
open Go.RowKit Go.Lib

theorem n_leq (a b : List UInt8) : (Op.bytesLess (S a).toList (S b).toList || (S a).toList == (S b).toList) = !decide (b < a) := by
  rw [jS_less, S_beq]
  by_cases h1 : a < b
  · simp [h1, lt_asy a b h1]
  · by_cases h2 : a = b
    · subst h2; simp [List.lt_irrefl]
    · have h3 : b < a := by
        rcases List.le_total a b with h | h
        · exact absurd (List.le_iff_lt_or_eq.1 h) (by simp [h1, h2])
        · rcases List.le_iff_lt_or_eq.1 h with h | h
          · exact h
          · exact absurd h.symm h2
      simp [h1, h2, h3]

end Go.Proofs.YtmkdjonlfkfnlaaDoor
