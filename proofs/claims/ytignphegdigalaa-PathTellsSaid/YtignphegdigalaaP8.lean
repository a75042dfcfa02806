/- strings.Join, laid off the shelf; a list of texts, joined. -/
import Derived.Shelf.Lays
import Derived.Shelf.Strings.OnBuilder
import Derived.Test.YtignphegdigalaaP7
namespace Go.Proofs.Ytignphegdigalaa
open Go.RowKit Go.Shelf

def Ytignphegdigalaalays156_ren : Go.Shelf.Ren := ⟨fun | 156 => 51 | 165 => 67 | 166 => 68 | 169 => 69 | 240 => 76 | 241 => 77 | 276 => 81 | 277 => 82 | n => n, fun | 31 => 49 | 9 => 9 | 3 => 3 | 4 => 4 | 0 => 0 | 20 => 20 | 72 => 93 | 76 => 97 | 70 => 91 | 37 => 22 | 75 => 96 | 127 => 102 | 164 => 106 | 5 => 5 | 80 => 99 | n => n, fun n => n⟩
theorem Ytignphegdigalaalays156 : Lays.n156 Try.prog Ytignphegdigalaalays156_ren where
  mixed := by kernel_rfl
  f156 := Try.func51.trans (by kernel_rfl)
  f165 := Try.func67.trans (by kernel_rfl)
  f166 := Try.func68.trans (by kernel_rfl)
  f169 := Try.func69.trans (by kernel_rfl)
  f240 := Try.func76.trans (by kernel_rfl)
  f241 := Try.func77.trans (by kernel_rfl)
  f276 := Try.func81.trans (by kernel_rfl)
  f277 := Try.func82.trans (by kernel_rfl)
  t0 := Try.underlying0
  a0 := Try.isAgg0
  z0 := Try.sizeOf0
  v0 := Try.zeroValue0
  t3 := Try.underlying3
  a3 := Try.isAgg3
  z3 := Try.sizeOf3
  v3 := Try.zeroValue3
  t4 := Try.underlying4
  a4 := Try.isAgg4
  z4 := Try.sizeOf4
  v4 := Try.zeroValue4
  t9 := Try.underlying9
  a9 := Try.isAgg9
  z9 := Try.sizeOf9
  v9 := Try.zeroValue9
  t20 := Try.underlying20
  a20 := Try.isAgg20
  z20 := Try.sizeOf20
  v20 := Try.zeroValue20
  t31 := Try.underlying49
  a31 := Try.isAgg49
  z31 := Try.sizeOf49
  v31 := Try.zeroValue49
  t37 := Try.underlying22
  a37 := Try.isAgg22
  z37 := Try.sizeOf22
  v37 := Try.zeroValue22
  t70 := Try.underlying91
  a70 := Try.isAgg91
  z70 := Try.sizeOf91
  v70 := Try.zeroValue91
  t72 := Try.underlying93
  a72 := Try.isAgg93
  z72 := Try.sizeOf93
  v72 := Try.zeroValue93
  t75 := Try.underlying96
  a75 := Try.isAgg96
  z75 := Try.sizeOf96
  v75 := Try.zeroValue96
  t76 := Try.underlying97
  a76 := Try.isAgg97
  z76 := Try.sizeOf97
  v76 := Try.zeroValue97
  t127 := Try.underlying102
  a127 := Try.isAgg102
  z127 := Try.sizeOf102
  v127 := Try.zeroValue102
  t164 := Try.underlying106
  a164 := Try.isAgg106
  z164 := Try.sizeOf106
  v164 := Try.zeroValue106
theorem extra156 : Builder.Extra Try.prog Ytignphegdigalaalays156_ren where
  sizeBuilder := by kernel_rfl
  liesBuilder := by kernel_rfl
  t5 := Try.underlying5
  a5 := Try.isAgg5
  z5 := Try.sizeOf5
  v5 := Try.zeroValue5
  infoByte := by kernel_rfl
  cellsByte := by kernel_rfl
  sizeByte := by kernel_rfl
  neB5 := by decide

/-- Parts with separators between. -/
def glueS (l : List (List UInt8)) : List UInt8 := Lib.join l [47]
theorem joined_none (a : Option Addr) (c : Nat) (w : World) :
    Calls Try.prog 51 #[.slice a 0 c, .string (S [47])] w fun e w' => e = .returned (.string (S [])) ∧ w' = w :=
  Any.strings_Join_none Ytignphegdigalaalays156 extra156 a c (S [47]) w
theorem joined (bk c : Nat) (l : List (List UInt8)) (w : World) (hcells : ∀ (j : Nat) x, l[j]? = some x → w.cell? ⟨bk, j, none⟩ = some (.string (S x))) (hbk : bk < w.heap.size) (hN : l.length ≤ 1000000000) (hcap : l.length ≤ c) (hlen : (glueS l).length ≤ 140737488355328) :
    Calls Try.prog 51 #[.slice (some ⟨bk, 0, none⟩) l.length c, .string (S [47])] w fun e w' => e = .returned (.string (S (glueS l))) ∧ Below w.heap.size w w' := by
  have hm : (l.map S).map (·.data.toList) = l := by rw [List.map_map]; exact List.map_id'' (fun x => rfl) l
  have h := Any.strings_Join Ytignphegdigalaalays156 extra156 bk 0 c (l.map S) (S [47]) w (fun j x hj => by
    rw [List.getElem?_map] at hj
    cases hx : l[j]? with
    | none => rw [hx] at hj; simp at hj
    | some y => rw [hx] at hj; simp at hj; subst hj; rw [Nat.zero_add]; exact hcells j y hx) hbk (by rw [List.length_map]; omega) (by rw [List.length_map]; omega) (by rw [hm]; exact hlen)
  rw [hm, List.length_map] at h
  exact h
end Go.Proofs.Ytignphegdigalaa
