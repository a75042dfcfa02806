/- strings.Join, laid off the shelf; a list of texts, joined. -/
import Derived.Shelf.Lays
import Derived.Shelf.Strings.OnBuilder
import Derived.Test.YtcemgmikbcbofaaP7
namespace Go.Proofs.Ytcemgmikbcbofaa
open Go.RowKit Go.Shelf

def Ytcemgmikbcbofaalays156_ren : Go.Shelf.Ren := ⟨fun | 156 => 55 | 165 => 71 | 166 => 72 | 169 => 73 | 240 => 80 | 241 => 81 | 276 => 85 | 277 => 86 | n => n, fun | 31 => 49 | 9 => 9 | 3 => 3 | 4 => 4 | 0 => 0 | 20 => 20 | 72 => 94 | 76 => 98 | 70 => 92 | 37 => 22 | 75 => 97 | 127 => 103 | 164 => 107 | 5 => 5 | 80 => 100 | n => n, fun n => n⟩
theorem Ytcemgmikbcbofaalays156 : Lays.n156 Try.prog Ytcemgmikbcbofaalays156_ren where
  mixed := by kernel_rfl
  f156 := Try.func55.trans (by kernel_rfl)
  f165 := Try.func71.trans (by kernel_rfl)
  f166 := Try.func72.trans (by kernel_rfl)
  f169 := Try.func73.trans (by kernel_rfl)
  f240 := Try.func80.trans (by kernel_rfl)
  f241 := Try.func81.trans (by kernel_rfl)
  f276 := Try.func85.trans (by kernel_rfl)
  f277 := Try.func86.trans (by kernel_rfl)
  t0 := Try.underlying0
  a0 := Try.isAgg0
  z0 := Try.sizeOf0
  v0 := Try.zeroValue0
  t3 := Try.underlying3
  a3 := Try.isAgg3
  z3 := Try.sizeOf3
  v3 := Try.zeroValue3
  t4 := Try.underlying4
  a4 := Try.isAgg4
  z4 := Try.sizeOf4
  v4 := Try.zeroValue4
  t9 := Try.underlying9
  a9 := Try.isAgg9
  z9 := Try.sizeOf9
  v9 := Try.zeroValue9
  t20 := Try.underlying20
  a20 := Try.isAgg20
  z20 := Try.sizeOf20
  v20 := Try.zeroValue20
  t31 := Try.underlying49
  a31 := Try.isAgg49
  z31 := Try.sizeOf49
  v31 := Try.zeroValue49
  t37 := Try.underlying22
  a37 := Try.isAgg22
  z37 := Try.sizeOf22
  v37 := Try.zeroValue22
  t70 := Try.underlying92
  a70 := Try.isAgg92
  z70 := Try.sizeOf92
  v70 := Try.zeroValue92
  t72 := Try.underlying94
  a72 := Try.isAgg94
  z72 := Try.sizeOf94
  v72 := Try.zeroValue94
  t75 := Try.underlying97
  a75 := Try.isAgg97
  z75 := Try.sizeOf97
  v75 := Try.zeroValue97
  t76 := Try.underlying98
  a76 := Try.isAgg98
  z76 := Try.sizeOf98
  v76 := Try.zeroValue98
  t127 := Try.underlying103
  a127 := Try.isAgg103
  z127 := Try.sizeOf103
  v127 := Try.zeroValue103
  t164 := Try.underlying107
  a164 := Try.isAgg107
  z164 := Try.sizeOf107
  v164 := Try.zeroValue107
theorem extra156 : Builder.Extra Try.prog Ytcemgmikbcbofaalays156_ren where
  sizeBuilder := by kernel_rfl
  liesBuilder := by kernel_rfl
  t5 := Try.underlying5
  a5 := Try.isAgg5
  z5 := Try.sizeOf5
  v5 := Try.zeroValue5
  infoByte := by kernel_rfl
  cellsByte := by kernel_rfl
  sizeByte := by kernel_rfl
  neB5 := by decide

/-- Parts with separators between. -/
def glueS (l : List (List UInt8)) : List UInt8 := Lib.join l [47]
theorem joined_none (a : Option Addr) (c : Nat) (w : World) :
    Calls Try.prog 55 #[.slice a 0 c, .string (S [47])] w fun e w' => e = .returned (.string (S [])) ∧ w' = w :=
  Any.strings_Join_none Ytcemgmikbcbofaalays156 extra156 a c (S [47]) w
theorem joined (bk c : Nat) (l : List (List UInt8)) (w : World) (hcells : ∀ (j : Nat) x, l[j]? = some x → w.cell? ⟨bk, j, none⟩ = some (.string (S x))) (hbk : bk < w.heap.size) (hN : l.length ≤ 1000000000) (hcap : l.length ≤ c) (hlen : (glueS l).length ≤ 140737488355328) :
    Calls Try.prog 55 #[.slice (some ⟨bk, 0, none⟩) l.length c, .string (S [47])] w fun e w' => e = .returned (.string (S (glueS l))) ∧ Below w.heap.size w w' := by
  have hm : (l.map S).map (·.data.toList) = l := by rw [List.map_map]; exact List.map_id'' (fun x => rfl) l
  have h := Any.strings_Join Ytcemgmikbcbofaalays156 extra156 bk 0 c (l.map S) (S [47]) w (fun j x hj => by
    rw [List.getElem?_map] at hj
    cases hx : l[j]? with
    | none => rw [hx] at hj; simp at hj
    | some y => rw [hx] at hj; simp at hj; subst hj; rw [Nat.zero_add]; exact hcells j y hx) hbk (by rw [List.length_map]; omega) (by rw [List.length_map]; omega) (by rw [hm]; exact hlen)
  rw [hm, List.length_map] at h
  exact h
end Go.Proofs.Ytcemgmikbcbofaa
