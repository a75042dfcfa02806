import Derived.Test.YtmholofhmpplcaaMQ2
import Derived.Test.YtmholofhmpplcaaP1
import Derived.Sort.Walk0

/- A map of names to sizes; what begins so; names rise. -/
namespace Go.Proofs.Ytmholofhmpplcaa
open Go.RowKit Go.Lib Go.Maps

theorem zero_n (w : World) : (zeroValue 3).run Try.prog w = .ok (.int .i64 0) w := by kernel_rfl
/-- The value of a name in a map of numbers. -/
def lookI (nm : List UInt8) (es : List Ent) : Value := match findE nm es with | some e => e.v | none => .int .i64 0
/-- With its size as its value. -/
def sized (e : Ent) : Ent := ⟨e.name, szV e, e.b⟩
theorem find_sized (nm : List UInt8) (es : List Ent) : findE nm (es.map sized) = (findE nm es).map sized := by
  unfold findE
  induction es with
  | nil => rfl
  | cons e r ih =>
    simp only [List.map_cons, List.find?_cons]
    have : (sized e).name = e.name := rfl
    rw [this]
    split
    · rfl
    · exact ih
theorem del_sized (nm : List UInt8) (es : List Ent) : delE nm (es.map sized) = (delE nm es).map sized := by
  unfold delE
  rw [List.filter_map]
  rfl
theorem ins_sized (x : Ent) (es : List Ent) : insE (sized x) (es.map sized) = (insE x es).map sized := by
  induction es with
  | nil => rfl
  | cons e r ih =>
    simp only [List.map_cons, insE]
    have e1 : (sized e).name = e.name := rfl
    have e2 : (sized x).name = x.name := rfl
    rw [e1, e2]
    split
    · rfl
    · rw [List.map_cons, ih]
theorem put_sized (x : Ent) (es : List Ent) : putE (sized x) (es.map sized) = (putE x es).map sized := by
  unfold putE
  rw [show (sized x).name = x.name from rfl, del_sized, ins_sized]
theorem names_sized (es : List Ent) : (es.map sized).map (·.name) = es.map (·.name) := by rw [List.map_map]; rfl
theorem lookI_sized {nm : List UInt8} {es : List Ent} {e : Ent} (h : findE nm es = some e) : lookI nm (es.map sized) = szV e ∧ (findE nm (es.map sized)).isSome = true := by
  unfold lookI
  rw [find_sized, h]
  exact ⟨rfl, rfl⟩

theorem hasPrefix_take (x p : List UInt8) : Lib.hasPrefix x p = (decide (p.length ≤ x.length) && decide (x.take p.length = p)) := by
  induction p generalizing x with
  | nil => cases x <;> simp [Lib.hasPrefix]
  | cons b r ih =>
    cases x with
    | nil => simp [Lib.hasPrefix]
    | cons a s =>
      have h1 := ih s
      unfold Lib.hasPrefix at h1 ⊢
      by_cases h : a = b
      · simp [h, h1]
      · have hb : (b == a) = false := beq_false_of_ne (Ne.symm h)
        show (b == a && r.isPrefixOf s) = _
        rw [hb]
        simp [h]
theorem begins_any (x p : List UInt8) (w : World) (hx : x.length ≤ 9223372036854775807) (hp : p.length ≤ 9223372036854775807) :
    Calls Try.prog 47 #[.string (S x), .string (S p)] w fun e w' => e = .returned (.bool (Lib.hasPrefix x p)) ∧ w = w' := by
  have h1 : (S x).size = x.length := S_size _
  have h2 : (S p).size = p.length := S_size _
  by_cases hle : p.length ≤ x.length
  · have hct := cut_to x p.length hle
    have hr := hid (show Lib.hasPrefix x p = decide (x.take p.length = p) from by rw [hasPrefix_take, decide_eq_true hle]; rfl)
    have hbe := S_beq (x.take p.length) p
    obtain ⟨t, ht⟩ : ∃ t, t = x.take p.length := ⟨_, rfl⟩
    rw [← ht] at hct hr hbe
    have hle2 : (p.length : Int) ≤ (x.length : Int) := by omega
    rw [hr.out]
    obtain ⟨d, hd⟩ : ∃ d, d = decide (t = p) := ⟨_, rfl⟩
    rw [← hd] at hbe ⊢
    clear hr hle ht hd
    go_enter Try.func47, Try.ntmps47
    go_wp2
    go_ret
    exact ⟨rfl, rfl⟩
  · have hr := hid (show Lib.hasPrefix x p = false from by rw [hasPrefix_take, decide_eq_false hle]; rfl)
    have hle2 : ¬ (p.length : Int) ≤ (x.length : Int) := by omega
    rw [hr.out]
    clear hr hle
    go_enter Try.func47, Try.ntmps47
    go_wp2
    go_ret
    exact ⟨rfl, rfl⟩
theorem less_S {x y : List UInt8} (h : bytesBefore x y = true) : Op.bytesLess (S x).toList (S y).toList = true := by
  rw [S_toList, S_toList, Go.Proofs.bytesLess_eq]
  exact decide_eq_true ((before_lt x y).1 h)
theorem namesL_rising {es : List Ent} (h : Rising es) (pre : List UInt8) : (namesL es pre).Pairwise (fun x y => bytesBefore x y = true) := List.Pairwise.filter _ h
end Go.Proofs.Ytmholofhmpplcaa
