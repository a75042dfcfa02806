
/- A map of names to sizes; what begins so; names rise. -/
import Derived.Test.YtnegpggikllopaaOL
import Derived.Test.YtnegpggikllopaaP1
import Derived.Sort.Walk0
namespace Go.Proofs.Ytnegpggikllopaa
open Go.RowKit Go.Lib Go.Maps

theorem zero_n (w : World) : (zeroValue 3).run Try.prog w = .ok (.int .i64 0) w := by kernel_rfl
/-- The value of a name in a map of numbers. -/
def lookI (nm : List UInt8) (es : List Ent) : Value := match findE nm es with | some e => e.v | none => .int .i64 0
theorem mi_look {w : World} {U : List Nat} {mv : Value} {es : List Ent} (h : Mp w U mv es) (nm : List UInt8) (hn : nm.length ≤ 1000000000) :
    (Instr.lookup 56 mv (.string (S nm)) true).run Try.prog w = .ok (.tuple #[lookI nm es, .bool (findE nm es).isSome]) w := by
  rcases h with ⟨rfl, rfl⟩ | ⟨b, rfl, _, h⟩
  · exact Maps.look_nil true str_law Try.underlying56 (zero_n w) (str_key nm hn)
  · obtain ⟨v, ps, h1, h2⟩ := h.look_ok str_law Try.underlying56 (zero_n w) (zd := .held (.int .i64 0)) (zp := []) rfl (str_key nm hn)
    rw [DM_has] at h1
    rw [DM_at] at h2
    have hv : v = lookI nm es := by
      unfold heldR at h2
      unfold lookI
      cases hf : findE nm es <;> rw [hf] at h2 <;> simp at h2 <;> exact h2.1
    rw [← hv]
    exact h1
theorem mi_look1 {w : World} {U : List Nat} {mv : Value} {es : List Ent} (h : Mp w U mv es) (nm : List UInt8) (hn : nm.length ≤ 1000000000) :
    (Instr.lookup 56 mv (.string (S nm)) false).run Try.prog w = .ok (lookI nm es) w := by
  rcases h with ⟨rfl, rfl⟩ | ⟨b, rfl, _, h⟩
  · exact Maps.look_nil false str_law Try.underlying56 (zero_n w) (str_key nm hn)
  · obtain ⟨v, ps, h1, h2⟩ := h.lookup str_law Try.underlying56 (zero_n w) (zd := .held (.int .i64 0)) (zp := []) rfl (str_key nm hn)
    rw [DM_at] at h2
    have hv : v = lookI nm es := by
      unfold heldR at h2
      unfold lookI
      cases hf : findE nm es <;> rw [hf] at h2 <;> simp at h2 <;> exact h2.1
    rw [← hv]
    exact h1
theorem mi_len {w : World} {U : List Nat} {mv : Value} {es : List Ent} (h : Mp w U mv es) (ty : TypeId) : (Builtin.len_ #[56] ty #[mv]).run Try.prog w = .ok (.int .i64 es.length) w := by
  rcases h with ⟨rfl, rfl⟩ | ⟨b, rfl, _, h⟩
  · exact Maps.len_nil Try.underlying56 ty
  · have h1 := h.len Try.underlying56 ty
    rw [DM_size] at h1
    exact h1
theorem mi_drop {w : World} {U : List Nat} {mv : Value} {es : List Ent} (h : Mp w U mv es) (nm : List UInt8) (hn : nm.length ≤ 1000000000) :
    ∃ w', (∀ ty, (Builtin.delete_ #[56, 9] ty #[mv, .string (S nm)]).run Try.prog w = .ok (.tuple #[]) w') ∧ Kept (mpB mv) w w' ∧ Mp w' U mv (delE nm es) := by
  rcases h with ⟨rfl, rfl⟩ | ⟨b, rfl, hb, h⟩
  · exact ⟨w, fun ty => Maps.drop_nil str_law Try.underlying56 (str_key nm hn) ty, Kept.refl _ _, Or.inl ⟨rfl, rfl⟩⟩
  · obtain ⟨w', h1, h2, h3⟩ := h.drop str_law Try.underlying56 (str_key nm hn) 9
    refine ⟨w', fun ty => ?_, turned_kept h3, Or.inr ⟨b, rfl, hb, ?_⟩⟩
    · exact h1
    · rw [DM_del] at h2
      exact owns_tight h2
theorem mi_put {w : World} {U : List Nat} {b : Nat} {es : List Ent} (h : Mp w U (.map (some b)) es) (x : Ent) (hn : x.name.length ≤ 1000000000) (hl : es.length ≤ 1000000000) :
    ∃ w', (Instr.mapUpdate 56 (.map (some b)) (.string (S x.name)) x.v).run Try.prog w = .ok () w' ∧ Kept [b] w w' ∧ Mp w' U (.map (some b)) (putE x es) := by
  rcases h with ⟨h, _⟩ | ⟨b', hb', hb, h⟩
  · cases h
  · cases hb'
    obtain ⟨w', h1, h2, h3⟩ := h.store (val := x.v) (d := .held x.v) (ps := []) str_law Try.underlying56 (by unfold maxLen; omega) (str_key x.name hn) rfl
    refine ⟨w', h1, turned_kept h3, Or.inr ⟨b, rfl, hb, ?_⟩⟩
    rw [DM_put] at h2
    exact owns_tight h2

/-- With its size as its value. -/
def sized (e : Ent) : Ent := ⟨e.name, szV e, e.b⟩
theorem find_sized (nm : List UInt8) (es : List Ent) : findE nm (es.map sized) = (findE nm es).map sized := by
  unfold findE
  induction es with
  | nil => rfl
  | cons e r ih =>
    simp only [List.map_cons, List.find?_cons]
    have : (sized e).name = e.name := rfl
    rw [this]
    split
    · rfl
    · exact ih
theorem del_sized (nm : List UInt8) (es : List Ent) : delE nm (es.map sized) = (delE nm es).map sized := by
  unfold delE
  rw [List.filter_map]
  rfl
theorem ins_sized (x : Ent) (es : List Ent) : insE (sized x) (es.map sized) = (insE x es).map sized := by
  induction es with
  | nil => rfl
  | cons e r ih =>
    simp only [List.map_cons, insE]
    have e1 : (sized e).name = e.name := rfl
    have e2 : (sized x).name = x.name := rfl
    rw [e1, e2]
    split
    · rfl
    · rw [List.map_cons, ih]
theorem put_sized (x : Ent) (es : List Ent) : putE (sized x) (es.map sized) = (putE x es).map sized := by
  unfold putE
  rw [show (sized x).name = x.name from rfl, del_sized, ins_sized]
theorem names_sized (es : List Ent) : (es.map sized).map (·.name) = es.map (·.name) := by rw [List.map_map]; rfl
theorem lookI_sized {nm : List UInt8} {es : List Ent} {e : Ent} (h : findE nm es = some e) : lookI nm (es.map sized) = szV e ∧ (findE nm (es.map sized)).isSome = true := by
  unfold lookI
  rw [find_sized, h]
  exact ⟨rfl, rfl⟩

theorem hasPrefix_take (x p : List UInt8) : Lib.hasPrefix x p = (decide (p.length ≤ x.length) && decide (x.take p.length = p)) := by
  induction p generalizing x with
  | nil => cases x <;> simp [Lib.hasPrefix]
  | cons b r ih =>
    cases x with
    | nil => simp [Lib.hasPrefix]
    | cons a s =>
      have h1 := ih s
      unfold Lib.hasPrefix at h1 ⊢
      by_cases h : a = b
      · simp [h, h1]
      · have hb : (b == a) = false := beq_false_of_ne (Ne.symm h)
        show (b == a && r.isPrefixOf s) = _
        rw [hb]
        simp [h]
theorem begins_any (x p : List UInt8) (w : World) (hx : x.length ≤ 9223372036854775807) (hp : p.length ≤ 9223372036854775807) :
    Calls Try.prog 26 #[.string (S x), .string (S p)] w fun e w' => e = .returned (.bool (Lib.hasPrefix x p)) ∧ w = w' := by
  have h1 : (S x).size = x.length := S_size _
  have h2 : (S p).size = p.length := S_size _
  by_cases hle : p.length ≤ x.length
  · have hct := cut_to x p.length hle
    have hr := hid (show Lib.hasPrefix x p = decide (x.take p.length = p) from by rw [hasPrefix_take, decide_eq_true hle]; rfl)
    have hbe := S_beq (x.take p.length) p
    obtain ⟨t, ht⟩ : ∃ t, t = x.take p.length := ⟨_, rfl⟩
    rw [← ht] at hct hr hbe
    have hle2 : (p.length : Int) ≤ (x.length : Int) := by omega
    rw [hr.out]
    obtain ⟨d, hd⟩ : ∃ d, d = decide (t = p) := ⟨_, rfl⟩
    rw [← hd] at hbe ⊢
    clear hr hle ht hd
    go_enter Try.func26, Try.ntmps26
    go_wp2
    go_ret
    exact ⟨rfl, rfl⟩
  · have hr := hid (show Lib.hasPrefix x p = false from by rw [hasPrefix_take, decide_eq_false hle]; rfl)
    have hle2 : ¬ (p.length : Int) ≤ (x.length : Int) := by omega
    rw [hr.out]
    clear hr hle
    go_enter Try.func26, Try.ntmps26
    go_wp2
    go_ret
    exact ⟨rfl, rfl⟩
theorem less_S {x y : List UInt8} (h : bytesBefore x y = true) : Op.bytesLess (S x).toList (S y).toList = true := by
  rw [S_toList, S_toList, Go.Proofs.bytesLess_eq]
  exact decide_eq_true ((before_lt x y).1 h)
theorem namesL_rising {es : List Ent} (h : Rising es) (pre : List UInt8) : (namesL es pre).Pairwise (fun x y => bytesBefore x y = true) := List.Pairwise.filter _ h
end Go.Proofs.Ytnegpggikllopaa
