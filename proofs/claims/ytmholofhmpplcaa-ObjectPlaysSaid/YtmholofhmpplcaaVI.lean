import Derived.Test.YtmholofhmpplcaaVH
import Derived.Test.YtmholofhmpplcaaMN2

/- ObjectPlays: the closure behind Catch. -/
namespace Go.Proofs.Ytmholofhmpplcaa
open Go.RowKit Go.Lib Go.Maps

theorem plays1_enters : Enters 11 := fun args w => by simp [go_sem]
theorem Boxes.kept {W W' : World} {S : List Nat} {p : Nat} {o : OpO} {q k left : Int} {row flv : Value} {good : Bool} {sb xb ob gb : Nat} (h : Boxes W p o q k left row flv good sb xb ob gb) (hk : Kept S W W') (hS : sb ∉ S ∧ xb ∉ S ∧ ob ∉ S ∧ gb ∉ S) : Boxes W' p o q k left row flv good sb xb ob gb :=
  ⟨hk.at h.s hS.1, hk.at h.x hS.2.1, hk.at h.o hS.2.2.1, hk.at h.g hS.2.2.2⟩
theorem catch_bl (D : Nat) (w : World) (p : Nat) (q : Int) (f : Nat) (T : List Nat) (es fs : List Ent) (U : List Nat) (fl : List Bool) (k : Nat) (row flv : Value) (h : PS D w p q f T es fs U fl k 0 row flv) (hk : k ≤ 60) (o : OpO) (h0 : 0 ≤ o.kind ∧ o.kind ≤ 4) (hnm : o.nm.length ≤ 100) (hbl : o.bs.length ≤ 200) (hbs : ∀ W, Kept [] w W → Src W (.slice o.ba o.bs.length o.bc) o.bs.length (o.bs.map B)) (good : Bool) (sb xb ob gb : Nat) (hb : Boxes w p o q k 0 row flv good sb xb ob gb) :
    Calls Try.prog 10 #[.pointer (some ⟨f, 0, none⟩), .func (.func 11) #[] #[.pointer (some ⟨sb, 0, none⟩), .pointer (some ⟨xb, 0, none⟩), .pointer (some ⟨ob, 0, none⟩), .pointer (some ⟨gb, 0, none⟩)]] w fun e w' => e = .returned (.bool true) ∧ Kept [] w w' := by
  have k0 := (((Kept.refl [] w).alloc (.cells #[.pointer (some ⟨f, 0, none⟩)] 30)).alloc (.cells #[.bool false] 4))
  refine (catch_blown ⟨f, 0, none⟩ 11 plays1_enters _ w [] (by simp) (fun _ => True) (fun _ _ _ _ => trivial)
    ((plays1_blow D _ p q f T es fs U fl k row flv (h.keep k0) hk o h0 hnm hbl (fun W hW => hbs W (k0.trans hW)) good sb xb ob gb (hb.kept k0 (by simp))).mono fun e w' h => ⟨h.1, h.2, trivial⟩)).mono ?_
  rintro e w' ⟨rfl, h1, _⟩
  exact ⟨rfl, h1⟩
/-- What the closure leaves. -/
def PlR (D : Nat) (p : Nat) (q : Int) (f : Nat) (T : List Nat) (U : List Nat) (k : Nat) (lo xb gb bad : Nat) (w' : World) : Prop :=
  ∃ (es' fs' : List Ent) (U' : List Nat) (fl' : List Bool) (k' : Nat) (left' : Int) (row' flv' : Value), (∀ x ∈ U', x ∈ U ∨ lo ≤ x) ∧ PS D w' p q f T es' fs' U' fl' k' left' row' flv' ∧ k' ≤ k + 1 ∧
    w'.heap[xb]? = some (.cells [row', .int .i64 q, .int .i64 k', .int .i64 left', flv'].toArray 35 (0, 0)) ∧ w'.heap[gb]? = some (.cells #[.bool true] 4 (0, 0)) ∧ row'.ownBlock ≠ some bad
theorem catch_go (D : Nat) (w : World) (p : Nat) (q : Int) (f : Nat) (T : List Nat) (es fs : List Ent) (U : List Nat) (fl : List Bool) (k : Nat) (left : Int) (row flv : Value) (h : PS D w p q f T es fs U fl k left row flv) (hk : k ≤ 60) (o : OpO) (h0 : left ≠ 0 ∨ o.kind < 0 ∨ 4 < o.kind) (hnm : o.nm.length ≤ 100) (hbl : o.bs.length ≤ 200) (hbs : ∀ W, Kept [] w W → Src W (.slice o.ba o.bs.length o.bc) o.bs.length (o.bs.map B)) (hbd : o.bs ≠ [] → ∀ g, (Value.slice o.ba o.bs.length o.bc).ownBlock = some g → g < D) (good : Bool) (sb xb ob gb : Nat) (hb : Boxes w p o q k left row flv good sb xb ob gb) (hout : ∀ x ∈ [xb, gb], x ∉ U ∧ x ≠ f ∧ D ≤ x) :
    Calls Try.prog 10 #[.pointer (some ⟨f, 0, none⟩), .func (.func 11) #[] #[.pointer (some ⟨sb, 0, none⟩), .pointer (some ⟨xb, 0, none⟩), .pointer (some ⟨ob, 0, none⟩), .pointer (some ⟨gb, 0, none⟩)]] w fun e w' => e = .returned (.bool false) ∧ Kept (xb :: gb :: (U ++ [f])) w w' ∧ PlR D p q f T U k (w.heap.size + 2) xb gb (w.heap.size + 1) w' := by
  have k0 := (((Kept.refl [] w).alloc (.cells #[.pointer (some ⟨f, 0, none⟩)] 30)).alloc (.cells #[.bool false] 4))
  have hx := lt_of_block hb.x
  have hg := lt_of_block hb.g
  have hf := h.flt.1
  have hbo := h.ob.bound
  have hdl := h.dl
  have hS : ∀ b ∈ xb :: gb :: (U ++ [f]), b < w.heap.size := fun b hm => by
    simp at hm
    rcases hm with rfl | rfl | hm | rfl
    · exact hx
    · exact hg
    · exact hbo b hm
    · exact hf
  refine catch_ret2 ⟨f, 0, none⟩ 11 plays1_enters _ w _ hS (PlR D p q f T U k (w.heap.size + 2) xb gb (w.heap.size + 1)) (fun W W' hQ hW => ?_)
    ((plays1_go D _ p q f T es fs U fl k left row flv (h.keep k0) hk o h0 hnm hbl (fun W hW => hbs W (k0.trans hW)) hbd good sb xb ob gb (hb.kept k0 (by simp)) hout).mono ?_)
  · obtain ⟨es', fs', U', fl', k', left', row', flv', h1, h2, h3, h4, h5, h6⟩ := hQ
    refine ⟨es', fs', U', fl', k', left', row', flv', h1, h2.kept hW (fun x hm => ?_), h3, hW.at h4 (by simp; omega), hW.at h5 (by simp; omega), h6⟩
    simp at hm
    subst hm
    refine ⟨fun hm => ?_, by omega, by omega, h6⟩
    rcases h1 _ hm with h7 | h7
    · have := hbo _ h7; omega
    · omega
  · rintro e w' ⟨rfl, hkk, es', fs', U', fl', k', left', row', flv', h1, h2, h3, h4, h5⟩
    refine ⟨rfl, hkk, es', fs', U', fl', k', left', row', flv', fun x hm => ?_, h2, h3, h4, h5, ?_⟩
    · rcases h1 x hm with h | h
      · exact Or.inl h
      · right; simpa using h
    · obtain ⟨b, hr⟩ := h2.rf
      have hz : w'.heap[w.heap.size + 1]? = some (.cells #[.bool false] 4 (0, 0)) := hkk.at (heap_alloc_at (by simp)) (fun hm => by have := hS _ hm; omega)
      exact cell_far hr.row hz (by decide)
end Go.Proofs.Ytmholofhmpplcaa
