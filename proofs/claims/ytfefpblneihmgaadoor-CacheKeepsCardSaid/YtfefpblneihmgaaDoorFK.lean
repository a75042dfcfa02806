import Derived.Test.YtfefpblneihmgaaDoorFJ

/- A map from sums to texts, of which no more is told than that it is one. -/
namespace Go.Proofs.YtfefpblneihmgaaDoor
open Go.RowKit Go.Lib Go.Maps
def textR (v : Value) : Option (DataW Value × List MemPlace) := match v with
  | .string s => some (.held (.string s), [])
  | _ => none
def TM (w : World) (b n : Nat) : Prop := ∃ D, w.ownsMap Tryd.prog 34 textR b n D
theorem TM.kept {S : List Nat} {w w' : World} {b n : Nat} (h : TM w b n) (hk : Kept S w w') (hb : b ∉ S) : TM w' b n := by
  obtain ⟨D, h1⟩ := h
  exact ⟨D, hk.ownsMap h1 hb⟩
theorem zero_tx (w : World) : (zeroValue 9).run Tryd.prog w = .ok (.string ByteArray.empty) w := by kernel_rfl
theorem tm_look {w : World} {b n : Nat} (h : TM w b n) (id : List UInt8) (hn : id.length = 32) :
    ∃ s q, (Instr.lookup 54 (.map (some b)) (.agg (id.map B).toArray) true).run Tryd.prog w = .ok (.tuple #[.string s, .bool q]) w := by
  obtain ⟨D, h1⟩ := h
  obtain ⟨kl, hkl⟩ := id_keyN hn
  obtain ⟨v, ps, h2, h3⟩ := h1.look_ok a_keyed Tryd.underlying54 (zero_tx w) (zd := .held (.string ByteArray.empty)) (zp := []) rfl hkl
  unfold textR at h3
  split at h3
  · exact ⟨_, _, h2⟩
  · cases h3
theorem tm_put {w : World} {b n : Nat} (h : TM w b n) (id : List UInt8) (hn : id.length = 32) (s : ByteArray) (hl : n ≤ 1000000000) :
    ∃ w', (Instr.mapUpdate 54 (.map (some b)) (.agg (id.map B).toArray) (.string s)).run Tryd.prog w = .ok () w' ∧ Kept [b] w w' ∧ TM w' b (n + 1) := by
  obtain ⟨D, h1⟩ := h
  obtain ⟨kl, hkl⟩ := id_keyN hn
  obtain ⟨w', h2, h3, h4⟩ := h1.store (val := .string s) (d := .held (.string s)) (ps := []) a_keyed Tryd.underlying54 (by unfold maxLen; omega) hkl rfl
  exact ⟨w', h2, turnedI h4, _, h3⟩
theorem tm_made (w : World) : TM (w.alloc (.map #[] 0)) w.heap.size 0 := ⟨_, World.ownsMap_made w _ _ _⟩
end Go.Proofs.YtfefpblneihmgaaDoor
