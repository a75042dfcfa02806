import Derived.Test.YtmholofhmpplcaaVG
import Derived.Test.YtmholofhmpplcaaMQ3

/- ObjectPlays' closure. -/
namespace Go.Proofs.Ytmholofhmpplcaa
open Go.RowKit Go.Lib Go.Maps

def opV (o : OpO) : Value := .agg #[.int .i64 o.kind, .string (S o.nm), .slice o.ba o.bs.length o.bc]
theorem step_go6 (D : Nat) (w : World) (p : Nat) (q : Int) (f : Nat) (T : List Nat) (es fs : List Ent) (U : List Nat) (fl : List Bool) (k : Nat) (left : Int) (row flv : Value) (h : PS D w p q f T es fs U fl k left row flv) (hk : k ≤ 60) (o : OpO) (h0 : left ≠ 0 ∨ o.kind < 0 ∨ 4 < o.kind) (hnm : o.nm.length ≤ 100) (hbl : o.bs.length ≤ 200) (hbs : ∀ W, Kept [] w W → Src W (.slice o.ba o.bs.length o.bc) o.bs.length (o.bs.map B)) (hbd : o.bs ≠ [] → ∀ g, (Value.slice o.ba o.bs.length o.bc).ownBlock = some g → g < D) :
    Calls Try.prog 12 #[.pointer (some ⟨p, 0, none⟩), stR row q k left flv, opV o] w (StepR D w p q f T U k) := by
  obtain ⟨kind, nm, ba, bc, bs⟩ := o
  by_cases hin : kind < 0 ∨ 4 < kind
  · exact step_idle D w p q f T es fs U fl k left row flv h nm _ kind hin
  · have h1 : left ≠ 0 := by rcases h0 with h | h; exact h; exact absurd h hin
    have h2 : kind = 0 ∨ kind = 1 ∨ kind = 2 ∨ kind = 3 ∨ kind = 4 := by omega
    rcases h2 with rfl | rfl | rfl | rfl | rfl
    · exact step_put D w p q f T es fs U fl k left row flv h h1 hk nm hnm ba bs _ bc rfl hbl hbs hbd
    · exact step_put1 D w p q f T es fs U fl k left row flv h h1 hk nm hnm ba bs _ bc rfl hbl hbs hbd
    · exact step_get D w p q f T es fs U fl k left row flv h h1 hk nm hnm _
    · exact step_drop D w p q f T es fs U fl k left row flv h h1 hk nm hnm _
    · exact step_list D w p q f T es fs U fl k left row flv h h1 hk nm hnm _
theorem step_bl6 (D : Nat) (w : World) (p : Nat) (q : Int) (f : Nat) (T : List Nat) (es fs : List Ent) (U : List Nat) (fl : List Bool) (k : Nat) (row flv : Value) (h : PS D w p q f T es fs U fl k 0 row flv) (hk : k ≤ 60) (o : OpO) (h0 : 0 ≤ o.kind ∧ o.kind ≤ 4) (hnm : o.nm.length ≤ 100) (hbl : o.bs.length ≤ 200) (hbs : ∀ W, Kept [] w W → Src W (.slice o.ba o.bs.length o.bc) o.bs.length (o.bs.map B)) :
    Calls Try.prog 12 #[.pointer (some ⟨p, 0, none⟩), stR row q k 0 flv, opV o] w fun e w' => Thrown 63 (.agg #[.pointer (some ⟨f, 0, none⟩)]) e ∧ Kept [] w w' := by
  obtain ⟨kind, nm, ba, bc, bs⟩ := o
  have h2 : kind = 0 ∨ kind = 1 ∨ kind = 2 ∨ kind = 3 ∨ kind = 4 := by simp at h0; omega
  rcases h2 with rfl | rfl | rfl | rfl | rfl
  · exact step_blow_p0 D w p q f T es fs U fl k row flv h hk nm hnm ba bs _ bc rfl hbl hbs
  · exact step_blow_p1 D w p q f T es fs U fl k row flv h hk nm hnm ba bs _ bc rfl hbl hbs
  · exact step_blow_get D w p q f T es fs U fl k row flv h nm _
  · exact step_blow_drop D w p q f T es fs U fl k row flv h nm _
  · exact step_blow_list D w p q f T es fs U fl k row flv h nm _
/-- The boxes of the closure. -/
structure Boxes (W : World) (p : Nat) (o : OpO) (q k left : Int) (row flv : Value) (good : Bool) (sb xb ob gb : Nat) : Prop where
  s : W.heap[sb]? = some (.cells #[.pointer (some ⟨p, 0, none⟩)] 26 (0, 0))
  x : W.heap[xb]? = some (.cells [row, .int .i64 q, .int .i64 k, .int .i64 left, flv].toArray 35 (0, 0))
  o : W.heap[ob]? = some (.cells [.int .i64 o.kind, .string (S o.nm), .slice o.ba o.bs.length o.bc].toArray 38 (0, 0))
  g : W.heap[gb]? = some (.cells #[.bool good] 4 (0, 0))
set_option maxRecDepth 100000 in
set_option maxHeartbeats 2000000 in
theorem plays1_blow (D : Nat) (w : World) (p : Nat) (q : Int) (f : Nat) (T : List Nat) (es fs : List Ent) (U : List Nat) (fl : List Bool) (k : Nat) (row flv : Value) (h : PS D w p q f T es fs U fl k 0 row flv) (hk : k ≤ 60) (o : OpO) (h0 : 0 ≤ o.kind ∧ o.kind ≤ 4) (hnm : o.nm.length ≤ 100) (hbl : o.bs.length ≤ 200) (hbs : ∀ W, Kept [] w W → Src W (.slice o.ba o.bs.length o.bc) o.bs.length (o.bs.map B)) (good : Bool) (sb xb ob gb : Nat) (hb : Boxes w p o q k 0 row flv good sb xb ob gb) :
    Calls Try.prog 11 #[.pointer (some ⟨sb, 0, none⟩), .pointer (some ⟨xb, 0, none⟩), .pointer (some ⟨ob, 0, none⟩), .pointer (some ⟨gb, 0, none⟩)] w fun e w' => Thrown 63 (.agg #[.pointer (some ⟨f, 0, none⟩)]) e ∧ Kept [] w w' := by
  have hst := hid (step_bl6 D w p q f T es fs U fl k row flv h hk o h0 hnm hbl hbs)
  have HB := hid hb
  have cs : w.cell? ⟨sb, 0, none⟩ = some (.pointer (some ⟨p, 0, none⟩)) := cell_of_one hb.s
  obtain ⟨ra, n, rc, rfl⟩ : ∃ a n c, row = .slice a n c := by obtain ⟨b, hr⟩ := h.rf; obtain ⟨a, c, e⟩ := owns_slice hr.row; exact ⟨a, _, c, e⟩
  unfold stR opV at hst
  clear h hk h0 hbs hb
  go_enter Try.func11, Try.ntmps11
  go_wp2_with (refine wpList_load_cells rfl 35 (.tmp 1) rfl ⟨xb, 0, none⟩ rfl [.slice ra n rc, .int .i64 q, .int .i64 k, .int .i64 0, flv] _ Try.underlying35 rfl (by kernel_rfl) (cells_of HB.out.x) ?_; refine halt ?_)
  refine Halt.mk ?_
  go_wp2_with (refine wpList_load_cells rfl 38 (.tmp 2) rfl ⟨ob, 0, none⟩ rfl [.int .i64 o.kind, .string (S o.nm), .slice o.ba o.bs.length o.bc] _ Try.underlying38 rfl (by kernel_rfl) (cells_of HB.out.o) ?_; refine halt ?_)
  refine Halt.mk ?_
  go_wp2_with fail
  refine hst.out.mono ?_
  rintro e V ⟨⟨older, rfl, hcalm⟩, hR⟩
  exact ⟨rfl, ⟨older, rfl, hcalm⟩, hR⟩
set_option maxRecDepth 100000 in
set_option maxHeartbeats 2000000 in
theorem plays1_go (D : Nat) (w : World) (p : Nat) (q : Int) (f : Nat) (T : List Nat) (es fs : List Ent) (U : List Nat) (fl : List Bool) (k : Nat) (left : Int) (row flv : Value) (h : PS D w p q f T es fs U fl k left row flv) (hk : k ≤ 60) (o : OpO) (h0 : left ≠ 0 ∨ o.kind < 0 ∨ 4 < o.kind) (hnm : o.nm.length ≤ 100) (hbl : o.bs.length ≤ 200) (hbs : ∀ W, Kept [] w W → Src W (.slice o.ba o.bs.length o.bc) o.bs.length (o.bs.map B)) (hbd : o.bs ≠ [] → ∀ g, (Value.slice o.ba o.bs.length o.bc).ownBlock = some g → g < D) (good : Bool) (sb xb ob gb : Nat) (hb : Boxes w p o q k left row flv good sb xb ob gb) (hout : ∀ x ∈ [xb, gb], x ∉ U ∧ x ≠ f ∧ D ≤ x) :
    Calls Try.prog 11 #[.pointer (some ⟨sb, 0, none⟩), .pointer (some ⟨xb, 0, none⟩), .pointer (some ⟨ob, 0, none⟩), .pointer (some ⟨gb, 0, none⟩)] w fun e w' => e = .returned (.tuple #[]) ∧ Kept (xb :: gb :: (U ++ [f])) w w' ∧
      ∃ (es' fs' : List Ent) (U' : List Nat) (fl' : List Bool) (k' : Nat) (left' : Int) (row' flv' : Value), (∀ x ∈ U', x ∈ U ∨ w.heap.size ≤ x) ∧ PS D w' p q f T es' fs' U' fl' k' left' row' flv' ∧ k' ≤ k + 1 ∧
        w'.heap[xb]? = some (.cells [row', .int .i64 q, .int .i64 k', .int .i64 left', flv'].toArray 35 (0, 0)) ∧ w'.heap[gb]? = some (.cells #[.bool true] 4 (0, 0)) := by
  have hst := hid (step_go6 D w p q f T es fs U fl k left row flv h hk o h0 hnm hbl hbs hbd)
  have HB := hid hb; have HO := hid hout
  have cs : w.cell? ⟨sb, 0, none⟩ = some (.pointer (some ⟨p, 0, none⟩)) := cell_of_one hb.s
  obtain ⟨ra, n, rc, rfl⟩ : ∃ a n c, row = .slice a n c := by obtain ⟨b, hr⟩ := h.rf; obtain ⟨a, c, e⟩ := owns_slice hr.row; exact ⟨a, _, c, e⟩
  unfold stR opV at hst
  clear h hk h0 hbs hb hout hbd
  go_enter Try.func11, Try.ntmps11
  go_wp2_with (refine wpList_load_cells rfl 35 (.tmp 1) rfl ⟨xb, 0, none⟩ rfl [.slice ra n rc, .int .i64 q, .int .i64 k, .int .i64 left, flv] _ Try.underlying35 rfl (by kernel_rfl) (cells_of HB.out.x) ?_; refine halt ?_)
  refine Halt.mk ?_
  go_wp2_with (refine wpList_load_cells rfl 38 (.tmp 2) rfl ⟨ob, 0, none⟩ rfl [.int .i64 o.kind, .string (S o.nm), .slice o.ba o.bs.length o.bc] _ Try.underlying38 rfl (by kernel_rfl) (cells_of HB.out.o) ?_; refine halt ?_)
  refine Halt.mk ?_
  go_wp2_with fail
  refine hst.out.mono ?_
  rintro e V ⟨es', fs', U', fl', k', left', row', flv', rfl, k1, hU, ps, hk'⟩
  have K1 := hid k1; have HU := hid hU; have PSV := hid ps; have HK' := hid hk'
  obtain ⟨ra', n', rc', rfl⟩ : ∃ a n c, row' = .slice a n c := by obtain ⟨b, hr⟩ := ps.rf; obtain ⟨a, c, e⟩ := owns_slice hr.row; exact ⟨a, _, c, e⟩
  have hfv : ∃ a n c, flv' = .slice a n c := by obtain ⟨_, a, c, e, _⟩ := ps.fr; exact ⟨a, _, c, e⟩
  have hxV := hid (k1.at HB.out.x (by have := HO.out xb (by simp); simp [this.1, this.2.1]))
  have hgV := hid (k1.at HB.out.g (by have := HO.out gb (by simp); simp [this.1, this.2.1]))
  obtain ⟨k3, hk3⟩ : ∃ k3 : Int, k3 = (k' : Int) := ⟨_, rfl⟩
  have HK3 := hid hk3
  unfold stR
  rw [← hk3]
  clear k1 hU ps hk' hst hk3
  go_wp2_with (refine wpList_store_at rfl 35 (.tmp 1) (.tmp 9) rfl xb 0 [.slice ra' n' rc', .int .i64 q, .int .i64 k3, .int .i64 left', flv'] rfl rfl 35 [.slice ra n rc, .int .i64 q, .int .i64 k, .int .i64 left, flv] hxV.out (by kernel_rfl) (by simp) (one5 hfv _ _ _ _ _ _) ?_; refine halt ?_)
  refine Halt.mk ?_
  have hxg : Hid (xb ≠ gb) := fun e => by
    have h1 := HB.out.x
    rw [e, HB.out.g] at h1
    simp at h1
  obtain ⟨V3, hV3⟩ : ∃ V3, V3 = V.setRow xb (splice [.slice ra n rc, .int .i64 q, .int .i64 k, .int .i64 left, flv] 0 [.slice ra' n' rc', .int .i64 q, .int .i64 k3, .int .i64 left', flv']).toArray := ⟨_, rfl⟩
  have k3' := hid (show Kept [xb] V V3 from hV3 ▸ (Kept.refl _ _).setRow (fun _ => by simp) _)
  have hx3 := hid (show V3.heap[xb]? = some (.cells [.slice ra' n' rc', .int .i64 q, .int .i64 k3, .int .i64 left', flv'].toArray 35 (0, 0)) from by rw [hV3]; exact setRow_heap _ _ _ _ _ _ hxV.out)
  rw [← hV3]
  have hg3 := hid (k3'.out.at hgV.out (by simp; exact fun e => hxg.out e.symm))
  have hc := cell_of_one hg3.out
  have hfz := free_of_one hg3.out
  have hnew := hid (one_setCell (u := .bool true) hg3.out)
  have k5 := hid (show Kept [gb] V3 (V3.setCell ⟨gb, 0, none⟩ (.bool true)) from (Kept.refl [gb] V3).setCell (p := ⟨gb, 0, none⟩) (fun _ => by simp) _)
  clear hV3
  go_wp2
  go_end0
  have kx : Kept [xb, gb] V (V3.setCell ⟨gb, 0, none⟩ (.bool true)) := (k3'.out.wider (fun x _ hx => by simp at hx; simp [hx])).trans (k5.out.wider (fun x _ hx => by simp at hx; simp [hx]))
  refine ⟨rfl, (K1.out.wider (fun x _ hx => by simp at hx ⊢; rcases hx with h | h <;> simp [h])).trans (kx.wider (fun x _ hx => by simp at hx ⊢; rcases hx with h | h <;> simp [h])), es', fs', U', fl', k', left', .slice ra' n' rc', flv', HU.out, PSV.out.kept kx (fun x hx => ?_), HK'.out, ?_, hnew.out⟩
  · have h1 := HO.out x hx
    refine ⟨fun hm => ?_, h1.2.1, h1.2.2, fun e => ?_⟩
    · rcases HU.out x hm with h2 | h2
      · exact h1.1 h2
      · simp at hx
        rcases hx with rfl | rfl
        · have := lt_of_block HB.out.x; omega
        · have := lt_of_block HB.out.g; omega
    · obtain ⟨b, hr⟩ := PSV.out.rf
      simp at hx
      rcases hx with rfl | rfl
      · exact cell_far hr.row hxV.out (by decide) e
      · exact cell_far hr.row hgV.out (by decide) e
  · rw [← HK3.out]
    exact k5.out.at hx3.out (by simp; exact hxg.out)
end Go.Proofs.Ytmholofhmpplcaa
