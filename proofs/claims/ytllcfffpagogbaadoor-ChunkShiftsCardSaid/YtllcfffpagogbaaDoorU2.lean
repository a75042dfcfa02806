/- coldstoreref09.Split. -/
import Derived.Test.YtllcfffpagogbaaDoorU1
namespace Go.Proofs.YtllcfffpagogbaaDoor
open Go.RowKit Go.Lib

def lenV : Value → Nat
  | .slice _ n _ => n
  | _ => 0
/-- A row of pieces that lie wherever they do. -/
theorem rv_row {w0 w : World} {base : Nat} {v : Value} {xs : List Piece} (h : w.ownsRow base 25 1 v xs.length (xs.map pval)) (hk : Kept [] w0 w) (hp : ∀ x ∈ xs, Sl w0 x.a x.c x.ys) : ∃ av cv, v = .slice av xs.length cv ∧ xs.length ≤ cv ∧ cv ≤ 9223372036854775807 ∧ RV w av (xs.map (·.ys)) ∧ ∀ y, av = some y → y.off = 0 ∧ y.spot = none ∧ base ≤ y.block := by
  rcases h.2 with ⟨h1, h2⟩ | ⟨gv, cap, cur, h1, hb, hh, h3, h4, _⟩
  · have : xs = [] := List.eq_nil_of_length_eq_zero h2
    subst this
    exact ⟨none, 0, h1, by simp, by omega, fun i r hr => by simp at hr, fun y hy => by cases hy⟩
  · refine ⟨_, cap, h1, h3, by unfold maxLen at h4; omega, fun i r hr => ?_, fun y hy => by cases hy; exact ⟨rfl, rfl, hb⟩⟩
    rw [List.getElem?_map] at hr
    obtain ⟨x, hx, rfl⟩ := Option.map_eq_some_iff.1 hr
    exact ⟨_, x.a, x.c, rfl, h.cells (g := gv) (by rw [h1]; rfl) i (pval x) (by rw [List.getElem?_map, hx]; rfl), (hp x (List.mem_of_getElem? hx)).kept hk (by simp)⟩
/-- What Split's loop knows. -/
structure RsI (P : Chunk.Par) (T : UInt8 → Roll.W) (ys : List UInt8) (w0 : World) (xs : List Piece) (rest : List UInt8) (a : Option Addr) (c : Nat) (ov : Value) (wr : World) : Prop where
  sl : Sl w0 a c rest
  is : spl P T ys = xs.map (·.ys) ++ spl P T rest
  ps : ∀ x ∈ xs, Sl w0 x.a x.c x.ys
  kept : Kept [] w0 wr
  row : wr.ownsRow w0.heap.size 25 1 ov xs.length (xs.map pval)
  fit : rest.length ≤ ys.length ∧ xs.length + rest.length ≤ ys.length

set_option maxRecDepth 100000 in
set_option maxHeartbeats 4000000 in
theorem rsplit_any (P : Chunk.Par) (s : Int) (hok : ParOk P) (hs0 : 0 ≤ s) (hs1 : s < 18446744073709551616) (a : Option Addr) (cap : Nat) (ys : List UInt8) (w : World) (hb : Sl w a cap ys) (hl : ys.length ≤ 100000) :
    Calls Tryd.prog 12 #[parV P.min P.max P.bits P.width s, .slice a ys.length cap] w fun e w' => ∃ av cv, e = .returned (.slice av (spl P (num s) ys).length cv) ∧ Kept [] w w' ∧ RV w' av (spl P (num s) ys) ∧ (spl P (num s) ys).length ≤ cv ∧ cv ≤ 9223372036854775807 ∧ ∀ y, av = some y → y.off = 0 ∧ y.spot = none ∧ w.heap.size ≤ y.block := by
  obtain ⟨w0, hw0⟩ : ∃ w0, w0 = w.alloc (.cells #[.int .i64 (P.min : Int), .int .i64 (P.max : Int), .int .i64 (P.bits : Int), .int .i64 (P.width : Int), .int .u64 s] 31) := ⟨_, rfl⟩
  have k0 := hid (show Kept [] w w0 from hw0 ▸ (Kept.refl _ _).alloc _)
  have hp0 := hid (show RfAt w0 w.heap.size P s by rw [hw0]; exact heap_alloc_at rfl)
  have hsl := hid (hb.kept k0.out (by simp))
  obtain ⟨i0, hi0, hz0, hz1, hz2⟩ := info_parts qinfoB
  have hfirst := hid (fun a' c' rest W (h : Sl W a' c' rest) (hh : rest.length ≤ 100000) => rfirst_any P s hok hs0 hs1 a' c' rest W h hh)
  obtain ⟨T, hT⟩ : ∃ T, T = num s := ⟨_, rfl⟩
  rw [← hT] at hfirst ⊢
  have hle := hb.le
  have hws : w0.heap.size = w.heap.size + 1 := by rw [hw0]; simp
  have hst0 : RsI P T ys w0 [] ys a cap (.slice (some ⟨w.heap.size + 1, 0, none⟩) 0 0) (w0.alloc (.cells #[] 25)) := by
    rw [← hws]
    exact ⟨hsl.out, by simp, fun x hx => by simp at hx, (Kept.refl _ _).alloc _, by simpa using World.ownsRow_made w0 (base := w0.heap.size) (e := 25) (size := 1) #[] 0 (Nat.le_refl _) (by decide) (by simp), by simp⟩
  obtain ⟨N, hN⟩ : ∃ N, N = ys.length := ⟨_, rfl⟩
  rw [← hN] at hl hle ⊢
  have HN := hid hN
  clear hb hT hN hok
  go_enter Tryd.func12, Tryd.ntmps12
  go_wp2_with fail
  rw [← hw0]
  clear hw0 hws
  go_loopw [1, 5] (fun bv ov wr => ∃ (xs : List Piece) (rest : List UInt8) (m : Nat) (a' : Option Addr) (c' : Nat), bv = .slice a' m c' ∧ m ≤ N ∧ Hid (m = rest.length) ∧ Hid (RsI P T ys w0 xs rest a' c' ov wr)) (fun bv _ _ => lenV bv)
  case atStart => exact ⟨[], ys, N, a, cap, rfl, Nat.le_refl _, HN, hid hst0⟩
  case round =>
    clear hst0
    obtain ⟨xs, rest, m, a', c', rfl, hmN, hm, hs⟩ := hrel
    obtain ⟨ov, oc, rfl⟩ := qslice hs.out.row
    have hfit := hs.out.fit
    rw [← HN.out, ← hm.out] at hfit
    by_cases hz : 0 < m
    · have hne : rest ≠ [] := fun e => by have := hm.out; rw [e] at this; simp at this; omega
      have hpr : RfAt wr w.heap.size P s := hs.out.kept.at hp0.out (by simp)
      obtain ⟨c0, c1, c2, c3, c4⟩ := hpr.cells
      obtain ⟨ad, rfl⟩ : ∃ ad, a' = some ad := by
        cases a' with
        | none => have h1 := hs.out.sl.nil rfl; have h2 := hs.out.sl.le; have := hm.out; omega
        | some ad => exact ⟨ad, rfl⟩
      have hfc := hid (hfirst.out (some ad) c' rest wr (hs.out.sl.kept hs.out.kept (by simp)) (by rw [← hm.out]; omega))
      rw [← hm.out] at hfc
      have h1 := Chunk.first_le (E := Chunk.ends P) (T := T) (k := P.width) rest
      have h2 := Chunk.first_pos (E := Chunk.ends P) (T := T) (k := P.width) rest hne
      have h3 : spl P T rest = rest.take (Chunk.first (Chunk.ends P) T P.width rest) :: spl P T (rest.drop (Chunk.first (Chunk.ends P) T P.width rest)) := Chunk.split_cons (E := Chunk.ends P) (T := T) (k := P.width) rest hne
      obtain ⟨n, hn⟩ : ∃ n, n = Chunk.first (Chunk.ends P) T P.width rest := ⟨_, rfl⟩
      rw [← hn] at hfc h1 h2 h3
      rw [← hm.out] at h1
      have hcle := hs.out.sl.le
      have hcmx := hs.out.sl.max
      rw [← hm.out] at hcle
      have H3 := hid h3
      clear hpr hn h3 hne
      go_wp2_with fail
      refine hfc.out.mono ?_
      rintro e w2 ⟨rfl, k2⟩
      have hc1 := fun W => head_cut ad m n c' (by omega) W
      obtain ⟨ad', hc2, hcad, -⟩ := slice_rest ad m c' n (by omega) hcle
      have hown := k2.owns hs.out.row (fun g hg => by simp)
      have hsz := (hs.out.kept.trans k2).size
      have K2 := hid (hs.out.kept.trans k2)
      clear k2 hfc c0 c1 c2 c3 c4
      go_wp2_with (at_builtin; refine halt ?_)
      refine Halt.mk ?_
      refine wpList_append_own _ rfl _ _ _ rfl w0.heap.size 25 i0 _ 1 24 Tryd.underlying33 hi0 hz0 hz1 hz2 rfl (by decide) (.slice ov xs.length oc) xs.length (xs.map pval) rfl (hown.alloc _) ⟨w2.heap.size, 0, none⟩ 1 1 [.slice (some ad) n c'] rfl rfl (cell_one_new _ _ _) (by simp [Value.oneCell']) (by unfold maxLen; omega) (by omega) (by simp; omega) ?_
      intro v3 w3 hown3 hgrow3 _
      have hk3 := hid (show Kept [] w0 w3 from (K2.out.alloc _).trans' (Kept.of_row hgrow3) (fun y hy hm => by simp at hm; have := (hown.lt y hm).1; omega))
      have htl : (rest.take n).length = n := by rw [List.length_take, ← hm.out]; omega
      have hdl : m - n = (rest.drop n).length := by rw [List.length_drop, ← hm.out]
      have H4 := hid (show RsI P T ys w0 (xs ++ [⟨0, some ad, c', rest.take n⟩]) (rest.drop n) (some ad') (c' - n) v3 w3 from by
        refine ⟨?_, ?_, ?_, hk3.out, ?_, ?_⟩
        · by_cases hnm : n < m
          · rw [hcad hnm]; exact hs.out.sl.drop n (by rw [← hm.out]; omega)
          · have : rest.drop n = [] := List.drop_eq_nil_of_le (by rw [← hm.out]; omega)
            rw [this]
            exact ⟨⟨fun h => rfl, fun x hx j u hj => by simp at hj⟩, by simp, by omega, fun h => by cases h⟩
        · rw [hs.out.is, H3.out]; simp
        · intro x hx
          rcases List.mem_append.1 hx with hx | hx
          · exact hs.out.ps x hx
          · rw [List.mem_singleton] at hx; subst hx; exact hs.out.sl.take n
        · simpa [pval, htl] using hown3
        · rw [List.length_append, List.length_drop, ← hm.out, ← HN.out]; simp; omega)
      obtain ⟨ov3, oc3, hv3⟩ := qslice H4.out.row
      rw [List.length_append, List.length_singleton] at hv3
      subst hv3
      replace hdl := hid hdl
      clear hown hown3 hgrow3 htl hcad hs hfit
      go_wp2_with fail
      exact ⟨⟨_, rest.drop n, m - n, some ad', c' - n, rfl, by omega, hdl, H4⟩, by show m - n < m; omega⟩
    · have hz0 : m = 0 := by omega
      have hre : rest = [] := List.eq_nil_of_length_eq_zero (by rw [← hm.out]; exact hz0)
      have his := hs.out.is
      rw [hre, spl_nil, List.append_nil] at his
      obtain ⟨av, cv, hv, h1, h2, h3, h4⟩ := rv_row hs.out.row hs.out.kept hs.out.ps
      simp at hv
      obtain ⟨rfl, rfl⟩ := hv
      have hxl : xs.length = (spl P T ys).length := by rw [his]; simp
      rw [← his] at h3
      rw [hxl] at h1 ⊢
      have H3 := hid h3; have H4 := hid h4; have Hk := hid (k0.out.trans hs.out.kept)
      have hks := k0.out.size
      clear his hxl h3 h4 hs hre
      go_wp2
      go_ret
      exact ⟨_, _, rfl, Hk.out, H3.out, h1, h2, fun y hy => by have := H4.out y hy; exact ⟨this.1, this.2.1, by omega⟩⟩
end Go.Proofs.YtllcfffpagogbaaDoor
