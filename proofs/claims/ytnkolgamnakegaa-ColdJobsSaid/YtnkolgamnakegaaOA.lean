
/- object: names, List. -/
import Derived.Test.YtnkolgamnakegaaO9
import Derived.Sort.OwnSorted
import Derived.Laws.IdiomRangeMap
namespace Go.Proofs.Ytnkolgamnakegaa
open Go.RowKit Go.Lib Go.Maps Go.Sort

theorem info_str : (Try.prog.info? 9).map (fun i => (i.zero, i.size, i.bytes)) = some (some (.string ⟨#[]⟩), 1, 16) := by kernel_rfl
/-- The names that begin so. -/
def namesL (es : List Ent) (pre : List UInt8) : List (List UInt8) := (es.map (·.name)).filter (fun x => Lib.hasPrefix x pre)
theorem S_data (l : List UInt8) : (S l).data.toList = l := rfl
theorem encS (l : List UInt8) : encStr l = .string (S l) := rfl
theorem sub_len (ss : List (List UInt8)) (p : List UInt8 → Bool) : (ss.filter p).length ≤ ss.length := List.length_filter_le _ _
/-- What is left to come, what has come. -/
def NmI (w : World) (b r : Nat) (es : List Ent) (pre : List UInt8) (v : Value) (wr : World) : Prop :=
  ∃ left cnt ss, wr.ranges Try.prog 9 heldR b r es.length (DM es) left cnt ∧ Collected (DM es) left ss ∧ ss.length + cnt ≤ es.length ∧ Kept [] w wr ∧
    wr.ownsRow w.heap.size 9 1 v (ss.filter (fun x => Lib.hasPrefix x pre)).length ((ss.filter (fun x => Lib.hasPrefix x pre)).map encStr)

set_option maxRecDepth 100000 in
set_option maxHeartbeats 4000000 in
theorem ob_names (w : World) (U : List Nat) (p T : Nat) (more : List Value) (q : Int) (es : List Ent) (fv : Value) (fl : List Bool) (k : Nat) (h : Ob w U p T more q es fv fl k) (pre : List UInt8) :
    Calls Try.prog 66 #[.pointer (some ⟨p, 0, none⟩), .string (S pre)] w fun e w' => ∃ v, e = .returned v ∧ Kept [] w w' ∧ w'.ownsRow w.heap.size 9 1 v (namesL es pre).length ((namesL es pre).map encStr) := by
  obtain ⟨i0, hi0, hz0, hz1, hz2⟩ := info_split info_str
  have hris := hid h.rising
  obtain ⟨⟨mv, flv, R, hR, hrow, hmp, hmpp, hfl, hth⟩, hp, hb, hq, hs⟩ := h
  obtain ⟨_, g1, _⟩ := st_cells hrow
  have HS := hid hs.2.1
  rcases hmp with ⟨rfl, rfl⟩ | ⟨b, rfl, hbU, hown⟩
  · have hrg := run_range_nilMap (P := Try.prog) w 57 9 36 Try.underlying57
    have hnx := fun ty => run_next_nilMap (P := Try.prog) w ty 0 0 #[]
    have hk := hid (show Kept [] w (w.alloc (.mapIter none 0 #[] 0)) from (Kept.refl [] w).alloc _)
    have hso := hid (fun W => Try.slices_Sort_string_none none 0 W)
    clear hrow hR hmpp hp hb hq hs hth hfl
    go_enter Try.func66, Try.ntmps66
    go_wp2_with fail
    go_loopw [5] (fun v wr => v = .slice none 0 0 ∧ w.alloc (.mapIter none 0 #[] 0) = wr) (fun _ _ => 0)
    case atStart => exact ⟨rfl, rfl⟩
    case round =>
      obtain ⟨rfl, rfl⟩ := hrel
      go_wp2_with fail
      refine (hso.out _).mono ?_
      rintro e w1 ⟨rfl, rfl⟩
      go_wp2
      go_ret
      exact ⟨_, rfl, hk.out, ⟨rfl, Or.inl ⟨rfl, rfl⟩⟩⟩
  · obtain ⟨w1, hrg, hra, hgr, hsz⟩ := hown.range str_law Try.underlying57
    have hI0 := hid (show NmI w b w.heap.size es pre (.slice none 0 0) w1 from ⟨_, _, [], hra, Collected.start _, by rw [DM_size]; simp, Kept.of_grown hgr (by simp), by simp, Or.inl ⟨rfl, rfl⟩⟩)
    have hown0 := hid hown
    have hbl0 := hid (hown.lt)
    have HW1 := hid hsz
    clear hrow hR hmpp hp hb hq hs hth hfl hra hgr hsz hown
    go_enter Try.func66, Try.ntmps66
    go_wp2_with fail
    go_loopw [5] (fun v wr => Hid (NmI w b w.heap.size es pre v wr)) (fun _ wr => wr.rangeLeft b w.heap.size)
    case atStart => exact hI0
    case round =>
      clear hI0
      obtain ⟨left, cnt, ss, hra, hcol, hcnt, hk, hrow⟩ := hrel.out
      obtain ⟨av, cv, hav⟩ := owns_slice hrow
      rw [hav] at hrow ⊢
      have hmeas := hid hra.left_eq
      have hne := hid hra.ne; have hrl := hid hra.lt
      have hK := hid hk; have HROW := hid hrow; have HCOL := hid hcol; have HCNT := hid hcnt
      rcases hra.next str_law 0 with ⟨rfl, hl0, hrun⟩ | ⟨key, v1, kl, y, w2, cnt', hkey, hlk, hv, hat, hrun, hra2, hlt, hgr2, hsz2, hen⟩
      · have hperm := hid (hcol.perm hown0.out str_law Try.underlying9 hl0)
        have hL := hid (show (ss.filter (fun x => Lib.hasPrefix x pre)).mergeSort (fun x y => decide (x ≤ y)) = namesL es pre from by
          have h1 := hperm.out
          rw [DM_keys] at h1
          exact sorted_names hris.out _ h1)
        have hssl : ss.length ≤ es.length := by omega
        have hfl := hid (sub_len ss (fun x => Lib.hasPrefix x pre))
        have hsl := hid hssl
        obtain ⟨L, hLL⟩ : ∃ L, L = ss.filter (fun x => Lib.hasPrefix x pre) := ⟨_, rfl⟩
        rw [← hLL] at HROW hL hfl ⊢
        clear hLL hra hcol hcnt hk hrow hl0 hrel hssl
        rcases HROW.out.2 with ⟨hnil, hn0⟩ | ⟨g, cap, cur, hve, hbase, hbk, h1, h2, h3, h4⟩
        · simp at hnil
          obtain ⟨rfl, h00, rfl⟩ := hnil
          have hL0 : L = [] := List.eq_nil_of_length_eq_zero hn0
          subst hL0
          have hso := hid (Try.slices_Sort_string_none none 0 wr)
          have hLn := hid (show namesL es pre = [] from by rw [← hL.out]; simp)
          clear hn0 h00
          have hrun' := hrun
          go_wp2_with fail
          refine hso.out.mono ?_
          rintro e w1 ⟨rfl, rfl⟩
          go_wp2
          go_ret
          exact ⟨_, rfl, hK.out, by rw [hLn.out]; exact ⟨rfl, Or.inl ⟨rfl, rfl⟩⟩⟩
        · simp at hve
          obtain ⟨rfl, rfl⟩ := hve
          have hso := hid (Try.slices_Sort_string g 0 cv L wr (holds_of_block hbk (by simpa using h4)) (lt_of_block hbk) (by have := HS.out; have := hfl.out; have := hsl.out; omega))
          rw [hL.out] at hso
          have hnl := hid (show (namesL es pre).length = L.length from by rw [← hL.out]; simp)
          have hpost := hid (fun n os => ownsRow_sorted (os := os) (n := n) (ts := namesL es pre) hnl.out hbase hbk h1 h2 h3)
          have hgw := hid (fun n os => grownBy_sorted (w := wr) (g := g) (n := n) (os := os) (namesL es pre).toArray)
          have hbs := hid hbase
          obtain ⟨ln, hln⟩ : ∃ ln, ln = L.length := ⟨_, rfl⟩
          rw [← hln] at hso hpost hnl ⊢
          clear hbase hbk h1 h2 h3 h4 hln
          go_wp2_with fail
          refine hso.out.mono ?_
          rintro e w3 ⟨rfl, nn, os, hw3⟩
          have hp3 := hid (hpost.out nn os)
          have hk3 := hid (show Kept [] w w3 from hK.out.trans' (Kept.of_row (hw3 ▸ hgw.out nn os)) (fun x hx hm => by simp at hm; have := hbs.out; omega))
          rw [← hw3] at hp3
          clear hw3 hpost hgw hso
          go_wp2
          go_ret
          exact ⟨_, rfl, hk3.out, by rw [hnl.out]; exact hp3.out⟩
      · obtain ⟨x, rfl, rfl, hxl⟩ := Maps.keyOf_str Try.underlying9 hkey
        have k2 := hid (show Kept [w.heap.size] wr w2 from Kept.of_grown hgr2 (fun k hk _ => by simp at hk; simp [hk]))
        have hrow2 := hid (k2.out.owns hrow (fun g hg hm => by
          have h1 := row_ne_iter hrow hra
          simp at hm; subst hm; exact h1 hg.symm))
        have hcol2 := hid (hcol.step hlk hat)
        have hnew := hid (show w.heap.size ≤ wr.heap.size from hK.out.size)
        have hKw := hid (show Kept [] w w2 from hK.out.trans' k2.out (fun z hz hm => by simp at hm; omega))
        have hpf := hid ((Try.strings_HasPrefix (S x) (S pre) w2).mono (R' := fun e w' => e = .returned (.bool (Lib.hasPrefix x pre)) ∧ w2 = w') fun e w' h => ⟨h.1, h.2.symm⟩)
        have hra2' := hid hra2
        have hlt' := hid hlt
        rw [encS] at hrun hen
        have hm2 := hid hra2.left_eq
        clear hkey hlk hv hat hra hra2 hlt hgr2 hk hrow hcol hrel hK hxl hsz2
        go_wp2_with fail
        refine hpf.out.mono ?_
        rintro e w3 ⟨rfl, rfl⟩
        cases hpp : Lib.hasPrefix x pre
        · have hI := hid (show NmI w b w.heap.size es pre (.slice av (ss.filter (fun x => Lib.hasPrefix x pre)).length cv) w2 from ⟨_, cnt', ss ++ [x], hra2'.out, hcol2.out, by have := hlt'.out; have := HCNT.out; simp; omega, hKw.out, by rw [List.filter_append]; simpa [hpp] using hrow2.out⟩)
          have hms := hid (show w2.rangeLeft b w.heap.size < wr.rangeLeft b w.heap.size from by rw [hm2.out, hmeas.out]; exact hlt'.out)
          clear hpp hrun hen
          go_wp2
          go_roundw
          case rel => exact hI
          case measure => exact hms.out
        · obtain ⟨L, hLL⟩ : ∃ L, L = ss.filter (fun x => Lib.hasPrefix x pre) := ⟨_, rfl⟩
          have hfl := hid (sub_len ss (fun x => Lib.hasPrefix x pre))
          rw [← hLL] at hrow2 hfl ⊢
          have hL2 := hid (show (ss ++ [x]).filter (fun x => Lib.hasPrefix x pre) = L ++ [x] from by rw [List.filter_append, hLL]; simp [hpp])
          have hkal := hid (show Kept [] w2 (w2.alloc (.cells #[.string (S x)] 9)) from (Kept.refl [] w2).alloc _)
          clear hpp hLL hrun hen
          have hsln := hid (show L.length ≤ 4096 from by have := HCNT.out; have := hfl.out; have := HS.out; omega)
          have hrow3 := hid (hkal.out.owns hrow2.out (by simp))
          go_wp2_with (at_builtin; refine halt ?_)
          refine Halt.mk ?_
          have hbl := hsln.out
          refine wpList_append_src _ rfl _ _ _ rfl w.heap.size 9 i0 _ 16 Try.underlying44 hi0 hz0 hz1 hz2 rfl (.slice av L.length cv) L.length (L.map encStr) rfl hrow3.out (.slice (some ⟨w2.heap.size, 0, none⟩) 1 1) 1 [.string (S x)] rfl (Or.inr ⟨_, _, rfl, cell_one_new _ _ _⟩) rfl (by simp [Value.oneCell']) ?_ ?_ ?_ ?_
          · unfold maxLen; omega
          · omega
          · have := hkal.out.size; have := hKw.out.size; omega
          intro v4 w4 hown4 hgr4 _ hf4
          obtain ⟨a4, c4, rfl⟩ := owns_slice hown4
          have kg := hid (Kept.of_row hgr4)
          have hrb := hid (row_ne_iter hrow3.out (hra2'.out.alloc _))
          have hown4' := hid (show w4.ownsRow w.heap.size 9 1 (.slice a4 (L.length + 1) c4) (L ++ [x]).length ((L ++ [x]).map encStr) from by simpa [encS] using hown4)
          have hlow := hid (show ∀ g, (Value.slice av L.length cv).ownBlock = some g → w.heap.size ≤ g ∧ g ≠ w.heap.size from fun g hg => ⟨(hrow3.out.lt g hg).1, fun e => hrb.out (by rw [hg, e])⟩)
          have hra4 := hid (show w4.ranges Try.prog 9 heldR b w.heap.size es.length (DM es) _ cnt' from (hra2'.out.alloc _).kept hgr4 (by intro e; have := (hlow.out b e.symm).1; have := hbl0.out; omega) (by intro e; exact (hlow.out _ e.symm).2 rfl))
          have hI := hid (show NmI w b w.heap.size es pre (.slice a4 (L.length + 1) c4) w4 from ⟨_, cnt', ss ++ [x], hra4.out, hcol2.out, by have := hlt'.out; have := HCNT.out; simp; omega, (hKw.out.trans hkal.out).trans' kg.out (fun z hz hm => by simp at hm; have := (hlow.out z hm).1; omega), by rw [hL2.out]; exact hown4'.out⟩)
          have hms := hid (show w4.rangeLeft b w.heap.size < wr.rangeLeft b w.heap.size from by rw [hra4.out.left_eq, hmeas.out]; exact hlt'.out)
          clear hown4 hgr4 hf4
          go_wp2
          go_roundw
          case rel => exact hI
          case measure => exact hms.out
end Go.Proofs.Ytnkolgamnakegaa
