import Derived.Test.YtmfjfahlgcdehaaDoorJ8
import Derived.Test.YtmfjfahlgcdehaaDoorJ6
import Derived.Test.YtmfjfahlgcdehaaDoorWK
import Derived.Shelf.SlSortCmp.InsertionK
import Derived.Ground.SlsfProg
import Derived.Shelf.Lays

/- snap.Sort of few. -/
namespace Go.Proofs.YtmfjfahlgcdehaaDoor
open Go.RowKit Go.Lib Go.Sort Go.Shelf

/-- The shelf's insertion sort, laid at snapshots. -/
def YtmfjfahlgcdehaaDoorlaysF20_ren : Go.Shelf.Ren := ⟨fun | 20 => 96 | n => n, fun | 24 => 28 | 22 => 22 | 3 => 3 | 25 => 78 | 4 => 4 | 0 => 0 | n => n, fun n => n⟩
theorem YtmfjfahlgcdehaaDoorlaysF20 : SlLaysF0.n20 Tryd.prog YtmfjfahlgcdehaaDoorlaysF20_ren where
  mixed := by kernel_rfl
  f20 := ⟨ "slices.insertionSortCmpFunc[coldstore/snap.Snap]", by decide, Tryd.func96.trans (by kernel_rfl)⟩
  t0 := Tryd.underlying0
  a0 := Tryd.isAgg0
  z0 := Tryd.sizeOf0
  v0 := Tryd.zeroValue0
  t3 := Tryd.underlying3
  a3 := Tryd.isAgg3
  z3 := Tryd.sizeOf3
  v3 := Tryd.zeroValue3
  t4 := Tryd.underlying4
  a4 := Tryd.isAgg4
  z4 := Tryd.sizeOf4
  v4 := Tryd.zeroValue4
  t22 := Tryd.underlying22
  a22 := Tryd.isAgg22
  z22 := Tryd.sizeOf22
  v22 := Tryd.zeroValue22
  t25 := Tryd.underlying78
  a25 := Tryd.isAgg78
  z25 := Tryd.sizeOf78
  v25 := Tryd.zeroValue78

/-- A snapshot whose fields are a machine's. -/
abbrev Sq := {s : Sp // s.ok}
instance : Inhabited Sq := ⟨⟨zSp, zSp_ok⟩⟩
def encQ (x : Sq) : List Value := x.1.cells
theorem encQ_len (x : Sq) : (encQ x).length = 37 := Sp.size x.2
theorem snap_enters : ∀ args w, (callFunc 38 args).run Tryd.prog w = .ok (.enter 38 args) w := enters_of Tryd.func38 (by kernel_rfl) rfl
def cmpQ (x y : Sq) : Int := x.1.cmp y.1
theorem cmpQ_lays (blk off size : Nat) (w : World) : CmpLays Tryd.prog 38 #[] encQ 37 cmpQ blk off size w :=
  fun _ _ _ _ x y => (j_compare x.1 y.1 x.2 y.2 _).mono fun _ _ h => ⟨h.1, h.2⟩
theorem snap_agg : ∀ w, (isAgg 28).run Tryd.prog w = .ok true w := Tryd.isAgg28
theorem snap_cells : ∀ w, (Go.sizeOf 28).run Tryd.prog w = .ok 37 w := Tryd.sizeOf28

theorem sortWorld_kept (w : World) (blk off m : Nat) (d : Array Sq) (os : Array Obj) : Kept [blk] w (sortWorldK encQ 37 w blk off m d os) := by
  refine ⟨rfl, rfl, rfl, ?_, fun k hk hb => ?_⟩
  · show w.heap.size ≤ (((Sort.ahead w m).heap.modify blk _) ++ os).size
    simp [Sort.ahead]
  · show (((Sort.ahead w m).heap.modify blk _) ++ os)[k]? = _
    rw [Array.getElem?_append_left (by simpa [Sort.ahead] using hk), Array.getElem?_modify, if_neg (by intro e; simp at hb; exact hb e.symm)]
    rfl
theorem insertion_any (blk off cap a b : Nat) (d : Array Sq) (w : World) (hH : HoldsK encQ 37 w blk off d) (hblk : blk < w.heap.size) (hab : a ≤ b) (hb : b ≤ d.size) (hsz : d.size < 4611686018427387904) :
    Calls Tryd.prog 96 #[.slice (some ⟨blk, off, none⟩) d.size cap, .int .i64 a, .int .i64 b, .func (.func 38) #[] #[]] w fun e w' =>
      e = .returned (.tuple #[]) ∧ ∃ n os, w' = sortWorldK encQ 37 w blk off n (Sort.insertionSort (ltOf cmpQ) d a b) os :=
  AnyQ.insertionSortCmpFunc YtmfjfahlgcdehaaDoorlaysF20 37 snap_agg snap_cells encQ encQ_len (fun x => x.1.one) cmpQ 38 #[] blk off cap a b d w snap_enters (cmpQ_lays blk off d.size w) hH hblk hab hb hsz

set_option maxRecDepth 100000 in
set_option maxHeartbeats 2000000 in
theorem stable_small (blk off cap : Nat) (d : Array Sq) (w : World) (hH : HoldsK encQ 37 w blk off d) (hblk : blk < w.heap.size) (hn : d.size < 20) :
    Calls Tryd.prog 66 #[.slice (some ⟨blk, off, none⟩) d.size cap, .int .i64 (d.size : Int), .func (.func 38) #[] #[]] w fun e w' =>
      e = .returned (.tuple #[]) ∧ ∃ n os, w' = sortWorldK encQ 37 w blk off n (Sort.insertionSort (ltOf cmpQ) d 0 d.size) os := by
  have hi := hid (show Calls Tryd.prog 96 #[.slice (some ⟨blk, off, none⟩) d.size cap, .int .i64 0, .int .i64 (d.size : Int), .func (.func 38) #[] #[]] w _ from insertion_any blk off cap 0 d.size d w hH hblk (Nat.zero_le _) (Nat.le_refl _) (by omega))
  clear hH hblk
  obtain ⟨n, hn2⟩ : ∃ n, n = d.size := ⟨_, rfl⟩
  rw [← hn2] at hn hi ⊢
  clear hn2
  have h1 : ¬ (20 : Int) ≤ (n : Int) := by omega
  have h2 : ¬ (20 : Int) < (n : Int) := by omega
  go_enter Tryd.func66, Tryd.ntmps66
  go_wp2_with fail
  go_loopw [7, 8] (fun a b wr => a = .int .i64 0 ∧ b = .int .i64 20 ∧ wr = w) (fun _ _ _ => 0)
  case atStart => exact ⟨rfl, rfl, rfl⟩
  case round =>
    obtain ⟨rfl, rfl, rfl⟩ := hrel
    go_wp2_with fail
    refine hi.out.mono ?_
    rintro e w1 ⟨rfl, q, os, hw⟩
    have HW := hid hw
    clear hw hi
    go_wp2_with fail
    go_loopw [6] (fun a wr => a = .int .i64 20 ∧ wr = w1) (fun _ _ => 0)
    case atStart => exact ⟨rfl, rfl⟩
    case round =>
      obtain ⟨rfl, rfl⟩ := hrel
      go_wp2
      go_end0
      exact ⟨rfl, q, os, HW.out⟩

theorem sortstable_small (blk off cap : Nat) (d : Array Sq) (w : World) (hH : HoldsK encQ 37 w blk off d) (hblk : blk < w.heap.size) (hn : d.size < 20) :
    Calls Tryd.prog 37 #[.slice (some ⟨blk, off, none⟩) d.size cap, .func (.func 38) #[] #[]] w fun e w' =>
      e = .returned (.tuple #[]) ∧ ∃ n os, w' = sortWorldK encQ 37 w blk off n (Sort.insertionSort (ltOf cmpQ) d 0 d.size) os := by
  have h := hid (stable_small blk off cap d w hH hblk hn)
  clear hH hblk
  obtain ⟨n, hn2⟩ : ∃ n, n = d.size := ⟨_, rfl⟩
  rw [← hn2] at hn h ⊢
  clear hn2
  go_enter Tryd.func37, Tryd.ntmps37
  go_wp2_with fail
  refine h.out.mono ?_
  rintro e w1 ⟨rfl, q, os, hw⟩
  have HW := hid hw
  clear hw h
  go_wp2
  go_end0
  exact ⟨rfl, q, os, HW.out⟩

/-- A row of snapshots. -/
structure Snaps (w : World) (a : Option Addr) (c : Nat) (xs : List Sq) : Prop where
  le : xs.length ≤ c
  max : c ≤ 9223372036854775807
  nil : a = none → xs = [] ∧ c = 0
  at_ : ∀ x, a = some x → ∀ i s, xs[i]? = some s → ∀ j v, (encQ s)[j]? = some v → w.cell? (x.add (i * 37 + j)) = some v
theorem Snaps.src {w : World} {a : Option Addr} {c : Nat} {xs : List Sq} (h : Snaps w a c xs) : Src w (.slice a xs.length c) xs.length (xs.flatMap encQ) := by
  cases a with
  | none => obtain ⟨h1, h2⟩ := h.nil rfl; subst h1; subst h2; exact Or.inl ⟨rfl, rfl, rfl⟩
  | some x =>
    refine Or.inr ⟨x, c, rfl, fun j u hj => ?_⟩
    have hl : j < xs.length * 37 := by rw [← flat_len encQ 37 encQ_len xs]; exact (List.getElem?_eq_some_iff.1 hj).1
    have hi : j / 37 < xs.length := by omega
    have e : j = j / 37 * 37 + j % 37 := by omega
    have hx : xs[j / 37]? = some xs[j / 37] := List.getElem?_eq_getElem hi
    rw [e] at hj ⊢
    rw [flat_get encQ 37 encQ_len xs _ _ _ hx (Nat.mod_lt _ (by decide))] at hj
    exact h.at_ x rfl _ _ hx _ _ hj
theorem snap_zero : (Tryd.prog.info? 28).map (fun i => (i.zero, i.size, i.bytes)) = some (some (.agg zSnap.toArray), 37, 88) := by kernel_rfl
theorem encs_one (xs : List Sq) : ∀ u ∈ xs.flatMap encQ, u.oneCell' = true := by
  intro u hu
  obtain ⟨s, _, hs⟩ := List.mem_flatMap.1 hu
  exact s.1.one u hs

theorem snaps_nil (W : World) : (binOp .eql 22 (.slice none 0 0) (.slice none 0 0)).run Tryd.prog W = .ok (.bool true) W := by kernel_rfl
theorem snaps_nnil (x : Addr) (n c : Nat) (W : World) : (binOp .eql 22 (.slice (some x) n c) (.slice none 0 0)).run Tryd.prog W = .ok (.bool false) W := by kernel_rfl
set_option maxRecDepth 100000 in
theorem clone_snaps (a : Option Addr) (c : Nat) (xs : List Sq) (w : World) (h : Snaps w a c xs) (hl : xs.length ≤ 1000000) :
    Calls Tryd.prog 36 #[.slice a xs.length c] w fun e w' => ∃ v, e = .returned v ∧ Kept [] w w' ∧ w'.ownsRow w.heap.size 28 37 v xs.length (xs.flatMap encQ) := by
  obtain ⟨i0, hi0, hz0, hz1, hz2⟩ := info_parts snap_zero
  have hsrc := h.src
  cases a with
  | none =>
    obtain ⟨h1, h2⟩ := h.nil rfl
    subst h1; subst h2
    clear h hsrc
    go_enter Tryd.func36, Tryd.ntmps36
    have hnn := snaps_nil
    go_wp2
    go_ret
    exact ⟨_, rfl, Kept.refl _ _, World.ownsRow_nil _ _ _ _⟩
  | some x =>
    have Hs := hid hsrc
    have hone := hid (encs_one xs); have hfl := hid (flat_len encQ 37 encQ_len xs)
    clear h hsrc
    generalize xs.flatMap encQ = news at *
    generalize xs.length = m at *
    go_enter Tryd.func36, Tryd.ntmps36
    have hnn := snaps_nnil x m c
    go_wp2_with (at_builtin; refine halt ?_)
    refine Halt.mk ?_
    refine wpList_append_k _ rfl _ _ _ rfl w.heap.size 28 i0 _ 37 88 Tryd.underlying22 hi0 hz0 hz1 hz2 (by rw [Value.cells, List.size_toArray, zSnap_len]) (by decide) (.slice (some ⟨w.heap.size, 0, none⟩) 0 0) 0 [] rfl ⟨by simp, Or.inr ⟨w.heap.size, 0, #[], rfl, Nat.le_refl _, heap_alloc_at rfl, by simp, by unfold maxLen; omega, by simp, by simp⟩⟩ (.slice (some x) m c) m news rfl ?_ hfl.out hone.out (by unfold maxLen; omega) (by omega) (by simp) ?_
    · rcases Hs.out with ⟨h, _⟩ | ⟨ad, c', h, hr⟩
      · simp at h
      · refine Or.inr ⟨ad, c', h, fun j u hj => ?_⟩
        have hc := hr j u hj
        exact (((Kept.refl [] w).alloc _).cell (World.block_lt_of_cell? w _ hc) (by simp)).trans hc
    intro v2 w2 hown2 hgrow2 _ hf2
    simp only [Nat.zero_add, List.nil_append] at hown2
    have hk2 := hid (show Kept [] w w2 from ((Kept.refl [] w).alloc _).trans' (Kept.of_row hgrow2) (fun x hx hm => by simp [Value.ownBlock] at hm; omega))
    obtain ⟨a2, c2, rfl⟩ := owns_slice hown2
    have Ho := hid hown2
    clear hown2 hgrow2 hf2 hnn
    go_wp2
    go_ret
    exact ⟨_, rfl, hk2.out, Ho.out⟩
end Go.Proofs.YtmfjfahlgcdehaaDoor
