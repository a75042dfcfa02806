import Derived.Test.YtkabfdclecbnpaaMS
import Derived.Test.YtkabfdclecbnpaaMV
import Derived.Test.YtkabfdclecbnpaaWK
import Derived.Shelf.SlSortCmp.InsertionK
import Derived.Ground.SlsfProg
import Derived.Shelf.Lays

/- snap.Sort of few. -/
namespace Go.Proofs.Ytkabfdclecbnpaa
open Go.RowKit Go.Lib Go.Sort Go.Shelf

/-- The shelf's insertion sort, laid at snapshots. -/
def YtkabfdclecbnpaalaysF20_ren : Go.Shelf.Ren := ⟨fun | 20 => 63 | n => n, fun | 24 => 42 | 22 => 22 | 3 => 3 | 25 => 69 | 4 => 4 | 0 => 0 | n => n, fun n => n⟩
theorem YtkabfdclecbnpaalaysF20 : SlLaysF0.n20 Try.prog YtkabfdclecbnpaalaysF20_ren where
  mixed := by kernel_rfl
  f20 := ⟨ "slices.insertionSortCmpFunc[coldstore/snap.Snap]", by decide, Try.func63.trans (by kernel_rfl)⟩
  t0 := Try.underlying0
  a0 := Try.isAgg0
  z0 := Try.sizeOf0
  v0 := Try.zeroValue0
  t3 := Try.underlying3
  a3 := Try.isAgg3
  z3 := Try.sizeOf3
  v3 := Try.zeroValue3
  t4 := Try.underlying4
  a4 := Try.isAgg4
  z4 := Try.sizeOf4
  v4 := Try.zeroValue4
  t22 := Try.underlying22
  a22 := Try.isAgg22
  z22 := Try.sizeOf22
  v22 := Try.zeroValue22
  t25 := Try.underlying69
  a25 := Try.isAgg69
  z25 := Try.sizeOf69
  v25 := Try.zeroValue69

/-- A snapshot whose fields are a machine's. -/
abbrev Sq := {s : Sp // s.ok}
instance : Inhabited Sq := ⟨⟨zSp, zSp_ok⟩⟩
def encQ (x : Sq) : List Value := x.1.cells
theorem encQ_len (x : Sq) : (encQ x).length = 37 := Sp.size x.2
theorem snap_enters : ∀ args w, (callFunc 36 args).run Try.prog w = .ok (.enter 36 args) w := enters_of Try.func36 (by kernel_rfl) rfl
def cmpQ (x y : Sq) : Int := x.1.cmp y.1
theorem cmpQ_lays (blk off size : Nat) (w : World) : CmpLays Try.prog 36 #[] encQ 37 cmpQ blk off size w :=
  fun _ _ _ _ x y => (j_compare x.1 y.1 x.2 y.2 _).mono fun _ _ h => ⟨h.1, h.2⟩
theorem snap_agg : ∀ w, (isAgg 42).run Try.prog w = .ok true w := Try.isAgg42
theorem snap_cells : ∀ w, (Go.sizeOf 42).run Try.prog w = .ok 37 w := Try.sizeOf42

theorem sortWorld_kept (w : World) (blk off m : Nat) (d : Array Sq) (os : Array Obj) : Kept [blk] w (sortWorldK encQ 37 w blk off m d os) := by
  refine ⟨rfl, rfl, rfl, ?_, fun k hk hb => ?_⟩
  · show w.heap.size ≤ (((Sort.ahead w m).heap.modify blk _) ++ os).size
    simp [Sort.ahead]
  · show (((Sort.ahead w m).heap.modify blk _) ++ os)[k]? = _
    rw [Array.getElem?_append_left (by simpa [Sort.ahead] using hk), Array.getElem?_modify, if_neg (by intro e; simp at hb; exact hb e.symm)]
    rfl
theorem insertion_any (blk off cap a b : Nat) (d : Array Sq) (w : World) (hH : HoldsK encQ 37 w blk off d) (hblk : blk < w.heap.size) (hab : a ≤ b) (hb : b ≤ d.size) (hsz : d.size < 4611686018427387904) :
    Calls Try.prog 63 #[.slice (some ⟨blk, off, none⟩) d.size cap, .int .i64 a, .int .i64 b, .func (.func 36) #[] #[]] w fun e w' =>
      e = .returned (.tuple #[]) ∧ ∃ n os, w' = sortWorldK encQ 37 w blk off n (Sort.insertionSort (ltOf cmpQ) d a b) os :=
  AnyQ.insertionSortCmpFunc YtkabfdclecbnpaalaysF20 37 snap_agg snap_cells encQ encQ_len (fun x => x.1.one) cmpQ 36 #[] blk off cap a b d w snap_enters (cmpQ_lays blk off d.size w) hH hblk hab hb hsz

set_option maxRecDepth 100000 in
set_option maxHeartbeats 2000000 in
theorem stable_small (blk off cap : Nat) (d : Array Sq) (w : World) (hH : HoldsK encQ 37 w blk off d) (hblk : blk < w.heap.size) (hn : d.size < 20) :
    Calls Try.prog 46 #[.slice (some ⟨blk, off, none⟩) d.size cap, .int .i64 (d.size : Int), .func (.func 36) #[] #[]] w fun e w' =>
      e = .returned (.tuple #[]) ∧ ∃ n os, w' = sortWorldK encQ 37 w blk off n (Sort.insertionSort (ltOf cmpQ) d 0 d.size) os := by
  have hi := hid (show Calls Try.prog 63 #[.slice (some ⟨blk, off, none⟩) d.size cap, .int .i64 0, .int .i64 (d.size : Int), .func (.func 36) #[] #[]] w _ from insertion_any blk off cap 0 d.size d w hH hblk (Nat.zero_le _) (Nat.le_refl _) (by omega))
  clear hH hblk
  obtain ⟨n, hn2⟩ : ∃ n, n = d.size := ⟨_, rfl⟩
  rw [← hn2] at hn hi ⊢
  clear hn2
  have h1 : ¬ (20 : Int) ≤ (n : Int) := by omega
  have h2 : ¬ (20 : Int) < (n : Int) := by omega
  go_enter Try.func46, Try.ntmps46
  go_wp2_with fail
  go_loopw [7, 8] (fun a b wr => a = .int .i64 0 ∧ b = .int .i64 20 ∧ wr = w) (fun _ _ _ => 0)
  case atStart => exact ⟨rfl, rfl, rfl⟩
  case round =>
    obtain ⟨rfl, rfl, rfl⟩ := hrel
    go_wp2_with fail
    refine hi.out.mono ?_
    rintro e w1 ⟨rfl, q, os, hw⟩
    have HW := hid hw
    clear hw hi
    go_wp2_with fail
    go_loopw [6] (fun a wr => a = .int .i64 20 ∧ wr = w1) (fun _ _ => 0)
    case atStart => exact ⟨rfl, rfl⟩
    case round =>
      obtain ⟨rfl, rfl⟩ := hrel
      go_wp2
      go_end0
      exact ⟨rfl, q, os, HW.out⟩

theorem sortstable_small (blk off cap : Nat) (d : Array Sq) (w : World) (hH : HoldsK encQ 37 w blk off d) (hblk : blk < w.heap.size) (hn : d.size < 20) :
    Calls Try.prog 35 #[.slice (some ⟨blk, off, none⟩) d.size cap, .func (.func 36) #[] #[]] w fun e w' =>
      e = .returned (.tuple #[]) ∧ ∃ n os, w' = sortWorldK encQ 37 w blk off n (Sort.insertionSort (ltOf cmpQ) d 0 d.size) os := by
  have h := hid (stable_small blk off cap d w hH hblk hn)
  clear hH hblk
  obtain ⟨n, hn2⟩ : ∃ n, n = d.size := ⟨_, rfl⟩
  rw [← hn2] at hn h ⊢
  clear hn2
  go_enter Try.func35, Try.ntmps35
  go_wp2_with fail
  refine h.out.mono ?_
  rintro e w1 ⟨rfl, q, os, hw⟩
  have HW := hid hw
  clear hw h
  go_wp2
  go_end0
  exact ⟨rfl, q, os, HW.out⟩

/-- A row of snapshots. -/
structure Snaps (w : World) (a : Option Addr) (c : Nat) (xs : List Sq) : Prop where
  le : xs.length ≤ c
  max : c ≤ 9223372036854775807
  nil : a = none → xs = [] ∧ c = 0
  at_ : ∀ x, a = some x → ∀ i s, xs[i]? = some s → ∀ j v, (encQ s)[j]? = some v → w.cell? (x.add (i * 37 + j)) = some v
theorem Snaps.src {w : World} {a : Option Addr} {c : Nat} {xs : List Sq} (h : Snaps w a c xs) : Src w (.slice a xs.length c) xs.length (xs.flatMap encQ) := by
  cases a with
  | none => obtain ⟨h1, h2⟩ := h.nil rfl; subst h1; subst h2; exact Or.inl ⟨rfl, rfl, rfl⟩
  | some x =>
    refine Or.inr ⟨x, c, rfl, fun j u hj => ?_⟩
    have hl : j < xs.length * 37 := by rw [← flat_len encQ 37 encQ_len xs]; exact (List.getElem?_eq_some_iff.1 hj).1
    have hi : j / 37 < xs.length := by omega
    have e : j = j / 37 * 37 + j % 37 := by omega
    have hx : xs[j / 37]? = some xs[j / 37] := List.getElem?_eq_getElem hi
    rw [e] at hj ⊢
    rw [flat_get encQ 37 encQ_len xs _ _ _ hx (Nat.mod_lt _ (by decide))] at hj
    exact h.at_ x rfl _ _ hx _ _ hj
theorem snap_zero : (Try.prog.info? 42).map (fun i => (i.zero, i.size, i.bytes)) = some (some (.agg zSnap.toArray), 37, 88) := by kernel_rfl
theorem encs_one (xs : List Sq) : ∀ u ∈ xs.flatMap encQ, u.oneCell' = true := by
  intro u hu
  obtain ⟨s, _, hs⟩ := List.mem_flatMap.1 hu
  exact s.1.one u hs

theorem snaps_nil (W : World) : (binOp .eql 22 (.slice none 0 0) (.slice none 0 0)).run Try.prog W = .ok (.bool true) W := by kernel_rfl
theorem snaps_nnil (x : Addr) (n c : Nat) (W : World) : (binOp .eql 22 (.slice (some x) n c) (.slice none 0 0)).run Try.prog W = .ok (.bool false) W := by kernel_rfl
end Go.Proofs.Ytkabfdclecbnpaa
