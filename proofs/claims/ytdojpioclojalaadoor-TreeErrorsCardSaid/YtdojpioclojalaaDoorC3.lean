import Derived.Test.YtdojpioclojalaaDoorC2

/- code.Decode. -/
namespace Go.Proofs.YtdojpioclojalaaDoor
open Go.RowKit Go.Lib

theorem enters_decode1 : Enters 58 := fun args w => by simp [go_sem]
theorem func3_neq_nil (fn : Fn) (a b : Array Value) (w : World) : (binOp .neq 76 (.func fn a b) .nilFunc).run Tryd.prog w = .ok (.bool true) w := by kernel_rfl

theorem decode1_any (k : Nat) (hk : Enters k) (caps : Array Value) (b rv rb : Nat) (w : World) (hb : w.heap[b]? = some (.cells #[.func (.func k) #[] caps] 76 (0, 0))) (hr : w.heap[rv]? = some (.cells #[.pointer (some ⟨rb, 0, none⟩)] 73 (0, 0)))
    (R : Int → World → Prop) (h : Calls Tryd.prog k (#[.pointer (some ⟨rb, 0, none⟩)] ++ caps) w (Threw R)) :
    Calls Tryd.prog 58 #[.pointer (some ⟨b, 0, none⟩), .pointer (some ⟨rv, 0, none⟩)] w (Threw R) := by
  have gb := cell_of_one hb
  have gr := cell_of_one hr
  have H := hid h
  have hne := func3_neq_nil
  clear h hb hr
  unfold Enters at hk
  go_enter Tryd.func58, Tryd.ntmps58
  go_wp2_with fail
  refine H.out.mono ?_
  rintro e w1 (⟨rfl, hR⟩ | ⟨n, ⟨older, rfl, hcalm⟩, hR⟩)
  · go_wp2
    go_end0
    exact Or.inl ⟨rfl, hR⟩
  · exact ⟨rfl, Or.inr ⟨n, ⟨older, rfl, hcalm⟩, hR⟩⟩

/-- Bytes of which a reading is made: its error, or else ErrMore, where bytes are left. -/
def Decoded (w : World) (S : List Nat) (Q : Int → List UInt8 → World → Prop) (e : Ending) (w' : World) : Prop :=
  ∃ n rest, e = .returned (.int .i64 (if n = 0 ∧ rest ≠ [] then 22 else n)) ∧ Kept S w w' ∧ Q n rest w'

/-- What a reading does to its reader, in block rb: it has rest left. -/
def ReadOn (rb : Nat) (a : Option Addr) (S : List Nat) (W : World) (Q : Int → List UInt8 → World → Prop) (n : Int) (W' : World) : Prop :=
  ∃ a' c' rest, Rd W' rb a' c' rest ∧ Kept (rb :: S) W W' ∧ (∀ x, a' = some x → ∃ y, a = some y ∧ x.block = y.block) ∧ Q n rest W'

theorem Rd.of_row {W : World} {rb base : Nat} {a : Option Addr} {c : Nat} {bs : List UInt8} (hr : W.heap[rb]? = some (.cells #[.slice a bs.length c] 101 (0, 0)))
    (ho : W.ownsRow base 5 1 (.slice a bs.length c) bs.length (bs.map B)) (hne : ∀ x, a = some x → x.block ≠ rb) : Rd W rb a c bs := by
  rcases ho.2 with ⟨h1, h2⟩ | ⟨g, cap, cur, hv, hg, hh, hc, hm, hs, ht⟩
  · simp at h1
    obtain ⟨rfl, h1, rfl⟩ := h1
    exact ⟨hr, by omega, by unfold maxLen; omega, fun _ => rfl, fun x hx => by simp at hx, fun x hx => by simp at hx⟩
  · simp at hv
    obtain ⟨rfl, rfl⟩ := hv
    refine ⟨hr, hc, hm, fun h => by simp at h, fun x hx => ⟨hne x hx, fun j b hj => ?_⟩, fun x hx => by simp at hx; subst hx; rfl⟩
    simp at hx
    subst hx
    exact ho.cells (g := g) rfl j (B b) (by simp [hj])

theorem row_block {W : World} {base : Nat} {a : Option Addr} {c n : Nat} {xs : List Value} (ho : W.ownsRow base 5 1 (.slice a n c) n xs) : ∀ x, a = some x → base ≤ x.block ∧ x.block < W.heap.size := by
  intro x hx
  rcases ho.2 with ⟨h1, h2⟩ | ⟨g, cap, cur, hv, hg, hh, _⟩
  · simp at h1; obtain ⟨rfl, _⟩ := h1; simp at hx
  · simp at hv; obtain ⟨rfl, rfl⟩ := hv; simp at hx; subst hx; exact ⟨hg, lt_of_block hh⟩

/-- Block x is a cell of an error. -/
def ErrAt (W : World) (x : Nat) : Prop := ∃ n : Int, W.heap[x]? = some (.cells #[.int .i64 n] 27 (0, 0))

set_option maxRecDepth 100000 in
set_option maxHeartbeats 1000000 in
theorem decode_any' (k : Nat) (hk : Enters k) (caps : Array Value) (sv : Value) (bs : List UInt8) (w : World) (hsrc : SrcB w sv bs) (hlen : bs.length ≤ 1000000000) (S : List Nat) (hS : ∀ x ∈ S, x < w.heap.size)
    (Q : Int → List UInt8 → World → Prop) (hQ : ∀ n rest W W' x, Q n rest W → w.heap.size ≤ x → ErrAt W x → Kept [x] W W' → Q n rest W')
    (h : ∀ rb a c W, Kept [] w W → w.heap.size ≤ rb → (∀ x, a = some x → w.heap.size ≤ x.block ∧ x.block < W.heap.size) → Rd W rb a c bs → Calls Tryd.prog k (#[.pointer (some ⟨rb, 0, none⟩)] ++ caps) W (Threw (ReadOn rb a S W Q))) :
    Calls Tryd.prog 31 #[sv, .func (.func k) #[] caps] w (Decoded w S Q) := by
  have hmf : ∀ (fn : Fn) (first cap : Array Value) (w : World), (Instr.makeFunc fn first cap).run Tryd.prog w = .ok (.func fn first cap) w := fun _ _ _ _ => rfl
  obtain ⟨i0, hi0, hz0, hz1, hz2⟩ := info_parts info_u8
  have Hs := hid hsrc; have HS := hid hS; have HQ := hid hQ; have H := hid h
  have hsrc1 := hid (hsrc.kept ((Kept.refl [] w).alloc (.cells #[.func (.func k) #[] caps] 76)) (by simp))
  clear hsrc hS hQ h
  go_enter Tryd.func31, Tryd.ntmps31
  go_wp2_with (at_builtin; refine halt ?_)
  refine Halt.mk ?_
  refine wpList_append_src _ rfl _ _ _ rfl (w.heap.size + 1) 5 i0 _ 1 Tryd.underlying23 hi0 hz0 hz1 hz2 rfl (.slice none 0 0) 0 [] rfl (World.ownsRow_nil _ _ _ 1) sv bs.length (bs.map B) rfl hsrc1.out (by simp) (B_oneCell bs) ?_ ?_ ?_ ?_
  · unfold maxLen; omega
  · omega
  · simp
  intro v2 w2 hown2 hgrow2 _ hf2
  simp only [Nat.zero_add, List.nil_append] at hown2
  obtain ⟨a2, c2, rfl⟩ := owns_slice hown2
  have hk2 := hid (show Kept [] w w2 from ((Kept.refl [] w).alloc _).trans (Kept.of_row hgrow2))
  have hb2 := hid (show w2.heap[w.heap.size]? = _ from (Kept.of_row hgrow2).at (heap_alloc_new' w (.cells #[.func (.func k) #[] caps] 76)) (by simp [Value.ownBlock]))
  have hrow := hid hown2
  clear hown2 hgrow2 hf2
  go_wp2_with fail
  obtain ⟨W0, hW0⟩ : ∃ W, W = ((w2.alloc (.cells #[.slice a2 bs.length c2] 101)).alloc (.cells #[.pointer (some ⟨w2.heap.size, 0, none⟩)] 73)) := ⟨_, rfl⟩
  have hkW := hid (show Kept [] w2 W0 from hW0 ▸ ((Kept.refl [] w2).alloc _).alloc _)
  have hrb := hid (show W0.heap[w2.heap.size]? = some (.cells #[.slice a2 bs.length c2] 101 (0, 0)) from hW0 ▸ heap_alloc_old (heap_alloc_at rfl))
  have hrv := hid (show W0.heap[w2.heap.size + 1]? = some (.cells #[.pointer (some ⟨w2.heap.size, 0, none⟩)] 73 (0, 0)) from hW0 ▸ heap_alloc_at (by simp))
  rw [← hW0]
  clear hW0
  have hblk := hid (row_block hrow.out)
  have hs2 := hk2.out.size
  have hsW := hkW.out.size
  have lrb := lt_of_block hrb.out
  have lrv := lt_of_block hrv.out
  have hnotin := hid (show W0.heap.size ∉ w2.heap.size :: S from fun hm => by
    rcases List.mem_cons.1 hm with hm | hm
    · omega
    · have := HS.out _ hm; omega)
  have hkE := hid ((Kept.refl [] W0).alloc (.cells #[.int .i64 0] 27))
  have hrun := hid (run_err 58 enters_decode1 #[.pointer (some ⟨w.heap.size, 0, none⟩), .pointer (some ⟨w2.heap.size + 1, 0, none⟩)] W0
    (ReadOn w2.heap.size a2 S (W0.alloc (.cells #[.int .i64 0] 27)) Q)
    ((decode1_any k hk caps w.heap.size (w2.heap.size + 1) w2.heap.size _ (hkE.out.at (hkW.out.at hb2.out (by simp)) (by simp)) (hkE.out.at hrv.out (by simp)) _
      (H.out w2.heap.size a2 c2 _ (hk2.out.trans (hkW.out.trans hkE.out)) (by omega) (fun x hx => by have := hblk.out x hx; have := hkE.out.size; omega)
        (Rd.of_row (hkE.out.at hrb.out (by simp)) (hkE.out.owns (hkW.out.owns hrow.out (by simp)) (by simp)) (fun x hx => by have := (hblk.out x hx).2; omega)))).mono fun e w' hx => by
      rcases hx with ⟨he, hR⟩ | ⟨n, he, hR⟩
      · refine Or.inl ⟨he, ?_, hR⟩
        obtain ⟨a', c', rest, _, hk, _⟩ := hR
        exact hk.at (heap_alloc_new' _ _) hnotin.out
      · refine Or.inr ⟨n, he, ?_, hR⟩
        obtain ⟨a', c', rest, _, hk, _⟩ := hR
        exact hk.at (heap_alloc_new' _ _) hnotin.out))
  refine hrun.out.mono ?_
  rintro e w4 ⟨n, w3, rfl, ⟨a', c', rest, hrd, hk3, hab, hq⟩, rfl⟩
  have hkE2 : Kept [W0.heap.size] w3 (w3.setCell ⟨W0.heap.size, 0, none⟩ (.int .i64 n)) := (Kept.refl _ _).setCell (p := ⟨W0.heap.size, 0, none⟩) (fun _ => by simp) _
  have hrd4 := hid (hrd.kept hkE2 (by simp; omega) (fun x hx => by
    obtain ⟨y, hy, hxy⟩ := hab x hx
    have := (hblk.out y hy).2
    simp; omega))
  have hrv4 := hkE2.at (hk3.at (hkE.out.at hrv.out (by simp)) (by simp; intro hm; have := HS.out _ hm; omega)) (by simp; omega)
  have grv := cell_of_one hrv4
  have hsz3 := hk3.size
  have hq4 := hid (HQ.out n rest _ _ W0.heap.size hq (by omega) ⟨0, (hk3.at (heap_alloc_new' _ _) hnotin.out)⟩ hkE2)
  have hk4 := hid (show Kept S w (w3.setCell ⟨W0.heap.size, 0, none⟩ (.int .i64 n)) from
    (((hk2.out.trans (hkW.out.trans hkE.out)).wider (T := S) (by simp)).trans' hk3 (fun x hx hm => by
      simp at hm
      rcases hm with hm | hm
      · omega
      · exact hm)).setCell (p := ⟨W0.heap.size, 0, none⟩) (fun h => absurd h (by simp; omega)) _)
  generalize w3.setCell ⟨W0.heap.size, 0, none⟩ (.int .i64 n) = w5 at *
  clear hrd hk3 hab hq hkE2 hrv4 hrun hsz3
  have hleft := hid (left_any' w2.heap.size a' c' rest w5 hrd4.out)
  by_cases hn : n = 0
  · subst hn
    go_wp2_with fail
    refine hleft.out.mono ?_
    rintro e w6 ⟨rfl, rfl⟩
    by_cases hr0 : rest.length = 0
    · have hre : rest = [] := List.eq_nil_of_length_eq_zero hr0
      subst hre
      clear hr0
      go_wp2
      go_ret
      exact ⟨0, [], by simp, hk4.out, hq4.out⟩
    · have hrp : 0 < (rest.length : Int) := by omega
      have hrne : rest ≠ [] := fun h => hr0 (by rw [h]; rfl)
      have Hrne := hid hrne
      clear hr0 hrne
      go_wp2
      go_ret
      exact ⟨0, rest, by simp [Hrne.out], hk4.out, hq4.out⟩
  · have hne : (n == 0) = false := by simpa using hn
    have Hn := hid hn
    clear hn
    go_wp2
    go_ret
    exact ⟨n, rest, by simp [Hn.out], hk4.out, hq4.out⟩

theorem decode_any (k : Nat) (hk : Enters k) (caps : Array Value) (sv : Value) (bs : List UInt8) (w : World) (hsrc : SrcB w sv bs) (hlen : bs.length ≤ 1000000000) (S : List Nat) (hS : ∀ x ∈ S, x < w.heap.size)
    (Q : Int → List UInt8 → World → Prop) (hQ : ∀ n rest W W', Q n rest W → Below w.heap.size W W' → Q n rest W')
    (h : ∀ rb a c W, Kept [] w W → w.heap.size ≤ rb → (∀ x, a = some x → w.heap.size ≤ x.block) → Rd W rb a c bs → Calls Tryd.prog k (#[.pointer (some ⟨rb, 0, none⟩)] ++ caps) W (Threw (ReadOn rb a S W Q))) :
    Calls Tryd.prog 31 #[sv, .func (.func k) #[] caps] w (Decoded w S Q) :=
  decode_any' k hk caps sv bs w hsrc hlen S hS Q (fun n rest W W' x hq hx ⟨_, he⟩ hk => hQ n rest W W' hq ⟨hk.os, hk.tape, hk.output, hk.size, fun j hj => hk.block j (by have := lt_of_block he; omega) (by simp; omega)⟩)
    (fun rb a c W hk hrb hab hrd => h rb a c W hk hrb (fun x hx => (hab x hx).1) hrd)
end Go.Proofs.YtdojpioclojalaaDoor
