/- coldstorelaw02.read, of any field. -/
import Derived.Test.YtignphegdigalaaW6
namespace Go.Proofs.Ytignphegdigalaa
open Go.RowKit Go.Lib

set_option maxRecDepth 100000 in
set_option maxHeartbeats 2000000 in
theorem read_no (rb pg : Nat) (a : Option Addr) (len c : Nat) (kind size : Int) (num : Nat) (ba : Option Addr) (bl bc : Nat) (w : World) (m : Nat) (hnm : bits .and .u64 (num : Int) 127 = (m : Int)) (hmw : IntKind.i64.wrap (m : Int) = (m : Int)) (h0 : ¬ kind = 0) (h1 : ¬ kind = 1) (h2 : ¬ kind = 2) (h3 : ¬ kind = 3) (h4 : ¬ kind = 4) :
    Calls Try.prog 11 #[.pointer (some ⟨rb, 0, none⟩), rdV a len c 0, opV kind size num ba bl bc, .pointer (some ⟨pg, 0, none⟩)] w fun e w' => e = .returned (rdV a len c 0) ∧ Kept [] w w' := by
  unfold opV
  go_enter Try.func11, Try.ntmps11
  go_wp2
  refine bodyPost_ret (v := rdV a len c 0) ?_ rfl ?_
  · simp [results, rdV, Try.f11, go_sem]
  · exact ⟨rfl, (((Kept.refl [] w).alloc _).alloc _).alloc _⟩

theorem Rb.srcB {w : World} {a : Option Addr} {c : Nat} {xs : List UInt8} (h : Rb w a c xs) : SrcB w (.slice a xs.length c) xs := by
  cases a with
  | none => obtain ⟨h1, h2⟩ := h.nil rfl; subst h2; subst h1; exact Or.inl ⟨rfl, rfl, rfl⟩
  | some x =>
    refine Or.inr ⟨x, c, rfl, fun j u hj => ?_⟩
    rw [List.getElem?_map] at hj
    obtain ⟨b, hb, rfl⟩ := Option.map_eq_some_iff.1 hj
    exact h.get j b hb

/-- What a field's reading leaves. -/
def ReadSt (rb pg : Nat) (a1 : Option Addr) (rest : List UInt8) (w w' : World) : Prop :=
  ∃ a2 c2, Rd w' rb a2 c2 rest ∧ Kept [rb, pg] w w' ∧ (∀ x, a2 = some x → ∃ y, a1 = some y ∧ x.block = y.block) ∧ w'.heap[pg]? = some (.cells #[.bool true] 4 (0, 0))
theorem OneAt.kept {B : Nat} {o : OpR} {xs : List UInt8} {v : Value} {w w' : World} {S : List Nat} (h : OneAt B o xs v w) (hk : Kept S w w') (hS : ∀ s ∈ S, B ≤ s) : OneAt B o xs v w' := by
  obtain ⟨a, c, hv, hx⟩ := h
  exact ⟨a, c, hv, hx.kept hk hS⟩
theorem field_len {xs : List UInt8} {most : Int} (hs : fieldErr xs most = 0) : 4 + said xs ≤ xs.length := by
  unfold fieldErr at hs
  split at hs
  · cases hs
  · split at hs
    · cases hs
    · split at hs
      · cases hs
      · omega
theorem readst_ok {rb pg bx : Nat} {a1 : Option Addr} {c1 : Nat} {xs : List UInt8} {k : Nat} {w W1 w' : World} (hk : k ≤ xs.length) (h : Rd w rb a1 c1 xs) (hx1 : ∀ x, a1 = some x → x.block ≠ pg ∧ x.block < w.heap.size) (hne : pg ≠ rb) (hbx : w.heap.size ≤ bx)
    (k1 : Kept [] w W1) (k2 : Kept [pg, bx] (nextW W1 rb a1 c1 xs k) w') (hg : w'.heap[pg]? = some (.cells #[.bool true] 4 (0, 0))) : ReadSt rb pg a1 (xs.drop k) w w' := by
  have hlt := lt_of_block h.here
  refine ⟨_, _, ((h.kept k1 (by simp) (by simp)).next hk).kept k2 (by simp; omega) (fun x hx => ?_), ?_, behind_block, hg⟩
  · obtain ⟨y, hy, he⟩ := behind_block x hx
    have := hx1 y hy
    simp; omega
  · refine (((Kept.refl [rb, pg] w).trans' k1 (by simp)).trans' (next_kept W1 rb a1 c1 xs k) (fun x hx hm => by simp at hm; simp [hm])).trans' k2 (fun x hx hm => ?_)
    simp at hm
    rcases hm with hm | hm
    · simp [hm]
    · omega
theorem readst_no {rb pg : Nat} {a1 : Option Addr} {c1 : Nat} {xs : List UInt8} {w w' : World} (h : Rd w rb a1 c1 xs) (k1 : Kept [] w w') (hg : w.heap[pg]? = some (.cells #[.bool true] 4 (0, 0))) : ReadSt rb pg a1 xs w w' :=
  ⟨_, _, h.kept k1 (by simp) (by simp), (Kept.refl [rb, pg] w).trans' k1 (by simp), fun x hx => ⟨x, hx, rfl⟩, k1.at hg (by simp)⟩

/-- The answer of read. -/
def ReadAns (B rb pg : Nat) (o : OpR) (a1 : Option Addr) (xs : List UInt8) (w : World) (e : Ending) (w' : World) : Prop :=
  (o.err xs = 0 ∧ (∃ v, e = .returned v ∧ OneAt B o xs v w') ∧ ReadSt rb pg a1 (o.left xs) w w') ∨ (o.err xs ≠ 0 ∧ Thrown 29 (.int .i64 (o.err xs)) e ∧ Kept [] w w' ∧ ReadSt rb pg a1 (o.left xs) w w')

theorem readans_ok {B rb pg bx : Nat} {o : OpR} {a a1 : Option Addr} {c c1 : Nat} {xs : List UInt8} {w W1 w' : World} {a' : Option Addr} {len' c' : Nat} (he : o.err xs = 0) (hlen : len' = xs.length - o.took xs) (hk : o.took xs ≤ xs.length) (hB : B ≤ rb ∧ B ≤ pg)
    (h : Rd w rb a1 c1 xs) (hx1 : ∀ x, a1 = some x → x.block ≠ pg ∧ x.block < w.heap.size) (hne : pg ≠ rb) (hbx : w.heap.size ≤ bx)
    (k1 : Kept [] w W1) (k2 : Kept [pg, bx] (nextW W1 rb a1 c1 xs (o.took xs)) w') (hg : w'.heap[pg]? = some (.cells #[.bool true] 4 (0, 0))) (hx : Rx w B a' c' (xs.drop (o.took xs))) : ReadAns B rb pg o a1 xs w (.returned (rdV a' len' c' 0)) w' := by
  have hst := readst_ok hk h hx1 hne hbx k1 k2 hg
  have hl : o.left xs = xs.drop (o.took xs) := by unfold OpR.left; rw [if_pos he]
  refine Or.inl ⟨he, ⟨_, rfl, a', c', ?_, ?_⟩, by rw [hl]; exact hst⟩
  · rw [he, hl, List.length_drop, hlen]
  · rw [hl]
    obtain ⟨_, _, _, hkk, _⟩ := hst
    exact hx.kept hkk (fun s hs => by simp at hs; rcases hs with hs | hs <;> omega)
theorem readans_no {B rb pg : Nat} {o : OpR} {a1 : Option Addr} {c1 : Nat} {xs : List UInt8} {w w' : World} {e : Ending} {n : Int} (hn : o.err xs = n) (he : n ≠ 0) (h : Rd w rb a1 c1 xs) (k1 : Kept [] w w') (hg : w.heap[pg]? = some (.cells #[.bool true] 4 (0, 0)))
    (ht : Thrown 29 (.int .i64 n) e) : ReadAns B rb pg o a1 xs w e w' := by
  subst hn
  refine Or.inr ⟨he, ht, k1, ?_⟩
  have hl : o.left xs = xs := by unfold OpR.left; rw [if_neg he]
  rw [hl]
  exact readst_no h k1 hg

theorem read_any (B rb pg : Nat) (o : OpR) (a : Option Addr) (c : Nat) (xs : List UInt8) (a1 : Option Addr) (c1 : Nat) (w : World) (hn : o.num < 18446744073709551616) (h : Rx w B a c xs) (hr : Rd w rb a1 c1 xs) (hB : B ≤ rb ∧ B ≤ pg) (hne : pg ≠ rb)
    (hpg : w.heap[pg]? = some (.cells #[.bool true] 4 (0, 0))) (hx1 : ∀ x, a1 = some x → x.block ≠ pg ∧ x.block < w.heap.size) :
    Calls Try.prog 11 #[.pointer (some ⟨rb, 0, none⟩), rdV a xs.length c 0, opV o.kind o.size o.num o.ba o.bs.length o.bc, .pointer (some ⟨pg, 0, none⟩)] w (ReadAns B rb pg o a1 xs w) := by
  have lrb := lt_of_block hr.here
  have lpg := lt_of_block hpg
  have h127 := and127 o.num hn
  have hw : IntKind.i64.wrap ((o.num % 128 : Nat) : Int) = ((o.num % 128 : Nat) : Int) := by rw [IntKind.wrap_i64]; omega
  have hm : o.num % 128 ≤ 127 := by omega
  have hr0 : ∀ {W}, Kept [] w W → Rd W rb a1 c1 xs := fun hk => hr.kept hk (by simp) (by simp)
  have hkw : ∀ {W1 W kk}, Kept [] w W1 → Kept [] (nextW W1 rb a1 c1 xs kk) W → Kept [rb] w W := fun {W1 W kk} k1 k2 => (((Kept.refl [rb] w).trans' k1 (by simp)).trans (next_kept W1 rb a1 c1 xs kk)).trans' k2 (by simp)
  have hx0 : ∀ {W1 W kk}, Kept [] w W1 → Kept [] (nextW W1 rb a1 c1 xs kk) W → Rx W B a c xs := fun k1 k2 => h.kept (hkw k1 k2) (fun s hs => by simp at hs; omega)
  by_cases h0 : o.kind = 0
  · have he : o.err xs = (if xs.length < sz o.size then 20 else 0) := by unfold OpR.err; rw [if_pos (.inl h0)]
    have ht : o.took xs = sz o.size := by unfold OpR.took; rw [if_pos (.inl h0)]
    rw [h0]
    by_cases hs : sz o.size ≤ xs.length
    · rw [if_neg (by omega)] at he
      refine (read_ok_0 rb pg a xs.length c o.size o.num o.ba o.bs.length o.bc w (o.num % 128) hm h127 hw lrb lpg hne hpg a1 c1 xs (sz o.size) (behind a c (sz o.size)) (xs.length - sz o.size) (c - sz o.size) (numOf (xs.take (sz o.size))) (fun W hk => ?_) (fun W1 W k1 k2 => ?_)).mono ?_
      · exact rnum_ok rb a1 c1 xs o.size hs W (hr0 hk)
      · have := refget_any a c xs o.size W (hx0 k1 k2).1
        unfold getV at this
        rw [if_pos hs] at this
        exact this
      · rintro e w' ⟨rfl, W1, bx, k1, hbx, k2, hg⟩
        exact readans_ok (a := a) (c := c) he (by rw [ht]) (by rw [ht]; exact hs) hB hr hx1 hne hbx k1 (by rw [ht]; exact k2) hg (by rw [ht]; exact h.drop hs)
    · rw [if_pos (by omega)] at he
      refine (read_thrown_0 rb pg a xs.length c o.size o.num o.ba o.bs.length o.bc w (o.num % 128) hm h127 hw lrb lpg hne hpg 20 (fun W hk => rnum_short rb a1 c1 xs o.size (by omega) W (hr0 hk))).mono ?_
      rintro e w' ⟨hth, hk⟩
      exact readans_no he (by decide) hr hk hpg hth
  by_cases h1 : o.kind = 1
  · have he : o.err xs = (if xs.length < sz o.size then 20 else 0) := by unfold OpR.err; rw [if_pos (.inr h1)]
    have ht : o.took xs = sz o.size := by unfold OpR.took; rw [if_pos (.inr h1)]
    rw [h1]
    by_cases hs : sz o.size ≤ xs.length
    · rw [if_neg (by omega)] at he
      refine (read_ok_1 rb pg a xs.length c o.size o.num o.ba o.bs.length o.bc w (o.num % 128) hm h127 hw lrb lpg hne hpg a1 c1 xs (sz o.size) (behind a c (sz o.size)) (xs.length - sz o.size) (c - sz o.size) (numOf (xs.take (sz o.size))) (fun W hk => ?_) (fun W1 W k1 k2 => ?_)).mono ?_
      · exact rnum_ok rb a1 c1 xs o.size hs W (hr0 hk)
      · have := refget_any a c xs o.size W (hx0 k1 k2).1
        unfold getV at this
        rw [if_pos hs] at this
        exact this
      · rintro e w' ⟨rfl, W1, bx, k1, hbx, k2, hg⟩
        exact readans_ok (a := a) (c := c) he (by rw [ht]) (by rw [ht]; exact hs) hB hr hx1 hne hbx k1 (by rw [ht]; exact k2) hg (by rw [ht]; exact h.drop hs)
    · rw [if_pos (by omega)] at he
      refine (read_thrown_1 rb pg a xs.length c o.size o.num o.ba o.bs.length o.bc w (o.num % 128) hm h127 hw lrb lpg hne hpg 20 (fun W hk => rnum_short rb a1 c1 xs o.size (by omega) W (hr0 hk))).mono ?_
      rintro e w' ⟨hth, hk⟩
      exact readans_no he (by decide) hr hk hpg hth
  have h01 : ¬ (o.kind = 0 ∨ o.kind = 1) := by omega
  by_cases h2 : o.kind = 2
  · have he : o.err xs = fieldErr xs ((o.num % 128 : Nat) : Int) := by unfold OpR.err; rw [if_neg h01, if_pos (.inl h2)]
    have ht : o.took xs = 4 + said xs := by unfold OpR.took; rw [if_neg h01, if_pos (.inl h2)]
    rw [h2]
    by_cases hs : fieldErr xs ((o.num % 128 : Nat) : Int) = 0
    · rw [hs] at he
      refine (read_ok_2 rb pg a xs.length c o.size o.num o.ba o.bs.length o.bc w (o.num % 128) hm h127 hw lrb lpg hne hpg a1 c1 xs (4 + said xs) (behind (behind a c 4) (c - 4) (said xs)) (xs.length - 4 - said xs) (c - 4 - said xs) (behind a1 (4 + said xs) 4) (said xs) (said xs) (behind a c 4) (said xs) (c - 4) (fun W hk => ?_) (fun W1 W k1 k2 => ?_) (fun W1 W k1 k2 => ?_)).mono ?_
      · refine (rbytes_any rb a1 c1 xs ((o.num % 128 : Nat) : Int) W (hr0 hk)).mono ?_
        rintro e w' (⟨_, _, h1, h2⟩ | ⟨h1, _⟩)
        · exact ⟨h1, h2⟩
        · exact absurd hs h1
      · have := refsome_any a c xs (o.num % 128) hm W (hx0 k1 k2).1
        unfold someV at this
        rw [if_pos hs] at this
        exact this
      · have hl := field_len hs
        have hy := ((hx0 k1 k2).drop (m := 4) (by omega)).1.take (m := said xs) (by rw [List.length_drop]; omega)
        have hlen : ((xs.drop 4).take (said xs)).length = said xs := by simp; omega
        have h1 := hr.readField (n := said xs) hl (hkw k1 k2) (fun x hx => by simpa using (hr.src x hx).1)
        have h2 := hy.srcB
        have h3 := same_src (behind a1 (4 + said xs) 4) (behind a c 4) (said xs) (c - 4) ((xs.drop 4).take (said xs)) W (by rw [hlen]; exact h1) h2
        rw [hlen] at h3
        exact h3
      · rintro e w' ⟨rfl, W1, bx, k1, hbx, k2, hg⟩
        have hl := field_len hs
        refine readans_ok (a := a) (c := c) he (by rw [ht]; omega) (by rw [ht]; exact hl) hB hr hx1 hne hbx k1 (by rw [ht]; exact k2) hg ?_
        rw [ht, ← List.drop_drop]
        exact (h.drop (m := 4) (by omega)).drop (by rw [List.length_drop]; omega)
    · refine (read_thrown_2 rb pg a xs.length c o.size o.num o.ba o.bs.length o.bc w (o.num % 128) hm h127 hw lrb lpg hne hpg (fieldErr xs ((o.num % 128 : Nat) : Int)) (fun W hk => ?_)).mono ?_
      · refine (rbytes_any rb a1 c1 xs ((o.num % 128 : Nat) : Int) W (hr0 hk)).mono ?_
        rintro e w' (⟨h1, _⟩ | ⟨_, h1, h2⟩)
        · exact absurd h1 hs
        · exact ⟨h1, h2⟩
      · rintro e w' ⟨hth, hk⟩
        exact readans_no he hs hr hk hpg hth
  by_cases h3 : o.kind = 3
  · have he : o.err xs = fieldErr xs ((o.num % 128 : Nat) : Int) := by unfold OpR.err; rw [if_neg h01, if_pos (.inr h3)]
    have ht : o.took xs = 4 + said xs := by unfold OpR.took; rw [if_neg h01, if_pos (.inr h3)]
    rw [h3]
    by_cases hs : fieldErr xs ((o.num % 128 : Nat) : Int) = 0
    · rw [hs] at he
      refine (read_ok_3 rb pg a xs.length c o.size o.num o.ba o.bs.length o.bc w (o.num % 128) hm h127 hw lrb lpg hne hpg a1 c1 xs (4 + said xs) (behind (behind a c 4) (c - 4) (said xs)) (xs.length - 4 - said xs) (c - 4 - said xs) ⟨((xs.drop 4).take (said xs)).toArray⟩ (behind a c 4) (said xs) (c - 4) (fun W hk => ?_) (fun W1 W k1 k2 => ?_) (fun W1 W k1 k2 => ?_)).mono ?_
      · refine (rtext_any rb a1 c1 xs ((o.num % 128 : Nat) : Int) W (hr0 hk)).mono ?_
        rintro e w' (⟨_, _, h1, h2⟩ | ⟨h1, _⟩)
        · exact ⟨h1, h2⟩
        · exact absurd hs h1
      · have := refsome_any a c xs (o.num % 128) hm W (hx0 k1 k2).1
        unfold someV at this
        rw [if_pos hs] at this
        exact this
      · have hl := field_len hs
        have hy := ((hx0 k1 k2).drop (m := 4) (by omega)).1.take (m := said xs) (by rw [List.length_drop]; omega)
        have hlen : ((xs.drop 4).take (said xs)).length = said xs := by simp; omega
        have h3 := text_any W (behind a c 4) (c - 4) ((xs.drop 4).take (said xs)) hy.srcB
        rw [hlen] at h3
        exact h3
      · rintro e w' ⟨rfl, W1, bx, k1, hbx, k2, hg⟩
        have hl := field_len hs
        refine readans_ok (a := a) (c := c) he (by rw [ht]; omega) (by rw [ht]; exact hl) hB hr hx1 hne hbx k1 (by rw [ht]; exact k2) hg ?_
        rw [ht, ← List.drop_drop]
        exact (h.drop (m := 4) (by omega)).drop (by rw [List.length_drop]; omega)
    · refine (read_thrown_3 rb pg a xs.length c o.size o.num o.ba o.bs.length o.bc w (o.num % 128) hm h127 hw lrb lpg hne hpg (fieldErr xs ((o.num % 128 : Nat) : Int)) (fun W hk => ?_)).mono ?_
      · refine (rtext_any rb a1 c1 xs ((o.num % 128 : Nat) : Int) W (hr0 hk)).mono ?_
        rintro e w' (⟨h1, _⟩ | ⟨_, h1, h2⟩)
        · exact absurd h1 hs
        · exact ⟨h1, h2⟩
      · rintro e w' ⟨hth, hk⟩
        exact readans_no he hs hr hk hpg hth
  have h23 : ¬ (o.kind = 2 ∨ o.kind = 3) := by omega
  by_cases h4 : o.kind = 4
  · have he : o.err xs = (if xs.length < o.size.toNat then 20 else 0) := by unfold OpR.err; rw [if_neg h01, if_neg h23, if_pos h4]
    have ht : o.took xs = o.size.toNat := by unfold OpR.took; rw [if_neg h01, if_neg h23, if_pos h4]
    rw [h4]
    by_cases hs : o.size.toNat ≤ xs.length
    · rw [if_neg (by omega)] at he
      refine (read_ok_4 rb pg a xs.length c o.size o.num o.ba o.bs.length o.bc w (o.num % 128) hm h127 hw lrb lpg hne hpg a1 c1 xs o.size.toNat (behind a c o.size.toNat) (xs.length - o.size.toNat) (c - o.size.toNat) a1 o.size.toNat o.size.toNat a o.size.toNat c (fun W hk => ?_) (fun W1 W k1 k2 => ?_) (fun W1 W k1 k2 => ?_)).mono ?_
      · refine (raw_any rb a1 c1 xs o.size W (hr0 hk)).mono ?_
        rintro e w' (⟨_, h1, h2⟩ | ⟨h1, _⟩)
        · exact ⟨h1, h2⟩
        · omega
      · have := refraw_all a c xs o.size W (hx0 k1 k2).1
        unfold rawV at this
        rw [if_pos hs] at this
        exact this
      · have hy := (hx0 k1 k2).1.take (m := o.size.toNat) hs
        have hlen : (xs.take o.size.toNat).length = o.size.toNat := by simp; omega
        have h1 := hr.read (m := o.size.toNat) hs (hkw k1 k2) (fun x hx => by simpa using (hr.src x hx).1)
        have h3 := same_src a1 a o.size.toNat c (xs.take o.size.toNat) W (by rw [hlen]; exact h1) hy.srcB
        rw [hlen] at h3
        exact h3
      · rintro e w' ⟨rfl, W1, bx, k1, hbx, k2, hg⟩
        exact readans_ok (a := a) (c := c) he (by rw [ht]) (by rw [ht]; exact hs) hB hr hx1 hne hbx k1 (by rw [ht]; exact k2) hg (by rw [ht]; exact h.drop hs)
    · rw [if_pos (by omega)] at he
      refine (read_thrown_4 rb pg a xs.length c o.size o.num o.ba o.bs.length o.bc w (o.num % 128) hm h127 hw lrb lpg hne hpg 20 (fun W hk => ?_)).mono ?_
      · refine (raw_any rb a1 c1 xs o.size W (hr0 hk)).mono ?_
        rintro e w' (⟨h1, _⟩ | ⟨_, h1, h2⟩)
        · omega
        · exact ⟨h1, h2⟩
      · rintro e w' ⟨hth, hk⟩
        exact readans_no he (by decide) hr hk hpg hth
  · have he : o.err xs = 0 := by unfold OpR.err; rw [if_neg h01, if_neg h23, if_neg h4]
    have ht : o.took xs = 0 := by unfold OpR.took; rw [if_neg h01, if_neg h23, if_neg h4]
    have hl : o.left xs = xs := by unfold OpR.left; rw [if_pos he, ht]; rfl
    refine (read_no rb pg a xs.length c o.kind o.size o.num o.ba o.bs.length o.bc w (o.num % 128) h127 hw h0 h1 h2 h3 h4).mono ?_
    rintro e w' ⟨rfl, hk⟩
    exact Or.inl ⟨he, ⟨_, rfl, a, c, by rw [he, hl], by rw [hl]; exact h.kept hk (by simp)⟩, by rw [hl]; exact readst_no hr hk hpg⟩
end Go.Proofs.Ytignphegdigalaa
