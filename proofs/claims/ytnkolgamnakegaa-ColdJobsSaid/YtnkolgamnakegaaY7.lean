
/- cold: a store without a fuse, its calls. -/
import Derived.Test.YtnkolgamnakegaaY6
namespace Go.Proofs.Ytnkolgamnakegaa
open Go.RowKit Go.Lib Go.Maps

/-- A cold store without a fuse whose blocks, S, are new since w0. -/
structure Cw (w0 w : World) (Z : List Nat) (p : Nat) (q : Int) (es ss : List Ent) (fl : List Bool) (k : Nat) (jobs life least lost : Int) : Prop where
  kept : Kept [] w0 w
  co : ∃ U V, Co w U V p q es ss (.pointer none) fl k jobs life least lost ∧ (∀ x ∈ U, x ∈ Z) ∧ ∀ x ∈ V, x ∈ Z
  low : ∀ x ∈ Z, w0.heap.size ≤ x ∧ x < w.heap.size
theorem Cw.keep {w0 w w' : World} {Z X : List Nat} {p : Nat} {q : Int} {es ss : List Ent} {fl : List Bool} {k : Nat} {jobs life least lost : Int} (h : Cw w0 w Z p q es ss fl k jobs life least lost) (hk : Kept X w w') (hX : ∀ x ∈ X, x ∉ Z ∧ w0.heap.size ≤ x) : Cw w0 w' Z p q es ss fl k jobs life least lost := by
  obtain ⟨h1, ⟨U, V, h2, h3, h4⟩, h5⟩ := h
  exact ⟨h1.trans' hk (fun x hx hm => by have := (hX x hm).2; omega), ⟨U, V, h2.kept hk (fun x hx hm => by
    rcases List.mem_append.1 hx with g | g
    · exact (hX x hm).1 (h3 x g)
    · exact (hX x hm).1 (h4 x g)), h3, h4⟩, fun x hx => ⟨(h5 x hx).1, Nat.lt_of_lt_of_le (h5 x hx).2 hk.size⟩⟩
section
variable {w0 w : World} {Z : List Nat} {p : Nat} {q : Int} {es ss : List Ent} {fl : List Bool} {k : Nat} {jobs life least lost : Int} (h : Cw w0 w Z p q es ss fl k jobs life least lost)
include h
theorem Cw.mem : p ∈ Z := by
  obtain ⟨h1, ⟨U, V, ⟨⟨mv, ho, _⟩, _⟩, h3, h4⟩, h5⟩ := h
  exact h3 p ho.hp
theorem Cw.small : es.length ≤ 4096 ∧ ss.map (·.name) = es.map (·.name) ∧ Rising es ∧ IsSt ss ∧ 0 ≤ lost ∧ lost ≤ 9223372036854775807 ∧ ∀ e ∈ es, okName e.name = true := by
  obtain ⟨h1, ⟨U, V, ⟨⟨mv, ho, _⟩, _, _, hn, hs, h7⟩, h3, h4⟩, h5⟩ := h
  exact ⟨ho.small.2.1, hn, ho.rising, hs, h7.2.2.2.2.2.2.1, h7.2.2.2.2.2.2.2, ho.small.2.2⟩
theorem cw_put (hk : k ≤ 1099511627776) (nm : List UInt8) (hnm : nm.length ≤ 1000000000) (a : Option Addr) (n c : Nat) (bs : List UInt8) (hn : n = bs.length) (hbs : ∀ W, Kept [p] w W → Src W (.slice a n c) n (bs.map B)) (hz : sizeE es + bs.length ≤ 1099511627776) (now : Int) (n1 : -9223372036854775808 ≤ now) (n2 : now ≤ 9223372036854775807)
    (er : Int) (her : putC q es fl nm bs = er) :
    Calls Try.prog 22 #[.pointer (some ⟨p, 0, none⟩), .string (S nm), .slice a n c, .int .i64 now] w fun e w' => ∃ v' Z', e = .returned (.int .i64 er) ∧ Kept Z w w' ∧ (∀ x ∈ Z', x ∈ Z ∨ w.heap.size ≤ x) ∧
      Cw w0 w' Z' p q (ifOK er (putE ⟨nm, v', bs⟩ es) es) (ifOK er (putE (stE nm ⟨momT now, false, 0⟩) ss) ss) (fl.drop 1) (k + 1) jobs life least (ifOK er (addT lost (leftT ss nm now least)) lost) := by
  obtain ⟨h1, ⟨U, V, h2, h3, h4⟩, h5⟩ := h
  refine (co_put w U V p q es ss (.pointer none) fl k jobs life least lost (-1) h2 hk (Or.inl ⟨rfl, rfl⟩) (by decide) nm hnm a n c bs hn (by simpa [fuB] using hbs) hz now n1 n2 er her.symm).mono ?_
  rintro e w' ⟨v', U', V', rfl, k1, hU', hV', hco, -⟩
  have kz : Kept Z w w' := k1.wider (fun x _ hx => by
    simp [fuB] at hx
    rcases hx with g | g
    · exact h3 x g
    · exact h4 x g)
  refine ⟨v', U' ++ V', rfl, kz, fun x hx => ?_, h1.trans' kz (fun x hx hm => by have := (h5 x hm).1; omega), ⟨U', V', hco, fun x hx => by simp [hx], fun x hx => by simp [hx]⟩, fun x hx => ?_⟩
  · rcases List.mem_append.1 hx with g | g
    · exact (hU' x g).imp (h3 x) id
    · exact (hV' x g).imp (h4 x) id
  · have hb : x < w'.heap.size := by
      obtain ⟨⟨mv, ho, _⟩, _, hb, _⟩ := hco
      rcases List.mem_append.1 hx with g | g
      · exact ho.bound x g
      · exact hb x g
    refine ⟨?_, hb⟩
    rcases List.mem_append.1 hx with g | g
    · rcases hU' x g with g | g
      · exact (h5 x (h3 x g)).1
      · exact Nat.le_trans h1.size g
    · rcases hV' x g with g | g
      · exact (h5 x (h4 x g)).1
      · exact Nat.le_trans h1.size g
theorem cw_of {w' : World} {U V : List Nat} {es' ss' : List Ent} {fl' : List Bool} {k' : Nat} {lost' : Int} (h3 : ∀ x ∈ U, x ∈ Z) (h4 : ∀ x ∈ V, x ∈ Z) (k1 : Kept (U ++ V ++ fuB (.pointer none)) w w') (hco : Co w' U V p q es' ss' (.pointer none) fl' k' jobs life least lost') :
    Kept Z w w' ∧ Cw w0 w' Z p q es' ss' fl' k' jobs life least lost' := by
  obtain ⟨h1, _, h5⟩ := h
  have kz : Kept Z w w' := k1.wider (fun x _ hx => by
    simp [fuB] at hx
    rcases hx with g | g
    · exact h3 x g
    · exact h4 x g)
  exact ⟨kz, h1.trans' kz (fun x hx hm => by have := (h5 x hm).1; omega), ⟨U, V, hco, h3, h4⟩, fun x hx => ⟨(h5 x hx).1, Nat.lt_of_lt_of_le (h5 x hx).2 kz.size⟩⟩
theorem cw_drop (hk : k ≤ 1099511627776) (nm : List UInt8) (hnm : nm.length ≤ 1000000000) (now : Int) (n1 : -9223372036854775808 ≤ now) (n2 : now ≤ 9223372036854775807) (force : Bool) (er : Int) (her : dropC es ss fl nm now least force = er) :
    Calls Try.prog 23 #[.pointer (some ⟨p, 0, none⟩), .string (S nm), .int .i64 now, .bool force] w fun e w' => e = .returned (.int .i64 er) ∧ Kept Z w w' ∧
      Cw w0 w' Z p q (ifOK er (delE nm es) es) (ifOK er (delE nm ss) ss) (fl.drop 1) (k + 1) jobs life least (ifOK er (addT lost (leftT ss nm now least)) lost) := by
  obtain ⟨U, V, h2, h3, h4⟩ := h.co
  refine (co_drop w U V p q es ss (.pointer none) fl k jobs life least lost (-1) h2 hk (Or.inl ⟨rfl, rfl⟩) (by decide) nm hnm now n1 n2 force er her.symm).mono ?_
  rintro e w' ⟨rfl, k1, hco, -⟩
  exact ⟨rfl, cw_of h h3 h4 k1 hco⟩
theorem cw_get (hk : k ≤ 1099511627776) (nm : List UInt8) (hnm : nm.length ≤ 1000000000) (now : Int) (n1 : -9223372036854775808 ≤ now) (n2 : now ≤ 9223372036854775807) :
    Calls Try.prog 26 #[.pointer (some ⟨p, 0, none⟩), .string (S nm), .int .i64 now] w fun e w' => ∃ a n c er bs, e = .returned (.tuple #[.slice a n c, .int .i64 er]) ∧ n = bs.length ∧ Kept Z w w' ∧
      Cw w0 w' Z p q es ss (fl.drop 1) (k + 1) jobs life least lost ∧ NewS w w' (.slice a n c) n (bs.map B) ∧ GetC (gotE fl es nm) (stateT ss nm now life) (lookB nm es) er bs := by
  obtain ⟨U, V, h2, h3, h4⟩ := h.co
  refine (co_get w U V p q es ss (.pointer none) fl k jobs life least lost (-1) h2 hk (Or.inl ⟨rfl, rfl⟩) (by decide) nm hnm now n1 n2).mono ?_
  rintro e w' ⟨v, er, bs, rfl, k1, hco, -, hns, hgc⟩
  obtain ⟨hz, hc⟩ := cw_of h h3 h4 k1 hco
  obtain ⟨a, c, rfl⟩ : ∃ a c, v = .slice a bs.length c := by
    obtain ⟨_, _, _, a, c, e, _⟩ := hns
    exact ⟨a, c, e⟩
  exact ⟨a, _, c, er, bs, rfl, rfl, hz, hc, hns, hgc⟩
theorem cw_request (hk : k ≤ 1099511627776) (nm : List UInt8) (hnm : nm.length ≤ 1000000000) (now wait : Int) (n1 : -9223372036854775808 ≤ now) (n2 : now ≤ 9223372036854775807) (n3 : -9223372036854775808 ≤ wait) (n4 : wait ≤ 9223372036854775807) :
    Calls Try.prog 24 #[.pointer (some ⟨p, 0, none⟩), .string (S nm), .int .i64 now, .int .i64 wait] w fun e w' => ∃ er ss', e = .returned (.int .i64 er) ∧ ReqC (gotE fl es nm) (stateT ss nm now life) wait (pendT ss now life) jobs ss (reqS ss nm now wait) er ss' ∧ Kept Z w w' ∧
      Cw w0 w' Z p q es ss' (fl.drop 1) (k + 1) jobs life least lost := by
  obtain ⟨U, V, h2, h3, h4⟩ := h.co
  refine (co_request w U V p q es ss (.pointer none) fl k jobs life least lost (-1) h2 hk (Or.inl ⟨rfl, rfl⟩) (by decide) nm hnm now wait n1 n2 n3 n4).mono ?_
  rintro e w' ⟨er, ss', rfl, hr, k1, hco, -⟩
  exact ⟨er, ss', rfl, hr, cw_of h h3 h4 k1 hco⟩
theorem cw_fail (nm : List UInt8) (hnm : nm.length ≤ 1000000000) (now : Int) (n1 : -9223372036854775808 ≤ now) (n2 : now ≤ 9223372036854775807) :
    Calls Try.prog 27 #[.pointer (some ⟨p, 0, none⟩), .string (S nm), .int .i64 now] w fun e w' => e = .returned (.bool (decide (stateT ss nm now life = 1))) ∧ Kept Z w w' ∧
      Cw w0 w' Z p q es (if stateT ss nm now life = 1 then failS ss nm else ss) fl k jobs life least lost := by
  obtain ⟨U, V, h2, h3, h4⟩ := h.co
  refine (co_fail w U V p q es ss (.pointer none) fl k jobs life least lost (-1) h2 (Or.inl ⟨rfl, rfl⟩) nm hnm now n1 n2).mono ?_
  rintro e w' ⟨rfl, k1, hco, -⟩
  exact ⟨rfl, cw_of h h3 h4 k1 hco⟩
theorem cw_state (nm : List UInt8) (hnm : nm.length ≤ 1000000000) (now : Int) (n1 : -9223372036854775808 ≤ now) (n2 : now ≤ 9223372036854775807) :
    Calls Try.prog 25 #[.pointer (some ⟨p, 0, none⟩), .string (S nm), .int .i64 now] w fun e w' => e = .returned (.int .i64 (stateT ss nm now life)) ∧ Kept [] w w' := by
  obtain ⟨U, V, h2, h3, h4⟩ := h.co
  exact co_state w U V p q es ss (.pointer none) fl k jobs life least lost h2 nm hnm now n1 n2
theorem cw_left (nm : List UInt8) (hnm : nm.length ≤ 1000000000) (now : Int) (n1 : -9223372036854775808 ≤ now) (n2 : now ≤ 9223372036854775807) :
    Calls Try.prog 31 #[.pointer (some ⟨p, 0, none⟩), .string (S nm), .int .i64 now] w fun e w' => e = .returned (.int .i64 (leftT ss nm now least)) ∧ Kept [] w w' := by
  obtain ⟨U, V, ⟨⟨mv, ho, hm⟩, _, _, _, hs, h7⟩, h3, h4⟩ := h.co
  exact ob_left w U V p q es ss (.pointer none) fl k jobs life least lost mv ho hm hs h7.2.2.2.2.1 h7.2.2.2.2.2.1 nm hnm now n1 n2
theorem cw_pending (now : Int) (n1 : -9223372036854775808 ≤ now) (n2 : now ≤ 9223372036854775807) :
    Calls Try.prog 28 #[.pointer (some ⟨p, 0, none⟩), .int .i64 now] w fun e w' => e = .returned (.int .i64 (pendT ss now life : Int)) ∧ Kept [] w w' := by
  obtain ⟨U, V, h2, h3, h4⟩ := h.co
  exact co_pending w U V p q es ss (.pointer none) fl k jobs life least lost h2 now n1 n2
theorem cw_lost : Calls Try.prog 29 #[.pointer (some ⟨p, 0, none⟩)] w fun e w' => e = .returned (.int .i64 lost) ∧ w = w' := by
  obtain ⟨U, V, h2, h3, h4⟩ := h.co
  exact co_lost w U V p q es ss (.pointer none) fl k jobs life least lost h2
theorem cw_len : Calls Try.prog 30 #[.pointer (some ⟨p, 0, none⟩)] w fun e w' => e = .returned (.int .i64 es.length) ∧ w = w' := by
  obtain ⟨U, V, ⟨⟨mv, ho, hm⟩, _⟩, h3, h4⟩ := h.co
  exact ob_len w U p 62 _ q es (.pointer none) fl k ho
theorem cw_size : Calls Try.prog 32 #[.pointer (some ⟨p, 0, none⟩)] w fun e w' => e = .returned (.int .i64 (sizeE es)) ∧ w = w' := by
  obtain ⟨U, V, ⟨⟨mv, ho, hm⟩, _⟩, h3, h4⟩ := h.co
  exact ob_size w U p 62 _ q es (.pointer none) fl k ho
theorem cw_arm (flv' : Value) (fl' : List Bool) (hfl' : BoolAt w Z flv' fl') (hl : fl'.length ≤ 1000000) :
    Calls Try.prog 11 #[.pointer (some ⟨p, 0, none⟩), .pointer none, flv'] w fun e w' => ∃ Z', e = .returned (.tuple #[]) ∧ Kept Z w w' ∧ (∀ x ∈ Z', x ∈ Z ∨ w.heap.size ≤ x) ∧ Cw w0 w' Z' p q es ss fl' k jobs life least lost := by
  have hpZ := h.mem
  obtain ⟨h1, ⟨U, V, ⟨⟨mv, ho, hm⟩, ha, hb, hn, hs, h7⟩, h3, h4⟩, h5⟩ := h
  refine (ob_arm w U p 62 _ q es (.pointer none) fl k ho (.pointer none) flv' fl' ⟨_, rfl⟩ ?_ hl).mono ?_
  · rcases hfl' with g | ⟨b, off, c, g1, g2, g3⟩
    · exact Or.inl g
    · exact Or.inr ⟨b, off, c, g1, fun hm => g2 (h3 b hm), g3⟩
  · rintro e w' ⟨rfl, k1, U', hU', ho'⟩
    have hpV : p ∉ V := fun hx => ha p hx ho.hp
    refine ⟨U' ++ V, rfl, k1.wider (fun x _ hx => by simp at hx; subst hx; exact hpZ), fun x hx => ?_, h1.trans' k1 (fun x hx hm => by simp at hm; subst hm; have := (h5 _ hpZ).1; omega),
      ⟨U', V, ⟨⟨mv, ho', hm.free hpV w' k1⟩, fun x hx hm => ?_, fun x hx => Nat.lt_of_lt_of_le (hb x hx) k1.size, hn, hs, h7⟩, fun x hx => by simp [hx], fun x hx => by simp [hx]⟩, fun x hx => ?_⟩
    · rcases List.mem_append.1 hx with g | g
      · exact (hU' x g).imp (h3 x) id
      · exact Or.inl (h4 x g)
    · rcases hU' x hm with g | g
      · exact ha x hx g
      · have := hb x hx; omega
    · rcases List.mem_append.1 hx with g | g
      · refine ⟨?_, ho'.bound x g⟩
        rcases hU' x g with g | g
        · exact (h5 x (h3 x g)).1
        · exact Nat.le_trans h1.size g
      · exact ⟨(h5 x (h4 x g)).1, Nat.lt_of_lt_of_le (hb x g) k1.size⟩
end
theorem cw_new (q jobs life least : Int) (w : World) (hq : 0 ≤ q) (hq2 : q ≤ 9223372036854775807) (j1 : 1 ≤ jobs) (j2 : jobs ≤ 64) (f1 : 1 ≤ life) (f2 : life ≤ 1125899906842624) (l1 : 0 ≤ least) (l2 : least ≤ 1125899906842624) :
    Calls Try.prog 21 #[.int .i64 q, .int .i64 jobs, .int .i64 life, .int .i64 least] w fun e w' => ∃ p, e = .returned (.tuple #[.pointer (some ⟨p, 0, none⟩), .int .i64 0]) ∧ Cw w w' [p] p q [] [] [] 0 jobs life least 0 := by
  refine (co_new q jobs life least w hq hq2 j1 j2 f1 f2 l1 l2).mono ?_
  rintro e w' ⟨p, rfl, k1, hp, hco⟩
  refine ⟨p, rfl, k1, ⟨[p], [], hco, by simp, by simp⟩, fun x hx => ?_⟩
  simp at hx
  subst hx
  obtain ⟨⟨mv, ho, _⟩, _⟩ := hco
  exact ⟨hp, ho.bound _ (by simp)⟩
end Go.Proofs.Ytnkolgamnakegaa
