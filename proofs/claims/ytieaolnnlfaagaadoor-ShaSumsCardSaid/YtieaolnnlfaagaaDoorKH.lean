/- Rows of values that a call appends to; an append in a drawn region; the document's words in the walk's spelling. -/
import Derived.Test.YtieaolnnlfaagaaDoorK0
import Derived.StillTailTactics
import Derived.Test.YtieaolnnlfaagaaDoorHW
namespace Go.Proofs.YtieaolnnlfaagaaDoor
open Go.RowKit Go.Lib

theorem owns_slice {w : World} {base : Nat} {e : TypeId} {size : Nat} {v : Value} {n : Nat} {xs : List Value} (h : w.ownsRow base e size v n xs) : ∃ a c, v = .slice a n c := by
  rcases h.2 with ⟨rfl, rfl⟩ | ⟨g, cap, _, rfl, _⟩
  · exact ⟨none, 0, rfl⟩
  · exact ⟨_, cap, rfl⟩
/-- A row of one-cell values that a call made: v is it, in the world wr. -/
def RowV (w : World) (base : Nat) (e : TypeId) (v : Value) (xs : List Value) (wr : World) : Prop :=
  Kept [] w wr ∧ w.heap.size ≤ base ∧ base ≤ wr.heap.size ∧ wr.ownsRow base e 1 v xs.length xs
theorem RowV.step {w wr w1 w2 : World} {base : Nat} {e : TypeId} {v v2 : Value} {xs ys : List Value} (h : RowV w base e v xs wr) (hk : Kept [] wr w1) (hown : w2.ownsRow base e 1 v2 (xs ++ ys).length (xs ++ ys)) (hg : w1.grownBy w2 v.ownBlock) : RowV w base e v2 (xs ++ ys) w2 := by
  obtain ⟨h1, h2, h3, h4⟩ := h
  refine ⟨(h1.trans hk).trans' (Kept.of_row hg) (fun x hx hm => ?_), h2, by have := hk.size; have := hg.size; omega, hown⟩
  simp at hm
  rcases h4.2 with ⟨rfl, _⟩ | ⟨g, _, _, rfl, hb, _⟩
  · simp [Value.ownBlock] at hm
  · simp [Value.ownBlock] at hm; omega
theorem RowV.next {w wr w1 : World} {base : Nat} {e : TypeId} {v : Value} {xs : List Value} (h : RowV w base e v xs wr) (hk : Kept [] wr w1) : RowV w base e v xs w1 :=
  ⟨h.1.trans hk, h.2.1, Nat.le_trans h.2.2.1 hk.size, hk.owns h.2.2.2 (by simp)⟩
theorem RowV.fresh {w wr : World} (e : TypeId) (hk : Kept [] w wr) : RowV w wr.heap.size e (.slice (some ⟨wr.heap.size, 0, none⟩) 0 0) [] (wr.alloc (.cells #[] e)) :=
  ⟨hk.alloc _, hk.size, by simp, by simp, Or.inr ⟨wr.heap.size, 0, #[], rfl, Nat.le_refl _, heap_alloc_new' _ _, by simp, by unfold maxLen; omega, by simp, by simp⟩⟩
/-- The row's slice, and its cells. -/
theorem RowV.slice {w wr : World} {base : Nat} {e : TypeId} {v : Value} {xs : List Value} (h : RowV w base e v xs wr) (hx : xs ≠ []) : ∃ g c, v = .slice (some ⟨g, 0, none⟩) xs.length c ∧ base ≤ g ∧ g < wr.heap.size ∧ ∀ (j : Nat) u, xs[j]? = some u → wr.cell? ⟨g, j, none⟩ = some u := by
  have ho := h.2.2.2
  rcases ho.2 with ⟨rfl, h0⟩ | ⟨g, cap, cur, rfl, hb, hh, _⟩
  · exact absurd (List.eq_nil_of_length_eq_zero h0) hx
  · exact ⟨g, cap, rfl, hb, lt_of_block hh, fun j u hj => by
      have := ho.cells (g := g) rfl j u hj
      have e : (⟨g, 0, none⟩ : Addr).add j = ⟨g, j, none⟩ := by unfold Addr.add; split <;> simp_all
      rwa [e] at this⟩

section
variable {P : Program} (w : World)
theorem append_old (t ty : TypeId) (base : Nat) (e : TypeId) (i : TypeInfo) (z : Value) (bytes : Nat) (ht : P.underlying t = some (.slice e)) (hi : P.info? e = some i) (hz : i.zero = some z)
    (hsize : i.size = 1) (hby : i.bytes = bytes) (hzs : z.cells.size = 1) (g n cap : Nat) (xs : List Value) (hown : w.ownsRow base e 1 (.slice (some ⟨g, 0, none⟩) n cap) n xs)
    (ad : Addr) (m c : Nat) (news : List Value) (hl : news.length = m) (hnews : ∀ j u, news[j]? = some u → w.cell? (ad.add j) = some u) (h1 : ∀ u ∈ news, u.oneCell' = true)
    (h63 : n + m ≤ maxLen) (hbytes : (n + m) * bytes ≤ 140737488355328) (v' : Value) (w' : World) (hr : (Builtin.append_ #[t, t] ty #[.slice (some ⟨g, 0, none⟩) n cap, .slice (some ad) m c]).run P w = .ok v' w')
    (hown' : w'.ownsRow base e 1 v' (n + m) (xs ++ news)) : ∀ (j : Nat) (u : Value), xs[j]? = some u → w'.cell? ⟨g, j, none⟩ = some u := by
  intro j u hj
  have hjl : j < n := by
    have hx := hown.1
    rcases Nat.lt_or_ge j xs.length with h | h
    · omega
    · rw [List.getElem?_eq_none h] at hj; simp at hj
  rcases hown.2 with ⟨hv, _⟩ | ⟨g', cap', cur, hv, hb, hg, hnc, hcm, hcs, htake⟩
  · simp at hv
  · simp at hv
    obtain ⟨rfl, rfl⟩ := hv
    by_cases hroom : n + m ≤ cap
    · have hr2 := run_append_room (P := P) w t ty e i ht hi g n cap cur hg ad m c news (by rw [hl, hsize, Nat.mul_one]) hnews h1 hroom (by rw [hsize, hl]; omega)
      rw [hr] at hr2
      cases hr2
      rw [hown'.cellAt j (by omega), List.getElem?_append_left (by have := hown.1; omega)]
      exact hj
    · have hcell := hown.cells (g := g) rfl
      have hr2 := run_append_grow (P := P) w t ty e i z ht hi hz ⟨g, 0, none⟩ n cap xs (by rw [hsize]; exact hown.1) hcell ad m c news (by rw [hl, hsize, Nat.mul_one]) hnews (by omega) (by simp only [maxLen] at h63; omega)
        (by rw [hby]; exact growslice_fits (by omega) (by omega))
      rw [hr] at hr2
      cases hr2
      have hc := hcell j u hj
      have e1 : (⟨g, 0, none⟩ : Addr).add j = ⟨g, j, none⟩ := by unfold Addr.add; split <;> simp_all
      rw [e1] at hc
      exact (((Kept.refl [] w).drew.alloc _).cell (p := ⟨g, j, none⟩) (World.block_lt_of_cell? w _ hc) (by simp)).trans hc
end

/-- An append as the one operation of a drawn region that may come now. -/
theorem appendH {P : Program} {md : Region.Mode} {Q : Exit → Act → World → Prop} {S : World → Prop} {l rest : List Oper} {oi : Oper} {fuel : Nat} {listed : Array Bool} {a : Act} {w : World} (k : Nat) (hi : l.drop k = oi :: rest) (hr : Region.ready md l.toArray listed = [k]) (hgd : oi.guard = none)
    (s x : Operand) (t : TypeId) (ho : oi.op = .call { callee := .builtin .append, args := #[s, x], argTypes := #[t, t] }) (base : Nat) (e : TypeId) (i : TypeInfo) (z : Value) (bytes : Nat) (ht : P.underlying t = some (.slice e)) (hie : P.info? e = some i) (hz : i.zero = some z)
    (hsize : i.size = 1) (hby : i.bytes = bytes) (hzs : z.cells.size = 1) (v : Value) (n : Nat) (xs : List Value) (hs : a.eval s = v) (hown : w.ownsRow base e 1 v n xs)
    (ad : Addr) (m c : Nat) (news : List Value) (hx : a.eval x = .slice (some ad) m c) (hnews : ∀ (j : Nat) (u : Value), news[j]? = some u → w.cell? (ad.add j) = some u) (hl : news.length = m) (h1 : ∀ u ∈ news, u.oneCell' = true)
    (h63 : n + m ≤ maxLen) (hbytes : (n + m) * bytes ≤ 140737488355328) (hbase : base ≤ w.heap.size)
    (h : ∀ b c w', w'.ownsRow base e 1 (.slice b (n + m) c) (n + m) (xs ++ news) → w.grownBy w' v.ownBlock → (∀ g cap, v = .slice (some ⟨g, 0, none⟩) n cap → ∀ (j : Nat) (u : Value), xs[j]? = some u → w'.cell? ⟨g, j, none⟩ = some u) →
      S w' ∧ wpAnyH P md l.toArray Q S fuel (listed.setIfInBounds k true) (a.put oi.dst (.slice b (n + m) c)) w') : wpAnyH P md l.toArray Q S (fuel + 1) listed a w := by
  have hw : Region.wanted oi (yielded l.toArray a.tmps) = true := by simp [Region.wanted, hgd]
  refine wpAnyH_ready hr (by simp) (AllReadyH.cons (getL_of_drop hi) (fun K hK => ?_) AllReadyH.nil)
  rw [if_pos hw]
  obtain ⟨v', w', hrun, h2, h3, h4, h5⟩ := run_append_src (P := P) w t oi.type base e i z bytes ht hie hz hsize hby hzs v n xs hown (.slice (some ad) m c) m news (Or.inr ⟨ad, c, rfl, hnews⟩) hl h1 h63 hbytes hbase
  have h6 : ∀ g cap, v = .slice (some ⟨g, 0, none⟩) n cap → ∀ (j : Nat) (u : Value), xs[j]? = some u → w'.cell? ⟨g, j, none⟩ = some u := fun g cap hv => by
    subst hv
    exact append_old w t oi.type base e i z bytes ht hie hz hsize hby hzs g n cap xs hown ad m c news hl hnews h1 h63 hbytes v' w' hrun h2
  obtain ⟨b, c', rfl⟩ : ∃ b c, v' = .slice b (n + m) c := by
    rcases h2.2 with ⟨rfl, h0⟩ | ⟨g, cap, _, rfl, _⟩
    · exact ⟨none, 0, by rw [h0]⟩
    · exact ⟨_, cap, rfl⟩
  obtain ⟨hS, hgo⟩ := h b c' w' h2 h3 h6
  unfold Oper.wp execOp
  simp only [ho, resolve, invoke, builtin, Sem.run_bind, Sem.run_pure, Result.andThen_ok, List.map_toArray, List.map_cons, List.map_nil, hs, hx, hrun]
  exact hK.out _ _ hS (fun _ => hgo)
theorem RowV.kept_of {w wr w2 : World} {base : Nat} {e : TypeId} {v : Value} {xs : List Value} (h : RowV w base e v xs wr) (hg : wr.grownBy w2 v.ownBlock) : Kept [] w w2 :=
  h.1.trans' (Kept.of_row hg) (fun x hx hm => by
    simp at hm
    rcases h.2.2.2.2 with ⟨rfl, _⟩ | ⟨g, _, _, rfl, hb, _⟩
    · simp [Value.ownBlock] at hm
    · simp [Value.ownBlock] at hm; have := h.2.1; omega)

/-- All old blocks, and a row's cells, as they were. -/
def KG (w : World) (g : Nat) (xs : List Value) (v : World) : Prop := Kept [] w v ∧ ∀ (j : Nat) u, xs[j]? = some u → v.cell? ⟨g, j, none⟩ = some u

/-- A slice's cells. -/
def SrcV (w : World) (a : Option Addr) (xs : List Value) : Prop := ∀ (j : Nat) u, xs[j]? = some u → ∃ ad, a = some ad ∧ w.cell? (ad.add j) = some u
theorem SrcV.kept {S : List Nat} {w w' : World} {a : Option Addr} {xs : List Value} (h : SrcV w a xs) (hk : Kept S w w') (hS : ∀ x, a = some x → x.block ∉ S) : SrcV w' a xs := fun j u hj => by
  obtain ⟨ad, rfl, hc⟩ := h j u hj
  exact ⟨ad, rfl, (hk.cell (World.block_lt_of_cell? w _ hc) (by rw [add_block]; exact hS ad rfl)).trans hc⟩

theorem info_u32 : (Tryd.prog.info? 35).map (fun i => (i.zero, i.size, i.bytes)) = some (some (.int .u32 0), 1, 4) := by kernel_rfl
def uL32 (l : List Sha.W) : List Value := l.map U
theorem uL32_one (l : List Sha.W) : ∀ u ∈ uL32 l, u.oneCell' = true := by
  intro u hu; unfold uL32 at hu; simp at hu; obtain ⟨b, _, rfl⟩ := hu; rfl
theorem uL32_len (l : List Sha.W) : (uL32 l).length = l.length := by simp [uL32]
theorem uL32_get (l : List Sha.W) (i : Nat) (h : i < l.length) : (uL32 l)[i]? = some (U (l.getD i 0)) := by simp [uL32, h]

theorem words_next (b : List UInt8) (i : Nat) (h : 16 ≤ i) : Sha.words b (i + 1) = Sha.words b i ++ [Sha.nextW (Sha.words b i)] := by
  rw [Sha.words, if_neg (by omega)]
theorem words_word (b : List UInt8) (i : Nat) (h : i < 16) : Sha.words b (i + 1) = Sha.words b i ++ [Sha.word b i] := by
  rw [Sha.words, if_pos h]
theorem x_spelled (e : Sha.W) : bits .xor .u32 (bits .xor .u32 ((Sha.rotr e 7).toNat : Int) ((Sha.rotr e 18).toNat : Int)) ((e.toNat : Int) / 8) = ((Sha.rotr e 7 ^^^ Sha.rotr e 18 ^^^ (e >>> 3)).toNat : Int) := by
  have h3 := shr_bv e 3
  rw [show (8 : Int) = ((2 ^ 3 : Nat) : Int) from rfl, h3, xor_bv, xor_bv]
theorem y_spelled (e : Sha.W) : bits .xor .u32 (bits .xor .u32 ((Sha.rotr e 17).toNat : Int) ((Sha.rotr e 19).toNat : Int)) ((e.toNat : Int) / 1024) = ((Sha.rotr e 17 ^^^ Sha.rotr e 19 ^^^ (e >>> 10)).toNat : Int) := by
  have h3 := shr_bv e 10
  rw [show (1024 : Int) = ((2 ^ 10 : Nat) : Int) from rfl, h3, xor_bv, xor_bv]
/-- The next word's sum in the order of the document's text. -/
theorem next_sum (l : List Sha.W) : Sha.nextW l = l.getD (l.length - 16) 0 + (Sha.rotr (l.getD (l.length - 15) 0) 7 ^^^ Sha.rotr (l.getD (l.length - 15) 0) 18 ^^^ (l.getD (l.length - 15) 0 >>> 3)) + l.getD (l.length - 7) 0 + (Sha.rotr (l.getD (l.length - 2) 0) 17 ^^^ Sha.rotr (l.getD (l.length - 2) 0) 19 ^^^ (l.getD (l.length - 2) 0 >>> 10)) := by
  unfold Sha.nextW
  simp only
  generalize l.getD (l.length - 16) 0 = a
  generalize l.getD (l.length - 7) 0 = b
  generalize (Sha.rotr (l.getD (l.length - 15) 0) 7 ^^^ Sha.rotr (l.getD (l.length - 15) 0) 18 ^^^ (l.getD (l.length - 15) 0 >>> 3)) = c
  rw [BitVec.add_assoc a b c, BitVec.add_comm b c, ← BitVec.add_assoc]
end Go.Proofs.YtieaolnnlfaagaaDoor
