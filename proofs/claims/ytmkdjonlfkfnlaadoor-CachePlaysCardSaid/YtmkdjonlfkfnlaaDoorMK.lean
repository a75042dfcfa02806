import Derived.Test.YtmkdjonlfkfnlaaDoorMI
import Derived.StillTailTactics
import Derived.Test.YtmkdjonlfkfnlaaDoorHW
import Derived.Test.YtmkdjonlfkfnlaaDoorHB

/- coldstoreref03: right, letter, digit; the document's rounds in the words of H0. -/
namespace Go.Proofs.YtmkdjonlfkfnlaaDoor
open Go.RowKit

theorem Reads.get {w : World} {a : Option Addr} {ys : List UInt8} (h : Reads w a ys) (i : Nat) (hi : i < ys.length) : ∃ ad, a = some ad ∧ w.cell? (ad.add i) = some (B ys[i]) := by
  cases a with
  | none => rw [h.1 rfl] at hi; simp at hi
  | some ad => exact ⟨ad, rfl, h.2 ad rfl i _ (by simp [hi])⟩
theorem choice_or (e f g : Sha.W) : (e &&& f) ||| (~~~ e &&& g) = Sha.choice e f g := by
  unfold Sha.choice
  apply BitVec.eq_of_getLsbD_eq
  intro i hi
  simp only [BitVec.getLsbD_or, BitVec.getLsbD_and, BitVec.getLsbD_xor, BitVec.getLsbD_not, hi, decide_true, Bool.true_and]
  cases e.getLsbD i <;> cases f.getLsbD i <;> cases g.getLsbD i <;> rfl
theorem major_or (a b c : Sha.W) : (a &&& b) ||| (a &&& c) ||| (b &&& c) = Sha.major a b c := by
  unfold Sha.major
  apply BitVec.eq_of_getLsbD_eq
  intro i hi
  simp only [BitVec.getLsbD_or, BitVec.getLsbD_and, BitVec.getLsbD_xor]
  cases a.getLsbD i <;> cases b.getLsbD i <;> cases c.getLsbD i <;> rfl
theorem word_sum (b : List UInt8) (i : Nat) : (Sha.word b i).toNat = 16777216 * (b.getD (4 * i) 0).toNat + 65536 * (b.getD (4 * i + 1) 0).toNat + 256 * (b.getD (4 * i + 2) 0).toNat + (b.getD (4 * i + 3) 0).toNat := by
  unfold Sha.word
  have h0 := (b.getD (4 * i) 0).toNat_lt
  have h1 := (b.getD (4 * i + 1) 0).toNat_lt
  have h2 := (b.getD (4 * i + 2) 0).toNat_lt
  have h3 := (b.getD (4 * i + 3) 0).toNat_lt
  generalize (b.getD (4 * i) 0).toNat = x at *
  generalize (b.getD (4 * i + 1) 0).toNat = y at *
  generalize (b.getD (4 * i + 2) 0).toNat = z at *
  generalize (b.getD (4 * i + 3) 0).toNat = u at *
  simp only [BitVec.toNat_or, BitVec.toNat_shiftLeft, BitVec.toNat_ofNat]
  rw [Nat.mod_eq_of_lt (show x < 2 ^ 32 by omega), Nat.mod_eq_of_lt (show y < 2 ^ 32 by omega), Nat.mod_eq_of_lt (show z < 2 ^ 32 by omega), Nat.mod_eq_of_lt (show u < 2 ^ 32 by omega)]
  rw [Nat.mod_eq_of_lt (show x <<< 24 < 2 ^ 32 by rw [Nat.shiftLeft_eq]; omega), Nat.mod_eq_of_lt (show y <<< 16 < 2 ^ 32 by rw [Nat.shiftLeft_eq]; omega), Nat.mod_eq_of_lt (show z <<< 8 < 2 ^ 32 by rw [Nat.shiftLeft_eq]; omega)]
  rw [← Nat.shiftLeft_add_eq_or_of_lt (show y <<< 16 < 2 ^ 24 by rw [Nat.shiftLeft_eq]; omega)]
  rw [show x <<< 24 + y <<< 16 = (x * 256 + y) <<< 16 by simp only [Nat.shiftLeft_eq]; omega]
  rw [← Nat.shiftLeft_add_eq_or_of_lt (show z <<< 8 < 2 ^ 16 by rw [Nat.shiftLeft_eq]; omega)]
  rw [show (x * 256 + y) <<< 16 + z <<< 8 = (x * 65536 + y * 256 + z) <<< 8 by simp only [Nat.shiftLeft_eq]; omega]
  rw [← Nat.shiftLeft_add_eq_or_of_lt (show u < 2 ^ 8 by omega)]
  simp only [Nat.shiftLeft_eq]; omega

theorem rotr_lit (x : Sha.W) (n : Nat) (a b : Int) (ha : a = ((2 ^ (32 - n) : Nat) : Int)) (hb : b = ((2 ^ n : Nat) : Int)) :
    bits .or .u32 ((x.toNat : Int) / b) ((x.toNat : Int) * a % 4294967296) = ((Sha.rotr x n).toNat : Int) := by
  rw [ha, hb, shl_bv, shr_bv, or_bv]
  rw [BitVec.or_comm]; rfl

theorem right_any (x : Sha.W) (n : Nat) (h1 : 1 ≤ n) (hn : n ≤ 31) (w : World) :
    Calls Tryd.prog 31 #[U x, .int .i64 (n : Int)] w fun e w' => e = .returned (U (Sha.rotr x n)) ∧ w.drew = w' := by
  have hx := x.isLt
  obtain ⟨s, hs⟩ : ∃ s : Int, s = (n : Int) := ⟨_, rfl⟩
  obtain ⟨a, ha⟩ : ∃ a : Int, a = ((2 ^ (32 - n) : Nat) : Int) := ⟨_, rfl⟩
  obtain ⟨b, hb⟩ : ∃ b : Int, b = ((2 ^ n : Nat) : Int) := ⟨_, rfl⟩
  have hr := rotr_lit x n a b ha hb
  have e1 : (2 : Int) ^ s.toNat = b := by rw [hb, hs]; simp
  have e2 : (2 : Int) ^ (32 - s).toNat = a := by rw [ha, show (32 - s).toNat = 32 - n by omega]; simp
  have b1 : 0 ≤ s := by omega
  have b2 : s ≤ 32 := by omega
  have b3 : 0 ≤ 32 - s := by omega
  have b4 : 32 - s ≤ 32 := by omega
  have Hr := hid hr
  rw [← hs]
  clear hr hs ha hb h1 hn
  go_enter Tryd.func31, Tryd.ntmps31
  go_wp2_with fail
  go_region
  go_wp2
  go_ret
  exact ⟨by rw [Hr.out]; rfl, rfl⟩
theorem right_quiet (x : Sha.W) (n : Nat) (h1 : 1 ≤ n) (hn : n ≤ 31) (w : World) :
    Calls Tryd.prog 31 #[U x, .int .i64 (n : Int)] w fun e w' => e = .returned (U (Sha.rotr x n)) ∧ w' = w.drew := (right_any x n h1 hn w).mono fun _ _ h => ⟨h.1, h.2.symm⟩
theorem right_k (x : Sha.W) (k : Int) (hk : 1 ≤ k ∧ k ≤ 31) (w : World) :
    Calls Tryd.prog 31 #[U x, .int .i64 k] w fun e w' => e = .returned (U (Sha.rotr x k.toNat)) ∧ ∃ m, w' = w.drewN m := by
  obtain ⟨n, rfl⟩ : ∃ n : Nat, k = (n : Int) := ⟨k.toNat, by omega⟩
  exact (right_any x n (by omega) (by omega) w).mono fun _ _ h => ⟨h.1, 1, h.2.symm⟩
end Go.Proofs.YtmkdjonlfkfnlaaDoor


/- Rows of values that a call appends to; an append in a drawn region; the document's words in the walk's spelling. -/
namespace Go.Proofs.YtmkdjonlfkfnlaaDoor
open Go.RowKit Go.Lib

theorem owns_slice {w : World} {base : Nat} {e : TypeId} {size : Nat} {v : Value} {n : Nat} {xs : List Value} (h : w.ownsRow base e size v n xs) : ∃ a c, v = .slice a n c := by
  rcases h.2 with ⟨rfl, rfl⟩ | ⟨g, cap, _, rfl, _⟩
  · exact ⟨none, 0, rfl⟩
  · exact ⟨_, cap, rfl⟩
/-- A row of one-cell values that a call made: v is it, in the world wr. -/
def RowV (w : World) (base : Nat) (e : TypeId) (v : Value) (xs : List Value) (wr : World) : Prop :=
  Kept [] w wr ∧ w.heap.size ≤ base ∧ base ≤ wr.heap.size ∧ wr.ownsRow base e 1 v xs.length xs
theorem RowV.step {w wr w1 w2 : World} {base : Nat} {e : TypeId} {v v2 : Value} {xs ys : List Value} (h : RowV w base e v xs wr) (hk : Kept [] wr w1) (hown : w2.ownsRow base e 1 v2 (xs ++ ys).length (xs ++ ys)) (hg : w1.grownBy w2 v.ownBlock) : RowV w base e v2 (xs ++ ys) w2 := by
  obtain ⟨h1, h2, h3, h4⟩ := h
  refine ⟨(h1.trans hk).trans' (Kept.of_row hg) (fun x hx hm => ?_), h2, by have := hk.size; have := hg.size; omega, hown⟩
  simp at hm
  rcases h4.2 with ⟨rfl, _⟩ | ⟨g, _, _, rfl, hb, _⟩
  · simp [Value.ownBlock] at hm
  · simp [Value.ownBlock] at hm; omega
theorem RowV.next {w wr w1 : World} {base : Nat} {e : TypeId} {v : Value} {xs : List Value} (h : RowV w base e v xs wr) (hk : Kept [] wr w1) : RowV w base e v xs w1 :=
  ⟨h.1.trans hk, h.2.1, Nat.le_trans h.2.2.1 hk.size, hk.owns h.2.2.2 (by simp)⟩
theorem RowV.fresh {w wr : World} (e : TypeId) (hk : Kept [] w wr) : RowV w wr.heap.size e (.slice (some ⟨wr.heap.size, 0, none⟩) 0 0) [] (wr.alloc (.cells #[] e)) :=
  ⟨hk.alloc _, hk.size, by simp, by simp, Or.inr ⟨wr.heap.size, 0, #[], rfl, Nat.le_refl _, heap_alloc_new' _ _, by simp, by unfold maxLen; omega, by simp, by simp⟩⟩
/-- The row's slice, and its cells. -/
theorem RowV.slice {w wr : World} {base : Nat} {e : TypeId} {v : Value} {xs : List Value} (h : RowV w base e v xs wr) (hx : xs ≠ []) : ∃ g c, v = .slice (some ⟨g, 0, none⟩) xs.length c ∧ base ≤ g ∧ g < wr.heap.size ∧ ∀ (j : Nat) u, xs[j]? = some u → wr.cell? ⟨g, j, none⟩ = some u := by
  have ho := h.2.2.2
  rcases ho.2 with ⟨rfl, h0⟩ | ⟨g, cap, cur, rfl, hb, hh, _⟩
  · exact absurd (List.eq_nil_of_length_eq_zero h0) hx
  · exact ⟨g, cap, rfl, hb, lt_of_block hh, fun j u hj => by
      have := ho.cells (g := g) rfl j u hj
      have e : (⟨g, 0, none⟩ : Addr).add j = ⟨g, j, none⟩ := by unfold Addr.add; split <;> simp_all
      rwa [e] at this⟩

section
variable {P : Program} (w : World)
theorem append_old (t ty : TypeId) (base : Nat) (e : TypeId) (i : TypeInfo) (z : Value) (bytes : Nat) (ht : P.underlying t = some (.slice e)) (hi : P.info? e = some i) (hz : i.zero = some z)
    (hsize : i.size = 1) (hby : i.bytes = bytes) (hzs : z.cells.size = 1) (g n cap : Nat) (xs : List Value) (hown : w.ownsRow base e 1 (.slice (some ⟨g, 0, none⟩) n cap) n xs)
    (ad : Addr) (m c : Nat) (news : List Value) (hl : news.length = m) (hnews : ∀ j u, news[j]? = some u → w.cell? (ad.add j) = some u) (h1 : ∀ u ∈ news, u.oneCell' = true)
    (h63 : n + m ≤ maxLen) (hbytes : (n + m) * bytes ≤ 140737488355328) (v' : Value) (w' : World) (hr : (Builtin.append_ #[t, t] ty #[.slice (some ⟨g, 0, none⟩) n cap, .slice (some ad) m c]).run P w = .ok v' w')
    (hown' : w'.ownsRow base e 1 v' (n + m) (xs ++ news)) : ∀ (j : Nat) (u : Value), xs[j]? = some u → w'.cell? ⟨g, j, none⟩ = some u := by
  intro j u hj
  have hjl : j < n := by
    have hx := hown.1
    rcases Nat.lt_or_ge j xs.length with h | h
    · omega
    · rw [List.getElem?_eq_none h] at hj; simp at hj
  rcases hown.2 with ⟨hv, _⟩ | ⟨g', cap', cur, hv, hb, hg, hnc, hcm, hcs, htake⟩
  · simp at hv
  · simp at hv
    obtain ⟨rfl, rfl⟩ := hv
    by_cases hroom : n + m ≤ cap
    · have hr2 := run_append_room (P := P) w t ty e i ht hi g n cap cur hg ad m c news (by rw [hl, hsize, Nat.mul_one]) hnews h1 hroom (by rw [hsize, hl]; omega)
      rw [hr] at hr2
      cases hr2
      rw [hown'.cellAt j (by omega), List.getElem?_append_left (by have := hown.1; omega)]
      exact hj
    · have hcell := hown.cells (g := g) rfl
      have hr2 := run_append_grow (P := P) w t ty e i z ht hi hz ⟨g, 0, none⟩ n cap xs (by rw [hsize]; exact hown.1) hcell ad m c news (by rw [hl, hsize, Nat.mul_one]) hnews (by omega) (by simp only [maxLen] at h63; omega)
        (by rw [hby]; exact growslice_fits (by omega) (by omega))
      rw [hr] at hr2
      cases hr2
      have hc := hcell j u hj
      have e1 : (⟨g, 0, none⟩ : Addr).add j = ⟨g, j, none⟩ := by unfold Addr.add; split <;> simp_all
      rw [e1] at hc
      exact (((Kept.refl [] w).drew.alloc _).cell (p := ⟨g, j, none⟩) (World.block_lt_of_cell? w _ hc) (by simp)).trans hc
end

/-- An append as the one operation of a drawn region that may come now. -/
theorem appendH {P : Program} {md : Region.Mode} {Q : Exit → Act → World → Prop} {S : World → Prop} {l rest : List Oper} {oi : Oper} {fuel : Nat} {listed : Array Bool} {a : Act} {w : World} (k : Nat) (hi : l.drop k = oi :: rest) (hr : Region.ready md l.toArray listed = [k]) (hgd : oi.guard = none)
    (s x : Operand) (t : TypeId) (ho : oi.op = .call { callee := .builtin .append, args := #[s, x], argTypes := #[t, t] }) (base : Nat) (e : TypeId) (i : TypeInfo) (z : Value) (bytes : Nat) (ht : P.underlying t = some (.slice e)) (hie : P.info? e = some i) (hz : i.zero = some z)
    (hsize : i.size = 1) (hby : i.bytes = bytes) (hzs : z.cells.size = 1) (v : Value) (n : Nat) (xs : List Value) (hs : a.eval s = v) (hown : w.ownsRow base e 1 v n xs)
    (ad : Addr) (m c : Nat) (news : List Value) (hx : a.eval x = .slice (some ad) m c) (hnews : ∀ (j : Nat) (u : Value), news[j]? = some u → w.cell? (ad.add j) = some u) (hl : news.length = m) (h1 : ∀ u ∈ news, u.oneCell' = true)
    (h63 : n + m ≤ maxLen) (hbytes : (n + m) * bytes ≤ 140737488355328) (hbase : base ≤ w.heap.size)
    (h : ∀ b c w', w'.ownsRow base e 1 (.slice b (n + m) c) (n + m) (xs ++ news) → w.grownBy w' v.ownBlock → (∀ g cap, v = .slice (some ⟨g, 0, none⟩) n cap → ∀ (j : Nat) (u : Value), xs[j]? = some u → w'.cell? ⟨g, j, none⟩ = some u) →
      S w' ∧ wpAnyH P md l.toArray Q S fuel (listed.setIfInBounds k true) (a.put oi.dst (.slice b (n + m) c)) w') : wpAnyH P md l.toArray Q S (fuel + 1) listed a w := by
  have hw : Region.wanted oi (yielded l.toArray a.tmps) = true := by simp [Region.wanted, hgd]
  refine wpAnyH_ready hr (by simp) (AllReadyH.cons (getL_of_drop hi) (fun K hK => ?_) AllReadyH.nil)
  rw [if_pos hw]
  obtain ⟨v', w', hrun, h2, h3, h4, h5⟩ := run_append_src (P := P) w t oi.type base e i z bytes ht hie hz hsize hby hzs v n xs hown (.slice (some ad) m c) m news (Or.inr ⟨ad, c, rfl, hnews⟩) hl h1 h63 hbytes hbase
  have h6 : ∀ g cap, v = .slice (some ⟨g, 0, none⟩) n cap → ∀ (j : Nat) (u : Value), xs[j]? = some u → w'.cell? ⟨g, j, none⟩ = some u := fun g cap hv => by
    subst hv
    exact append_old w t oi.type base e i z bytes ht hie hz hsize hby hzs g n cap xs hown ad m c news hl hnews h1 h63 hbytes v' w' hrun h2
  obtain ⟨b, c', rfl⟩ : ∃ b c, v' = .slice b (n + m) c := by
    rcases h2.2 with ⟨rfl, h0⟩ | ⟨g, cap, _, rfl, _⟩
    · exact ⟨none, 0, by rw [h0]⟩
    · exact ⟨_, cap, rfl⟩
  obtain ⟨hS, hgo⟩ := h b c' w' h2 h3 h6
  unfold Oper.wp execOp
  simp only [ho, resolve, invoke, builtin, Sem.run_bind, Sem.run_pure, Result.andThen_ok, List.map_toArray, List.map_cons, List.map_nil, hs, hx, hrun]
  exact hK.out _ _ hS (fun _ => hgo)
theorem RowV.kept_of {w wr w2 : World} {base : Nat} {e : TypeId} {v : Value} {xs : List Value} (h : RowV w base e v xs wr) (hg : wr.grownBy w2 v.ownBlock) : Kept [] w w2 :=
  h.1.trans' (Kept.of_row hg) (fun x hx hm => by
    simp at hm
    rcases h.2.2.2.2 with ⟨rfl, _⟩ | ⟨g, _, _, rfl, hb, _⟩
    · simp [Value.ownBlock] at hm
    · simp [Value.ownBlock] at hm; have := h.2.1; omega)

/-- All old blocks, and a row's cells, as they were. -/
def KG (w : World) (g : Nat) (xs : List Value) (v : World) : Prop := Kept [] w v ∧ ∀ (j : Nat) u, xs[j]? = some u → v.cell? ⟨g, j, none⟩ = some u

/-- A slice's cells. -/
def SrcV (w : World) (a : Option Addr) (xs : List Value) : Prop := ∀ (j : Nat) u, xs[j]? = some u → ∃ ad, a = some ad ∧ w.cell? (ad.add j) = some u
theorem SrcV.kept {S : List Nat} {w w' : World} {a : Option Addr} {xs : List Value} (h : SrcV w a xs) (hk : Kept S w w') (hS : ∀ x, a = some x → x.block ∉ S) : SrcV w' a xs := fun j u hj => by
  obtain ⟨ad, rfl, hc⟩ := h j u hj
  exact ⟨ad, rfl, (hk.cell (World.block_lt_of_cell? w _ hc) (by rw [add_block]; exact hS ad rfl)).trans hc⟩

theorem info_u32 : (Tryd.prog.info? 67).map (fun i => (i.zero, i.size, i.bytes)) = some (some (.int .u32 0), 1, 4) := by kernel_rfl
def uL32 (l : List Sha.W) : List Value := l.map U
theorem uL32_one (l : List Sha.W) : ∀ u ∈ uL32 l, u.oneCell' = true := by
  intro u hu; unfold uL32 at hu; simp at hu; obtain ⟨b, _, rfl⟩ := hu; rfl
theorem uL32_len (l : List Sha.W) : (uL32 l).length = l.length := by simp [uL32]
theorem uL32_get (l : List Sha.W) (i : Nat) (h : i < l.length) : (uL32 l)[i]? = some (U (l.getD i 0)) := by simp [uL32, h]

theorem words_next (b : List UInt8) (i : Nat) (h : 16 ≤ i) : Sha.words b (i + 1) = Sha.words b i ++ [Sha.nextW (Sha.words b i)] := by
  rw [Sha.words, if_neg (by omega)]
theorem words_word (b : List UInt8) (i : Nat) (h : i < 16) : Sha.words b (i + 1) = Sha.words b i ++ [Sha.word b i] := by
  rw [Sha.words, if_pos h]
theorem x_spelled (e : Sha.W) : bits .xor .u32 (bits .xor .u32 ((Sha.rotr e 7).toNat : Int) ((Sha.rotr e 18).toNat : Int)) ((e.toNat : Int) / 8) = ((Sha.rotr e 7 ^^^ Sha.rotr e 18 ^^^ (e >>> 3)).toNat : Int) := by
  have h3 := shr_bv e 3
  rw [show (8 : Int) = ((2 ^ 3 : Nat) : Int) from rfl, h3, xor_bv, xor_bv]
theorem y_spelled (e : Sha.W) : bits .xor .u32 (bits .xor .u32 ((Sha.rotr e 17).toNat : Int) ((Sha.rotr e 19).toNat : Int)) ((e.toNat : Int) / 1024) = ((Sha.rotr e 17 ^^^ Sha.rotr e 19 ^^^ (e >>> 10)).toNat : Int) := by
  have h3 := shr_bv e 10
  rw [show (1024 : Int) = ((2 ^ 10 : Nat) : Int) from rfl, h3, xor_bv, xor_bv]
/-- The next word's sum in the order of the document's text. -/
theorem next_sum (l : List Sha.W) : Sha.nextW l = l.getD (l.length - 16) 0 + (Sha.rotr (l.getD (l.length - 15) 0) 7 ^^^ Sha.rotr (l.getD (l.length - 15) 0) 18 ^^^ (l.getD (l.length - 15) 0 >>> 3)) + l.getD (l.length - 7) 0 + (Sha.rotr (l.getD (l.length - 2) 0) 17 ^^^ Sha.rotr (l.getD (l.length - 2) 0) 19 ^^^ (l.getD (l.length - 2) 0 >>> 10)) := by
  unfold Sha.nextW
  simp only
  generalize l.getD (l.length - 16) 0 = a
  generalize l.getD (l.length - 7) 0 = b
  generalize (Sha.rotr (l.getD (l.length - 15) 0) 7 ^^^ Sha.rotr (l.getD (l.length - 15) 0) 18 ^^^ (l.getD (l.length - 15) 0 >>> 3)) = c
  rw [BitVec.add_assoc a b c, BitVec.add_comm b c, ← BitVec.add_assoc]
end Go.Proofs.YtmkdjonlfkfnlaaDoor


/- coldstoreref03: first, letter, digit, Less, Text, Parse. -/
namespace Go.Proofs.YtmkdjonlfkfnlaaDoor
open Go.RowKit Go.Lib

def kCells : List Value := (List.range 64).map fun i => U (Sha.kAt i)
set_option maxRecDepth 100000 in
theorem kCells_get (i : Nat) (h : i < 64) : kCells[i]? = some (U (Sha.kAt i)) := by simp [kCells, h]
set_option maxRecDepth 100000 in
theorem wpList_run {P : Program} {ops : Array Oper} {rest : List Oper} {o : Oper} {a : Act} {w : World} {Q : Exit → Act → World → Prop} (hg : o.guard = none) (v : Value) (w' : World) (hr : (execOp a.eval o).run P w = .ok (.value v) w')
    (h : wpList P ops Q rest (a.put o.dst v) w') : wpList P ops Q (o :: rest) a w :=
  wpList_plain hg fun _ hK => by
    unfold Oper.wp
    rw [hr]
    exact hK _ _ h
set_option maxRecDepth 100000 in
set_option maxHeartbeats 1000000 in
theorem first_any (w : World) :
    Calls Tryd.prog 22 #[] w fun e w' => ∃ g1 g2, e = .returned (.tuple #[.slice (some ⟨g1, 0, none⟩) 8 8, .slice (some ⟨g2, 0, none⟩) 64 64]) ∧ Kept [] w w' ∧ w.heap.size ≤ g1 ∧ w.heap.size ≤ g2 ∧
      (∀ (j : Nat) u, (stL Sha.first)[j]? = some u → w'.cell? ⟨g1, j, none⟩ = some u) ∧ ∀ i, i < 64 → w'.cell? ⟨g2, i, none⟩ = some (U (Sha.kAt i)) := by
  obtain ⟨c1, hc1⟩ : ∃ c, c = (stL Sha.first).toArray := ⟨_, rfl⟩
  obtain ⟨c2, hc2⟩ : ∃ c, c = kCells.toArray := ⟨_, rfl⟩
  have Hc1 := hid hc1; have Hc2 := hid hc2
  clear hc1 hc2
  go_enter Tryd.func22, Tryd.ntmps22
  go_wp2_with (first
    | (refine wpList_run (w := w) rfl (.slice (some ⟨w.heap.size, 0, none⟩) 8 8) (w.alloc (.cells c1 67)) (by rw [Hc1.out]; kernel_rfl) ?_)
    | (refine wpList_run (w := w.alloc (.cells c1 67)) rfl (.slice (some ⟨(w.alloc (.cells c1 67)).heap.size, 0, none⟩) 64 64) ((w.alloc (.cells c1 67)).alloc (.cells c2 67)) (by rw [Hc2.out]; kernel_rfl) ?_))
  go_ret2
  refine ⟨_, _, rfl, ((Kept.refl [] w).alloc _).alloc _, Nat.le_refl _, by simp, fun j u hj => ?_, fun i hi => ?_⟩
  · rw [cell_of_row _ _ _ _ _ _ (heap_alloc_old (heap_alloc_at rfl)), Hc1.out]; simpa using hj
  · rw [cell_of_row _ _ _ _ _ _ (heap_alloc_at (by simp)), Hc2.out]
    have := kCells_get i hi
    simpa using this

/-- A digit's number, 16 of none. -/
def rdig (c : UInt8) : Nat := if 0 ≤ dig c then (dig c).toNat else 16
set_option maxRecDepth 100000 in
theorem rdig_lt (c : UInt8) : rdig c ≤ 16 := by unfold rdig; have := dig_lt c; split <;> omega
set_option maxRecDepth 100000 in
theorem rdig_ok (c : UInt8) : rdig c ≤ 15 ↔ 0 ≤ dig c := by unfold rdig; have := dig_lt c; split <;> omega
end Go.Proofs.YtmkdjonlfkfnlaaDoor


/- coldstoreref03: Less, Text. -/
namespace Go.Proofs.YtmkdjonlfkfnlaaDoor
open Go.RowKit Go.Lib

set_option maxRecDepth 100000 in
theorem lessL_split : ∀ (a b : List UInt8) (i : Nat), (∀ j, j < i → a[j]? = b[j]?) → lessL a b = lessL (a.drop i) (b.drop i)
  | _, _, 0, _ => rfl
  | [], [], _ + 1, _ => by simp [lessL]
  | [], y :: b, i + 1, h => by have := h 0 (by omega); simp at this
  | x :: a, [], i + 1, h => by have := h 0 (by omega); simp at this
  | x :: a, y :: b, i + 1, h => by
    have h0 := h 0 (by omega)
    simp at h0
    subst h0
    rw [List.drop_succ_cons, List.drop_succ_cons, ← lessL_split a b i (fun j hj => by simpa using h (j + 1) (by omega))]
    have hx : ¬ x < x := by
      intro hh; exact absurd (UInt8.lt_iff_toNat_lt.1 hh) (by omega)
    show (if x < x then true else if x < x then false else lessL a b) = lessL a b
    simp [hx]
set_option maxRecDepth 100000 in
theorem lessL_at (a b : List UInt8) (i : Nat) (h : ∀ j, j < i → a[j]? = b[j]?) (x y : UInt8) (hx : a[i]? = some x) (hy : b[i]? = some y) (hne : x ≠ y) : lessL a b = decide (x.toNat < y.toNat) := by
  rw [lessL_split a b i h]
  have ha := (List.getElem?_eq_some_iff.1 hx)
  have hb := (List.getElem?_eq_some_iff.1 hy)
  obtain ⟨hal, hae⟩ := ha
  obtain ⟨hbl, hbe⟩ := hb
  rw [List.drop_eq_getElem_cons hal, List.drop_eq_getElem_cons hbl, hae, hbe]
  unfold lessL
  by_cases h1 : x.toNat < y.toNat
  · simp [UInt8.lt_iff_toNat_lt, h1]
  · have h2 : y.toNat < x.toNat := by
      have : x.toNat ≠ y.toNat := fun e => hne (UInt8.toNat_inj.1 e)
      omega
    simp [UInt8.lt_iff_toNat_lt, h1, h2]
set_option maxRecDepth 100000 in
theorem lessL_same (a : List UInt8) : lessL a a = false := by
  rw [lessL_split a a a.length (fun _ _ => rfl)]; simp [lessL]

end Go.Proofs.YtmkdjonlfkfnlaaDoor


/- coldstoreref03.Of, its rows: the bytes, what ends them. -/
namespace Go.Proofs.YtmkdjonlfkfnlaaDoor
open Go.RowKit Go.Lib

theorem plain00 (g j : Nat) : (⟨g, 0, none⟩ : Addr).add j = ⟨g, j, none⟩ := by unfold Addr.add; split <;> simp_all
theorem RowV.lit {w wr : World} (e : TypeId) (x : Value) (hk : Kept [] w wr) : RowV w wr.heap.size e (.slice (some ⟨wr.heap.size, 0, none⟩) 1 1) [x] (wr.alloc (.cells #[x] e)) :=
  ⟨hk.alloc _, hk.size, by simp, by simp, Or.inr ⟨wr.heap.size, 1, #[x], rfl, Nat.le_refl _, heap_alloc_new' _ _, by simp, by unfold maxLen; omega, by simp, by simp⟩⟩
def slen : Value → Nat
  | .slice _ n _ => n
  | _ => 0
/-- The last bytes, as far as they are laid in front. -/
def lastB (n i : Nat) : List UInt8 := (List.range i).map fun j => UInt8.ofNat (n / 256 ^ (i - 1 - j))
theorem lastB_len (n i : Nat) : (lastB n i).length = i := by simp [lastB]
theorem lastB_succ (n i : Nat) : lastB n (i + 1) = UInt8.ofNat (n / 256 ^ i) :: lastB n i := by
  unfold lastB
  rw [List.range_succ_eq_map, List.map_cons, List.map_map]
  congr 1
  apply List.map_congr_left
  intro j hj
  have : j < i := by simpa using hj
  show UInt8.ofNat (n / 256 ^ (i + 1 - 1 - (j + 1))) = _
  rw [show i + 1 - 1 - (j + 1) = i - 1 - j by omega]
theorem pad_parts (n : Nat) : Sha.pad n = 128 :: List.replicate ((119 - n % 64) % 64) 0 ++ lastB (8 * n) 8 := by
  unfold Sha.pad lastB; simp
theorem src_reads {w : World} {a : Option Addr} {c : Nat} {ys : List UInt8} (h : Reads w a ys) (hn : a = none → c = 0) : Src w (.slice a ys.length c) ys.length (ys.map B) := by
  cases a with
  | none => have := h.1 rfl; subst this; rw [hn rfl]; exact Or.inl ⟨rfl, rfl, rfl⟩
  | some ad => exact Or.inr ⟨ad, c, rfl, fun j u hj => h.2 ad rfl j u hj⟩

theorem RowV.slice2 {w wr : World} {base : Nat} {e : TypeId} {v : Value} {xs : List Value} (h : RowV w base e v xs wr) (hx : xs ≠ []) : ∃ g c, v = .slice (some ⟨g, 0, none⟩) xs.length c ∧ xs.length ≤ c ∧ c ≤ maxLen ∧ base ≤ g ∧ g < wr.heap.size ∧ ∀ (j : Nat) u, xs[j]? = some u → wr.cell? ⟨g, j, none⟩ = some u := by
  obtain ⟨g, c, hv, h1, h2, h3⟩ := h.slice hx
  refine ⟨g, c, hv, ?_, ?_, h1, h2, h3⟩
  all_goals
    rcases h.2.2.2.2 with ⟨h0, _⟩ | ⟨g', cap, cur, h0, hb, hh, hnc, hcm, _⟩
    · rw [hv] at h0; simp at h0
    · rw [hv] at h0; simp at h0; omega
theorem elem_u8 : Tryd.prog.elem 30 = 5 := by simp [Program.elem, Tryd.underlying30]
theorem slice_blk (g m c i : Nat) (hj : i + 64 ≤ m) (hmc : m ≤ c) (W : World) : (Instr.sliceAt 30 (.slice (some ⟨g, 0, none⟩) m c) (some (.int .i64 (i : Int))) (some (.int .i64 ((i : Int) + 64))) none).run Tryd.prog W = .ok (.slice (some ⟨g, i, none⟩) 64 (c - i)) W := by
  rw [run_sliceAt_slice W 30 _ _ _ _ (by simp [Program.elem, Tryd.underlying30])]
  have hs : (sizeOf 5).run Tryd.prog W = .ok 1 W := by kernel_rfl
  rw [run_slice_lh W 30 _ _ _ (by simp [Program.elem, Tryd.underlying30]) .i64 .i64 (i : Int) ((i : Int) + 64) (by omega) (by omega) (by omega), elem_u8, hs]
  have e1 : ((i : Int) + 64).toNat = i + 64 := by omega
  have e2 : ((i : Int)).toNat = i := by omega
  have e3 : ¬ c = i := by omega
  simp [Result.andThen, sliced, e1, plain00, e3]

set_option maxRecDepth 100000 in
set_option maxHeartbeats 2000000 in
theorem refof_any (a : Option Addr) (c : Nat) (ys : List UInt8) (w : World) (hr : Reads w a ys) (hn : a = none → c = 0) (hl : ys.length ≤ 1000000)
    (hmix : ∀ (s : Sha.St) (b : List UInt8) (gh ch gk ck gb ob cb : Nat) (w : World), b.length = 64 → (∀ (j : Nat) u, (stL s)[j]? = some u → w.cell? ⟨gh, j, none⟩ = some u) → (∀ i, i < 64 → w.cell? ⟨gk, i, none⟩ = some (U (Sha.kAt i))) → (∀ j, j < 64 → w.cell? ⟨gb, ob + j, none⟩ = some (B (b.getD j 0))) →
      Calls Tryd.prog 23 #[.slice (some ⟨gh, 0, none⟩) 8 ch, .slice (some ⟨gk, 0, none⟩) 64 ck, .slice (some ⟨gb, ob, none⟩) 64 cb] w fun e w' => ∃ g c, e = .returned (.slice (some ⟨g, 0, none⟩) 8 c) ∧ Kept [] w w' ∧ w.heap.size ≤ g ∧ g < w'.heap.size ∧ (∀ (j : Nat) u, (stL (Sha.mix s b))[j]? = some u → w'.cell? ⟨g, j, none⟩ = some u)) :
    Calls Tryd.prog 8 #[.slice a ys.length c] w fun e w' => e = .returned (.agg ((Sha.sum ys).map B).toArray) ∧ Kept [] w w' := by
  obtain ⟨i0, hi0, hz0, hz1, hz2⟩ := info_parts sha_info_u8
  have Hr := hid hr; have Hmix := hid hmix; have Hn := hid hn
  clear hr hmix hn
  obtain ⟨Z, hZ⟩ : ∃ Z, Z = ((List.replicate 32 (0 : UInt8)).map B).toArray := ⟨_, rfl⟩
  have HZ := hid hZ
  clear hZ
  go_enter Tryd.func8, Tryd.ntmps8
  go_wp2_with fail
  refine (first_any _).mono ?_
  rintro e W0 ⟨g1, g2, rfl, hk0, hg1, hg2, hc1, hc2⟩
  have Hres := hid (hk0.at (heap_alloc_at (w := w) (k := w.heap.size) rfl) (by simp))
  have Hk0 := hid (((Kept.refl [] w).alloc _).trans hk0)
  have Hc1 := hid hc1; have Hc2 := hid hc2
  have Hg := hid (show w.heap.size < g1 ∧ w.heap.size < g2 ∧ g1 < W0.heap.size ∧ g2 < W0.heap.size from ⟨by simp at hg1; omega, by simp at hg2; omega, World.block_lt_of_cell? W0 _ (hc1 0 _ rfl), World.block_lt_of_cell? W0 _ (hc2 0 (by omega))⟩)
  have hfr := hid (RowV.fresh 5 (Kept.refl [] W0))
  have hsrc := hid (src_reads ((Hr.out.kept Hk0.out (by simp)).kept ((Kept.refl [] W0).alloc (.cells #[] 5)) (by simp)) Hn.out)
  clear hk0 hg1 hg2 hc1 hc2
  go_wp2_with (at_builtin; refine halt ?_)
  refine Halt.mk ?_
  refine wpList_append_src _ rfl _ _ _ rfl W0.heap.size 5 i0 _ 1 Tryd.underlying30 hi0 hz0 hz1 hz2 rfl (.slice (some ⟨W0.heap.size, 0, none⟩) 0 0) 0 [] rfl hfr.out.2.2.2 (.slice a ys.length c) ys.length (ys.map B) rfl hsrc.out (by simp) (B_one ys) (by unfold maxLen; omega) (by omega) (by simp) ?_
  intro v5 W1 hown1 hgrow1 _ _
  obtain ⟨a5, c5, rfl⟩ := owns_slice hown1
  have HR1 := hid (show RowV W0 W0.heap.size 5 (.slice a5 ys.length c5) (ys.map B) W1 from by
    have := hfr.out.step (xs := []) (ys := ys.map B) (Kept.refl [] _) (by rw [List.nil_append, List.length_map]; simpa using hown1) hgrow1
    simpa using this)
  clear hown1 hgrow1 hfr hsrc
  rw [Nat.zero_add]
  have hown1 := hid (show (W1.alloc (.cells #[.int .u8 128] 5)).ownsRow W0.heap.size 5 1 (.slice a5 ys.length c5) ys.length (ys.map B) from by
    have := ((Kept.refl [] W1).alloc (.cells #[.int .u8 128] 5)).owns HR1.out.2.2.2 (by simp)
    simpa using this)
  go_wp2_with (at_builtin; refine halt ?_)
  refine Halt.mk ?_
  refine wpList_append_src _ rfl _ _ _ rfl W0.heap.size 5 i0 _ 1 Tryd.underlying30 hi0 hz0 hz1 hz2 rfl (.slice a5 ys.length c5) ys.length (ys.map B) rfl hown1.out (.slice (some ⟨W1.heap.size, 0, none⟩) 1 1) 1 [B 128] rfl (Or.inr ⟨_, _, rfl, cell_one_new _ _ _⟩) rfl (by intro u hu; simp at hu; subst hu; rfl) (by unfold maxLen; omega) (by omega) (by have := HR1.out.2.2.1; simp; omega) ?_
  intro v6 W2 hown2 hgrow2 _ _
  obtain ⟨a6, c6, rfl⟩ := owns_slice hown2
  have HR2 := hid (show RowV W0 W0.heap.size 5 (.slice a6 (ys.length + 1) c6) ((ys ++ 128 :: List.replicate 0 0).map B) W2 from by
    have := HR1.out.step (ys := [B 128]) ((Kept.refl [] W1).alloc (.cells #[.int .u8 128] 5)) (by simpa using hown2) hgrow2
    simpa using this)
  clear hown2 hgrow2 hown1 HR1
  obtain ⟨z, hz⟩ : ∃ z, z = (119 - ys.length % 64) % 64 := ⟨_, rfl⟩
  have hz64 : z < 64 := by omega
  have Hz := hid hz
  clear hz
  go_wp2_with fail
  go_loopw [5] (fun v wr => ∃ (k : Nat) (a7 : Option Addr) (c7 : Nat), k ≤ z ∧ v = .slice a7 (ys.length + 1 + k) c7 ∧ Hid (RowV W0 W0.heap.size 5 (.slice a7 (ys.length + 1 + k) c7) ((ys ++ 128 :: List.replicate k 0).map B) wr)) (fun v _ => ys.length + 1 + z - slen v)
  case atStart => exact ⟨0, a6, c6, by omega, rfl, HR2⟩
  case round =>
    clear HR2
    obtain ⟨k, a7, c7, hk, rfl, hrow⟩ := hrel
    have hlen : ((ys ++ 128 :: List.replicate k 0).map B).length = ys.length + 1 + k := by simp; omega
    by_cases hlt : k < z
    · have hz := Hz.out
      have htm : ((ys.length : Int) + 1 + (k : Int)).tmod 64 = (((ys.length + 1 + k) % 64 : Nat) : Int) := by rw [Int.tmod_eq_emod_of_nonneg (by omega)]; omega
      have hne : ((((ys.length + 1 + k) % 64 : Nat) : Int) == 56) = false := by simp; omega
      obtain ⟨m, hm⟩ : ∃ m, m = (ys.length + 1 + k) % 64 := ⟨_, rfl⟩
      rw [← hm] at htm hne
      clear hz
      have Hown := hid (show (wr.alloc (.cells #[.int .u8 0] 5)).ownsRow W0.heap.size 5 1 (.slice a7 (ys.length + 1 + k) c7) (ys.length + 1 + k) ((ys ++ 128 :: List.replicate k 0).map B) from by
        have := ((Kept.refl [] wr).alloc (.cells #[.int .u8 0] 5)).owns hrow.out.2.2.2 (by simp)
        rwa [hlen] at this)
      clear hm
      go_wp2_with (at_builtin; refine halt ?_)
      refine Halt.mk ?_
      refine wpList_append_src _ rfl _ _ _ rfl W0.heap.size 5 i0 _ 1 Tryd.underlying30 hi0 hz0 hz1 hz2 rfl (.slice a7 (ys.length + 1 + k) c7) (ys.length + 1 + k) ((ys ++ 128 :: List.replicate k 0).map B) rfl Hown.out (.slice (some ⟨wr.heap.size, 0, none⟩) 1 1) 1 [B 0] rfl (Or.inr ⟨_, _, rfl, cell_one_new _ _ _⟩) rfl (by intro u hu; simp at hu; subst hu; rfl) (by unfold maxLen; omega) (by omega) (by have := hrow.out.2.2.1; simp; omega) ?_
      intro v8 w8 hown8 hgrow8 _ _
      obtain ⟨a8, c8, rfl⟩ := owns_slice hown8
      have hstep := hid (show RowV W0 W0.heap.size 5 (.slice a8 (ys.length + 1 + (k + 1)) c8) ((ys ++ 128 :: List.replicate (k + 1) 0).map B) w8 from by
        have e : (ys ++ 128 :: List.replicate (k + 1) (0 : UInt8)).map B = (ys ++ 128 :: List.replicate k 0).map B ++ [B 0] := by rw [List.replicate_succ']; simp
        rw [e]
        exact hrow.out.step ((Kept.refl [] wr).alloc (.cells #[.int .u8 0] 5)) (by rw [List.length_append, hlen]; exact hown8) hgrow8)
      clear hown8 hgrow8 Hown htm hne
      go_wp2_with fail
      exact ⟨⟨k + 1, a8, c8, by omega, rfl, hstep⟩, by simp [slen]; omega⟩
    · obtain rfl : z = k := by omega
      have htm : ((ys.length : Int) + 1 + (z : Int)).tmod 64 = 56 := by have hz := Hz.out; rw [Int.tmod_eq_emod_of_nonneg (by omega)]; omega
      generalize wr = Wx at *
      obtain ⟨m, hm⟩ : ∃ m, m = 8 * ys.length := ⟨_, rfl⟩
      have hm8 : 8 * (ys.length : Int) = (m : Int) := by omega
      have hml : m ≤ 8000000 := by omega
      have Hm := hid hm
      have HA := hid hrow.out
      have hfr2 := hid (RowV.fresh 5 (Kept.refl [] Wx))
      clear hm hrow
      go_wp2_with fail
      go_loopw [6, 7, 8] (fun x v j wr => ∃ (i base : Nat) (a9 : Option Addr) (c9 : Nat), i ≤ 8 ∧ j = .int .i64 i ∧ x = .int .u64 ((m / 256 ^ i : Nat) : Int) ∧ v = .slice a9 i c9 ∧ Hid (RowV Wx base 5 (.slice a9 i c9) ((lastB m i).map B) wr)) (fun _ _ j _ => 8 - (intOf j).toNat)
      case atStart => exact ⟨0, Wx.heap.size, some ⟨Wx.heap.size, 0, none⟩, 0, by omega, rfl, by simp, rfl, by simpa [lastB] using hfr2⟩
      case round =>
        clear hfr2
        obtain ⟨i, base, a9, c9, hi, rfl, rfl, rfl, hrow⟩ := hrel
        have hl9 : ((lastB m i).map B).length = i := by simp [lastB_len]
        by_cases hlt8 : i < 8
        · obtain ⟨M, hM⟩ : ∃ M, M = m / 256 ^ i := ⟨_, rfl⟩
          have hMl : M ≤ 8000000 := by rw [hM]; exact Nat.le_trans (Nat.div_le_self _ _) hml
          have hM2 := hid (show M / 256 = m / 256 ^ (i + 1) by rw [hM, Nat.div_div_eq_div_mul, Nat.pow_succ])
          have hB := hid (show B (UInt8.ofNat (m / 256 ^ i)) = .int .u8 ((M : Int) % 256) by rw [sha_B_ofNat, hM])
          rw [← hM]
          clear hM
          have hlit := hid (RowV.lit 5 (.int .u8 ((M : Int) % 256)) hrow.out.1)
          have hsrc := hid (show ∀ (j : Nat) u, ((lastB m i).map B)[j]? = some u → True from fun _ _ _ => trivial)
          have tm : (M : Int).tmod 256 = (M : Int) % 256 := by rw [Int.tmod_eq_emod_of_nonneg (by omega)]
          have td : (M : Int).tdiv 256 = ((M / 256 : Nat) : Int) := by rw [Int.tdiv_eq_ediv_of_nonneg (by omega)]; omega
          have hSrc := hid (show Src (wr.alloc (.cells #[.int .u8 ((M : Int) % 256)] 5)) (.slice a9 i c9) i ((lastB m i).map B) from by
            have ho := ((Kept.refl [] wr).alloc (.cells #[.int .u8 ((M : Int) % 256)] 5)).owns hrow.out.2.2.2 (by simp)
            rw [hl9] at ho
            rcases ho.2 with ⟨h1, h2⟩ | ⟨g', _, _, h1, _⟩
            · rw [h1]; left; refine ⟨rfl, h2, ?_⟩
              exact List.eq_nil_of_length_eq_zero (by rw [hl9]; exact h2)
            · right
              cases h1
              exact ⟨_, _, rfl, fun j u hj => ho.cells (g := g') rfl j u hj⟩)
          go_wp2_with (at_builtin; refine halt ?_)
          refine Halt.mk ?_
          refine wpList_append_src _ rfl _ _ _ rfl wr.heap.size 5 i0 _ 1 Tryd.underlying30 hi0 hz0 hz1 hz2 rfl (.slice (some ⟨wr.heap.size, 0, none⟩) 1 1) 1 [.int .u8 ((M : Int) % 256)] rfl hlit.out.2.2.2 (.slice a9 i c9) i ((lastB m i).map B) rfl hSrc.out hl9 (B_one _) (by unfold maxLen; omega) (by omega) (by simp) ?_
          intro v8 w8 hown8 hgrow8 _ _
          obtain ⟨a8, c8, rfl⟩ := owns_slice hown8
          have hstep := hid (show RowV Wx wr.heap.size 5 (.slice a8 (i + 1) c8) ((lastB m (i + 1)).map B) w8 from by
            have e : (lastB m (i + 1)).map B = [.int .u8 ((M : Int) % 256)] ++ (lastB m i).map B := by rw [lastB_succ, List.map_cons, hB.out]; rfl
            rw [e, Nat.add_comm i 1]
            exact hlit.out.step (Kept.refl [] _) (by rw [List.length_append, hl9]; exact hown8) hgrow8)
          rw [Nat.add_comm 1 i]
          clear hown8 hgrow8 hlit hSrc hsrc hrow
          go_wp2_with fail
          go_roundw
          case rel => exact ⟨i + 1, wr.heap.size, a8, c8, by omega, by go_num, by rw [← hM2.out]; congr 1, rfl, hstep⟩
          case measure => simp [intOf]; omega
        · obtain rfl : i = 8 := by omega
          have HA2 := hid (HA.out.next hrow.out.1)
          obtain ⟨X, hX⟩ : ∃ X, X = ys ++ Sha.pad ys.length := ⟨_, rfl⟩
          have hXm : X.map B = (ys ++ 128 :: List.replicate z 0).map B ++ (lastB m 8).map B := by rw [hX, pad_parts, Hm.out, Hz.out]; simp
          have hXl : X.length = ys.length + 1 + z + 8 := by
            have := congrArg List.length hXm
            rw [List.length_map, List.length_append, hlen, hl9] at this; exact this
          have hX64 : X.length % 64 = 0 := by rw [hX, List.length_append]; exact Sha.pad_whole _
          have hSrc := hid (show Src wr (.slice a9 8 c9) 8 ((lastB m 8).map B) from by
            have ho := hrow.out.2.2.2
            rw [hl9] at ho
            rcases ho.2 with ⟨h1, h2⟩ | ⟨g', _, _, h1, _⟩
            · omega
            · right
              cases h1
              exact ⟨_, _, rfl, fun j u hj => ho.cells (g := g') rfl j u hj⟩)
          have hown := hid (show wr.ownsRow W0.heap.size 5 1 (.slice a7 (ys.length + 1 + z) c7) (ys.length + 1 + z) ((ys ++ 128 :: List.replicate z 0).map B) from by
            have := HA2.out.2.2.2
            rwa [hlen] at this)
          have HX := hid hX; have HXm := hid hXm; have HXl := hid hXl; have HX64 := hid hX64
          clear hX hXm hXl hX64 htm
          go_wp2_with (at_builtin; refine halt ?_)
          refine Halt.mk ?_
          refine wpList_append_src _ rfl _ _ _ rfl W0.heap.size 5 i0 _ 1 Tryd.underlying30 hi0 hz0 hz1 hz2 rfl (.slice a7 (ys.length + 1 + z) c7) (ys.length + 1 + z) ((ys ++ 128 :: List.replicate z 0).map B) rfl hown.out (.slice a9 8 c9) 8 ((lastB m 8).map B) rfl hSrc.out hl9 (B_one _) (by unfold maxLen; omega) (by omega) (by have := HA2.out.2.2.1; omega) ?_
          intro v3 W3 hown3 hgrow3 _ _
          obtain ⟨a3, c3, rfl⟩ := owns_slice hown3
          have HR3 : RowV W0 W0.heap.size 5 (.slice a3 (ys.length + 1 + z + 8) c3) (X.map B) W3 := by
            rw [HXm.out]
            exact HA2.out.step (Kept.refl [] _) (by rw [List.length_append, hlen, hl9]; exact hown3) hgrow3
          obtain ⟨g3, c3', hv, hc3, hcm3, hg3, hgl3, hcell3⟩ := HR3.slice2 (fun e => by have h1 := congrArg List.length e; have h2 := HXl.out; rw [List.length_map, h2] at h1; simp at h1)
          obtain ⟨rfl, rfl⟩ : a3 = some ⟨g3, 0, none⟩ ∧ c3 = c3' := by simp at hv; exact ⟨hv.1, hv.2.2⟩
          rw [List.length_map, HXl.out] at hc3
          obtain ⟨N, hN⟩ : ∃ N, X.length = 64 * N := ⟨X.length / 64, by have := HX64.out; omega⟩
          have hL : ys.length + 1 + z + 8 = 64 * N := by rw [← HXl.out]; exact hN
          rw [hL] at hc3 ⊢
          have Hcell3 := hid (show ∀ j, j < 64 * N → W3.cell? ⟨g3, j, none⟩ = some (B (X.getD j 0)) from fun j hj => hcell3 j _ (by simp [show j < X.length by omega]))
          have Hk3 := hid HR3.1
          have HN := hid hN
          have hNl : 64 * N ≤ 2000000 := by omega
          have hcm : c3 ≤ 9223372036854775807 := by unfold maxLen at hcm3; omega
          clear hown3 hgrow3 HR3 hcell3 hv hown hSrc HA2 HA hrow hl9 hlen hcm3 hg3 hL hN
          go_wp2_with fail
          go_loopw [3, 9] (fun v j wr => ∃ (k gh ch : Nat), k ≤ N ∧ j = .int .i64 ((64 * k : Nat) : Int) ∧ v = .slice (some ⟨gh, 0, none⟩) 8 ch ∧ Hid (Kept [] W3 wr) ∧ Hid (w.heap.size < gh ∧ ∀ (j : Nat) u, (stL (Sha.stN X k))[j]? = some u → wr.cell? ⟨gh, j, none⟩ = some u)) (fun _ j _ => 64 * N - (intOf j).toNat)
          case atStart => exact ⟨0, g1, 8, by omega, rfl, rfl, hid (Kept.refl [] _), hid ⟨Hg.out.1, fun j u hj => (Hk3.out.cell (p := ⟨g1, j, none⟩) Hg.out.2.2.1 (by simp)).trans (Hc1.out j u hj)⟩⟩
          case round =>
            obtain ⟨k, gh, ch, hk', rfl, rfl, hkw, hh⟩ := hrel
            by_cases hltN : k < N
            · have hsl := fun W => slice_blk g3 (64 * N) c3 (64 * k) (by omega) hc3 W
              have hcell := fun (j : Nat) (hj : j < 64 * N) => (hkw.out.cell (p := ⟨g3, j, none⟩) hgl3 (by simp)).trans (Hcell3.out j hj)
              have hmx := hid (Hmix.out (Sha.stN X k) ((X.drop (64 * k)).take 64) gh ch g2 64 g3 (64 * k) (c3 - 64 * k) wr (by have := HN.out; simp; omega) hh.out.2
                (fun i hi => (hkw.out.cell (p := ⟨g2, i, none⟩) (Nat.lt_of_lt_of_le Hg.out.2.2.2 Hk3.out.size) (by simp)).trans ((Hk3.out.cell (p := ⟨g2, i, none⟩) Hg.out.2.2.2 (by simp)).trans (Hc2.out i hi)))
                (fun j hj => by
                  rw [hcell (64 * k + j) (by omega)]
                  simp [List.getD, List.getElem?_take, List.getElem?_drop, hj]))
              have e1 : Sha.stN X (k + 1) = Sha.mix (Sha.stN X k) ((X.drop (64 * k)).take 64) := by rw [Sha.stN]
              obtain ⟨st', hst'⟩ : ∃ s, s = Sha.stN X (k + 1) := ⟨_, rfl⟩
              rw [← e1, ← hst'] at hmx
              have Hst := hid hst'
              clear hst'
              have i1 : ((64 * k : Nat) : Int) < 64 * (N : Int) := by omega
              have iw : IntKind.i64.wrap (((64 * k : Nat) : Int) + 64) = ((64 * k : Nat) : Int) + 64 := IntWalk.i64_in _ (by omega)
              obtain ⟨q, hq⟩ : ∃ q, q = 64 * k := ⟨_, rfl⟩
              rw [← hq] at hsl hmx i1 iw ⊢
              have hq2 : q + 64 = 64 * (k + 1) := by omega
              have hql : q < 2000000 := by omega
              clear hcell e1 hq
              go_wp2_with fail
              refine hmx.out.mono ?_
              rintro e w6 ⟨gn, cn, rfl, hkn, hgn1, hgn2, hcn⟩
              have hkn' := hid (hkw.out.trans hkn)
              have hh' := hid (show w.heap.size < gn ∧ ∀ (j : Nat) u, (stL (Sha.stN X (k + 1)))[j]? = some u → w6.cell? ⟨gn, j, none⟩ = some u from by
               rw [← Hst.out]
               exact ⟨by
                have h1 := hkw.out.size; have h2 := Hg.out.1; have h3 := Hg.out.2.2.1; have h4 := Hk3.out.size; omega, fun j u hj => hcn j u hj⟩)
              clear hsl hmx hkn hgn1 hgn2 hcn
              go_wp2_with fail
              go_roundw
              case rel => exact ⟨k + 1, gn, cn, by omega, by rw [show ((64 * (k + 1) : Nat) : Int) = (q : Int) + 64 by omega], rfl, hkn', hh'⟩
              case measure => simp [intOf]; omega
            · obtain rfl : k = N := by omega
              obtain ⟨S, hS⟩ : ∃ S, S = Sha.stN X k := ⟨_, rfl⟩
              rw [← hS] at hh
              obtain ⟨l, hld⟩ : ∃ l, l = Sha.bytesOf S := ⟨_, rfl⟩
              have hsum := hid (show Sha.sum ys = l by
                rw [hld, hS]; unfold Sha.sum Sha.stOf
                rw [← HX.out, show X.length / 64 = k by have := HN.out; omega])
              have hll : l.length = 32 := by rw [hld]; simp [Sha.bytesOf]
              have hlget : ∀ i, i < 32 → l[i]? = some (UInt8.ofNat ((S.list.getD (i / 4) 0).toNat >>> (24 - i % 4 * 8))) := fun i hi => by rw [hld]; simp [Sha.bytesOf, hi]
              have Hlget := hid hlget
              have hkw0 := hid (Hk0.out.trans (Hk3.out.trans hkw.out))
              have hresW := hid (hkw.out.at (Hk3.out.at Hres.out (by simp)) (by simp))
              have hghl : gh < wr.heap.size := World.block_lt_of_cell? wr _ (hh.out.2 0 (U S.a) rfl)
              have hnewr := hid (show (wr.alloc (.cells Z 34)).heap[wr.heap.size]? = some (.cells Z 34 (0, 0)) from heap_alloc_at rfl)
              have hzs : Z.size = 32 := by rw [HZ.out]; simp
              have hsz := hid (show (Tryd.prog.info? 34).map (·.size) = some Z.size by rw [hzs]; kernel_rfl)
              have hone := hid (show Z.all (·.oneCell') = true by
                rw [HZ.out, Array.all_eq_true_iff_forall_mem]
                intro u hu
                exact B_one (List.replicate 32 0) u (by simpa using hu))
              have H0 : Hid (IdRel w gh wr.heap.size S l 0 (wr.alloc (.cells Z 34))) := hid
                ⟨hh.out.1, hghl, hkw0.out.alloc _, heap_alloc_old hresW.out, fun j hj => (((Kept.refl [] wr).alloc _).cell (p := ⟨gh, j, none⟩) hghl (by simp)).trans (hh.out.2 j _ (by
                  rcases j with _ | _ | _ | _ | _ | _ | _ | _ | j <;> first | rfl | omega)), by rw [show iL l 0 = List.replicate 32 0 by simp [iL], ← HZ.out]; exact heap_alloc_at rfl⟩
              clear hS hld hlget hh hkw hresW hzs hltN hk'
              go_wp2_with (refine wpList_store_row rfl 34 (.tmp 10) (.tmp 63) rfl wr.heap.size Z rfl (by rw [HZ.out]; rfl) _ _ (heap_alloc_at rfl) hsz.out (by rw [HZ.out]; rfl) hone.out ?_)
              rw [World.setRow_alloc_new]
              obtain ⟨W9, hW9⟩ : ∃ W, W = wr.alloc (.cells Z 34) := ⟨_, rfl⟩
              obtain ⟨r, hrr⟩ : ∃ r, r = wr.heap.size := ⟨_, rfl⟩
              rw [← hW9, ← hrr] at H0 ⊢
              clear hW9 hnewr hrr hghl
              go_loopw [11] (fun j wr => ∃ i : Nat, i ≤ 32 ∧ j = .int .i64 i ∧ Hid (IdRel w gh r S l i wr)) (fun j _ => 32 - (intOf j).toNat)
              case atStart => exact ⟨0, by omega, rfl, H0⟩
              case round =>
                clear H0
                obtain ⟨i, hi, rfl, hr⟩ := hrel
                by_cases hlt : i < 32
                · obtain ⟨_, _, _, _, hst, hid5⟩ := hr.out
                  have gs := hst (i / 4) (by omega)
                  obtain ⟨x, hx⟩ : ∃ x, x = S.list.getD (i / 4) 0 := ⟨_, rfl⟩
                  rw [← hx] at gs
                  have hget := hid (show l[i]? = some (UInt8.ofNat (x.toNat >>> (24 - i % 4 * 8))) by rw [hx]; exact Hlget.out i hlt)
                  have hr2 := hid (hr.out.step hll hlt _ hget.out)
                  rw [sha_B_ofNat] at hr2
                  obtain ⟨v, gx⟩ : ∃ v, wr.cell? ⟨r, i, none⟩ = some v := ⟨((iL l i).map B).toArray[i]'(by simp [iL_len l i hll hi]; omega), (cell_of_row wr _ _ _ _ _ hid5).trans (Array.getElem?_eq_getElem _)⟩
                  have gf := frozen_of_row wr _ i _ _ hid5
                  obtain ⟨sh, hsh⟩ : ∃ sh, sh = 24 - i % 4 * 8 := ⟨_, rfl⟩
                  have hdiv := hid (show (x.toNat : Int) / 2 ^ sh = ((x.toNat >>> sh : Nat) : Int) by
                    rw [Nat.shiftRight_eq_div_pow, show (2 : Int) ^ sh = ((2 ^ sh : Nat) : Int) by simp]
                    exact (Int.natCast_ediv _ _).symm)
                  have k0 : (0 : Int) ≤ (i : Int) / 4 := by omega
                  have k1 : (i : Int) / 4 < 8 := by omega
                  have k2 : ((i : Int) / 4).toNat = i / 4 := by omega
                  have k3 : (0 : Int) ≤ 24 - 8 * ((i : Int) % 4) := by omega
                  have k4 : 24 - 8 * ((i : Int) % 4) ≤ 32 := by omega
                  have k5 : (24 - 8 * ((i : Int) % 4)).toNat = sh := by omega
                  have hr3 := hr2.out
                  rw [← hsh] at hr3
                  have Hr3 := hid hr3
                  clear hst hid5 hx hsh hr hr2 hr3 hget
                  go_wp2_with fail
                  rw [hdiv.out]
                  exact ⟨⟨i + 1, by omega, by go_num, Hr3⟩, by simp [intOf]; omega⟩
                · obtain rfl : i = 32 := by omega
                  obtain ⟨hq3, hr3, hk9, hres9, -, hids⟩ := hr.out
                  rw [iL_all l hll] at hids
                  obtain ⟨cs, hcs⟩ : ∃ cs, cs = (l.map B).toArray := ⟨_, rfl⟩
                  rw [← hcs] at hids
                  have hsz9 : cs.size = 32 := by rw [hcs]; simp [hll]
                  have Hsz9 := hid (show (Tryd.prog.info? 34).map (·.size) = some cs.size by rw [hsz9]; kernel_rfl)
                  have Hold9 := hid (show ((List.replicate 32 (0 : UInt8)).map B).toArray.size = cs.size by rw [hsz9]; simp)
                  have Hone9 := hid (show cs.all (·.oneCell') = true by
                    rw [hcs, Array.all_eq_true_iff_forall_mem]
                    intro u hu
                    exact B_one l u (by simpa using hu))
                  have Hcs := hid (show cs = ((Sha.sum ys).map B).toArray by rw [hcs, hsum.out])
                  have Hids := hid hids; have Hres9 := hid hres9; have Hk9 := hid hk9
                  clear hids hres9 hk9 hcs hsz9 hr
                  go_wp2_with (first
                    | (refine wpList_load_row rfl 34 (.tmp 10) rfl r rfl _ _ _ _ Hids.out Tryd.underlying34 rfl Hsz9.out ?_)
                    | (refine wpList_store_row rfl 34 (.tmp 2) (.tmp 81) rfl w.heap.size cs rfl rfl _ _ Hres9.out Hsz9.out Hold9.out Hone9.out ?_))
                  refine bodyPost_ret (v := .agg cs) (results_cell_row Tryd.results8 _ _ w.heap.size _ _ _ _ rfl (setRow_heap _ _ _ _ _ _ Hres9.out) Tryd.underlying34 rfl Hsz9.out) rfl ⟨by rw [Hcs.out], Hk9.out.setRow (fun h => absurd h (by omega)) _⟩
end Go.Proofs.YtmkdjonlfkfnlaaDoor


/- coldstoreref03.mix: a state behind a block. -/
namespace Go.Proofs.YtmkdjonlfkfnlaaDoor
open Go.RowKit Go.Lib


theorem plain0 (g j : Nat) : (⟨g, 0, none⟩ : Addr).add j = ⟨g, j, none⟩ := by unfold Addr.add; split <;> simp_all
theorem choice_sp (e f g : Sha.W) : bits .or .u32 (bits .and .u32 (e.toNat : Int) (f.toNat : Int)) (bits .and .u32 (bits .xor .u32 IntKind.u32.max (e.toNat : Int)) (g.toNat : Int)) = ((Sha.choice e f g).toNat : Int) := by
  rw [not_bv, and_bv, and_bv, or_bv, choice_or]
theorem major_sp (a b c : Sha.W) : bits .or .u32 (bits .or .u32 (bits .and .u32 (a.toNat : Int) (b.toNat : Int)) (bits .and .u32 (a.toNat : Int) (c.toNat : Int))) (bits .and .u32 (b.toNat : Int) (c.toNat : Int)) = ((Sha.major a b c).toNat : Int) := by
  rw [and_bv, and_bv, and_bv, or_bv, or_bv, major_or]
theorem sum1_sp (h e c k w : Sha.W) : ((((((h.toNat : Int) + bits .xor .u32 (bits .xor .u32 ((Sha.rotr e 6).toNat : Int) ((Sha.rotr e 11).toNat : Int)) ((Sha.rotr e 25).toNat : Int)) % 4294967296 + (c.toNat : Int)) % 4294967296 + (k.toNat : Int)) % 4294967296) + (w.toNat : Int)) % 4294967296 = ((h + Sha.sig e 6 11 25 + c + k + w).toNat : Int) := by
  rw [xor_bv, xor_bv, add_bv, add_bv, add_bv, add_bv]; rfl
theorem sum2_sp (a m : Sha.W) : (bits .xor .u32 (bits .xor .u32 ((Sha.rotr a 2).toNat : Int) ((Sha.rotr a 13).toNat : Int)) ((Sha.rotr a 22).toNat : Int) + (m.toNat : Int)) % 4294967296 = ((Sha.sig a 2 13 22 + m).toNat : Int) := by
  rw [xor_bv, xor_bv, add_bv]; rfl
/-- The words stand in the row gw. -/
def SrcW (w : World) (gw : Nat) (ws : List Sha.W) (v : World) : Prop := ∀ (j : Nat) u, (uL32 ws)[j]? = some u → v.cell? ⟨gw, j, none⟩ = some u
theorem SrcW.next {w v v' : World} {gw : Nat} {ws : List Sha.W} (h : SrcW w gw ws v) (hk : Kept [] v v') : SrcW w gw ws v' := fun j u hj =>
  (hk.cell (p := ⟨gw, j, none⟩) (World.block_lt_of_cell? v _ (h j u hj)) (by simp)).trans (h j u hj)
/-- A round's state: the words, and the eight words of the state in block ga. -/
def Rn (w : World) (gw : Nat) (ws : List Sha.W) (ga : Nat) (t : Sha.St) (v : World) : Prop :=
  Kept [] w v ∧ SrcW w gw ws v ∧ (∀ (j : Nat) u, (stL t)[j]? = some u → v.cell? ⟨ga, j, none⟩ = some u) ∧ w.heap.size ≤ ga
theorem Rn.next {w v v' : World} {gw ga : Nat} {ws : List Sha.W} {t : Sha.St} (h : Rn w gw ws ga t v) (hk : Kept [] v v') : Rn w gw ws ga t v' :=
  ⟨h.1.trans hk, h.2.1.next hk, fun j u hj => (hk.cell (p := ⟨ga, j, none⟩) (World.block_lt_of_cell? v _ (h.2.2.1 j u hj)) (by simp)).trans (h.2.2.1 j u hj), h.2.2.2⟩

theorem rn_right {w v : World} {gw ga : Nat} {ws : List Sha.W} {t : Sha.St} (h : Rn w gw ws ga t v) (x : Sha.W) (k : Int) (r : Sha.W) (hr : r = Sha.rotr x k.toNat) (hk : 1 ≤ k ∧ k ≤ 31) :
    Calls Tryd.prog 31 #[U x, .int .i64 k] v fun e w' => e = .returned (U r) ∧ Rn w gw ws ga t w' :=
  (right_k x k hk v).mono fun e w' ⟨he, m, hm⟩ => ⟨by rw [hr]; exact he, by rw [hm]; exact h.next ((Kept.refl [] v).drewN m)⟩

set_option maxRecDepth 100000 in
set_option maxHeartbeats 4000000 in
theorem refmix_any (s : Sha.St) (b : List UInt8) (gh ch gk ck gb ob cb : Nat) (w : World) (hb : b.length = 64)
    (hh : ∀ (j : Nat) u, (stL s)[j]? = some u → w.cell? ⟨gh, j, none⟩ = some u) (hk : ∀ i, i < 64 → w.cell? ⟨gk, i, none⟩ = some (U (Sha.kAt i))) (hbs : ∀ j, j < 64 → w.cell? ⟨gb, ob + j, none⟩ = some (B (b.getD j 0))) :
    Calls Tryd.prog 23 #[.slice (some ⟨gh, 0, none⟩) 8 ch, .slice (some ⟨gk, 0, none⟩) 64 ck, .slice (some ⟨gb, ob, none⟩) 64 cb] w fun e w' => ∃ g c, e = .returned (.slice (some ⟨g, 0, none⟩) 8 c) ∧ Kept [] w w' ∧ w.heap.size ≤ g ∧ g < w'.heap.size ∧ (∀ (j : Nat) u, (stL (Sha.mix s b))[j]? = some u → w'.cell? ⟨g, j, none⟩ = some u) := by
  obtain ⟨i0, hi0, hz0, hz1, hz2⟩ := info_parts info_u32
  have Hh := hid hh; have Hk := hid hk
  have Hbs := hid (fun v (hk : Kept [] w v) j (hj : j < 64) => show v.cell? ⟨gb, ob + j, none⟩ = some (.int .u8 ((b.getD j 0).toNat : Int)) from (hk.cell (p := ⟨gb, ob + j, none⟩) (World.block_lt_of_cell? w _ (hbs j hj)) (by simp)).trans (hbs j hj))
  clear hh hk hbs
  go_enter Tryd.func23, Tryd.ntmps23
  go_wp2_with fail
  have hfr := hid (RowV.fresh 67 (Kept.refl [] w))
  go_loopw [7, 8] (fun v s wr => ∃ i : Nat, i ≤ 64 ∧ s = .int .i64 i ∧ RowV w w.heap.size 67 v (uL32 (Sha.words b i)) wr) (fun _ s _ => 64 - (intOf s).toNat)
  case atStart => exact ⟨0, by omega, rfl, hfr.out⟩
  case round =>
    clear hfr
    obtain ⟨i, hi, rfl, hw⟩ := hrel
    have hwl : (uL32 (Sha.words b i)).length = i := by rw [uL32_len, Sha.words_len]
    obtain ⟨a7, c7, rfl⟩ := owns_slice hw.2.2.2
    rw [hwl] at hw ⊢
    have HW := hid hw
    clear hw
    by_cases h16 : i < 16
    · have hg0 := fun v hk => Hbs.out v hk (4 * i) (by omega)
      have hg1 := fun v hk => Hbs.out v hk (4 * i + 1) (by omega)
      have hg2 := fun v hk => Hbs.out v hk (4 * i + 2) (by omega)
      have hg3 := fun v hk => Hbs.out v hk (4 * i + 3) (by omega)
      have b0 := (b.getD (4 * i) 0).toNat_lt
      have b1 := (b.getD (4 * i + 1) 0).toNat_lt
      have b2 := (b.getD (4 * i + 2) 0).toNat_lt
      have b3 := (b.getD (4 * i + 3) 0).toNat_lt
      obtain ⟨x, hx⟩ : ∃ x, x = Sha.word b i := ⟨_, rfl⟩
      have hxs := word_sum b i
      rw [← hx] at hxs
      have Hx := hid hx
      generalize (b.getD (4 * i) 0).toNat = n0 at *
      generalize (b.getD (4 * i + 1) 0).toNat = n1 at *
      generalize (b.getD (4 * i + 2) 0).toNat = n2 at *
      generalize (b.getD (4 * i + 3) 0).toNat = n3 at *
      have m0 : ((4 : Int) * (i : Int)).toNat = 4 * i := by omega
      have m1 : ((4 : Int) * (i : Int) + 1).toNat = 4 * i + 1 := by omega
      have m2 : ((4 : Int) * (i : Int) + 2).toNat = 4 * i + 2 := by omega
      have m3 : ((4 : Int) * (i : Int) + 3).toNat = 4 * i + 3 := by omega
      have l0 : (0 : Int) ≤ 4 * (i : Int) := by omega
      have l1 : (0 : Int) ≤ 4 * (i : Int) + 1 := by omega
      have l2 : (0 : Int) ≤ 4 * (i : Int) + 2 := by omega
      have l3 : (0 : Int) ≤ 4 * (i : Int) + 3 := by omega
      have k0 : (4 : Int) * (i : Int) < 64 := by omega
      have k1 : (4 : Int) * (i : Int) + 1 < 64 := by omega
      have k2 : (4 : Int) * (i : Int) + 2 < 64 := by omega
      have k3 : (4 : Int) * (i : Int) + 3 < 64 := by omega
      have q0 : IntKind.i64.wrap ((4 : Int) * (i : Int)) = 4 * (i : Int) := IntWalk.i64_in _ (by omega)
      have q1 : IntKind.i64.wrap ((4 : Int) * (i : Int) + 1) = 4 * (i : Int) + 1 := IntWalk.i64_in _ (by omega)
      have q2 : IntKind.i64.wrap ((4 : Int) * (i : Int) + 2) = 4 * (i : Int) + 2 := IntWalk.i64_in _ (by omega)
      have q3 : IntKind.i64.wrap ((4 : Int) * (i : Int) + 3) = 4 * (i : Int) + 3 := IntWalk.i64_in _ (by omega)
      have a0 : IntKind.u32.wrap (n0 : Int) = n0 := by rw [IntKind.wrap_u32]; omega
      have a1 : IntKind.u32.wrap (n1 : Int) = n1 := by rw [IntKind.wrap_u32]; omega
      have a2 : IntKind.u32.wrap (n2 : Int) = n2 := by rw [IntKind.wrap_u32]; omega
      have a3 : IntKind.u32.wrap (n3 : Int) = n3 := by rw [IntKind.wrap_u32]; omega
      have p0 : IntKind.u32.wrap (16777216 * (n0 : Int)) = 16777216 * (n0 : Int) := by rw [IntKind.wrap_u32]; omega
      have p1 : IntKind.u32.wrap (65536 * (n1 : Int)) = 65536 * (n1 : Int) := by rw [IntKind.wrap_u32]; omega
      have p2 : IntKind.u32.wrap (256 * (n2 : Int)) = 256 * (n2 : Int) := by rw [IntKind.wrap_u32]; omega
      have s1 : IntKind.u32.wrap (16777216 * (n0 : Int) + 65536 * (n1 : Int)) = 16777216 * (n0 : Int) + 65536 * (n1 : Int) := by rw [IntKind.wrap_u32]; omega
      have s2 : IntKind.u32.wrap (16777216 * (n0 : Int) + 65536 * (n1 : Int) + 256 * (n2 : Int)) = 16777216 * (n0 : Int) + 65536 * (n1 : Int) + 256 * (n2 : Int) := by rw [IntKind.wrap_u32]; omega
      have s3 : IntKind.u32.wrap (16777216 * (n0 : Int) + 65536 * (n1 : Int) + 256 * (n2 : Int) + (n3 : Int)) = (x.toNat : Int) := by rw [IntKind.wrap_u32]; omega
      have Hown := hid (((Kept.of_drew [] wr).alloc (.cells #[U x] 67)).owns (by have := HW.out.2.2.2; rwa [hwl] at this) (by simp))
      clear hx hxs b0 b1 b2 b3
      go_wp2_with fail
      refine wp_region_held_drew (S := Kept [] w) (by kernel_rfl) HW.out.1.drew (fun hH => ?_)
      refine takeH 0 (.slice a7 i c7) rfl (by kernel_rfl) (by kernel_rfl) (by kernel_rfl) (fun _ _ _ h => h) (by rfl) (fun v hSw => by go_simp) hH ?_
      simp only [Act.put, List.setIfInBounds_toArray, List.set_cons_succ, List.set_cons_zero]
      refine takeH 1 (.slice (some ⟨gb, ob, none⟩) 64 cb) rfl (by kernel_rfl) (by kernel_rfl) (by kernel_rfl) (fun _ _ _ h => h) (by rfl) (fun v hSw => by go_simp) hH ?_
      simp only [Act.put, List.setIfInBounds_toArray, List.set_cons_succ, List.set_cons_zero]
      refine takeH 2 (.int .i64 (i : Int)) rfl (by kernel_rfl) (by kernel_rfl) (by kernel_rfl) (fun _ _ _ h => h) (by rfl) (fun v hSw => by go_simp) hH ?_
      simp only [Act.put, List.setIfInBounds_toArray, List.set_cons_succ, List.set_cons_zero]
      refine takeH 3 (.int .i64 (4 * (i : Int))) rfl (by kernel_rfl) (by kernel_rfl) (by kernel_rfl) (fun _ _ _ h => h) (by rfl) (fun v hSw => by go_simp) hH ?_
      simp only [Act.put, List.setIfInBounds_toArray, List.set_cons_succ, List.set_cons_zero]
      refine takeH 4 (Value.pointer (some ⟨gb, ob + 4 * i, none⟩)) rfl (by kernel_rfl) (by kernel_rfl) (by kernel_rfl) (fun _ _ _ h => h) (by rfl) (fun v hSw => by go_simp) hH ?_
      simp only [Act.put, List.setIfInBounds_toArray, List.set_cons_succ, List.set_cons_zero]
      refine takeH 5 (.int .u8 (n0 : Int)) rfl (by kernel_rfl) (by kernel_rfl) (by kernel_rfl) (fun _ _ _ h => h) (by rfl) (fun v hSw => by have g := hg0 v hSw; go_simp) hH ?_
      simp only [Act.put, List.setIfInBounds_toArray, List.set_cons_succ, List.set_cons_zero]
      refine takeH 6 (.int .u32 (n0 : Int)) rfl (by kernel_rfl) (by kernel_rfl) (by kernel_rfl) (fun _ _ _ h => h) (by rfl) (fun v hSw => by go_simp) hH ?_
      simp only [Act.put, List.setIfInBounds_toArray, List.set_cons_succ, List.set_cons_zero]
      refine takeH 7 (.int .u32 (16777216 * (n0 : Int))) rfl (by kernel_rfl) (by kernel_rfl) (by kernel_rfl) (fun _ _ _ h => h) (by rfl) (fun v hSw => by go_simp) hH ?_
      simp only [Act.put, List.setIfInBounds_toArray, List.set_cons_succ, List.set_cons_zero]
      refine takeH 8 (.slice (some ⟨gb, ob, none⟩) 64 cb) rfl (by kernel_rfl) (by kernel_rfl) (by kernel_rfl) (fun _ _ _ h => h) (by rfl) (fun v hSw => by go_simp) hH ?_
      simp only [Act.put, List.setIfInBounds_toArray, List.set_cons_succ, List.set_cons_zero]
      refine takeH 9 (.int .i64 (i : Int)) rfl (by kernel_rfl) (by kernel_rfl) (by kernel_rfl) (fun _ _ _ h => h) (by rfl) (fun v hSw => by go_simp) hH ?_
      simp only [Act.put, List.setIfInBounds_toArray, List.set_cons_succ, List.set_cons_zero]
      refine takeH 10 (.int .i64 (4 * (i : Int))) rfl (by kernel_rfl) (by kernel_rfl) (by kernel_rfl) (fun _ _ _ h => h) (by rfl) (fun v hSw => by go_simp) hH ?_
      simp only [Act.put, List.setIfInBounds_toArray, List.set_cons_succ, List.set_cons_zero]
      refine takeH 11 (.int .i64 (4 * (i : Int) + 1)) rfl (by kernel_rfl) (by kernel_rfl) (by kernel_rfl) (fun _ _ _ h => h) (by rfl) (fun v hSw => by go_simp) hH ?_
      simp only [Act.put, List.setIfInBounds_toArray, List.set_cons_succ, List.set_cons_zero]
      refine takeH 12 (Value.pointer (some ⟨gb, ob + (4 * i + 1), none⟩)) rfl (by kernel_rfl) (by kernel_rfl) (by kernel_rfl) (fun _ _ _ h => h) (by rfl) (fun v hSw => by go_simp) hH ?_
      simp only [Act.put, List.setIfInBounds_toArray, List.set_cons_succ, List.set_cons_zero]
      refine takeH 13 (.int .u8 (n1 : Int)) rfl (by kernel_rfl) (by kernel_rfl) (by kernel_rfl) (fun _ _ _ h => h) (by rfl) (fun v hSw => by have g := hg1 v hSw; go_simp) hH ?_
      simp only [Act.put, List.setIfInBounds_toArray, List.set_cons_succ, List.set_cons_zero]
      refine takeH 14 (.int .u32 (n1 : Int)) rfl (by kernel_rfl) (by kernel_rfl) (by kernel_rfl) (fun _ _ _ h => h) (by rfl) (fun v hSw => by go_simp) hH ?_
      simp only [Act.put, List.setIfInBounds_toArray, List.set_cons_succ, List.set_cons_zero]
      refine takeH 15 (.int .u32 (65536 * (n1 : Int))) rfl (by kernel_rfl) (by kernel_rfl) (by kernel_rfl) (fun _ _ _ h => h) (by rfl) (fun v hSw => by go_simp) hH ?_
      simp only [Act.put, List.setIfInBounds_toArray, List.set_cons_succ, List.set_cons_zero]
      refine takeH 16 (.int .u32 (16777216 * (n0 : Int) + 65536 * (n1 : Int))) rfl (by kernel_rfl) (by kernel_rfl) (by kernel_rfl) (fun _ _ _ h => h) (by rfl) (fun v hSw => by go_simp) hH ?_
      simp only [Act.put, List.setIfInBounds_toArray, List.set_cons_succ, List.set_cons_zero]
      refine takeH 17 (.slice (some ⟨gb, ob, none⟩) 64 cb) rfl (by kernel_rfl) (by kernel_rfl) (by kernel_rfl) (fun _ _ _ h => h) (by rfl) (fun v hSw => by go_simp) hH ?_
      simp only [Act.put, List.setIfInBounds_toArray, List.set_cons_succ, List.set_cons_zero]
      refine takeH 18 (.int .i64 (i : Int)) rfl (by kernel_rfl) (by kernel_rfl) (by kernel_rfl) (fun _ _ _ h => h) (by rfl) (fun v hSw => by go_simp) hH ?_
      simp only [Act.put, List.setIfInBounds_toArray, List.set_cons_succ, List.set_cons_zero]
      refine takeH 19 (.int .i64 (4 * (i : Int))) rfl (by kernel_rfl) (by kernel_rfl) (by kernel_rfl) (fun _ _ _ h => h) (by rfl) (fun v hSw => by go_simp) hH ?_
      simp only [Act.put, List.setIfInBounds_toArray, List.set_cons_succ, List.set_cons_zero]
      refine takeH 20 (.int .i64 (4 * (i : Int) + 2)) rfl (by kernel_rfl) (by kernel_rfl) (by kernel_rfl) (fun _ _ _ h => h) (by rfl) (fun v hSw => by go_simp) hH ?_
      simp only [Act.put, List.setIfInBounds_toArray, List.set_cons_succ, List.set_cons_zero]
      refine takeH 21 (Value.pointer (some ⟨gb, ob + (4 * i + 2), none⟩)) rfl (by kernel_rfl) (by kernel_rfl) (by kernel_rfl) (fun _ _ _ h => h) (by rfl) (fun v hSw => by go_simp) hH ?_
      simp only [Act.put, List.setIfInBounds_toArray, List.set_cons_succ, List.set_cons_zero]
      refine takeH 22 (.int .u8 (n2 : Int)) rfl (by kernel_rfl) (by kernel_rfl) (by kernel_rfl) (fun _ _ _ h => h) (by rfl) (fun v hSw => by have g := hg2 v hSw; go_simp) hH ?_
      simp only [Act.put, List.setIfInBounds_toArray, List.set_cons_succ, List.set_cons_zero]
      refine takeH 23 (.int .u32 (n2 : Int)) rfl (by kernel_rfl) (by kernel_rfl) (by kernel_rfl) (fun _ _ _ h => h) (by rfl) (fun v hSw => by go_simp) hH ?_
      simp only [Act.put, List.setIfInBounds_toArray, List.set_cons_succ, List.set_cons_zero]
      refine takeH 24 (.int .u32 (256 * (n2 : Int))) rfl (by kernel_rfl) (by kernel_rfl) (by kernel_rfl) (fun _ _ _ h => h) (by rfl) (fun v hSw => by go_simp) hH ?_
      simp only [Act.put, List.setIfInBounds_toArray, List.set_cons_succ, List.set_cons_zero]
      refine takeH 25 (.int .u32 (16777216 * (n0 : Int) + 65536 * (n1 : Int) + 256 * (n2 : Int))) rfl (by kernel_rfl) (by kernel_rfl) (by kernel_rfl) (fun _ _ _ h => h) (by rfl) (fun v hSw => by go_simp) hH ?_
      simp only [Act.put, List.setIfInBounds_toArray, List.set_cons_succ, List.set_cons_zero]
      refine takeH 26 (.slice (some ⟨gb, ob, none⟩) 64 cb) rfl (by kernel_rfl) (by kernel_rfl) (by kernel_rfl) (fun _ _ _ h => h) (by rfl) (fun v hSw => by go_simp) hH ?_
      simp only [Act.put, List.setIfInBounds_toArray, List.set_cons_succ, List.set_cons_zero]
      refine takeH 27 (.int .i64 (i : Int)) rfl (by kernel_rfl) (by kernel_rfl) (by kernel_rfl) (fun _ _ _ h => h) (by rfl) (fun v hSw => by go_simp) hH ?_
      simp only [Act.put, List.setIfInBounds_toArray, List.set_cons_succ, List.set_cons_zero]
      refine takeH 28 (.int .i64 (4 * (i : Int))) rfl (by kernel_rfl) (by kernel_rfl) (by kernel_rfl) (fun _ _ _ h => h) (by rfl) (fun v hSw => by go_simp) hH ?_
      simp only [Act.put, List.setIfInBounds_toArray, List.set_cons_succ, List.set_cons_zero]
      refine takeH 29 (.int .i64 (4 * (i : Int) + 3)) rfl (by kernel_rfl) (by kernel_rfl) (by kernel_rfl) (fun _ _ _ h => h) (by rfl) (fun v hSw => by go_simp) hH ?_
      simp only [Act.put, List.setIfInBounds_toArray, List.set_cons_succ, List.set_cons_zero]
      refine takeH 30 (Value.pointer (some ⟨gb, ob + (4 * i + 3), none⟩)) rfl (by kernel_rfl) (by kernel_rfl) (by kernel_rfl) (fun _ _ _ h => h) (by rfl) (fun v hSw => by go_simp) hH ?_
      simp only [Act.put, List.setIfInBounds_toArray, List.set_cons_succ, List.set_cons_zero]
      refine takeH 31 (.int .u8 (n3 : Int)) rfl (by kernel_rfl) (by kernel_rfl) (by kernel_rfl) (fun _ _ _ h => h) (by rfl) (fun v hSw => by have g := hg3 v hSw; go_simp) hH ?_
      simp only [Act.put, List.setIfInBounds_toArray, List.set_cons_succ, List.set_cons_zero]
      refine takeH 32 (.int .u32 (n3 : Int)) rfl (by kernel_rfl) (by kernel_rfl) (by kernel_rfl) (fun _ _ _ h => h) (by rfl) (fun v hSw => by go_simp) hH ?_
      simp only [Act.put, List.setIfInBounds_toArray, List.set_cons_succ, List.set_cons_zero]
      refine takeH 33 (U x) rfl (by kernel_rfl) (by kernel_rfl) (by kernel_rfl) (fun _ _ _ h => h) (by rfl) (fun v hSw => by go_simp) hH ?_
      simp only [Act.put, List.setIfInBounds_toArray, List.set_cons_succ, List.set_cons_zero]
      refine runH 34 rfl (by kernel_rfl) (by rfl) (.slice (some ⟨wr.heap.size, 0, none⟩) 1 1) (wr.drew.alloc (.cells #[U x] 67)) (by go_simp) (HW.out.1.drew.alloc _) ?_
      simp only [Act.put, List.setIfInBounds_toArray, List.set_cons_succ, List.set_cons_zero]
      refine appendH 35 rfl (by kernel_rfl) rfl (.tmp 26) (.tmp 60) 62 rfl w.heap.size 67 i0 _ 4 Tryd.underlying62 hi0 hz0 hz1 hz2 rfl (.slice a7 i c7) i (uL32 (Sha.words b i)) rfl Hown.out ⟨wr.heap.size, 0, none⟩ 1 1 [U x] rfl (cell_one_new wr.drew (U x) _) rfl (by intro u hu; simp at hu; subst hu; rfl) (by unfold maxLen; omega) (by omega) (by have := HW.out.2.2.1; simp; omega) ?_
      intro a8 c8 w2 hown2 hgrow2 _
      have hk2 := (HW.out.next ((Kept.of_drew [] wr).alloc (.cells #[U x] 67))).kept_of hgrow2
      refine ⟨hk2, ?_⟩
      simp only [Act.put, List.setIfInBounds_toArray, List.set_cons_succ, List.set_cons_zero]
      have hstep := hid (show RowV w w.heap.size 67 (.slice a8 (i + 1) c8) (uL32 (Sha.words b (i + 1))) w2 from by
        have e : uL32 (Sha.words b (i + 1)) = uL32 (Sha.words b i) ++ [U x] := by rw [words_word b i h16, ← Hx.out]; simp [uL32]
        rw [e]
        exact HW.out.step ((Kept.of_drew [] wr).alloc (.cells #[U x] 67)) (by simpa [hwl] using hown2) hgrow2)
      have hH := hk2
      clear hown2 hgrow2 hk2 Hown
      refine takeH 36 (.slice a8 (i + 1) c8) rfl (by kernel_rfl) (by kernel_rfl) (by kernel_rfl) (fun _ _ _ h => h) (by rfl) (fun v hSw => by go_simp) hH ?_
      simp only [Act.put, List.setIfInBounds_toArray, List.set_cons_succ, List.set_cons_zero]
      refine wpAnyH_done (by kernel_rfl) ?_ _
      go_wp2_with fail
      exact ⟨⟨i + 1, by omega, by go_num, hstep.out⟩, by simp [intOf]; omega⟩
    · have hil : i < 64 ∨ i = 64 := by omega
      by_cases h64 : i < 64
      · have hne : uL32 (Sha.words b i) ≠ [] := fun e => by rw [e] at hwl; simp at hwl; omega
        obtain ⟨g, cg, hv, hgb, hgl, hgc⟩ := HW.out.slice hne
        rw [hwl] at hv
        cases hv
        have hcw := fun (j : Nat) (hj : j < i) => hgc j (U ((Sha.words b i).getD j 0)) (uL32_get _ j (by rw [Sha.words_len]; exact hj))
        have Hcell := hid (fun v (h : KG w g (uL32 (Sha.words b i)) v) (j : Nat) (hj : j < i) => h.2 j (U ((Sha.words b i).getD j 0)) (uL32_get _ j (by rw [Sha.words_len]; exact hj)))
        obtain ⟨e, he⟩ : ∃ e, e = (Sha.words b i).getD (i - 15) 0 := ⟨_, rfl⟩
        obtain ⟨f, hf⟩ : ∃ f, f = (Sha.words b i).getD (i - 2) 0 := ⟨_, rfl⟩
        obtain ⟨c, hc⟩ : ∃ c, c = (Sha.words b i).getD (i - 16) 0 := ⟨_, rfl⟩
        obtain ⟨d, hd⟩ : ∃ d, d = (Sha.words b i).getD (i - 7) 0 := ⟨_, rfl⟩
        have g15 := hcw (i - 15) (by omega)
        have g2 := hcw (i - 2) (by omega)
        rw [← he] at g15; rw [← hf] at g2
        have hg16 := fun v h => Hcell.out v h (i - 16) (by omega)
        have hg7 := fun v h => Hcell.out v h (i - 7) (by omega)
        rw [← hc] at hg16; rw [← hd] at hg7
        obtain ⟨X, hX⟩ : ∃ X, X = Sha.rotr e 7 ^^^ Sha.rotr e 18 ^^^ (e >>> 3) := ⟨_, rfl⟩
        obtain ⟨Y, hY⟩ : ∃ Y, Y = Sha.rotr f 17 ^^^ Sha.rotr f 19 ^^^ (f >>> 10) := ⟨_, rfl⟩
        have hxs := x_spelled e
        have hys := y_spelled f
        rw [← hX] at hxs; rw [← hY] at hys
        obtain ⟨x, hx⟩ : ∃ x, x = Sha.nextW (Sha.words b i) := ⟨_, rfl⟩
        have hsum : x = c + X + d + Y := by rw [hx, next_sum, Sha.words_len, ← he, ← hf, ← hc, ← hd, ← hX, ← hY]
        obtain ⟨y1, hy1⟩ : ∃ y, y = c + X := ⟨_, rfl⟩
        obtain ⟨y2, hy2⟩ : ∃ y, y = y1 + d := ⟨_, rfl⟩
        have t1 : IntKind.u32.wrap ((c.toNat : Int) + (X.toNat : Int)) = (y1.toNat : Int) := by rw [IntKind.wrap_u32, add_bv, hy1]
        have t2 : IntKind.u32.wrap ((y1.toNat : Int) + (d.toNat : Int)) = (y2.toNat : Int) := by rw [IntKind.wrap_u32, add_bv, hy2]
        have t3 : IntKind.u32.wrap ((y2.toNat : Int) + (Y.toNat : Int)) = (x.toNat : Int) := by rw [IntKind.wrap_u32, add_bv, hsum, hy2, hy1]
        have T1 := hid t1; have T2 := hid t2; have T3 := hid t3
        have Hx := hid hx; have Hxs := hid hxs; have Hys := hid hys
        have l15 : (15 : Int) ≤ (i : Int) := by omega
        have n15 : ((i : Int) - 15).toNat = i - 15 := by omega
        have k15 : (i : Int) - 15 < (i : Int) := by omega
        have n2 : ((i : Int) - 2).toNat = i - 2 := by omega
        have l2 : (2 : Int) ≤ (i : Int) := by omega
        have k2 : (i : Int) - 2 < (i : Int) := by omega
        have w2 : IntKind.i64.wrap ((i : Int) - 2) = (i : Int) - 2 := IntWalk.i64_in _ (by omega)
        have w15 : IntKind.i64.wrap ((i : Int) - 15) = (i : Int) - 15 := IntWalk.i64_in _ (by omega)
        have n7 : ((i : Int) - 7).toNat = i - 7 := by omega
        have n16 : ((i : Int) - 16).toNat = i - 16 := by omega
        have i64' : (i : Int) < 64 := by omega
        have i16' : ¬ (i : Int) < 16 := by omega
        clear he hf hc hd hX hY hx hsum hxs hys t1 t2 t3 hcw hy1 hy2
        have Hgc := hid hgc
        clear hgc
        go_wp2_with fail
        have hs3 : (7 : Int).toNat = 7 := rfl
        go_quiet ((go_at_call 31; exact Calls.quiet_of (right_k _ _ (by decide) _)))
        rw [Hxs.out]
        obtain ⟨W7, hW7, hP7, hG7⟩ : ∃ W7, wr.drewN nq = W7 ∧ RowV w w.heap.size 67 (.slice (some ⟨g, 0, none⟩) i c7) (uL32 (Sha.words b i)) W7 ∧ KG w g (uL32 (Sha.words b i)) W7 :=
          ⟨_, rfl, HW.out.next ((Kept.refl [] wr).drewN nq), (HW.out.next ((Kept.refl [] wr).drewN nq)).1, Hgc.out⟩
        rw [hW7]
        have g2' : W7.cell? ⟨g, i - 2, none⟩ = some (U f) := by rw [← hW7]; exact g2
        have HP7 := hid hP7; have HG7 := hid hG7
        clear hW7 hP7 hG7 g2 g15
        go_wp2_with fail
        go_quiet ((go_at_call 31; exact Calls.quiet_of (right_k _ _ (by decide) _)))
        rw [Hys.out]
        obtain ⟨W8, hW8, hP8, hG8⟩ : ∃ W8, W7.drewN nq = W8 ∧ RowV w w.heap.size 67 (.slice (some ⟨g, 0, none⟩) i c7) (uL32 (Sha.words b i)) W8 ∧ KG w g (uL32 (Sha.words b i)) W8 :=
          ⟨_, rfl, HP7.out.next ((Kept.refl [] W7).drewN nq), (HP7.out.next ((Kept.refl [] W7).drewN nq)).1, HG7.out.2⟩
        rw [hW8]
        have HP8 := hid hP8; have HG8 := hid hG8
        clear hW8 hP8 hG8 g2' HP7 HG7 w2 w15
        have w7 : IntKind.i64.wrap ((i : Int) - 7) = (i : Int) - 7 := IntWalk.i64_in _ (by omega)
        have w16 : IntKind.i64.wrap ((i : Int) - 16) = (i : Int) - 16 := IntWalk.i64_in _ (by omega)
        have k7 : (i : Int) - 7 < (i : Int) := by omega
        have k16 : (i : Int) - 16 < (i : Int) := by omega
        have l7 : (7 : Int) ≤ (i : Int) := by omega
        have l16 : (16 : Int) ≤ (i : Int) := by omega
        have t1 := T1.out
        have t2 := T2.out
        have t3 := T3.out
        have Hown := hid (((Kept.of_drew [] W8).alloc (.cells #[U x] 67)).owns (by have := HP8.out.2.2.2; rwa [hwl] at this) (by simp))
        go_wp2_with fail
        refine wp_region_held_drew (S := KG w g (uL32 (Sha.words b i))) (by kernel_rfl) ⟨HG8.out.1.drew, HG8.out.2⟩ (fun hH => ?_)
        refine takeH 0 (.slice (some ⟨g, 0, none⟩) i c7) rfl (by kernel_rfl) (by kernel_rfl) (by kernel_rfl) (fun _ _ _ h => h) (by rfl) (fun v hSw => by go_simp) hH ?_
        simp only [Act.put, List.setIfInBounds_toArray, List.set_cons_succ, List.set_cons_zero]
        refine takeH 1 (.slice (some ⟨g, 0, none⟩) i c7) rfl (by kernel_rfl) (by kernel_rfl) (by kernel_rfl) (fun _ _ _ h => h) (by rfl) (fun v hSw => by go_simp) hH ?_
        simp only [Act.put, List.setIfInBounds_toArray, List.set_cons_succ, List.set_cons_zero]
        refine takeH 2 (.int .i64 (i : Int)) rfl (by kernel_rfl) (by kernel_rfl) (by kernel_rfl) (fun _ _ _ h => h) (by rfl) (fun v hSw => by go_simp) hH ?_
        simp only [Act.put, List.setIfInBounds_toArray, List.set_cons_succ, List.set_cons_zero]
        refine takeH 3 (.int .i64 ((i : Int) - 16)) rfl (by kernel_rfl) (by kernel_rfl) (by kernel_rfl) (fun _ _ _ h => h) (by rfl) (fun v hSw => by go_simp) hH ?_
        simp only [Act.put, List.setIfInBounds_toArray, List.set_cons_succ, List.set_cons_zero]
        refine takeH 4 (Value.pointer (some ⟨g, i - 16, none⟩)) rfl (by kernel_rfl) (by kernel_rfl) (by kernel_rfl) (fun _ _ _ h => h) (by rfl) (fun v hSw => by go_simp) hH ?_
        simp only [Act.put, List.setIfInBounds_toArray, List.set_cons_succ, List.set_cons_zero]
        refine takeH 5 (U c) rfl (by kernel_rfl) (by kernel_rfl) (by kernel_rfl) (fun _ _ _ h => h) (by rfl) (fun v hSw => by have g := hg16 v hSw; go_simp) hH ?_
        simp only [Act.put, List.setIfInBounds_toArray, List.set_cons_succ, List.set_cons_zero]
        refine takeH 6 (U X) rfl (by kernel_rfl) (by kernel_rfl) (by kernel_rfl) (fun _ _ _ h => h) (by rfl) (fun v hSw => by go_simp) hH ?_
        simp only [Act.put, List.setIfInBounds_toArray, List.set_cons_succ, List.set_cons_zero]
        refine takeH 7 (U y1) rfl (by kernel_rfl) (by kernel_rfl) (by kernel_rfl) (fun _ _ _ h => h) (by rfl) (fun v hSw => by go_simp) hH ?_
        simp only [Act.put, List.setIfInBounds_toArray, List.set_cons_succ, List.set_cons_zero]
        refine takeH 8 (.slice (some ⟨g, 0, none⟩) i c7) rfl (by kernel_rfl) (by kernel_rfl) (by kernel_rfl) (fun _ _ _ h => h) (by rfl) (fun v hSw => by go_simp) hH ?_
        simp only [Act.put, List.setIfInBounds_toArray, List.set_cons_succ, List.set_cons_zero]
        refine takeH 9 (.int .i64 (i : Int)) rfl (by kernel_rfl) (by kernel_rfl) (by kernel_rfl) (fun _ _ _ h => h) (by rfl) (fun v hSw => by go_simp) hH ?_
        simp only [Act.put, List.setIfInBounds_toArray, List.set_cons_succ, List.set_cons_zero]
        refine takeH 10 (.int .i64 ((i : Int) - 7)) rfl (by kernel_rfl) (by kernel_rfl) (by kernel_rfl) (fun _ _ _ h => h) (by rfl) (fun v hSw => by go_simp) hH ?_
        simp only [Act.put, List.setIfInBounds_toArray, List.set_cons_succ, List.set_cons_zero]
        refine takeH 11 (Value.pointer (some ⟨g, i - 7, none⟩)) rfl (by kernel_rfl) (by kernel_rfl) (by kernel_rfl) (fun _ _ _ h => h) (by rfl) (fun v hSw => by go_simp) hH ?_
        simp only [Act.put, List.setIfInBounds_toArray, List.set_cons_succ, List.set_cons_zero]
        refine takeH 12 (U d) rfl (by kernel_rfl) (by kernel_rfl) (by kernel_rfl) (fun _ _ _ h => h) (by rfl) (fun v hSw => by have g := hg7 v hSw; go_simp) hH ?_
        simp only [Act.put, List.setIfInBounds_toArray, List.set_cons_succ, List.set_cons_zero]
        refine takeH 13 (U y2) rfl (by kernel_rfl) (by kernel_rfl) (by kernel_rfl) (fun _ _ _ h => h) (by rfl) (fun v hSw => by go_simp) hH ?_
        simp only [Act.put, List.setIfInBounds_toArray, List.set_cons_succ, List.set_cons_zero]
        refine takeH 14 (U Y) rfl (by kernel_rfl) (by kernel_rfl) (by kernel_rfl) (fun _ _ _ h => h) (by rfl) (fun v hSw => by go_simp) hH ?_
        simp only [Act.put, List.setIfInBounds_toArray, List.set_cons_succ, List.set_cons_zero]
        refine takeH 15 (U x) rfl (by kernel_rfl) (by kernel_rfl) (by kernel_rfl) (fun _ _ _ h => h) (by rfl) (fun v hSw => by go_simp) hH ?_
        simp only [Act.put, List.setIfInBounds_toArray, List.set_cons_succ, List.set_cons_zero]
        refine runH 16 rfl (by kernel_rfl) (by rfl) (.slice (some ⟨W8.heap.size, 0, none⟩) 1 1) (W8.drew.alloc (.cells #[U x] 67)) (by go_simp) ⟨HG8.out.1.drew.alloc _, fun j u hj => (((Kept.of_drew [] W8).alloc (.cells #[U x] 67)).cell (p := ⟨g, j, none⟩) (World.block_lt_of_cell? W8 _ (HG8.out.2 j u hj)) (by simp)).trans (HG8.out.2 j u hj)⟩ ?_
        simp only [Act.put, List.setIfInBounds_toArray, List.set_cons_succ, List.set_cons_zero]
        refine appendH 17 rfl (by kernel_rfl) rfl (.tmp 102) (.tmp 118) 62 rfl w.heap.size 67 i0 _ 4 Tryd.underlying62 hi0 hz0 hz1 hz2 rfl (.slice (some ⟨g, 0, none⟩) i c7) i (uL32 (Sha.words b i)) rfl Hown.out ⟨W8.heap.size, 0, none⟩ 1 1 [U x] rfl (cell_one_new W8.drew (U x) _) rfl (by intro u hu; simp at hu; subst hu; rfl) (by unfold maxLen; omega) (by omega) (by have := HP8.out.2.2.1; simp; omega) ?_
        intro a8 c8 w2 hown2 hgrow2 hold2
        have hk2 := (HP8.out.next ((Kept.of_drew [] W8).alloc (.cells #[U x] 67))).kept_of hgrow2
        have hH2 : KG w g (uL32 (Sha.words b i)) w2 := ⟨hk2, hold2 g c7 rfl⟩
        refine ⟨hH2, ?_⟩
        simp only [Act.put, List.setIfInBounds_toArray, List.set_cons_succ, List.set_cons_zero]
        have hstep := hid (show RowV w w.heap.size 67 (.slice a8 (i + 1) c8) (uL32 (Sha.words b (i + 1))) w2 from by
          have e : uL32 (Sha.words b (i + 1)) = uL32 (Sha.words b i) ++ [U x] := by rw [words_next b i (by omega), ← Hx.out]; simp [uL32]
          rw [e]
          exact HP8.out.step ((Kept.of_drew [] W8).alloc (.cells #[U x] 67)) (by simpa [hwl] using hown2) hgrow2)
        clear hown2 hgrow2 hk2 Hown hold2
        refine takeH 18 (.slice a8 (i + 1) c8) rfl (by kernel_rfl) (by kernel_rfl) (by kernel_rfl) (fun _ _ _ h => h) (by rfl) (fun v hSw => by go_simp) hH2 ?_
        simp only [Act.put, List.setIfInBounds_toArray, List.set_cons_succ, List.set_cons_zero]
        refine wpAnyH_done (by kernel_rfl) ?_ _
        clear t1 t2 t3 w7 w16
        go_wp2_with fail
        exact ⟨⟨i + 1, by omega, by go_num, hstep.out⟩, by simp [intOf]; omega⟩
      · obtain rfl : i = 64 := by omega
        have hne : uL32 (Sha.words b 64) ≠ [] := fun e => by rw [e] at hwl; simp at hwl
        obtain ⟨gw, cw, hv, hgwb, hgwl, hgwc⟩ := HW.out.slice hne
        rw [hwl] at hv
        cases hv
        have Hgwc := hid hgwc
        have hfr2 := hid (RowV.fresh 67 HW.out.1)
        have hkw := hid (show Kept [] wr (wr.alloc (.cells #[] 67)) from (Kept.refl [] wr).alloc _)
        clear hgwc
        go_wp2_with (at_builtin; refine halt ?_)
        refine Halt.mk ?_
        refine wpList_append_src _ rfl _ _ _ rfl wr.heap.size 67 i0 _ 4 Tryd.underlying62 hi0 hz0 hz1 hz2 rfl (.slice (some ⟨wr.heap.size, 0, none⟩) 0 0) 0 [] rfl hfr2.out.2.2.2 (.slice (some ⟨gh, 0, none⟩) 8 ch) 8 (stL s) rfl (Or.inr ⟨⟨gh, 0, none⟩, ch, rfl, fun j u hj => by rw [plain0]; exact ((hfr2.out.1).cell (p := ⟨gh, j, none⟩) (World.block_lt_of_cell? w _ (Hh.out j u hj)) (by simp)).trans (Hh.out j u hj)⟩) rfl (stL_one s) (by unfold maxLen; omega) (by omega) (by simp) ?_
        intro v2 w2 hown2 hgrow2 _ _
        obtain ⟨a2, c2, rfl⟩ := owns_slice hown2
        have hk2 := hfr2.out.kept_of hgrow2
        have hW2 : RowV w wr.heap.size 67 (.slice a2 8 c2) (stL s) w2 := by
          have := hfr2.out.step (xs := []) (ys := stL s) (Kept.refl [] _) (by rw [List.nil_append, show (stL s).length = 8 from rfl]; simpa using hown2) hgrow2
          simpa using this
        obtain ⟨ga, ca, hv, hgab, hgal, hgac⟩ := hW2.slice (by simp [stL])
        cases hv
        have hsw : SrcW w gw (Sha.words b 64) w2 := fun j u hj => by
          have hc := Hgwc.out j u hj
          have h1 := (hkw.out.cell (p := ⟨gw, j, none⟩) hgwl (by simp)).trans hc
          refine Eq.trans ?_ h1
          unfold World.cell?
          rw [hgrow2.block gw (Nat.lt_of_lt_of_le hgwl hkw.out.size) (fun e => by simp [Value.ownBlock] at e; omega)]
        have HR0 := hid (show Rn w gw (Sha.words b 64) ga (Sha.rnds s (Sha.words b 64) 0) w2 from ⟨hk2, hsw, hgac, Nat.le_trans HW.out.1.size hgab⟩)
        clear hown2 hgrow2 hk2 hW2 hgac hsw hfr2 hkw
        go_wp2_with fail
        go_loopw [11, 12] (fun v j wr => ∃ (i ga ca : Nat), i ≤ 64 ∧ j = .int .i64 i ∧ v = .slice (some ⟨ga, 0, none⟩) 8 ca ∧ Hid (Rn w gw (Sha.words b 64) ga (Sha.rnds s (Sha.words b 64) i) wr)) (fun _ j _ => 64 - (intOf j).toNat)
        case atStart => exact ⟨0, ga, c2, by omega, rfl, rfl, HR0⟩
        case round =>
          clear HR0 HW Hgwc hgwb hgwl hgab hgal hwl hne hi h16
          obtain ⟨i, ga, ca, hi, rfl, rfl, hr⟩ := hrel
          by_cases hlt : i < 64
          · obtain ⟨t, ht⟩ : ∃ t, t = Sha.rnds s (Sha.words b 64) i := ⟨_, rfl⟩
            rw [← ht] at hr
            have Ht := hid ht
            clear ht
            obtain ⟨ta, tb, tc, td, te, tf, tg, th⟩ := t
            obtain ⟨kk, hkk⟩ : ∃ k, k = Sha.kAt i := ⟨_, rfl⟩
            obtain ⟨ww, hww⟩ : ∃ k, k = (Sha.words b 64).getD i 0 := ⟨_, rfl⟩
            have hcl : ∀ v, Rn w gw (Sha.words b 64) ga ⟨ta, tb, tc, td, te, tf, tg, th⟩ v → ∀ (j : Nat) u, ([U ta, U tb, U tc, U td, U te, U tf, U tg, U th] : List Value)[j]? = some u → v.cell? ⟨ga, j, none⟩ = some u := fun v hv j u hj => hv.2.2.1 j u hj
            have hkl : ∀ v, Rn w gw (Sha.words b 64) ga ⟨ta, tb, tc, td, te, tf, tg, th⟩ v → v.cell? ⟨gk, i, none⟩ = some (U kk) := fun v hv => by
              rw [hkk]; exact (hv.1.cell (p := ⟨gk, i, none⟩) (World.block_lt_of_cell? w _ (Hk.out i hlt)) (by simp)).trans (Hk.out i hlt)
            have hwl : ∀ v, Rn w gw (Sha.words b 64) ga ⟨ta, tb, tc, td, te, tf, tg, th⟩ v → v.cell? ⟨gw, i, none⟩ = some (U ww) := fun v hv => by
              rw [hww]; exact hv.2.1 i _ (uL32_get _ i (by rw [Sha.words_len]; exact hlt))
            obtain ⟨n1, hn1⟩ : ∃ x, x = te &&& tf := ⟨_, rfl⟩
            obtain ⟨nn, hnn⟩ : ∃ x, x = ~~~ te := ⟨_, rfl⟩
            obtain ⟨n2, hn2⟩ : ∃ x, x = nn &&& tg := ⟨_, rfl⟩
            obtain ⟨ch1, hch0⟩ : ∃ x, x = n1 ||| n2 := ⟨_, rfl⟩
            obtain ⟨m1, hm1⟩ : ∃ x, x = ta &&& tb := ⟨_, rfl⟩
            obtain ⟨m2, hm2⟩ : ∃ x, x = ta &&& tc := ⟨_, rfl⟩
            obtain ⟨m3, hm3⟩ : ∃ x, x = m1 ||| m2 := ⟨_, rfl⟩
            obtain ⟨m4, hm4⟩ : ∃ x, x = tb &&& tc := ⟨_, rfl⟩
            obtain ⟨mj, hmj0⟩ : ∃ x, x = m3 ||| m4 := ⟨_, rfl⟩
            have hch1 : ch1 = Sha.choice te tf tg := by rw [hch0, hn1, hn2, hnn, choice_or]
            have hmj : mj = Sha.major ta tb tc := by rw [hmj0, hm3, hm1, hm2, hm4, major_or]
            have F1 := hid (show bits .and .u32 (te.toNat : Int) (tf.toNat : Int) = (n1.toNat : Int) by rw [and_bv, hn1])
            have F2 := hid (show bits .xor .u32 IntKind.u32.max (te.toNat : Int) = (nn.toNat : Int) by rw [not_bv, hnn])
            have F3 := hid (show bits .and .u32 (nn.toNat : Int) (tg.toNat : Int) = (n2.toNat : Int) by rw [and_bv, hn2])
            have F4 := hid (show bits .or .u32 (n1.toNat : Int) (n2.toNat : Int) = (ch1.toNat : Int) by rw [or_bv, hch0])
            have M1 := hid (show bits .and .u32 (ta.toNat : Int) (tb.toNat : Int) = (m1.toNat : Int) by rw [and_bv, hm1])
            have M2 := hid (show bits .and .u32 (ta.toNat : Int) (tc.toNat : Int) = (m2.toNat : Int) by rw [and_bv, hm2])
            have M3 := hid (show bits .or .u32 (m1.toNat : Int) (m2.toNat : Int) = (m3.toNat : Int) by rw [or_bv, hm3])
            have M4 := hid (show bits .and .u32 (tb.toNat : Int) (tc.toNat : Int) = (m4.toNat : Int) by rw [and_bv, hm4])
            have M5 := hid (show bits .or .u32 (m3.toNat : Int) (m4.toNat : Int) = (mj.toNat : Int) by rw [or_bv, hmj0])
            clear hch0 hn1 hn2 hnn hmj0 hm1 hm2 hm3 hm4
            obtain ⟨r1, hr1⟩ : ∃ x, x = Sha.rotr te 6 := ⟨_, rfl⟩
            obtain ⟨r2, hr2⟩ : ∃ x, x = Sha.rotr te 11 := ⟨_, rfl⟩
            obtain ⟨r3, hr3⟩ : ∃ x, x = Sha.rotr te 25 := ⟨_, rfl⟩
            obtain ⟨z1, hz1'⟩ : ∃ x, x = r1 ^^^ r2 := ⟨_, rfl⟩
            obtain ⟨z2, hz2'⟩ : ∃ x, x = z1 ^^^ r3 := ⟨_, rfl⟩
            obtain ⟨v1, hv1⟩ : ∃ x, x = th + z2 := ⟨_, rfl⟩
            obtain ⟨v2, hv2⟩ : ∃ x, x = v1 + ch1 := ⟨_, rfl⟩
            obtain ⟨v3, hv3⟩ : ∃ x, x = v2 + kk := ⟨_, rfl⟩
            obtain ⟨x1, hx1⟩ : ∃ x, x = v3 + ww := ⟨_, rfl⟩
            obtain ⟨q1, hq1⟩ : ∃ x, x = Sha.rotr ta 2 := ⟨_, rfl⟩
            obtain ⟨q2, hq2⟩ : ∃ x, x = Sha.rotr ta 13 := ⟨_, rfl⟩
            obtain ⟨q3, hq3⟩ : ∃ x, x = Sha.rotr ta 22 := ⟨_, rfl⟩
            obtain ⟨y1, hy1⟩ : ∃ x, x = q1 ^^^ q2 := ⟨_, rfl⟩
            obtain ⟨y2, hy2⟩ : ∃ x, x = y1 ^^^ q3 := ⟨_, rfl⟩
            obtain ⟨x2, hx2⟩ : ∃ x, x = y2 + mj := ⟨_, rfl⟩
            obtain ⟨na, hna⟩ : ∃ x, x = x1 + x2 := ⟨_, rfl⟩
            obtain ⟨ne, hne⟩ : ∃ x, x = td + x1 := ⟨_, rfl⟩
            have R1 := hid (fun v (h : Rn w gw (Sha.words b 64) ga ⟨ta, tb, tc, td, te, tf, tg, th⟩ v) => rn_right h te 6 r1 hr1 (by decide))
            have R2 := hid (fun v (h : Rn w gw (Sha.words b 64) ga ⟨ta, tb, tc, td, te, tf, tg, th⟩ v) => rn_right h te 11 r2 hr2 (by decide))
            have R3 := hid (fun v (h : Rn w gw (Sha.words b 64) ga ⟨ta, tb, tc, td, te, tf, tg, th⟩ v) => rn_right h te 25 r3 hr3 (by decide))
            have Q1 := hid (fun v (h : Rn w gw (Sha.words b 64) ga ⟨ta, tb, tc, td, te, tf, tg, th⟩ v) => rn_right h ta 2 q1 hq1 (by decide))
            have Q2 := hid (fun v (h : Rn w gw (Sha.words b 64) ga ⟨ta, tb, tc, td, te, tf, tg, th⟩ v) => rn_right h ta 13 q2 hq2 (by decide))
            have Q3 := hid (fun v (h : Rn w gw (Sha.words b 64) ga ⟨ta, tb, tc, td, te, tf, tg, th⟩ v) => rn_right h ta 22 q3 hq3 (by decide))
            have b1 : bits .xor .u32 (r1.toNat : Int) (r2.toNat : Int) = (z1.toNat : Int) := by rw [xor_bv, hz1']
            have b2 : bits .xor .u32 (z1.toNat : Int) (r3.toNat : Int) = (z2.toNat : Int) := by rw [xor_bv, hz2']
            have b3 : bits .xor .u32 (q1.toNat : Int) (q2.toNat : Int) = (y1.toNat : Int) := by rw [xor_bv, hy1]
            have b4 : bits .xor .u32 (y1.toNat : Int) (q3.toNat : Int) = (y2.toNat : Int) := by rw [xor_bv, hy2]
            have a1 : IntKind.u32.wrap ((th.toNat : Int) + (z2.toNat : Int)) = (v1.toNat : Int) := by rw [IntKind.wrap_u32, add_bv, hv1]
            have a2 : IntKind.u32.wrap ((v1.toNat : Int) + (ch1.toNat : Int)) = (v2.toNat : Int) := by rw [IntKind.wrap_u32, add_bv, hv2]
            have a3 : IntKind.u32.wrap ((v2.toNat : Int) + (kk.toNat : Int)) = (v3.toNat : Int) := by rw [IntKind.wrap_u32, add_bv, hv3]
            have a4 : IntKind.u32.wrap ((v3.toNat : Int) + (ww.toNat : Int)) = (x1.toNat : Int) := by rw [IntKind.wrap_u32, add_bv, hx1]
            have a5 : IntKind.u32.wrap ((y2.toNat : Int) + (mj.toNat : Int)) = (x2.toNat : Int) := by rw [IntKind.wrap_u32, add_bv, hx2]
            have a6 : IntKind.u32.wrap ((x1.toNat : Int) + (x2.toNat : Int)) = (na.toNat : Int) := by rw [IntKind.wrap_u32, add_bv, hna]
            have a7 : IntKind.u32.wrap ((td.toNat : Int) + (x1.toNat : Int)) = (ne.toNat : Int) := by rw [IntKind.wrap_u32, add_bv, hne]
            have Hst := hid (show Sha.rnds s (Sha.words b 64) (i + 1) = ⟨na, ta, tb, tc, ne, te, tf, tg⟩ by
              rw [Sha.rnds, ← Ht.out, ← hkk, ← hww, hne, hna, hx2, hy2, hy1, hq1, hq2, hq3, hx1, hv3, hv2, hv1, hz2', hz1', hr1, hr2, hr3, hch1, hmj]; rfl)
            have i0' : (0 : Int) ≤ (i : Int) := by omega
            have i64' : (i : Int) < 64 := by omega
            have B1 := hid b1; have B2 := hid b2; have B3 := hid b3; have B4 := hid b4
            have A1 := hid a1; have A2 := hid a2; have A3 := hid a3; have A4 := hid a4; have A5 := hid a5; have A6 := hid a6; have A7 := hid a7
            clear hkk hww hch1 hmj hr1 hr2 hr3 hz1' hz2' hv1 hv2 hv3 hx1 hq1 hq2 hq3 hy1 hy2 hx2 hna hne b1 b2 b3 b4 a1 a2 a3 a4 a5 a6 a7 Ht
            have Hcl := hid hcl; have Hkl := hid hkl; have Hwl := hid hwl
            clear hcl hkl hwl
            have hcl := Hcl.out
            have f1 := F1.out; have f2 := F2.out; have f3 := F3.out; have f4 := F4.out
            have hsg : IntKind.u32.signed = false := rfl
            go_wp2_with fail
            refine wp_region_held_drew (S := Rn w gw (Sha.words b 64) ga ⟨ta, tb, tc, td, te, tf, tg, th⟩) (by kernel_rfl) (hr.out.next (Kept.of_drew [] wr)) (fun hH => ?_)
            refine takeH 0 (Value.slice (some ⟨ga, 0, none⟩) 8 ca) rfl (by kernel_rfl) (by kernel_rfl) (by kernel_rfl) (fun _ _ _ h => h) (by rfl) (fun v hSw => by go_simp) hH ?_
            simp only [Act.put, List.setIfInBounds_toArray, List.set_cons_succ, List.set_cons_zero]
            refine takeH 1 (Value.pointer (some ⟨ga, 4, none⟩)) rfl (by kernel_rfl) (by kernel_rfl) (by kernel_rfl) (fun _ _ _ h => h) (by rfl) (fun v hSw => by go_simp) hH ?_
            simp only [Act.put, List.setIfInBounds_toArray, List.set_cons_succ, List.set_cons_zero]
            refine takeH 2 (U te) rfl (by kernel_rfl) (by kernel_rfl) (by kernel_rfl) (fun _ _ _ h => h) (by rfl) (fun v hSw => by have g := hcl v hSw 4 (U te) rfl; go_simp) hH ?_
            simp only [Act.put, List.setIfInBounds_toArray, List.set_cons_succ, List.set_cons_zero]
            refine takeH 3 (Value.slice (some ⟨ga, 0, none⟩) 8 ca) rfl (by kernel_rfl) (by kernel_rfl) (by kernel_rfl) (fun _ _ _ h => h) (by rfl) (fun v hSw => by go_simp) hH ?_
            simp only [Act.put, List.setIfInBounds_toArray, List.set_cons_succ, List.set_cons_zero]
            refine takeH 4 (Value.pointer (some ⟨ga, 5, none⟩)) rfl (by kernel_rfl) (by kernel_rfl) (by kernel_rfl) (fun _ _ _ h => h) (by rfl) (fun v hSw => by go_simp) hH ?_
            simp only [Act.put, List.setIfInBounds_toArray, List.set_cons_succ, List.set_cons_zero]
            refine takeH 5 (U tf) rfl (by kernel_rfl) (by kernel_rfl) (by kernel_rfl) (fun _ _ _ h => h) (by rfl) (fun v hSw => by have g := hcl v hSw 5 (U tf) rfl; go_simp) hH ?_
            simp only [Act.put, List.setIfInBounds_toArray, List.set_cons_succ, List.set_cons_zero]
            refine takeH 6 (U n1) rfl (by kernel_rfl) (by kernel_rfl) (by kernel_rfl) (fun _ _ _ h => h) (by rfl) (fun v hSw => by go_simp) hH ?_
            simp only [Act.put, List.setIfInBounds_toArray, List.set_cons_succ, List.set_cons_zero]
            refine takeH 7 (Value.slice (some ⟨ga, 0, none⟩) 8 ca) rfl (by kernel_rfl) (by kernel_rfl) (by kernel_rfl) (fun _ _ _ h => h) (by rfl) (fun v hSw => by go_simp) hH ?_
            simp only [Act.put, List.setIfInBounds_toArray, List.set_cons_succ, List.set_cons_zero]
            refine takeH 8 (Value.pointer (some ⟨ga, 4, none⟩)) rfl (by kernel_rfl) (by kernel_rfl) (by kernel_rfl) (fun _ _ _ h => h) (by rfl) (fun v hSw => by go_simp) hH ?_
            simp only [Act.put, List.setIfInBounds_toArray, List.set_cons_succ, List.set_cons_zero]
            refine takeH 9 (U te) rfl (by kernel_rfl) (by kernel_rfl) (by kernel_rfl) (fun _ _ _ h => h) (by rfl) (fun v hSw => by have g := hcl v hSw 4 (U te) rfl; go_simp) hH ?_
            simp only [Act.put, List.setIfInBounds_toArray, List.set_cons_succ, List.set_cons_zero]
            refine takeH 10 (U nn) rfl (by kernel_rfl) (by kernel_rfl) (by kernel_rfl) (fun _ _ _ h => h) (by rfl) (fun v hSw => by go_simp) hH ?_
            simp only [Act.put, List.setIfInBounds_toArray, List.set_cons_succ, List.set_cons_zero]
            refine takeH 11 (Value.slice (some ⟨ga, 0, none⟩) 8 ca) rfl (by kernel_rfl) (by kernel_rfl) (by kernel_rfl) (fun _ _ _ h => h) (by rfl) (fun v hSw => by go_simp) hH ?_
            simp only [Act.put, List.setIfInBounds_toArray, List.set_cons_succ, List.set_cons_zero]
            refine takeH 12 (Value.pointer (some ⟨ga, 6, none⟩)) rfl (by kernel_rfl) (by kernel_rfl) (by kernel_rfl) (fun _ _ _ h => h) (by rfl) (fun v hSw => by go_simp) hH ?_
            simp only [Act.put, List.setIfInBounds_toArray, List.set_cons_succ, List.set_cons_zero]
            refine takeH 13 (U tg) rfl (by kernel_rfl) (by kernel_rfl) (by kernel_rfl) (fun _ _ _ h => h) (by rfl) (fun v hSw => by have g := hcl v hSw 6 (U tg) rfl; go_simp) hH ?_
            simp only [Act.put, List.setIfInBounds_toArray, List.set_cons_succ, List.set_cons_zero]
            refine takeH 14 (U n2) rfl (by kernel_rfl) (by kernel_rfl) (by kernel_rfl) (fun _ _ _ h => h) (by rfl) (fun v hSw => by go_simp) hH ?_
            simp only [Act.put, List.setIfInBounds_toArray, List.set_cons_succ, List.set_cons_zero]
            refine takeH 15 (U ch1) rfl (by kernel_rfl) (by kernel_rfl) (by kernel_rfl) (fun _ _ _ h => h) (by rfl) (fun v hSw => by go_simp) hH ?_
            simp only [Act.put, List.setIfInBounds_toArray, List.set_cons_succ, List.set_cons_zero]
            refine takeH 16 (U ch1) rfl (by kernel_rfl) (by kernel_rfl) (by kernel_rfl) (fun _ _ _ h => h) (by rfl) (fun v hSw => by go_simp) hH ?_
            simp only [Act.put, List.setIfInBounds_toArray, List.set_cons_succ, List.set_cons_zero]
            refine wpAnyH_done (by kernel_rfl) ?_ _
            clear f1 f2 f3 f4 hsg hcl hr
            have HR3 := hid hH
            clear hH
            have hcl := Hcl.out
            have m1' := M1.out; have m2' := M2.out; have m3' := M3.out; have m4' := M4.out; have m5' := M5.out
            go_wp2_with fail
            refine wp_region_held_drew (S := Rn w gw (Sha.words b 64) ga ⟨ta, tb, tc, td, te, tf, tg, th⟩) (by kernel_rfl) (HR3.out.next (Kept.of_drew [] wr.drew)) (fun hH => ?_)
            refine takeH 0 (Value.slice (some ⟨ga, 0, none⟩) 8 ca) rfl (by kernel_rfl) (by kernel_rfl) (by kernel_rfl) (fun _ _ _ h => h) (by rfl) (fun v hSw => by go_simp) hH ?_
            simp only [Act.put, List.setIfInBounds_toArray, List.set_cons_succ, List.set_cons_zero]
            refine takeH 1 (Value.pointer (some ⟨ga, 0, none⟩)) rfl (by kernel_rfl) (by kernel_rfl) (by kernel_rfl) (fun _ _ _ h => h) (by rfl) (fun v hSw => by go_simp) hH ?_
            simp only [Act.put, List.setIfInBounds_toArray, List.set_cons_succ, List.set_cons_zero]
            refine takeH 2 (U ta) rfl (by kernel_rfl) (by kernel_rfl) (by kernel_rfl) (fun _ _ _ h => h) (by rfl) (fun v hSw => by have g := hcl v hSw 0 (U ta) rfl; go_simp) hH ?_
            simp only [Act.put, List.setIfInBounds_toArray, List.set_cons_succ, List.set_cons_zero]
            refine takeH 3 (Value.slice (some ⟨ga, 0, none⟩) 8 ca) rfl (by kernel_rfl) (by kernel_rfl) (by kernel_rfl) (fun _ _ _ h => h) (by rfl) (fun v hSw => by go_simp) hH ?_
            simp only [Act.put, List.setIfInBounds_toArray, List.set_cons_succ, List.set_cons_zero]
            refine takeH 4 (Value.pointer (some ⟨ga, 1, none⟩)) rfl (by kernel_rfl) (by kernel_rfl) (by kernel_rfl) (fun _ _ _ h => h) (by rfl) (fun v hSw => by go_simp) hH ?_
            simp only [Act.put, List.setIfInBounds_toArray, List.set_cons_succ, List.set_cons_zero]
            refine takeH 5 (U tb) rfl (by kernel_rfl) (by kernel_rfl) (by kernel_rfl) (fun _ _ _ h => h) (by rfl) (fun v hSw => by have g := hcl v hSw 1 (U tb) rfl; go_simp) hH ?_
            simp only [Act.put, List.setIfInBounds_toArray, List.set_cons_succ, List.set_cons_zero]
            refine takeH 6 (U m1) rfl (by kernel_rfl) (by kernel_rfl) (by kernel_rfl) (fun _ _ _ h => h) (by rfl) (fun v hSw => by go_simp) hH ?_
            simp only [Act.put, List.setIfInBounds_toArray, List.set_cons_succ, List.set_cons_zero]
            refine takeH 7 (Value.slice (some ⟨ga, 0, none⟩) 8 ca) rfl (by kernel_rfl) (by kernel_rfl) (by kernel_rfl) (fun _ _ _ h => h) (by rfl) (fun v hSw => by go_simp) hH ?_
            simp only [Act.put, List.setIfInBounds_toArray, List.set_cons_succ, List.set_cons_zero]
            refine takeH 8 (Value.pointer (some ⟨ga, 0, none⟩)) rfl (by kernel_rfl) (by kernel_rfl) (by kernel_rfl) (fun _ _ _ h => h) (by rfl) (fun v hSw => by go_simp) hH ?_
            simp only [Act.put, List.setIfInBounds_toArray, List.set_cons_succ, List.set_cons_zero]
            refine takeH 9 (U ta) rfl (by kernel_rfl) (by kernel_rfl) (by kernel_rfl) (fun _ _ _ h => h) (by rfl) (fun v hSw => by have g := hcl v hSw 0 (U ta) rfl; go_simp) hH ?_
            simp only [Act.put, List.setIfInBounds_toArray, List.set_cons_succ, List.set_cons_zero]
            refine takeH 10 (Value.slice (some ⟨ga, 0, none⟩) 8 ca) rfl (by kernel_rfl) (by kernel_rfl) (by kernel_rfl) (fun _ _ _ h => h) (by rfl) (fun v hSw => by go_simp) hH ?_
            simp only [Act.put, List.setIfInBounds_toArray, List.set_cons_succ, List.set_cons_zero]
            refine takeH 11 (Value.pointer (some ⟨ga, 2, none⟩)) rfl (by kernel_rfl) (by kernel_rfl) (by kernel_rfl) (fun _ _ _ h => h) (by rfl) (fun v hSw => by go_simp) hH ?_
            simp only [Act.put, List.setIfInBounds_toArray, List.set_cons_succ, List.set_cons_zero]
            refine takeH 12 (U tc) rfl (by kernel_rfl) (by kernel_rfl) (by kernel_rfl) (fun _ _ _ h => h) (by rfl) (fun v hSw => by have g := hcl v hSw 2 (U tc) rfl; go_simp) hH ?_
            simp only [Act.put, List.setIfInBounds_toArray, List.set_cons_succ, List.set_cons_zero]
            refine takeH 13 (U m2) rfl (by kernel_rfl) (by kernel_rfl) (by kernel_rfl) (fun _ _ _ h => h) (by rfl) (fun v hSw => by go_simp) hH ?_
            simp only [Act.put, List.setIfInBounds_toArray, List.set_cons_succ, List.set_cons_zero]
            refine takeH 14 (U m3) rfl (by kernel_rfl) (by kernel_rfl) (by kernel_rfl) (fun _ _ _ h => h) (by rfl) (fun v hSw => by go_simp) hH ?_
            simp only [Act.put, List.setIfInBounds_toArray, List.set_cons_succ, List.set_cons_zero]
            refine takeH 15 (Value.slice (some ⟨ga, 0, none⟩) 8 ca) rfl (by kernel_rfl) (by kernel_rfl) (by kernel_rfl) (fun _ _ _ h => h) (by rfl) (fun v hSw => by go_simp) hH ?_
            simp only [Act.put, List.setIfInBounds_toArray, List.set_cons_succ, List.set_cons_zero]
            refine takeH 16 (Value.pointer (some ⟨ga, 1, none⟩)) rfl (by kernel_rfl) (by kernel_rfl) (by kernel_rfl) (fun _ _ _ h => h) (by rfl) (fun v hSw => by go_simp) hH ?_
            simp only [Act.put, List.setIfInBounds_toArray, List.set_cons_succ, List.set_cons_zero]
            refine takeH 17 (U tb) rfl (by kernel_rfl) (by kernel_rfl) (by kernel_rfl) (fun _ _ _ h => h) (by rfl) (fun v hSw => by have g := hcl v hSw 1 (U tb) rfl; go_simp) hH ?_
            simp only [Act.put, List.setIfInBounds_toArray, List.set_cons_succ, List.set_cons_zero]
            refine takeH 18 (Value.slice (some ⟨ga, 0, none⟩) 8 ca) rfl (by kernel_rfl) (by kernel_rfl) (by kernel_rfl) (fun _ _ _ h => h) (by rfl) (fun v hSw => by go_simp) hH ?_
            simp only [Act.put, List.setIfInBounds_toArray, List.set_cons_succ, List.set_cons_zero]
            refine takeH 19 (Value.pointer (some ⟨ga, 2, none⟩)) rfl (by kernel_rfl) (by kernel_rfl) (by kernel_rfl) (fun _ _ _ h => h) (by rfl) (fun v hSw => by go_simp) hH ?_
            simp only [Act.put, List.setIfInBounds_toArray, List.set_cons_succ, List.set_cons_zero]
            refine takeH 20 (U tc) rfl (by kernel_rfl) (by kernel_rfl) (by kernel_rfl) (fun _ _ _ h => h) (by rfl) (fun v hSw => by have g := hcl v hSw 2 (U tc) rfl; go_simp) hH ?_
            simp only [Act.put, List.setIfInBounds_toArray, List.set_cons_succ, List.set_cons_zero]
            refine takeH 21 (U m4) rfl (by kernel_rfl) (by kernel_rfl) (by kernel_rfl) (fun _ _ _ h => h) (by rfl) (fun v hSw => by go_simp) hH ?_
            simp only [Act.put, List.setIfInBounds_toArray, List.set_cons_succ, List.set_cons_zero]
            refine takeH 22 (U mj) rfl (by kernel_rfl) (by kernel_rfl) (by kernel_rfl) (fun _ _ _ h => h) (by rfl) (fun v hSw => by go_simp) hH ?_
            simp only [Act.put, List.setIfInBounds_toArray, List.set_cons_succ, List.set_cons_zero]
            refine takeH 23 (U mj) rfl (by kernel_rfl) (by kernel_rfl) (by kernel_rfl) (fun _ _ _ h => h) (by rfl) (fun v hSw => by go_simp) hH ?_
            simp only [Act.put, List.setIfInBounds_toArray, List.set_cons_succ, List.set_cons_zero]
            refine wpAnyH_done (by kernel_rfl) ?_ _
            clear m1' m2' m3' m4' m5' hcl HR3
            have HR4 := hid hH
            clear hH
            have hcl := Hcl.out; have hkl := Hkl.out; have hwl := Hwl.out
            have b1 := B1.out; have b2 := B2.out; have a1 := A1.out; have a2 := A2.out; have a3 := A3.out; have a4 := A4.out
            go_wp2_with fail
            refine wp_region_held_drew (S := Rn w gw (Sha.words b 64) ga ⟨ta, tb, tc, td, te, tf, tg, th⟩) (by kernel_rfl) (HR4.out.next (Kept.of_drew [] wr.drew.drew)) (fun hH => ?_)
            refine takeH 0 (Value.slice (some ⟨ga, 0, none⟩) 8 ca) rfl (by kernel_rfl) (by kernel_rfl) (by kernel_rfl) (fun _ _ _ h => h) (by rfl) (fun v hSw => by go_simp) hH ?_
            simp only [Act.put, List.setIfInBounds_toArray, List.set_cons_succ, List.set_cons_zero]
            refine takeH 1 (Value.pointer (some ⟨ga, 7, none⟩)) rfl (by kernel_rfl) (by kernel_rfl) (by kernel_rfl) (fun _ _ _ h => h) (by rfl) (fun v hSw => by go_simp) hH ?_
            simp only [Act.put, List.setIfInBounds_toArray, List.set_cons_succ, List.set_cons_zero]
            refine takeH 2 (U th) rfl (by kernel_rfl) (by kernel_rfl) (by kernel_rfl) (fun _ _ _ h => h) (by rfl) (fun v hSw => by have g := hcl v hSw 7 (U th) rfl; go_simp) hH ?_
            simp only [Act.put, List.setIfInBounds_toArray, List.set_cons_succ, List.set_cons_zero]
            refine takeH 3 (Value.slice (some ⟨ga, 0, none⟩) 8 ca) rfl (by kernel_rfl) (by kernel_rfl) (by kernel_rfl) (fun _ _ _ h => h) (by rfl) (fun v hSw => by go_simp) hH ?_
            simp only [Act.put, List.setIfInBounds_toArray, List.set_cons_succ, List.set_cons_zero]
            refine takeH 4 (Value.pointer (some ⟨ga, 4, none⟩)) rfl (by kernel_rfl) (by kernel_rfl) (by kernel_rfl) (fun _ _ _ h => h) (by rfl) (fun v hSw => by go_simp) hH ?_
            simp only [Act.put, List.setIfInBounds_toArray, List.set_cons_succ, List.set_cons_zero]
            refine takeH 5 (U te) rfl (by kernel_rfl) (by kernel_rfl) (by kernel_rfl) (fun _ _ _ h => h) (by rfl) (fun v hSw => by have g := hcl v hSw 4 (U te) rfl; go_simp) hH ?_
            simp only [Act.put, List.setIfInBounds_toArray, List.set_cons_succ, List.set_cons_zero]
            refine takeH 7 (Value.slice (some ⟨ga, 0, none⟩) 8 ca) rfl (by kernel_rfl) (by kernel_rfl) (by kernel_rfl) (fun _ _ _ h => h) (by rfl) (fun v hSw => by go_simp) hH ?_
            simp only [Act.put, List.setIfInBounds_toArray, List.set_cons_succ, List.set_cons_zero]
            refine takeH 8 (Value.pointer (some ⟨ga, 4, none⟩)) rfl (by kernel_rfl) (by kernel_rfl) (by kernel_rfl) (fun _ _ _ h => h) (by rfl) (fun v hSw => by go_simp) hH ?_
            simp only [Act.put, List.setIfInBounds_toArray, List.set_cons_succ, List.set_cons_zero]
            refine takeH 9 (U te) rfl (by kernel_rfl) (by kernel_rfl) (by kernel_rfl) (fun _ _ _ h => h) (by rfl) (fun v hSw => by have g := hcl v hSw 4 (U te) rfl; go_simp) hH ?_
            simp only [Act.put, List.setIfInBounds_toArray, List.set_cons_succ, List.set_cons_zero]
            refine takeH 12 (Value.slice (some ⟨ga, 0, none⟩) 8 ca) rfl (by kernel_rfl) (by kernel_rfl) (by kernel_rfl) (fun _ _ _ h => h) (by rfl) (fun v hSw => by go_simp) hH ?_
            simp only [Act.put, List.setIfInBounds_toArray, List.set_cons_succ, List.set_cons_zero]
            refine takeH 13 (Value.pointer (some ⟨ga, 4, none⟩)) rfl (by kernel_rfl) (by kernel_rfl) (by kernel_rfl) (fun _ _ _ h => h) (by rfl) (fun v hSw => by go_simp) hH ?_
            simp only [Act.put, List.setIfInBounds_toArray, List.set_cons_succ, List.set_cons_zero]
            refine takeH 14 (U te) rfl (by kernel_rfl) (by kernel_rfl) (by kernel_rfl) (fun _ _ _ h => h) (by rfl) (fun v hSw => by have g := hcl v hSw 4 (U te) rfl; go_simp) hH ?_
            simp only [Act.put, List.setIfInBounds_toArray, List.set_cons_succ, List.set_cons_zero]
            refine takeH 18 (U ch1) rfl (by kernel_rfl) (by kernel_rfl) (by kernel_rfl) (fun _ _ _ h => h) (by rfl) (fun v hSw => by go_simp) hH ?_
            simp only [Act.put, List.setIfInBounds_toArray, List.set_cons_succ, List.set_cons_zero]
            refine takeH 20 (.slice (some ⟨gk, 0, none⟩) 64 ck) rfl (by kernel_rfl) (by kernel_rfl) (by kernel_rfl) (fun _ _ _ h => h) (by rfl) (fun v hSw => by go_simp) hH ?_
            simp only [Act.put, List.setIfInBounds_toArray, List.set_cons_succ, List.set_cons_zero]
            refine takeH 21 (.int .i64 (i : Int)) rfl (by kernel_rfl) (by kernel_rfl) (by kernel_rfl) (fun _ _ _ h => h) (by rfl) (fun v hSw => by go_simp) hH ?_
            simp only [Act.put, List.setIfInBounds_toArray, List.set_cons_succ, List.set_cons_zero]
            refine takeH 22 (Value.pointer (some ⟨gk, i, none⟩)) rfl (by kernel_rfl) (by kernel_rfl) (by kernel_rfl) (fun _ _ _ h => h) (by rfl) (fun v hSw => by go_simp) hH ?_
            simp only [Act.put, List.setIfInBounds_toArray, List.set_cons_succ, List.set_cons_zero]
            refine takeH 23 (U kk) rfl (by kernel_rfl) (by kernel_rfl) (by kernel_rfl) (fun _ _ _ h => h) (by rfl) (fun v hSw => by have g := hkl v hSw; go_simp) hH ?_
            simp only [Act.put, List.setIfInBounds_toArray, List.set_cons_succ, List.set_cons_zero]
            refine takeH 25 (.slice (some ⟨gw, 0, none⟩) 64 c7) rfl (by kernel_rfl) (by kernel_rfl) (by kernel_rfl) (fun _ _ _ h => h) (by rfl) (fun v hSw => by go_simp) hH ?_
            simp only [Act.put, List.setIfInBounds_toArray, List.set_cons_succ, List.set_cons_zero]
            refine takeH 26 (.int .i64 (i : Int)) rfl (by kernel_rfl) (by kernel_rfl) (by kernel_rfl) (fun _ _ _ h => h) (by rfl) (fun v hSw => by go_simp) hH ?_
            simp only [Act.put, List.setIfInBounds_toArray, List.set_cons_succ, List.set_cons_zero]
            refine takeH 27 (Value.pointer (some ⟨gw, i, none⟩)) rfl (by kernel_rfl) (by kernel_rfl) (by kernel_rfl) (fun _ _ _ h => h) (by rfl) (fun v hSw => by go_simp) hH ?_
            simp only [Act.put, List.setIfInBounds_toArray, List.set_cons_succ, List.set_cons_zero]
            refine takeH 28 (U ww) rfl (by kernel_rfl) (by kernel_rfl) (by kernel_rfl) (fun _ _ _ h => h) (by rfl) (fun v hSw => by have g := hwl v hSw; go_simp) hH ?_
            simp only [Act.put, List.setIfInBounds_toArray, List.set_cons_succ, List.set_cons_zero]
            refine callH 6 rfl (by kernel_rfl) (by rfl) 31 #[U te, .int .i64 6] (by go_simp) (U r1) hH (R1.out _) ?_
            clear hH
            intro vv hH
            simp only [Act.put, List.setIfInBounds_toArray, List.set_cons_succ, List.set_cons_zero]
            refine callH 10 rfl (by kernel_rfl) (by rfl) 31 #[U te, .int .i64 11] (by go_simp) (U r2) hH (R2.out _) ?_
            clear hH
            intro vv hH
            simp only [Act.put, List.setIfInBounds_toArray, List.set_cons_succ, List.set_cons_zero]
            refine takeH 11 (U z1) rfl (by kernel_rfl) (by kernel_rfl) (by kernel_rfl) (fun _ _ _ h => h) (by rfl) (fun v hSw => by go_simp) hH ?_
            simp only [Act.put, List.setIfInBounds_toArray, List.set_cons_succ, List.set_cons_zero]
            refine callH 15 rfl (by kernel_rfl) (by rfl) 31 #[U te, .int .i64 25] (by go_simp) (U r3) hH (R3.out _) ?_
            clear hH
            intro vv hH
            simp only [Act.put, List.setIfInBounds_toArray, List.set_cons_succ, List.set_cons_zero]
            refine takeH 16 (U z2) rfl (by kernel_rfl) (by kernel_rfl) (by kernel_rfl) (fun _ _ _ h => h) (by rfl) (fun v hSw => by go_simp) hH ?_
            simp only [Act.put, List.setIfInBounds_toArray, List.set_cons_succ, List.set_cons_zero]
            refine takeH 17 (U v1) rfl (by kernel_rfl) (by kernel_rfl) (by kernel_rfl) (fun _ _ _ h => h) (by rfl) (fun v hSw => by go_simp) hH ?_
            simp only [Act.put, List.setIfInBounds_toArray, List.set_cons_succ, List.set_cons_zero]
            refine takeH 19 (U v2) rfl (by kernel_rfl) (by kernel_rfl) (by kernel_rfl) (fun _ _ _ h => h) (by rfl) (fun v hSw => by go_simp) hH ?_
            simp only [Act.put, List.setIfInBounds_toArray, List.set_cons_succ, List.set_cons_zero]
            refine takeH 24 (U v3) rfl (by kernel_rfl) (by kernel_rfl) (by kernel_rfl) (fun _ _ _ h => h) (by rfl) (fun v hSw => by go_simp) hH ?_
            simp only [Act.put, List.setIfInBounds_toArray, List.set_cons_succ, List.set_cons_zero]
            refine takeH 29 (U x1) rfl (by kernel_rfl) (by kernel_rfl) (by kernel_rfl) (fun _ _ _ h => h) (by rfl) (fun v hSw => by go_simp) hH ?_
            simp only [Act.put, List.setIfInBounds_toArray, List.set_cons_succ, List.set_cons_zero]
            refine takeH 30 (U x1) rfl (by kernel_rfl) (by kernel_rfl) (by kernel_rfl) (fun _ _ _ h => h) (by rfl) (fun v hSw => by go_simp) hH ?_
            simp only [Act.put, List.setIfInBounds_toArray, List.set_cons_succ, List.set_cons_zero]
            refine wpAnyH_done (by kernel_rfl) ?_ _
            clear b1 b2 a1 a2 a3 a4 hcl hkl hwl HR4
            have HR5 := hid hH
            clear hH
            have hcl := Hcl.out
            have b3 := B3.out; have b4 := B4.out; have a5 := A5.out
            go_wp2_with fail
            refine wp_region_held_drew (S := Rn w gw (Sha.words b 64) ga ⟨ta, tb, tc, td, te, tf, tg, th⟩) (by kernel_rfl) (HR5.out.next (Kept.of_drew [] vv)) (fun hH => ?_)
            refine takeH 0 (Value.slice (some ⟨ga, 0, none⟩) 8 ca) rfl (by kernel_rfl) (by kernel_rfl) (by kernel_rfl) (fun _ _ _ h => h) (by rfl) (fun v hSw => by go_simp) hH ?_
            simp only [Act.put, List.setIfInBounds_toArray, List.set_cons_succ, List.set_cons_zero]
            refine takeH 1 (Value.pointer (some ⟨ga, 0, none⟩)) rfl (by kernel_rfl) (by kernel_rfl) (by kernel_rfl) (fun _ _ _ h => h) (by rfl) (fun v hSw => by go_simp) hH ?_
            simp only [Act.put, List.setIfInBounds_toArray, List.set_cons_succ, List.set_cons_zero]
            refine takeH 2 (U ta) rfl (by kernel_rfl) (by kernel_rfl) (by kernel_rfl) (fun _ _ _ h => h) (by rfl) (fun v hSw => by have g := hcl v hSw 0 (U ta) rfl; go_simp) hH ?_
            simp only [Act.put, List.setIfInBounds_toArray, List.set_cons_succ, List.set_cons_zero]
            refine takeH 4 (Value.slice (some ⟨ga, 0, none⟩) 8 ca) rfl (by kernel_rfl) (by kernel_rfl) (by kernel_rfl) (fun _ _ _ h => h) (by rfl) (fun v hSw => by go_simp) hH ?_
            simp only [Act.put, List.setIfInBounds_toArray, List.set_cons_succ, List.set_cons_zero]
            refine takeH 5 (Value.pointer (some ⟨ga, 0, none⟩)) rfl (by kernel_rfl) (by kernel_rfl) (by kernel_rfl) (fun _ _ _ h => h) (by rfl) (fun v hSw => by go_simp) hH ?_
            simp only [Act.put, List.setIfInBounds_toArray, List.set_cons_succ, List.set_cons_zero]
            refine takeH 6 (U ta) rfl (by kernel_rfl) (by kernel_rfl) (by kernel_rfl) (fun _ _ _ h => h) (by rfl) (fun v hSw => by have g := hcl v hSw 0 (U ta) rfl; go_simp) hH ?_
            simp only [Act.put, List.setIfInBounds_toArray, List.set_cons_succ, List.set_cons_zero]
            refine takeH 9 (Value.slice (some ⟨ga, 0, none⟩) 8 ca) rfl (by kernel_rfl) (by kernel_rfl) (by kernel_rfl) (fun _ _ _ h => h) (by rfl) (fun v hSw => by go_simp) hH ?_
            simp only [Act.put, List.setIfInBounds_toArray, List.set_cons_succ, List.set_cons_zero]
            refine takeH 10 (Value.pointer (some ⟨ga, 0, none⟩)) rfl (by kernel_rfl) (by kernel_rfl) (by kernel_rfl) (fun _ _ _ h => h) (by rfl) (fun v hSw => by go_simp) hH ?_
            simp only [Act.put, List.setIfInBounds_toArray, List.set_cons_succ, List.set_cons_zero]
            refine takeH 11 (U ta) rfl (by kernel_rfl) (by kernel_rfl) (by kernel_rfl) (fun _ _ _ h => h) (by rfl) (fun v hSw => by have g := hcl v hSw 0 (U ta) rfl; go_simp) hH ?_
            simp only [Act.put, List.setIfInBounds_toArray, List.set_cons_succ, List.set_cons_zero]
            refine takeH 14 (U mj) rfl (by kernel_rfl) (by kernel_rfl) (by kernel_rfl) (fun _ _ _ h => h) (by rfl) (fun v hSw => by go_simp) hH ?_
            simp only [Act.put, List.setIfInBounds_toArray, List.set_cons_succ, List.set_cons_zero]
            refine callH 3 rfl (by kernel_rfl) (by rfl) 31 #[U ta, .int .i64 2] (by go_simp) (U q1) hH (Q1.out _) ?_
            clear hH
            intro vv hH
            simp only [Act.put, List.setIfInBounds_toArray, List.set_cons_succ, List.set_cons_zero]
            refine callH 7 rfl (by kernel_rfl) (by rfl) 31 #[U ta, .int .i64 13] (by go_simp) (U q2) hH (Q2.out _) ?_
            clear hH
            intro vv hH
            simp only [Act.put, List.setIfInBounds_toArray, List.set_cons_succ, List.set_cons_zero]
            refine takeH 8 (U y1) rfl (by kernel_rfl) (by kernel_rfl) (by kernel_rfl) (fun _ _ _ h => h) (by rfl) (fun v hSw => by go_simp) hH ?_
            simp only [Act.put, List.setIfInBounds_toArray, List.set_cons_succ, List.set_cons_zero]
            refine callH 12 rfl (by kernel_rfl) (by rfl) 31 #[U ta, .int .i64 22] (by go_simp) (U q3) hH (Q3.out _) ?_
            clear hH
            intro vv hH
            simp only [Act.put, List.setIfInBounds_toArray, List.set_cons_succ, List.set_cons_zero]
            refine takeH 13 (U y2) rfl (by kernel_rfl) (by kernel_rfl) (by kernel_rfl) (fun _ _ _ h => h) (by rfl) (fun v hSw => by go_simp) hH ?_
            simp only [Act.put, List.setIfInBounds_toArray, List.set_cons_succ, List.set_cons_zero]
            refine takeH 15 (U x2) rfl (by kernel_rfl) (by kernel_rfl) (by kernel_rfl) (fun _ _ _ h => h) (by rfl) (fun v hSw => by go_simp) hH ?_
            simp only [Act.put, List.setIfInBounds_toArray, List.set_cons_succ, List.set_cons_zero]
            refine takeH 16 (U x2) rfl (by kernel_rfl) (by kernel_rfl) (by kernel_rfl) (fun _ _ _ h => h) (by rfl) (fun v hSw => by go_simp) hH ?_
            simp only [Act.put, List.setIfInBounds_toArray, List.set_cons_succ, List.set_cons_zero]
            refine wpAnyH_done (by kernel_rfl) ?_ _
            clear b3 b4 a5 hcl HR5
            have HR6 := hid hH
            clear hH
            have hcl := Hcl.out
            have a6 := A6.out; have a7 := A7.out
            go_wp2_with fail
            refine wp_region_held_drew (S := Rn w gw (Sha.words b 64) ga ⟨ta, tb, tc, td, te, tf, tg, th⟩) (by kernel_rfl) (HR6.out.next (Kept.of_drew [] vv)) (fun hH => ?_)
            refine takeH 0 (U x1) rfl (by kernel_rfl) (by kernel_rfl) (by kernel_rfl) (fun _ _ _ h => h) (by rfl) (fun v hSw => by go_simp) hH ?_
            simp only [Act.put, List.setIfInBounds_toArray, List.set_cons_succ, List.set_cons_zero]
            refine takeH 1 (U x2) rfl (by kernel_rfl) (by kernel_rfl) (by kernel_rfl) (fun _ _ _ h => h) (by rfl) (fun v hSw => by go_simp) hH ?_
            simp only [Act.put, List.setIfInBounds_toArray, List.set_cons_succ, List.set_cons_zero]
            refine takeH 2 (U na) rfl (by kernel_rfl) (by kernel_rfl) (by kernel_rfl) (fun _ _ _ h => h) (by rfl) (fun v hSw => by go_simp) hH ?_
            simp only [Act.put, List.setIfInBounds_toArray, List.set_cons_succ, List.set_cons_zero]
            refine takeH 3 (Value.slice (some ⟨ga, 0, none⟩) 8 ca) rfl (by kernel_rfl) (by kernel_rfl) (by kernel_rfl) (fun _ _ _ h => h) (by rfl) (fun v hSw => by go_simp) hH ?_
            simp only [Act.put, List.setIfInBounds_toArray, List.set_cons_succ, List.set_cons_zero]
            refine takeH 4 (Value.pointer (some ⟨ga, 0, none⟩)) rfl (by kernel_rfl) (by kernel_rfl) (by kernel_rfl) (fun _ _ _ h => h) (by rfl) (fun v hSw => by go_simp) hH ?_
            simp only [Act.put, List.setIfInBounds_toArray, List.set_cons_succ, List.set_cons_zero]
            refine takeH 5 (U ta) rfl (by kernel_rfl) (by kernel_rfl) (by kernel_rfl) (fun _ _ _ h => h) (by rfl) (fun v hSw => by have g := hcl v hSw 0 (U ta) rfl; go_simp) hH ?_
            simp only [Act.put, List.setIfInBounds_toArray, List.set_cons_succ, List.set_cons_zero]
            refine takeH 6 (Value.slice (some ⟨ga, 0, none⟩) 8 ca) rfl (by kernel_rfl) (by kernel_rfl) (by kernel_rfl) (fun _ _ _ h => h) (by rfl) (fun v hSw => by go_simp) hH ?_
            simp only [Act.put, List.setIfInBounds_toArray, List.set_cons_succ, List.set_cons_zero]
            refine takeH 7 (Value.pointer (some ⟨ga, 1, none⟩)) rfl (by kernel_rfl) (by kernel_rfl) (by kernel_rfl) (fun _ _ _ h => h) (by rfl) (fun v hSw => by go_simp) hH ?_
            simp only [Act.put, List.setIfInBounds_toArray, List.set_cons_succ, List.set_cons_zero]
            refine takeH 8 (U tb) rfl (by kernel_rfl) (by kernel_rfl) (by kernel_rfl) (fun _ _ _ h => h) (by rfl) (fun v hSw => by have g := hcl v hSw 1 (U tb) rfl; go_simp) hH ?_
            simp only [Act.put, List.setIfInBounds_toArray, List.set_cons_succ, List.set_cons_zero]
            refine takeH 9 (Value.slice (some ⟨ga, 0, none⟩) 8 ca) rfl (by kernel_rfl) (by kernel_rfl) (by kernel_rfl) (fun _ _ _ h => h) (by rfl) (fun v hSw => by go_simp) hH ?_
            simp only [Act.put, List.setIfInBounds_toArray, List.set_cons_succ, List.set_cons_zero]
            refine takeH 10 (Value.pointer (some ⟨ga, 2, none⟩)) rfl (by kernel_rfl) (by kernel_rfl) (by kernel_rfl) (fun _ _ _ h => h) (by rfl) (fun v hSw => by go_simp) hH ?_
            simp only [Act.put, List.setIfInBounds_toArray, List.set_cons_succ, List.set_cons_zero]
            refine takeH 11 (U tc) rfl (by kernel_rfl) (by kernel_rfl) (by kernel_rfl) (fun _ _ _ h => h) (by rfl) (fun v hSw => by have g := hcl v hSw 2 (U tc) rfl; go_simp) hH ?_
            simp only [Act.put, List.setIfInBounds_toArray, List.set_cons_succ, List.set_cons_zero]
            refine takeH 12 (Value.slice (some ⟨ga, 0, none⟩) 8 ca) rfl (by kernel_rfl) (by kernel_rfl) (by kernel_rfl) (fun _ _ _ h => h) (by rfl) (fun v hSw => by go_simp) hH ?_
            simp only [Act.put, List.setIfInBounds_toArray, List.set_cons_succ, List.set_cons_zero]
            refine takeH 13 (Value.pointer (some ⟨ga, 3, none⟩)) rfl (by kernel_rfl) (by kernel_rfl) (by kernel_rfl) (fun _ _ _ h => h) (by rfl) (fun v hSw => by go_simp) hH ?_
            simp only [Act.put, List.setIfInBounds_toArray, List.set_cons_succ, List.set_cons_zero]
            refine takeH 14 (U td) rfl (by kernel_rfl) (by kernel_rfl) (by kernel_rfl) (fun _ _ _ h => h) (by rfl) (fun v hSw => by have g := hcl v hSw 3 (U td) rfl; go_simp) hH ?_
            simp only [Act.put, List.setIfInBounds_toArray, List.set_cons_succ, List.set_cons_zero]
            refine takeH 15 (U x1) rfl (by kernel_rfl) (by kernel_rfl) (by kernel_rfl) (fun _ _ _ h => h) (by rfl) (fun v hSw => by go_simp) hH ?_
            simp only [Act.put, List.setIfInBounds_toArray, List.set_cons_succ, List.set_cons_zero]
            refine takeH 16 (U ne) rfl (by kernel_rfl) (by kernel_rfl) (by kernel_rfl) (fun _ _ _ h => h) (by rfl) (fun v hSw => by go_simp) hH ?_
            simp only [Act.put, List.setIfInBounds_toArray, List.set_cons_succ, List.set_cons_zero]
            refine takeH 17 (Value.slice (some ⟨ga, 0, none⟩) 8 ca) rfl (by kernel_rfl) (by kernel_rfl) (by kernel_rfl) (fun _ _ _ h => h) (by rfl) (fun v hSw => by go_simp) hH ?_
            simp only [Act.put, List.setIfInBounds_toArray, List.set_cons_succ, List.set_cons_zero]
            refine takeH 18 (Value.pointer (some ⟨ga, 4, none⟩)) rfl (by kernel_rfl) (by kernel_rfl) (by kernel_rfl) (fun _ _ _ h => h) (by rfl) (fun v hSw => by go_simp) hH ?_
            simp only [Act.put, List.setIfInBounds_toArray, List.set_cons_succ, List.set_cons_zero]
            refine takeH 19 (U te) rfl (by kernel_rfl) (by kernel_rfl) (by kernel_rfl) (fun _ _ _ h => h) (by rfl) (fun v hSw => by have g := hcl v hSw 4 (U te) rfl; go_simp) hH ?_
            simp only [Act.put, List.setIfInBounds_toArray, List.set_cons_succ, List.set_cons_zero]
            refine takeH 20 (Value.slice (some ⟨ga, 0, none⟩) 8 ca) rfl (by kernel_rfl) (by kernel_rfl) (by kernel_rfl) (fun _ _ _ h => h) (by rfl) (fun v hSw => by go_simp) hH ?_
            simp only [Act.put, List.setIfInBounds_toArray, List.set_cons_succ, List.set_cons_zero]
            refine takeH 21 (Value.pointer (some ⟨ga, 5, none⟩)) rfl (by kernel_rfl) (by kernel_rfl) (by kernel_rfl) (fun _ _ _ h => h) (by rfl) (fun v hSw => by go_simp) hH ?_
            simp only [Act.put, List.setIfInBounds_toArray, List.set_cons_succ, List.set_cons_zero]
            refine takeH 22 (U tf) rfl (by kernel_rfl) (by kernel_rfl) (by kernel_rfl) (fun _ _ _ h => h) (by rfl) (fun v hSw => by have g := hcl v hSw 5 (U tf) rfl; go_simp) hH ?_
            simp only [Act.put, List.setIfInBounds_toArray, List.set_cons_succ, List.set_cons_zero]
            refine takeH 23 (Value.slice (some ⟨ga, 0, none⟩) 8 ca) rfl (by kernel_rfl) (by kernel_rfl) (by kernel_rfl) (fun _ _ _ h => h) (by rfl) (fun v hSw => by go_simp) hH ?_
            simp only [Act.put, List.setIfInBounds_toArray, List.set_cons_succ, List.set_cons_zero]
            refine takeH 24 (Value.pointer (some ⟨ga, 6, none⟩)) rfl (by kernel_rfl) (by kernel_rfl) (by kernel_rfl) (fun _ _ _ h => h) (by rfl) (fun v hSw => by go_simp) hH ?_
            simp only [Act.put, List.setIfInBounds_toArray, List.set_cons_succ, List.set_cons_zero]
            refine takeH 25 (U tg) rfl (by kernel_rfl) (by kernel_rfl) (by kernel_rfl) (fun _ _ _ h => h) (by rfl) (fun v hSw => by have g := hcl v hSw 6 (U tg) rfl; go_simp) hH ?_
            simp only [Act.put, List.setIfInBounds_toArray, List.set_cons_succ, List.set_cons_zero]
            refine runH 26 rfl (by kernel_rfl) (by rfl) (.slice (some ⟨vv.heap.size, 0, none⟩) 8 8) (vv.drew.alloc (.cells #[U na, U ta, U tb, U tc, U ne, U te, U tf, U tg] 67)) (by go_simp) (HR6.out.next ((Kept.of_drew [] vv).alloc _)) ?_
            simp only [Act.put, List.setIfInBounds_toArray, List.set_cons_succ, List.set_cons_zero]
            have hk7 : Kept [] vv (vv.drew.alloc (.cells #[U na, U ta, U tb, U tc, U ne, U te, U tf, U tg] 67)) := (Kept.of_drew [] vv).alloc _
            refine takeH 27 (.slice (some ⟨vv.heap.size, 0, none⟩) 8 8) rfl (by kernel_rfl) (by kernel_rfl) (by kernel_rfl) (fun _ _ _ h => h) (by rfl) (fun v hSw => by go_simp) (HR6.out.next hk7) ?_
            simp only [Act.put, List.setIfInBounds_toArray, List.set_cons_succ, List.set_cons_zero]
            refine wpAnyH_done (by kernel_rfl) ?_ _
            have hnew : Hid (Rn w gw (Sha.words b 64) vv.heap.size (Sha.rnds s (Sha.words b 64) (i + 1)) (vv.drew.alloc (.cells #[U na, U ta, U tb, U tc, U ne, U te, U tf, U tg] 67))) := hid (by
              refine ⟨HR6.out.1.trans hk7, HR6.out.2.1.next hk7, fun j u hj => ?_, by have := HR6.out.1.size; omega⟩
              have hh := heap_alloc_at (w := vv.drew) (o := .cells #[U na, U ta, U tb, U tc, U ne, U te, U tf, U tg] 67) (k := vv.heap.size) rfl
              rw [cell_of_row _ vv.heap.size j _ _ _ hh]
              have e : stL (Sha.rnds s (Sha.words b 64) (i + 1)) = [U na, U ta, U tb, U tc, U ne, U te, U tf, U tg] := by
                rw [Hst.out]; rfl
              rw [e] at hj; simpa using hj)
            clear hk7 hH hcl a6 a7
            go_wp2_with fail
            exact ⟨⟨i + 1, vv.heap.size, 8, by omega, by go_num, rfl, hnew⟩, by simp [intOf]; omega⟩
          · obtain rfl : i = 64 := by omega
            have hrr := hr.out
            obtain ⟨r64, h64'⟩ : ∃ r, r = Sha.rnds s (Sha.words b 64) 64 := ⟨_, rfl⟩
            rw [← h64'] at hrr
            have hmx : ∀ i, i < 8 → (stL (Sha.mix s b))[i]? = some (U (s.list.getD i 0 + r64.list.getD i 0)) := fun i hi => by
              have e : Sha.mix s b = r64.add s := by rw [h64']; rfl
              rw [e]
              rcases i with _ | _ | _ | _ | _ | _ | _ | _ | i <;> first | omega | (simp [stL, Sha.St.add, Sha.St.list, BitVec.add_comm])
            have hls : ∀ (t : Sha.St) i, i < 8 → (stL t)[i]? = some (U (t.list.getD i 0)) := fun t i hi => by
              rcases i with _ | _ | _ | _ | _ | _ | _ | _ | i <;> first | omega | rfl
            have Hrk := hid hrr.1
            have HA0 := hid hrr.2.2.1
            have Hga := hid (show ga < wr.heap.size from World.block_lt_of_cell? wr _ (hrr.2.2.1 0 _ rfl))
            have Hmx := hid hmx; have Hls := hid hls
            clear hrr hr h64' hmx hls
            obtain ⟨b3, hb3⟩ : ∃ b, b = wr.heap.size := ⟨_, rfl⟩
            have hfr3 := hid (show RowV w b3 67 (.slice (some ⟨wr.heap.size, 0, none⟩) 0 0) [] (wr.alloc (.cells #[] 67)) by rw [hb3]; exact RowV.fresh 67 Hrk.out)
            have HA1 := hid (show ∀ (j : Nat) u, (stL r64)[j]? = some u → (wr.alloc (.cells #[] 67)).cell? ⟨ga, j, none⟩ = some u from fun j u hj => (((Kept.refl [] wr).alloc _).cell (p := ⟨ga, j, none⟩) Hga.out (by simp)).trans (HA0.out j u hj))
            have HB3 := hid (show ga < b3 by rw [hb3]; exact Hga.out)
            clear hb3 Hga HA0 Hrk
            go_wp2_with fail
            go_loopw [17, 18] (fun v j wr => ∃ i : Nat, i ≤ 8 ∧ j = .int .i64 i ∧ Hid (RowV w b3 67 v ((stL (Sha.mix s b)).take i) wr) ∧ Hid (∀ (j : Nat) u, (stL r64)[j]? = some u → wr.cell? ⟨ga, j, none⟩ = some u)) (fun _ j _ => 8 - (intOf j).toNat)
            case atStart => exact ⟨0, by omega, rfl, hid (by simpa using hfr3.out), HA1⟩
            case round =>
              clear hfr3 HA1
              obtain ⟨i, hi, rfl, HO, HA⟩ := hrel
              have hol : ((stL (Sha.mix s b)).take i).length = i := by simp [stL]; omega
              by_cases hlt : i < 8
              · obtain ⟨ao, co, rfl⟩ := owns_slice HO.out.2.2.2
                rw [hol] at HO ⊢
                obtain ⟨hi1, hhi⟩ : ∃ x, x = s.list.getD i 0 := ⟨_, rfl⟩
                obtain ⟨ai1, hai⟩ : ∃ x, x = r64.list.getD i 0 := ⟨_, rfl⟩
                obtain ⟨su, hsu0⟩ : ∃ x, x = hi1 + ai1 := ⟨_, rfl⟩
                have hsu : IntKind.u32.wrap ((hi1.toNat : Int) + (ai1.toNat : Int)) = (su.toNat : Int) := by rw [IntKind.wrap_u32, add_bv, hsu0]
                have hhl : ∀ v, KG w ga (stL r64) v → v.cell? ⟨gh, i, none⟩ = some (U hi1) := fun v hv => by
                  have h1 := Hh.out i _ (Hls.out s i hlt)
                  rw [hhi]; exact (hv.1.cell (p := ⟨gh, i, none⟩) (World.block_lt_of_cell? w _ h1) (by simp)).trans h1
                have hal : ∀ v, KG w ga (stL r64) v → v.cell? ⟨ga, i, none⟩ = some (U ai1) := fun v hv => by
                  rw [hai]; exact hv.2 i _ (Hls.out r64 i hlt)
                have Hsn := hid (show (stL (Sha.mix s b)).take (i + 1) = (stL (Sha.mix s b)).take i ++ [U su] by
                  rw [List.take_add_one, Hmx.out i hlt, hsu0, hhi, hai]; rfl)
                have Hown := hid (((Kept.of_drew [] wr).alloc (.cells #[U su] 67)).owns (by have := HO.out.2.2.2; rwa [hol] at this) (by simp))
                have i0' : (0 : Int) ≤ (i : Int) := by omega
                have i8' : (i : Int) < 8 := by omega
                clear hhi hai hsu0
                go_wp2_with fail
                refine wp_region_held_drew (S := KG w ga (stL r64)) (by kernel_rfl) ⟨HO.out.1.drew, HA.out⟩ (fun hH => ?_)
                refine takeH 0 (.slice ao i co) rfl (by kernel_rfl) (by kernel_rfl) (by kernel_rfl) (fun _ _ _ h => h) (by rfl) (fun v hSw => by go_simp) hH ?_
                simp only [Act.put, List.setIfInBounds_toArray, List.set_cons_succ, List.set_cons_zero]
                refine takeH 1 (.slice (some ⟨gh, 0, none⟩) 8 ch) rfl (by kernel_rfl) (by kernel_rfl) (by kernel_rfl) (fun _ _ _ h => h) (by rfl) (fun v hSw => by go_simp) hH ?_
                simp only [Act.put, List.setIfInBounds_toArray, List.set_cons_succ, List.set_cons_zero]
                refine takeH 2 (.int .i64 (i : Int)) rfl (by kernel_rfl) (by kernel_rfl) (by kernel_rfl) (fun _ _ _ h => h) (by rfl) (fun v hSw => by go_simp) hH ?_
                simp only [Act.put, List.setIfInBounds_toArray, List.set_cons_succ, List.set_cons_zero]
                refine takeH 3 (Value.pointer (some ⟨gh, i, none⟩)) rfl (by kernel_rfl) (by kernel_rfl) (by kernel_rfl) (fun _ _ _ h => h) (by rfl) (fun v hSw => by go_simp) hH ?_
                simp only [Act.put, List.setIfInBounds_toArray, List.set_cons_succ, List.set_cons_zero]
                refine takeH 4 (U hi1) rfl (by kernel_rfl) (by kernel_rfl) (by kernel_rfl) (fun _ _ _ h => h) (by rfl) (fun v hSw => by have g := hhl v hSw; go_simp) hH ?_
                simp only [Act.put, List.setIfInBounds_toArray, List.set_cons_succ, List.set_cons_zero]
                refine takeH 5 (.slice (some ⟨ga, 0, none⟩) 8 ca) rfl (by kernel_rfl) (by kernel_rfl) (by kernel_rfl) (fun _ _ _ h => h) (by rfl) (fun v hSw => by go_simp) hH ?_
                simp only [Act.put, List.setIfInBounds_toArray, List.set_cons_succ, List.set_cons_zero]
                refine takeH 6 (.int .i64 (i : Int)) rfl (by kernel_rfl) (by kernel_rfl) (by kernel_rfl) (fun _ _ _ h => h) (by rfl) (fun v hSw => by go_simp) hH ?_
                simp only [Act.put, List.setIfInBounds_toArray, List.set_cons_succ, List.set_cons_zero]
                refine takeH 7 (Value.pointer (some ⟨ga, i, none⟩)) rfl (by kernel_rfl) (by kernel_rfl) (by kernel_rfl) (fun _ _ _ h => h) (by rfl) (fun v hSw => by go_simp) hH ?_
                simp only [Act.put, List.setIfInBounds_toArray, List.set_cons_succ, List.set_cons_zero]
                refine takeH 8 (U ai1) rfl (by kernel_rfl) (by kernel_rfl) (by kernel_rfl) (fun _ _ _ h => h) (by rfl) (fun v hSw => by have g := hal v hSw; go_simp) hH ?_
                simp only [Act.put, List.setIfInBounds_toArray, List.set_cons_succ, List.set_cons_zero]
                refine takeH 9 (U su) rfl (by kernel_rfl) (by kernel_rfl) (by kernel_rfl) (fun _ _ _ h => h) (by rfl) (fun v hSw => by go_simp) hH ?_
                simp only [Act.put, List.setIfInBounds_toArray, List.set_cons_succ, List.set_cons_zero]
                refine runH 10 rfl (by kernel_rfl) (by rfl) (.slice (some ⟨wr.heap.size, 0, none⟩) 1 1) (wr.drew.alloc (.cells #[U su] 67)) (by go_simp) ⟨HO.out.1.drew.alloc _, fun j u hj => (((Kept.of_drew [] wr).alloc (.cells #[U su] 67)).cell (p := ⟨ga, j, none⟩) (World.block_lt_of_cell? wr _ (HA.out j u hj)) (by simp)).trans (HA.out j u hj)⟩ ?_
                simp only [Act.put, List.setIfInBounds_toArray, List.set_cons_succ, List.set_cons_zero]
                refine appendH 11 rfl (by kernel_rfl) rfl (.tmp 244) (.tmp 254) 62 rfl b3 67 i0 _ 4 Tryd.underlying62 hi0 hz0 hz1 hz2 rfl (.slice ao i co) i ((stL (Sha.mix s b)).take i) rfl Hown.out ⟨wr.heap.size, 0, none⟩ 1 1 [U su] rfl (cell_one_new wr.drew (U su) _) rfl (by intro u hu; simp at hu; subst hu; rfl) (by unfold maxLen; omega) (by omega) (by have := HO.out.2.2.1; simp; omega) ?_
                intro a8 c8 w8 hown2 hgrow2 _
                have hk8 := (HO.out.next ((Kept.of_drew [] wr).alloc (.cells #[U su] 67))).kept_of hgrow2
                have hA8 : ∀ (j : Nat) u, (stL r64)[j]? = some u → w8.cell? ⟨ga, j, none⟩ = some u := fun j u hj => by
                  have h1 := (((Kept.of_drew [] wr).alloc (.cells #[U su] 67)).cell (p := ⟨ga, j, none⟩) (World.block_lt_of_cell? wr _ (HA.out j u hj)) (by simp)).trans (HA.out j u hj)
                  refine Eq.trans ?_ h1
                  unfold World.cell?
                  rw [hgrow2.block ga (Nat.lt_of_lt_of_le (World.block_lt_of_cell? wr _ (HA.out j u hj)) (by simp)) (fun e => by
                    rcases Hown.out.2 with ⟨h0, _⟩ | ⟨g', _, _, h0, hb', _⟩
                    · rw [h0] at e; simp [Value.ownBlock] at e
                    · rw [h0] at e; simp [Value.ownBlock] at e; have := HB3.out; omega)]
                have hH8 : KG w ga (stL r64) w8 := ⟨hk8, hA8⟩
                refine ⟨hH8, ?_⟩
                simp only [Act.put, List.setIfInBounds_toArray, List.set_cons_succ, List.set_cons_zero]
                have hstep := hid (show RowV w b3 67 (.slice a8 (i + 1) c8) ((stL (Sha.mix s b)).take (i + 1)) w8 from by
                  rw [Hsn.out]
                  exact HO.out.step ((Kept.of_drew [] wr).alloc (.cells #[U su] 67)) (by rw [List.length_append, hol]; simpa using hown2) hgrow2)
                clear hown2 hgrow2 hk8 Hown
                refine takeH 12 (.slice a8 (i + 1) c8) rfl (by kernel_rfl) (by kernel_rfl) (by kernel_rfl) (fun _ _ _ h => h) (by rfl) (fun v hSw => by go_simp) hH8 ?_
                simp only [Act.put, List.setIfInBounds_toArray, List.set_cons_succ, List.set_cons_zero]
                refine wpAnyH_done (by kernel_rfl) ?_ _
                clear hsu
                go_wp2_with fail
                exact ⟨⟨i + 1, by omega, by go_num, hstep, hid hA8⟩, by simp [intOf]; omega⟩
              · obtain rfl : i = 8 := by omega
                have hO := HO.out
                rw [List.take_of_length_le (by simp [stL])] at hO
                obtain ⟨g9, c9, hv, hg9, hl9, hc9⟩ := hO.slice (by simp [stL])
                subst hv
                have hfin := hid (show Kept [] w wr ∧ w.heap.size ≤ g9 ∧ g9 < wr.heap.size ∧ ∀ (j : Nat) u, (stL (Sha.mix s b))[j]? = some u → wr.cell? ⟨g9, j, none⟩ = some u from ⟨hO.1, Nat.le_trans hO.2.1 hg9, hl9, hc9⟩)
                clear hO HO HA hg9 hl9 hc9
                go_wp2
                go_ret
                exact ⟨g9, c9, rfl, hfin.out⟩
end Go.Proofs.YtmkdjonlfkfnlaaDoor
