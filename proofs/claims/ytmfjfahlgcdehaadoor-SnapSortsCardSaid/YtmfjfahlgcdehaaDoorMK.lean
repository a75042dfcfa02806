import Derived.Test.YtmfjfahlgcdehaaDoorMI
import Derived.StillTailTactics
import Derived.Test.YtmfjfahlgcdehaaDoorHW
import Derived.Test.YtmfjfahlgcdehaaDoorHB

/- coldstoreref03: right, letter, digit; the document's rounds in the words of H0. -/
namespace Go.Proofs.YtmfjfahlgcdehaaDoor
open Go.RowKit

theorem Reads.get {w : World} {a : Option Addr} {ys : List UInt8} (h : Reads w a ys) (i : Nat) (hi : i < ys.length) : ∃ ad, a = some ad ∧ w.cell? (ad.add i) = some (B ys[i]) := by
  cases a with
  | none => rw [h.1 rfl] at hi; simp at hi
  | some ad => exact ⟨ad, rfl, h.2 ad rfl i _ (by simp [hi])⟩
theorem choice_or (e f g : Sha.W) : (e &&& f) ||| (~~~ e &&& g) = Sha.choice e f g := by
  unfold Sha.choice
  apply BitVec.eq_of_getLsbD_eq
  intro i hi
  simp only [BitVec.getLsbD_or, BitVec.getLsbD_and, BitVec.getLsbD_xor, BitVec.getLsbD_not, hi, decide_true, Bool.true_and]
  cases e.getLsbD i <;> cases f.getLsbD i <;> cases g.getLsbD i <;> rfl
theorem major_or (a b c : Sha.W) : (a &&& b) ||| (a &&& c) ||| (b &&& c) = Sha.major a b c := by
  unfold Sha.major
  apply BitVec.eq_of_getLsbD_eq
  intro i hi
  simp only [BitVec.getLsbD_or, BitVec.getLsbD_and, BitVec.getLsbD_xor]
  cases a.getLsbD i <;> cases b.getLsbD i <;> cases c.getLsbD i <;> rfl
theorem word_sum (b : List UInt8) (i : Nat) : (Sha.word b i).toNat = 16777216 * (b.getD (4 * i) 0).toNat + 65536 * (b.getD (4 * i + 1) 0).toNat + 256 * (b.getD (4 * i + 2) 0).toNat + (b.getD (4 * i + 3) 0).toNat := by
  unfold Sha.word
  have h0 := (b.getD (4 * i) 0).toNat_lt
  have h1 := (b.getD (4 * i + 1) 0).toNat_lt
  have h2 := (b.getD (4 * i + 2) 0).toNat_lt
  have h3 := (b.getD (4 * i + 3) 0).toNat_lt
  generalize (b.getD (4 * i) 0).toNat = x at *
  generalize (b.getD (4 * i + 1) 0).toNat = y at *
  generalize (b.getD (4 * i + 2) 0).toNat = z at *
  generalize (b.getD (4 * i + 3) 0).toNat = u at *
  simp only [BitVec.toNat_or, BitVec.toNat_shiftLeft, BitVec.toNat_ofNat]
  rw [Nat.mod_eq_of_lt (show x < 2 ^ 32 by omega), Nat.mod_eq_of_lt (show y < 2 ^ 32 by omega), Nat.mod_eq_of_lt (show z < 2 ^ 32 by omega), Nat.mod_eq_of_lt (show u < 2 ^ 32 by omega)]
  rw [Nat.mod_eq_of_lt (show x <<< 24 < 2 ^ 32 by rw [Nat.shiftLeft_eq]; omega), Nat.mod_eq_of_lt (show y <<< 16 < 2 ^ 32 by rw [Nat.shiftLeft_eq]; omega), Nat.mod_eq_of_lt (show z <<< 8 < 2 ^ 32 by rw [Nat.shiftLeft_eq]; omega)]
  rw [← Nat.shiftLeft_add_eq_or_of_lt (show y <<< 16 < 2 ^ 24 by rw [Nat.shiftLeft_eq]; omega)]
  rw [show x <<< 24 + y <<< 16 = (x * 256 + y) <<< 16 by simp only [Nat.shiftLeft_eq]; omega]
  rw [← Nat.shiftLeft_add_eq_or_of_lt (show z <<< 8 < 2 ^ 16 by rw [Nat.shiftLeft_eq]; omega)]
  rw [show (x * 256 + y) <<< 16 + z <<< 8 = (x * 65536 + y * 256 + z) <<< 8 by simp only [Nat.shiftLeft_eq]; omega]
  rw [← Nat.shiftLeft_add_eq_or_of_lt (show u < 2 ^ 8 by omega)]
  simp only [Nat.shiftLeft_eq]; omega

theorem rotr_lit (x : Sha.W) (n : Nat) (a b : Int) (ha : a = ((2 ^ (32 - n) : Nat) : Int)) (hb : b = ((2 ^ n : Nat) : Int)) :
    bits .or .u32 ((x.toNat : Int) / b) ((x.toNat : Int) * a % 4294967296) = ((Sha.rotr x n).toNat : Int) := by
  rw [ha, hb, shl_bv, shr_bv, or_bv]
  rw [BitVec.or_comm]; rfl

theorem right_any (x : Sha.W) (n : Nat) (h1 : 1 ≤ n) (hn : n ≤ 31) (w : World) :
    Calls Tryd.prog 90 #[U x, .int .i64 (n : Int)] w fun e w' => e = .returned (U (Sha.rotr x n)) ∧ w.drew = w' := by
  have hx := x.isLt
  obtain ⟨s, hs⟩ : ∃ s : Int, s = (n : Int) := ⟨_, rfl⟩
  obtain ⟨a, ha⟩ : ∃ a : Int, a = ((2 ^ (32 - n) : Nat) : Int) := ⟨_, rfl⟩
  obtain ⟨b, hb⟩ : ∃ b : Int, b = ((2 ^ n : Nat) : Int) := ⟨_, rfl⟩
  have hr := rotr_lit x n a b ha hb
  have e1 : (2 : Int) ^ s.toNat = b := by rw [hb, hs]; simp
  have e2 : (2 : Int) ^ (32 - s).toNat = a := by rw [ha, show (32 - s).toNat = 32 - n by omega]; simp
  have b1 : 0 ≤ s := by omega
  have b2 : s ≤ 32 := by omega
  have b3 : 0 ≤ 32 - s := by omega
  have b4 : 32 - s ≤ 32 := by omega
  have Hr := hid hr
  rw [← hs]
  clear hr hs ha hb h1 hn
  go_enter Tryd.func90, Tryd.ntmps90
  go_wp2_with fail
  go_region
  go_wp2
  go_ret
  exact ⟨by rw [Hr.out]; rfl, rfl⟩
theorem right_quiet (x : Sha.W) (n : Nat) (h1 : 1 ≤ n) (hn : n ≤ 31) (w : World) :
    Calls Tryd.prog 90 #[U x, .int .i64 (n : Int)] w fun e w' => e = .returned (U (Sha.rotr x n)) ∧ w' = w.drew := (right_any x n h1 hn w).mono fun _ _ h => ⟨h.1, h.2.symm⟩
theorem right_k (x : Sha.W) (k : Int) (hk : 1 ≤ k ∧ k ≤ 31) (w : World) :
    Calls Tryd.prog 90 #[U x, .int .i64 k] w fun e w' => e = .returned (U (Sha.rotr x k.toNat)) ∧ ∃ m, w' = w.drewN m := by
  obtain ⟨n, rfl⟩ : ∃ n : Nat, k = (n : Int) := ⟨k.toNat, by omega⟩
  exact (right_any x n (by omega) (by omega) w).mono fun _ _ h => ⟨h.1, 1, h.2.symm⟩
end Go.Proofs.YtmfjfahlgcdehaaDoor


/- Rows of values that a call appends to; an append in a drawn region; the document's words in the walk's spelling. -/
namespace Go.Proofs.YtmfjfahlgcdehaaDoor
open Go.RowKit Go.Lib

theorem owns_slice {w : World} {base : Nat} {e : TypeId} {size : Nat} {v : Value} {n : Nat} {xs : List Value} (h : w.ownsRow base e size v n xs) : ∃ a c, v = .slice a n c := by
  rcases h.2 with ⟨rfl, rfl⟩ | ⟨g, cap, _, rfl, _⟩
  · exact ⟨none, 0, rfl⟩
  · exact ⟨_, cap, rfl⟩
/-- A row of one-cell values that a call made: v is it, in the world wr. -/
def RowV (w : World) (base : Nat) (e : TypeId) (v : Value) (xs : List Value) (wr : World) : Prop :=
  Kept [] w wr ∧ w.heap.size ≤ base ∧ base ≤ wr.heap.size ∧ wr.ownsRow base e 1 v xs.length xs
theorem RowV.step {w wr w1 w2 : World} {base : Nat} {e : TypeId} {v v2 : Value} {xs ys : List Value} (h : RowV w base e v xs wr) (hk : Kept [] wr w1) (hown : w2.ownsRow base e 1 v2 (xs ++ ys).length (xs ++ ys)) (hg : w1.grownBy w2 v.ownBlock) : RowV w base e v2 (xs ++ ys) w2 := by
  obtain ⟨h1, h2, h3, h4⟩ := h
  refine ⟨(h1.trans hk).trans' (Kept.of_row hg) (fun x hx hm => ?_), h2, by have := hk.size; have := hg.size; omega, hown⟩
  simp at hm
  rcases h4.2 with ⟨rfl, _⟩ | ⟨g, _, _, rfl, hb, _⟩
  · simp [Value.ownBlock] at hm
  · simp [Value.ownBlock] at hm; omega
theorem RowV.next {w wr w1 : World} {base : Nat} {e : TypeId} {v : Value} {xs : List Value} (h : RowV w base e v xs wr) (hk : Kept [] wr w1) : RowV w base e v xs w1 :=
  ⟨h.1.trans hk, h.2.1, Nat.le_trans h.2.2.1 hk.size, hk.owns h.2.2.2 (by simp)⟩
theorem RowV.fresh {w wr : World} (e : TypeId) (hk : Kept [] w wr) : RowV w wr.heap.size e (.slice (some ⟨wr.heap.size, 0, none⟩) 0 0) [] (wr.alloc (.cells #[] e)) :=
  ⟨hk.alloc _, hk.size, by simp, by simp, Or.inr ⟨wr.heap.size, 0, #[], rfl, Nat.le_refl _, heap_alloc_new' _ _, by simp, by unfold maxLen; omega, by simp, by simp⟩⟩
/-- The row's slice, and its cells. -/
theorem RowV.slice {w wr : World} {base : Nat} {e : TypeId} {v : Value} {xs : List Value} (h : RowV w base e v xs wr) (hx : xs ≠ []) : ∃ g c, v = .slice (some ⟨g, 0, none⟩) xs.length c ∧ base ≤ g ∧ g < wr.heap.size ∧ ∀ (j : Nat) u, xs[j]? = some u → wr.cell? ⟨g, j, none⟩ = some u := by
  have ho := h.2.2.2
  rcases ho.2 with ⟨rfl, h0⟩ | ⟨g, cap, cur, rfl, hb, hh, _⟩
  · exact absurd (List.eq_nil_of_length_eq_zero h0) hx
  · exact ⟨g, cap, rfl, hb, lt_of_block hh, fun j u hj => by
      have := ho.cells (g := g) rfl j u hj
      have e : (⟨g, 0, none⟩ : Addr).add j = ⟨g, j, none⟩ := by unfold Addr.add; split <;> simp_all
      rwa [e] at this⟩

section
variable {P : Program} (w : World)
theorem append_old (t ty : TypeId) (base : Nat) (e : TypeId) (i : TypeInfo) (z : Value) (bytes : Nat) (ht : P.underlying t = some (.slice e)) (hi : P.info? e = some i) (hz : i.zero = some z)
    (hsize : i.size = 1) (hby : i.bytes = bytes) (hzs : z.cells.size = 1) (g n cap : Nat) (xs : List Value) (hown : w.ownsRow base e 1 (.slice (some ⟨g, 0, none⟩) n cap) n xs)
    (ad : Addr) (m c : Nat) (news : List Value) (hl : news.length = m) (hnews : ∀ j u, news[j]? = some u → w.cell? (ad.add j) = some u) (h1 : ∀ u ∈ news, u.oneCell' = true)
    (h63 : n + m ≤ maxLen) (hbytes : (n + m) * bytes ≤ 140737488355328) (v' : Value) (w' : World) (hr : (Builtin.append_ #[t, t] ty #[.slice (some ⟨g, 0, none⟩) n cap, .slice (some ad) m c]).run P w = .ok v' w')
    (hown' : w'.ownsRow base e 1 v' (n + m) (xs ++ news)) : ∀ (j : Nat) (u : Value), xs[j]? = some u → w'.cell? ⟨g, j, none⟩ = some u := by
  intro j u hj
  have hjl : j < n := by
    have hx := hown.1
    rcases Nat.lt_or_ge j xs.length with h | h
    · omega
    · rw [List.getElem?_eq_none h] at hj; simp at hj
  rcases hown.2 with ⟨hv, _⟩ | ⟨g', cap', cur, hv, hb, hg, hnc, hcm, hcs, htake⟩
  · simp at hv
  · simp at hv
    obtain ⟨rfl, rfl⟩ := hv
    by_cases hroom : n + m ≤ cap
    · have hr2 := run_append_room (P := P) w t ty e i ht hi g n cap cur hg ad m c news (by rw [hl, hsize, Nat.mul_one]) hnews h1 hroom (by rw [hsize, hl]; omega)
      rw [hr] at hr2
      cases hr2
      rw [hown'.cellAt j (by omega), List.getElem?_append_left (by have := hown.1; omega)]
      exact hj
    · have hcell := hown.cells (g := g) rfl
      have hr2 := run_append_grow (P := P) w t ty e i z ht hi hz ⟨g, 0, none⟩ n cap xs (by rw [hsize]; exact hown.1) hcell ad m c news (by rw [hl, hsize, Nat.mul_one]) hnews (by omega) (by simp only [maxLen] at h63; omega)
        (by rw [hby]; exact growslice_fits (by omega) (by omega))
      rw [hr] at hr2
      cases hr2
      have hc := hcell j u hj
      have e1 : (⟨g, 0, none⟩ : Addr).add j = ⟨g, j, none⟩ := by unfold Addr.add; split <;> simp_all
      rw [e1] at hc
      exact (((Kept.refl [] w).drew.alloc _).cell (p := ⟨g, j, none⟩) (World.block_lt_of_cell? w _ hc) (by simp)).trans hc
end

/-- An append as the one operation of a drawn region that may come now. -/
theorem appendH {P : Program} {md : Region.Mode} {Q : Exit → Act → World → Prop} {S : World → Prop} {l rest : List Oper} {oi : Oper} {fuel : Nat} {listed : Array Bool} {a : Act} {w : World} (k : Nat) (hi : l.drop k = oi :: rest) (hr : Region.ready md l.toArray listed = [k]) (hgd : oi.guard = none)
    (s x : Operand) (t : TypeId) (ho : oi.op = .call { callee := .builtin .append, args := #[s, x], argTypes := #[t, t] }) (base : Nat) (e : TypeId) (i : TypeInfo) (z : Value) (bytes : Nat) (ht : P.underlying t = some (.slice e)) (hie : P.info? e = some i) (hz : i.zero = some z)
    (hsize : i.size = 1) (hby : i.bytes = bytes) (hzs : z.cells.size = 1) (v : Value) (n : Nat) (xs : List Value) (hs : a.eval s = v) (hown : w.ownsRow base e 1 v n xs)
    (ad : Addr) (m c : Nat) (news : List Value) (hx : a.eval x = .slice (some ad) m c) (hnews : ∀ (j : Nat) (u : Value), news[j]? = some u → w.cell? (ad.add j) = some u) (hl : news.length = m) (h1 : ∀ u ∈ news, u.oneCell' = true)
    (h63 : n + m ≤ maxLen) (hbytes : (n + m) * bytes ≤ 140737488355328) (hbase : base ≤ w.heap.size)
    (h : ∀ b c w', w'.ownsRow base e 1 (.slice b (n + m) c) (n + m) (xs ++ news) → w.grownBy w' v.ownBlock → (∀ g cap, v = .slice (some ⟨g, 0, none⟩) n cap → ∀ (j : Nat) (u : Value), xs[j]? = some u → w'.cell? ⟨g, j, none⟩ = some u) →
      S w' ∧ wpAnyH P md l.toArray Q S fuel (listed.setIfInBounds k true) (a.put oi.dst (.slice b (n + m) c)) w') : wpAnyH P md l.toArray Q S (fuel + 1) listed a w := by
  have hw : Region.wanted oi (yielded l.toArray a.tmps) = true := by simp [Region.wanted, hgd]
  refine wpAnyH_ready hr (by simp) (AllReadyH.cons (getL_of_drop hi) (fun K hK => ?_) AllReadyH.nil)
  rw [if_pos hw]
  obtain ⟨v', w', hrun, h2, h3, h4, h5⟩ := run_append_src (P := P) w t oi.type base e i z bytes ht hie hz hsize hby hzs v n xs hown (.slice (some ad) m c) m news (Or.inr ⟨ad, c, rfl, hnews⟩) hl h1 h63 hbytes hbase
  have h6 : ∀ g cap, v = .slice (some ⟨g, 0, none⟩) n cap → ∀ (j : Nat) (u : Value), xs[j]? = some u → w'.cell? ⟨g, j, none⟩ = some u := fun g cap hv => by
    subst hv
    exact append_old w t oi.type base e i z bytes ht hie hz hsize hby hzs g n cap xs hown ad m c news hl hnews h1 h63 hbytes v' w' hrun h2
  obtain ⟨b, c', rfl⟩ : ∃ b c, v' = .slice b (n + m) c := by
    rcases h2.2 with ⟨rfl, h0⟩ | ⟨g, cap, _, rfl, _⟩
    · exact ⟨none, 0, by rw [h0]⟩
    · exact ⟨_, cap, rfl⟩
  obtain ⟨hS, hgo⟩ := h b c' w' h2 h3 h6
  unfold Oper.wp execOp
  simp only [ho, resolve, invoke, builtin, Sem.run_bind, Sem.run_pure, Result.andThen_ok, List.map_toArray, List.map_cons, List.map_nil, hs, hx, hrun]
  exact hK.out _ _ hS (fun _ => hgo)
theorem RowV.kept_of {w wr w2 : World} {base : Nat} {e : TypeId} {v : Value} {xs : List Value} (h : RowV w base e v xs wr) (hg : wr.grownBy w2 v.ownBlock) : Kept [] w w2 :=
  h.1.trans' (Kept.of_row hg) (fun x hx hm => by
    simp at hm
    rcases h.2.2.2.2 with ⟨rfl, _⟩ | ⟨g, _, _, rfl, hb, _⟩
    · simp [Value.ownBlock] at hm
    · simp [Value.ownBlock] at hm; have := h.2.1; omega)

/-- All old blocks, and a row's cells, as they were. -/
def KG (w : World) (g : Nat) (xs : List Value) (v : World) : Prop := Kept [] w v ∧ ∀ (j : Nat) u, xs[j]? = some u → v.cell? ⟨g, j, none⟩ = some u

/-- A slice's cells. -/
def SrcV (w : World) (a : Option Addr) (xs : List Value) : Prop := ∀ (j : Nat) u, xs[j]? = some u → ∃ ad, a = some ad ∧ w.cell? (ad.add j) = some u
theorem SrcV.kept {S : List Nat} {w w' : World} {a : Option Addr} {xs : List Value} (h : SrcV w a xs) (hk : Kept S w w') (hS : ∀ x, a = some x → x.block ∉ S) : SrcV w' a xs := fun j u hj => by
  obtain ⟨ad, rfl, hc⟩ := h j u hj
  exact ⟨ad, rfl, (hk.cell (World.block_lt_of_cell? w _ hc) (by rw [add_block]; exact hS ad rfl)).trans hc⟩

theorem info_u32 : (Tryd.prog.info? 104).map (fun i => (i.zero, i.size, i.bytes)) = some (some (.int .u32 0), 1, 4) := by kernel_rfl
def uL32 (l : List Sha.W) : List Value := l.map U
theorem uL32_one (l : List Sha.W) : ∀ u ∈ uL32 l, u.oneCell' = true := by
  intro u hu; unfold uL32 at hu; simp at hu; obtain ⟨b, _, rfl⟩ := hu; rfl
theorem uL32_len (l : List Sha.W) : (uL32 l).length = l.length := by simp [uL32]
theorem uL32_get (l : List Sha.W) (i : Nat) (h : i < l.length) : (uL32 l)[i]? = some (U (l.getD i 0)) := by simp [uL32, h]

theorem words_next (b : List UInt8) (i : Nat) (h : 16 ≤ i) : Sha.words b (i + 1) = Sha.words b i ++ [Sha.nextW (Sha.words b i)] := by
  rw [Sha.words, if_neg (by omega)]
theorem words_word (b : List UInt8) (i : Nat) (h : i < 16) : Sha.words b (i + 1) = Sha.words b i ++ [Sha.word b i] := by
  rw [Sha.words, if_pos h]
theorem x_spelled (e : Sha.W) : bits .xor .u32 (bits .xor .u32 ((Sha.rotr e 7).toNat : Int) ((Sha.rotr e 18).toNat : Int)) ((e.toNat : Int) / 8) = ((Sha.rotr e 7 ^^^ Sha.rotr e 18 ^^^ (e >>> 3)).toNat : Int) := by
  have h3 := shr_bv e 3
  rw [show (8 : Int) = ((2 ^ 3 : Nat) : Int) from rfl, h3, xor_bv, xor_bv]
theorem y_spelled (e : Sha.W) : bits .xor .u32 (bits .xor .u32 ((Sha.rotr e 17).toNat : Int) ((Sha.rotr e 19).toNat : Int)) ((e.toNat : Int) / 1024) = ((Sha.rotr e 17 ^^^ Sha.rotr e 19 ^^^ (e >>> 10)).toNat : Int) := by
  have h3 := shr_bv e 10
  rw [show (1024 : Int) = ((2 ^ 10 : Nat) : Int) from rfl, h3, xor_bv, xor_bv]
/-- The next word's sum in the order of the document's text. -/
theorem next_sum (l : List Sha.W) : Sha.nextW l = l.getD (l.length - 16) 0 + (Sha.rotr (l.getD (l.length - 15) 0) 7 ^^^ Sha.rotr (l.getD (l.length - 15) 0) 18 ^^^ (l.getD (l.length - 15) 0 >>> 3)) + l.getD (l.length - 7) 0 + (Sha.rotr (l.getD (l.length - 2) 0) 17 ^^^ Sha.rotr (l.getD (l.length - 2) 0) 19 ^^^ (l.getD (l.length - 2) 0 >>> 10)) := by
  unfold Sha.nextW
  simp only
  generalize l.getD (l.length - 16) 0 = a
  generalize l.getD (l.length - 7) 0 = b
  generalize (Sha.rotr (l.getD (l.length - 15) 0) 7 ^^^ Sha.rotr (l.getD (l.length - 15) 0) 18 ^^^ (l.getD (l.length - 15) 0 >>> 3)) = c
  rw [BitVec.add_assoc a b c, BitVec.add_comm b c, ← BitVec.add_assoc]
end Go.Proofs.YtmfjfahlgcdehaaDoor


/- coldstoreref03: first, letter, digit, Less, Text, Parse. -/
namespace Go.Proofs.YtmfjfahlgcdehaaDoor
open Go.RowKit Go.Lib

def kCells : List Value := (List.range 64).map fun i => U (Sha.kAt i)
set_option maxRecDepth 100000 in
theorem kCells_get (i : Nat) (h : i < 64) : kCells[i]? = some (U (Sha.kAt i)) := by simp [kCells, h]
set_option maxRecDepth 100000 in
theorem wpList_run {P : Program} {ops : Array Oper} {rest : List Oper} {o : Oper} {a : Act} {w : World} {Q : Exit → Act → World → Prop} (hg : o.guard = none) (v : Value) (w' : World) (hr : (execOp a.eval o).run P w = .ok (.value v) w')
    (h : wpList P ops Q rest (a.put o.dst v) w') : wpList P ops Q (o :: rest) a w :=
  wpList_plain hg fun _ hK => by
    unfold Oper.wp
    rw [hr]
    exact hK _ _ h
set_option maxRecDepth 100000 in
set_option maxHeartbeats 1000000 in
theorem first_any (w : World) :
    Calls Tryd.prog 58 #[] w fun e w' => ∃ g1 g2, e = .returned (.tuple #[.slice (some ⟨g1, 0, none⟩) 8 8, .slice (some ⟨g2, 0, none⟩) 64 64]) ∧ Kept [] w w' ∧ w.heap.size ≤ g1 ∧ w.heap.size ≤ g2 ∧
      (∀ (j : Nat) u, (stL Sha.first)[j]? = some u → w'.cell? ⟨g1, j, none⟩ = some u) ∧ ∀ i, i < 64 → w'.cell? ⟨g2, i, none⟩ = some (U (Sha.kAt i)) := by
  obtain ⟨c1, hc1⟩ : ∃ c, c = (stL Sha.first).toArray := ⟨_, rfl⟩
  obtain ⟨c2, hc2⟩ : ∃ c, c = kCells.toArray := ⟨_, rfl⟩
  have Hc1 := hid hc1; have Hc2 := hid hc2
  clear hc1 hc2
  go_enter Tryd.func58, Tryd.ntmps58
  go_wp2_with (first
    | (refine wpList_run (w := w) rfl (.slice (some ⟨w.heap.size, 0, none⟩) 8 8) (w.alloc (.cells c1 104)) (by rw [Hc1.out]; kernel_rfl) ?_)
    | (refine wpList_run (w := w.alloc (.cells c1 104)) rfl (.slice (some ⟨(w.alloc (.cells c1 104)).heap.size, 0, none⟩) 64 64) ((w.alloc (.cells c1 104)).alloc (.cells c2 104)) (by rw [Hc2.out]; kernel_rfl) ?_))
  go_ret2
  refine ⟨_, _, rfl, ((Kept.refl [] w).alloc _).alloc _, Nat.le_refl _, by simp, fun j u hj => ?_, fun i hi => ?_⟩
  · rw [cell_of_row _ _ _ _ _ _ (heap_alloc_old (heap_alloc_at rfl)), Hc1.out]; simpa using hj
  · rw [cell_of_row _ _ _ _ _ _ (heap_alloc_at (by simp)), Hc2.out]
    have := kCells_get i hi
    simpa using this

set_option maxRecDepth 100000 in
theorem letter_any (k : Nat) (hk : k < 16) (w : World) :
    Calls Tryd.prog 60 #[.int .u8 (k : Int)] w fun e w' => e = .returned (B (hexd k)) ∧ w = w' := by
  by_cases h : k < 10
  · have e : B (hexd k) = .int .u8 (48 + (k : Int)) := by
      unfold hexd B; rw [if_pos h]; congr 1; simp; omega
    rw [e]
    go_enter Tryd.func60, Tryd.ntmps60
    go_wp2
    go_ret
    exact ⟨rfl, rfl⟩
  · have e : B (hexd k) = .int .u8 (87 + (k : Int)) := by
      unfold hexd B; rw [if_neg h]; congr 1; simp; omega
    rw [e]
    go_enter Tryd.func60, Tryd.ntmps60
    go_wp2
    go_ret
    exact ⟨rfl, rfl⟩

/-- A digit's number, 16 of none. -/
def rdig (c : UInt8) : Nat := if 0 ≤ dig c then (dig c).toNat else 16
set_option maxRecDepth 100000 in
theorem rdig_lt (c : UInt8) : rdig c ≤ 16 := by unfold rdig; have := dig_lt c; split <;> omega
set_option maxRecDepth 100000 in
theorem rdig_ok (c : UInt8) : rdig c ≤ 15 ↔ 0 ≤ dig c := by unfold rdig; have := dig_lt c; split <;> omega
end Go.Proofs.YtmfjfahlgcdehaaDoor


/- coldstoreref03: Less, Text. -/
namespace Go.Proofs.YtmfjfahlgcdehaaDoor
open Go.RowKit Go.Lib

set_option maxRecDepth 100000 in
theorem lessL_split : ∀ (a b : List UInt8) (i : Nat), (∀ j, j < i → a[j]? = b[j]?) → lessL a b = lessL (a.drop i) (b.drop i)
  | _, _, 0, _ => rfl
  | [], [], _ + 1, _ => by simp [lessL]
  | [], y :: b, i + 1, h => by have := h 0 (by omega); simp at this
  | x :: a, [], i + 1, h => by have := h 0 (by omega); simp at this
  | x :: a, y :: b, i + 1, h => by
    have h0 := h 0 (by omega)
    simp at h0
    subst h0
    rw [List.drop_succ_cons, List.drop_succ_cons, ← lessL_split a b i (fun j hj => by simpa using h (j + 1) (by omega))]
    have hx : ¬ x < x := by
      intro hh; exact absurd (UInt8.lt_iff_toNat_lt.1 hh) (by omega)
    show (if x < x then true else if x < x then false else lessL a b) = lessL a b
    simp [hx]
set_option maxRecDepth 100000 in
theorem lessL_at (a b : List UInt8) (i : Nat) (h : ∀ j, j < i → a[j]? = b[j]?) (x y : UInt8) (hx : a[i]? = some x) (hy : b[i]? = some y) (hne : x ≠ y) : lessL a b = decide (x.toNat < y.toNat) := by
  rw [lessL_split a b i h]
  have ha := (List.getElem?_eq_some_iff.1 hx)
  have hb := (List.getElem?_eq_some_iff.1 hy)
  obtain ⟨hal, hae⟩ := ha
  obtain ⟨hbl, hbe⟩ := hb
  rw [List.drop_eq_getElem_cons hal, List.drop_eq_getElem_cons hbl, hae, hbe]
  unfold lessL
  by_cases h1 : x.toNat < y.toNat
  · simp [UInt8.lt_iff_toNat_lt, h1]
  · have h2 : y.toNat < x.toNat := by
      have : x.toNat ≠ y.toNat := fun e => hne (UInt8.toNat_inj.1 e)
      omega
    simp [UInt8.lt_iff_toNat_lt, h1, h2]
set_option maxRecDepth 100000 in
theorem lessL_same (a : List UInt8) : lessL a a = false := by
  rw [lessL_split a a a.length (fun _ _ => rfl)]; simp [lessL]

set_option maxRecDepth 100000 in
set_option maxHeartbeats 1000000 in
theorem refless_any (x y : List UInt8) (hx : x.length = 32) (hy : y.length = 32) (w : World) :
    Calls Tryd.prog 72 #[.agg (x.map B).toArray, .agg (y.map B).toArray] w fun e w' => e = .returned (.bool (lessL x y)) ∧ Kept [] w w' := by
  obtain ⟨X, hX⟩ : ∃ X, X = (x.map B).toArray := ⟨_, rfl⟩
  obtain ⟨Y, hY⟩ : ∃ Y, Y = (y.map B).toArray := ⟨_, rfl⟩
  have HX := hid hX; have HY := hid hY
  have hXs : X.size = 32 := by rw [hX]; simp [hx]
  have hYs : Y.size = 32 := by rw [hY]; simp [hy]
  rw [← hX, ← hY]
  clear hX hY
  go_enter Tryd.func72, Tryd.ntmps72
  go_wp2_with fail
  have h0 : Hid (Kept [] w ((w.alloc (.cells X 26)).alloc (.cells Y 26)) ∧ (∀ j, ((w.alloc (.cells X 26)).alloc (.cells Y 26)).cell? ⟨w.heap.size, j, none⟩ = X[j]?) ∧ ∀ j, ((w.alloc (.cells X 26)).alloc (.cells Y 26)).cell? ⟨w.heap.size + 1, j, none⟩ = Y[j]?) :=
    hid ⟨((Kept.refl _ _).alloc _).alloc _, fun j => cell_of_row _ _ _ _ _ _ (heap_alloc_old (heap_alloc_at rfl)), fun j => cell_of_row _ _ _ _ _ _ (heap_alloc_at (by simp))⟩
  go_loopw [5] (fun j wr => ∃ i : Nat, i ≤ 32 ∧ j = .int .i64 i ∧ Hid (∀ j, j < i → x[j]? = y[j]?) ∧ Hid (Kept [] w wr ∧ (∀ j, wr.cell? ⟨w.heap.size, j, none⟩ = X[j]?) ∧ ∀ j, wr.cell? ⟨w.heap.size + 1, j, none⟩ = Y[j]?)) (fun j _ => 32 - (intOf j).toNat)
  case atStart => exact ⟨0, by omega, rfl, hid (fun j hj => absurd hj (by omega)), h0⟩
  case round =>
    clear h0
    obtain ⟨i, hi, rfl, heq, hr⟩ := hrel
    by_cases hlt : i < 32
    · obtain ⟨p, hp⟩ : ∃ p, x[i]? = some p := ⟨x[i]'(by omega), by simp⟩
      obtain ⟨q, hq⟩ : ∃ q, y[i]? = some q := ⟨y[i]'(by omega), by simp⟩
      have gx : wr.cell? ⟨w.heap.size, i, none⟩ = some (.int .u8 (p.toNat : Int)) := by rw [hr.out.2.1, HX.out]; simp [hp, B]
      have gy : wr.cell? ⟨w.heap.size + 1, i, none⟩ = some (.int .u8 (q.toNat : Int)) := by rw [hr.out.2.2, HY.out]; simp [hq, B]
      have i0' : (0 : Int) ≤ (i : Int) := by omega
      have i32 : (i : Int) < 32 := by omega
      have hrd := hid (show Kept [] w wr.drew ∧ (∀ j, wr.drew.cell? ⟨w.heap.size, j, none⟩ = X[j]?) ∧ ∀ j, wr.drew.cell? ⟨w.heap.size + 1, j, none⟩ = Y[j]? from ⟨hr.out.1.drew, hr.out.2⟩)
      have hkd := hid hr.out.1.drew.drew
      by_cases hpq : p = q
      · have heq' := hid (show ∀ j, j < i + 1 → x[j]? = y[j]? from fun j hj => by
          rcases Nat.lt_or_ge j i with h | h
          · exact heq.out j h
          · rw [show j = i by omega, hp, hq, hpq])
        subst hpq
        clear hp hq hr heq
        go_wp2_with fail
        go_region
        go_wp2_with fail
        exact ⟨⟨i + 1, by omega, by go_num, heq', hrd⟩, by simp [intOf]; omega⟩
      · have hl := hid (lessL_at x y i heq.out p q hp hq hpq)
        have hne : ((p.toNat : Int) == (q.toNat : Int)) = false := by
          have : p.toNat ≠ q.toNat := fun e => hpq (UInt8.toNat_inj.1 e)
          simpa using fun e => this (by omega)
        have hcmp := hid (show decide ((p.toNat : Int) < (q.toNat : Int)) = decide (p.toNat < q.toNat) by simp)
        clear hp hq hr heq hpq
        generalize p.toNat = pn at *
        generalize q.toNat = qn at *
        go_wp2_with fail
        go_region
        go_wp2_with fail
        go_region
        go_wp2
        go_ret
        refine ⟨?_, hkd.out⟩
        rw [hl.out]
        first | rfl | simp
    · obtain rfl : i = 32 := by omega
      have hs : x = y := List.ext_getElem? fun j => by
        rcases Nat.lt_or_ge j 32 with h | h
        · exact heq.out j h
        · rw [List.getElem?_eq_none (by omega), List.getElem?_eq_none (by omega)]
      have hl := hid (show lessL x y = false by rw [hs]; exact lessL_same y)
      have hk := hid hr.out.1
      clear hr hs
      go_wp2
      go_ret
      exact ⟨by rw [hl.out]; rfl, hk.out⟩
end Go.Proofs.YtmfjfahlgcdehaaDoor
