/- coldstorelaw02.CodeLefts's closure. -/
import Derived.Test.YtohmmkceffmipabC8
import Derived.WalkSpells
import Derived.Deep.RegionHeld3
import Derived.Deep.RegionLaw
import Derived.Deep.AppendLies
namespace Go.Proofs.Ytohmmkceffmipab
open Go.RowKit Go.Lib

theorem i64_and31 (n : Int) : bits .and .i64 n 31 = n % 32 := by
  have h7 : (BitVec.ofInt 64 31).toNat = 2 ^ 5 - 1 := by decide
  have key : (BitVec.ofInt 64 n &&& BitVec.ofInt 64 31).toNat = (n % ((2 ^ 64 : Nat) : Int)).toNat % 2 ^ 5 := by
    rw [BitVec.toNat_and, BitVec.toNat_ofInt, h7, Nat.and_two_pow_sub_one_eq_mod]
  show IntKind.i64.wrap ((BitVec.ofInt 64 n &&& BitVec.ofInt 64 31).toNat : Nat) = n % 32
  rw [key, IntKind.wrap_i64]
  omega

/-- An append of whatever slice, as one step of a region that draws its order. -/
theorem step_append_src {P : Program} {w : World} {ops : Array Oper} {o : Oper} {a : Act} {K : Act → World → Prop} {Q : Exit → Act → World → Prop} {E : Prop} (hgd : o.guard = none) (s x : Operand) (t : TypeId)
    (ho : o.op = .call { callee := .builtin .append, args := #[s, x], argTypes := #[t, t] }) (base : Nat) (e : TypeId) (i : TypeInfo) (z : Value) (bytes : Nat) (ht : P.underlying t = some (.slice e)) (hi : P.info? e = some i) (hz : i.zero = some z)
    (hsize : i.size = 1) (hby : i.bytes = bytes) (hzs : z.cells.size = 1) (v : Value) (n : Nat) (xs : List Value) (hs : a.eval s = v) (hown : w.ownsRow base e 1 v n xs)
    (sv : Value) (m : Nat) (news : List Value) (hx : a.eval x = sv) (hsrc : Src w sv m news) (hl : news.length = m) (h1 : ∀ u ∈ news, u.oneCell' = true)
    (h63 : n + m ≤ maxLen) (hbytes : (n + m) * bytes ≤ 140737488355328) (hbase : base ≤ w.heap.size)
    (h : ∀ b c w', w'.ownsRow base e 1 (.slice b (n + m) c) (n + m) (xs ++ news) → w.grownBy w' v.ownBlock → (∀ g, (Value.slice b (n + m) c).ownBlock = some g → v.ownBlock = some g ∨ w.heap.size ≤ g) → K (a.put o.dst (.slice b (n + m) c)) w') :
    if Region.wanted o (yielded ops a.tmps) = true then Oper.wp P o a w K Q else E := by
  have hw : Region.wanted o (yielded ops a.tmps) = true := by simp [Region.wanted, hgd]
  rw [if_pos hw]
  obtain ⟨v', w', hr, h2, h3, h4, h5⟩ := run_append_src (P := P) w t o.type base e i z bytes ht hi hz hsize hby hzs v n xs hown sv m news hsrc hl h1 h63 hbytes hbase
  obtain ⟨b, c, rfl⟩ : ∃ b c, v' = .slice b (n + m) c := by
    rcases h2.2 with ⟨rfl, h0⟩ | ⟨g, cap, _, rfl, _⟩
    · exact ⟨none, 0, by rw [h0]⟩
    · exact ⟨_, cap, rfl⟩
  unfold Oper.wp execOp
  simp only [ho, resolve, invoke, builtin, Sem.run_bind, Sem.run_pure, Result.andThen_ok, List.map_toArray, List.map_cons, List.map_nil, hs, hx, hr]
  exact h b c w' h2 h3 h5

/-- Behind the reading: what was got, what is left. -/
def LeftsQ (g0 pg pd pl : Nat) (bs : List UInt8) (n : Int) (rest : List UInt8) (W : World) : Prop :=
  n = 0 ∧ ∃ b c got, got ++ rest = bs ∧ W.heap[pg]? = some (.cells #[.slice b got.length c] 25 (0, 0)) ∧ W.ownsRow g0 5 1 (.slice b got.length c) got.length (got.map B) ∧ W.heap[pd]? = some (.cells #[.bool true] 4 (0, 0)) ∧ W.heap[pl]? = some (.cells #[.int .i64 (rest.length : Nat)] 3 (0, 0))

theorem owns_err {w w' : World} {g0 : Nat} {b : Option Addr} {n c : Nat} {xs : List Value} (h : w.ownsRow g0 5 1 (.slice b n c) n xs) {x : Nat} (hx : ErrAt w x) (hk : Kept [x] w w') : w'.ownsRow g0 5 1 (.slice b n c) n xs := by
  refine hk.owns h (fun g hg hm => ?_)
  simp at hm
  subst hm
  obtain ⟨e, he⟩ := hx
  rcases h.2 with ⟨h1, _⟩ | ⟨g', cap, cur, hv, _, hh, _⟩
  · rw [h1] at hg; simp [Value.ownBlock] at hg
  · rw [hv] at hg
    simp [Value.ownBlock] at hg
    subst hg
    rw [he] at hh
    simp at hh

theorem LeftsQ.err {g0 pg pd pl : Nat} {bs : List UInt8} {n : Int} {rest : List UInt8} {w w' : World} (h : LeftsQ g0 pg pd pl bs n rest w) {x : Nat} (hx : ErrAt w x) (hk : Kept [x] w w') (hg : pg < x) (hd : pd < x) (hl : pl < x) : LeftsQ g0 pg pd pl bs n rest w' := by
  obtain ⟨h1, b, c, got, h2, h3, h4, h5, h6⟩ := h
  exact ⟨h1, b, c, got, h2, hk.at h3 (by simp; omega), owns_err h4 hx hk, hk.at h5 (by simp; omega), hk.at h6 (by simp; omega)⟩

/-- Where the closure stands when i of the sizes are done. -/
def LeftsAt (rb g0 pg pd : Nat) (a : Option Addr) (bs : List UInt8) (w wr : World) : Prop :=
  ∃ b c a1 c1 got rest, got ++ rest = bs ∧ Kept [rb, g0, pg, pd] w wr ∧ wr.heap[pg]? = some (.cells #[.slice b got.length c] 25 (0, 0)) ∧ wr.ownsRow g0 5 1 (.slice b got.length c) got.length (got.map B) ∧
    (∀ x, b = some x → x.block = g0 ∨ w.heap.size ≤ x.block) ∧ Rd wr rb a1 c1 rest ∧ (∀ x, a1 = some x → ∃ y, a = some y ∧ x.block = y.block) ∧ wr.heap[pd]? = some (.cells #[.bool true] 4 (0, 0))

theorem enters_lefts1 : Enters 23 := fun args w => by simp [go_sem]
end Go.Proofs.Ytohmmkceffmipab
