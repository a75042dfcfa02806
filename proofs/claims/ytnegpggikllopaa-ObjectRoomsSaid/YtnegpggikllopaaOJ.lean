
/- Two stores side by side, one of them with a fuse and faults that are none; rows of names and sizes compared. -/
import Derived.Test.YtnegpggikllopaaOI
import Derived.BigQuiet
import Derived.Deep.QuietTactic
namespace Go.Proofs.Ytnegpggikllopaa
open Go.RowKit Go.Lib Go.Maps

set_option maxHeartbeats 1000000 in
theorem same_names (av bv : Option Addr) (c d b0 b1 n : Nat) (es : List Ent) (w : World) (hn : n = es.length) (h : w.ownsRow b0 9 1 (.slice av n c) n (es.map nmV)) (h2 : w.ownsRow b1 9 1 (.slice bv n d) n (es.map nmV)) (hm : n ≤ 4096) :
    Calls Try.prog 27 #[.slice av n c, .slice bv n d] w fun e w' => e = .returned (.bool true) ∧ Kept [] w w' := by
  have Hx := hid h; have Hy := hid h2; have HN := hid hn
  clear h h2 hn
  go_enter Try.func27, Try.ntmps27
  go_wp2_with fail
  go_loopw [5] (fun v wr => ∃ i : Nat, i ≤ n ∧ v = .int .i64 i ∧ Hid (Kept [] w wr)) (fun v _ => n - (intOf v).toNat)
  case atStart => exact ⟨0, Nat.zero_le _, rfl, hid (Kept.refl _ _)⟩
  case round =>
    obtain ⟨i, hi, rfl, hkr⟩ := hrel
    by_cases h1 : i < n
    · have hi2 : i < es.length := by have := HN.out; omega
      have hk1 := hkr.out.owns Hx.out (by simp)
      have hk2 := hkr.out.owns Hy.out (by simp)
      obtain ⟨g, rfl⟩ : ∃ g, av = some ⟨g, 0, none⟩ := by
        rcases hk1.2 with ⟨_, h0⟩ | ⟨g, cap, cur, hv, _⟩
        · omega
        · simp at hv; exact ⟨g, hv.1⟩
      obtain ⟨g2, rfl⟩ : ∃ g, bv = some ⟨g, 0, none⟩ := by
        rcases hk2.2 with ⟨_, h0⟩ | ⟨g, cap, cur, hv, _⟩
        · omega
        · simp at hv; exact ⟨g, hv.1⟩
      obtain ⟨s, hs⟩ : ∃ s, s = S es[i].name := ⟨_, rfl⟩
      have hcell : wr.cell? ⟨g, i, none⟩ = some (.string s) := owns_cell hk1 (by simp [hi2, hs])
      have hcell2 : wr.cell? ⟨g2, i, none⟩ = some (.string s) := owns_cell hk2 (by simp [hi2, hs])
      clear hs hk1 hk2 hi2
      have hkd := hid (fun n => hkr.out.drewN n)
      go_wp2_with fail
      go_quiet (fail)
      have hk2 := hid (hkd.out nq)
      generalize wr.drewN nq = W3 at *
      go_wp2_with fail
      exact ⟨⟨i + 1, by omega, by go_num, hk2⟩, by simp [intOf]; omega⟩
    · obtain rfl : i = n := by omega
      go_wp2
      go_ret
      exact ⟨rfl, hkr.out⟩
set_option maxHeartbeats 1000000 in
theorem same_sizes (av bv : Option Addr) (c d b0 b1 n : Nat) (es : List Ent) (w : World) (hn : n = es.length) (h : w.ownsRow b0 3 1 (.slice av n c) n (es.map szV)) (h2 : w.ownsRow b1 3 1 (.slice bv n d) n (es.map szV)) (hm : n ≤ 4096) :
    Calls Try.prog 28 #[.slice av n c, .slice bv n d] w fun e w' => e = .returned (.bool true) ∧ Kept [] w w' := by
  have Hx := hid h; have Hy := hid h2; have HN := hid hn
  clear h h2 hn
  go_enter Try.func28, Try.ntmps28
  go_wp2_with fail
  go_loopw [5] (fun v wr => ∃ i : Nat, i ≤ n ∧ v = .int .i64 i ∧ Hid (Kept [] w wr)) (fun v _ => n - (intOf v).toNat)
  case atStart => exact ⟨0, Nat.zero_le _, rfl, hid (Kept.refl _ _)⟩
  case round =>
    obtain ⟨i, hi, rfl, hkr⟩ := hrel
    by_cases h1 : i < n
    · have hi2 : i < es.length := by have := HN.out; omega
      have hk1 := hkr.out.owns Hx.out (by simp)
      have hk2 := hkr.out.owns Hy.out (by simp)
      obtain ⟨g, rfl⟩ : ∃ g, av = some ⟨g, 0, none⟩ := by
        rcases hk1.2 with ⟨_, h0⟩ | ⟨g, cap, cur, hv, _⟩
        · omega
        · simp at hv; exact ⟨g, hv.1⟩
      obtain ⟨g2, rfl⟩ : ∃ g, bv = some ⟨g, 0, none⟩ := by
        rcases hk2.2 with ⟨_, h0⟩ | ⟨g, cap, cur, hv, _⟩
        · omega
        · simp at hv; exact ⟨g, hv.1⟩
      obtain ⟨s, hs⟩ : ∃ s : Int, s = (es[i].b.length : Int) := ⟨_, rfl⟩
      have hcell : wr.cell? ⟨g, i, none⟩ = some (.int .i64 s) := owns_cell hk1 (by simp [hi2, hs, szV])
      have hcell2 : wr.cell? ⟨g2, i, none⟩ = some (.int .i64 s) := owns_cell hk2 (by simp [hi2, hs, szV])
      clear hs hk1 hk2 hi2
      have hkd := hid (fun n => hkr.out.drewN n)
      go_wp2_with fail
      go_quiet (fail)
      have hk2 := hid (hkd.out nq)
      generalize wr.drewN nq = W3 at *
      go_wp2_with fail
      exact ⟨⟨i + 1, by omega, by go_num, hk2⟩, by simp [intOf]; omega⟩
    · obtain rfl : i = n := by omega
      go_wp2
      go_ret
      exact ⟨rfl, hkr.out⟩

theorem putErr_fl {fl fl' : List Bool} (h : opE fl = opE fl') (nm : List UInt8) (n m : Nat) (q z : Int) (th : Bool) : putErr fl nm n q z th m = putErr fl' nm n q z th m := by
  have e : putAsk fl nm n q z th m = putAsk fl' nm n q z th m := by
    funext j
    rcases j with _ | _ | _ | _ | _ <;> simp [putAsk, h]
  unfold putErr
  rw [e]
theorem opE_none (k : Nat) : opE (List.replicate k false) = 0 := by
  cases k <;> simp [opE, List.replicate_succ]
theorem drop_none (m i : Nat) : (List.replicate (m - i) false).drop 1 = List.replicate (m - (i + 1)) false := by
  rw [List.drop_replicate, Nat.sub_sub]
def erP (es : List Ent) (nm bs : List UInt8) : Int := putErr [] nm bs.length 5000 ((sizeE es : Int) - (lookB nm es).length + bs.length) (findE nm es).isSome es.length
def erD (es : List Ent) (nm : List UInt8) : Int := gotE [] es nm
theorem SameE.erP {es fs : List Ent} (h : SameE es fs) (nm bs : List UInt8) : erP es nm bs = erP fs nm bs := by
  unfold Go.Proofs.Ytnegpggikllopaa.erP
  rw [h.size, (h.find nm).1, (h.find nm).2, h.length]
theorem SameE.erD {es fs : List Ent} (h : SameE es fs) (nm : List UInt8) : erD es nm = erD fs nm := by
  unfold Go.Proofs.Ytnegpggikllopaa.erD gotE
  rw [(h.find nm).1]

/-- Two stores: how many operations each has begun. -/
structure Duo (w0 W : World) (pa pb f i j m : Nat) (esa esb : List Ent) (Ua Ub : List Nat) : Prop where
  a : Ob W Ua pa 68 [] 5000 esa (.pointer none) [] i
  b : Ob W Ub pb 68 [] 5000 esb (.pointer (some ⟨f, 0, none⟩)) (List.replicate (m - j) false) j
  fu : FuV W Ub (.pointer (some ⟨f, 0, none⟩)) (1000 - j)
  kept : Kept [] w0 W
  lowa : ∀ x ∈ Ua, w0.heap.size ≤ x
  lowb : ∀ x ∈ Ub, w0.heap.size ≤ x
  apart : ∀ x ∈ Ua, x ∉ Ub
  fa : f ∉ Ua
  flow : w0.heap.size ≤ f
  sza : sizeE esa ≤ 200 * i
  szb : sizeE esb ≤ 200 * j
theorem Duo.keep {w0 W W' : World} {pa pb f i j m : Nat} {esa esb : List Ent} {Ua Ub : List Nat} (h : Duo w0 W pa pb f i j m esa esb Ua Ub) (hk : Kept [] W W') : Duo w0 W' pa pb f i j m esa esb Ua Ub :=
  ⟨h.a.kept hk (by simp), h.b.kept hk (by simp), h.fu.kept hk (by simp), h.kept.trans hk, h.lowa, h.lowb, h.apart, h.fa, h.flow, h.sza, h.szb⟩
theorem Duo.flt {w0 W : World} {pa pb f i j m : Nat} {esa esb : List Ent} {Ua Ub : List Nat} (h : Duo w0 W pa pb f i j m esa esb Ua Ub) : f < W.heap.size ∧ f ∉ Ub := by
  rcases h.fu with ⟨h1, _⟩ | ⟨g, hg, h2, h3, _⟩
  · simp at h1
  · simp at hg; subst hg; exact ⟨lt_of_block h3, h2⟩
section
variable {w0 W : World} {pa pb f i j m : Nat} {esa esb : List Ent} {Ua Ub : List Nat}
theorem Duo.stepA (h : Duo w0 W pa pb f i j m esa esb Ua Ub) {W' : World} {esa' : List Ent} {Ua' : List Nat} (hk : Kept Ua W W') (hU : ∀ x ∈ Ua', x ∈ Ua ∨ W.heap.size ≤ x) (ho : Ob W' Ua' pa 68 [] 5000 esa' (.pointer none) [] (i + 1)) (hz : sizeE esa' ≤ 200 * (i + 1)) :
    Duo w0 W' pa pb f (i + 1) j m esa' esb Ua' Ub := by
  refine ⟨ho, h.b.kept hk (fun x hx hm => h.apart x hm hx), h.fu.kept hk (fun x hx hm => by simp [fuB] at hx; subst hx; exact h.fa hm), h.kept.trans' hk (fun x hx hm => by have := h.lowa x hm; omega), fun x hx => ?_, h.lowb, fun x hx hm => ?_, fun hm => ?_, h.flow, hz, h.szb⟩
  · rcases hU x hx with h1 | h1
    · exact h.lowa x h1
    · exact Nat.le_trans h.kept.size h1
  · rcases hU x hx with h1 | h1
    · exact h.apart x h1 hm
    · have := h.b.bound x hm; omega
  · rcases hU f hm with h1 | h1
    · exact h.fa h1
    · have := h.flt.1; omega
theorem Duo.stepB (h : Duo w0 W pa pb f i j m esa esb Ua Ub) {W' : World} {esb' : List Ent} {Ub' : List Nat} (hk : Kept (Ub ++ fuB (.pointer (some ⟨f, 0, none⟩))) W W') (hU : ∀ x ∈ Ub', x ∈ Ub ∨ W.heap.size ≤ x) (ho : Ob W' Ub' pb 68 [] 5000 esb' (.pointer (some ⟨f, 0, none⟩)) ((List.replicate (m - j) false).drop 1) (j + 1))
    (hf : FuV W' Ub' (.pointer (some ⟨f, 0, none⟩)) (decL (1000 - j))) (hj : j < 1000) (hz : sizeE esb' ≤ 200 * (j + 1)) : Duo w0 W' pa pb f i (j + 1) m esa esb' Ua Ub' := by
  rw [drop_none] at ho
  have e : decL (1000 - (j : Int)) = 1000 - ((j + 1 : Nat) : Int) := by unfold decL; rw [if_pos (by omega)]; omega
  rw [e] at hf
  refine ⟨h.a.kept hk (fun x hx hm => ?_), ho, hf, h.kept.trans' hk (fun x hx hm => ?_), h.lowa, fun x hx => ?_, fun x hx hm => ?_, h.fa, h.flow, h.sza, hz⟩
  · rcases List.mem_append.1 hm with h1 | h1
    · exact h.apart x hx h1
    · simp [fuB] at h1; subst h1; exact h.fa hx
  · rcases List.mem_append.1 hm with h1 | h1
    · have := h.lowb x h1; omega
    · simp [fuB] at h1; have := h.flow; omega
  · rcases hU x hx with h1 | h1
    · exact h.lowb x h1
    · exact Nat.le_trans h.kept.size h1
  · rcases hU x hm with h1 | h1
    · exact h.apart x hx h1
    · have := h.a.bound x hx; omega
theorem duo_put_a (h : Duo w0 W pa pb f i j m esa esb Ua Ub) (hi : i ≤ 100) (nm bs : List UInt8) (hnm : nm.length ≤ 100) (hbs : bs.length ≤ 200) (a : Option Addr) (c : Nat) (hsrc : ∀ V, Kept [] w0 V → Src V (.slice a bs.length c) bs.length (bs.map B)) :
    Calls Try.prog 21 #[.pointer (some ⟨pa, 0, none⟩), .string (S nm), .slice a bs.length c] W fun e W' => e = .returned (.int .i64 (erP esa nm bs)) ∧ (∃ v' Ua', Duo w0 W' pa pb f (i + 1) j m (if erP esa nm bs = 0 then putE ⟨nm, v', bs⟩ esa else esa) esb Ua' Ub) ∧ Kept Ua W W' := by
  refine (put_plain W Ua pa 68 [] 5000 esa i nm (by omega) h.a (by omega) a c bs bs.length rfl (fun V hk => hsrc V (h.kept.trans' hk (fun x hx hm => by simp at hm; have := h.lowa pa h.a.hp; omega))) (by have := h.sza; omega) _ rfl).mono ?_
  rintro e W' ⟨v', U', h1, h2, h3, h4⟩
  refine ⟨h1, ⟨v', U', h.stepA h2 h3 h4 ?_⟩, h2⟩
  have := h.sza
  split
  · have := size_put_le ⟨nm, v', bs⟩ esa
    simp at this
    omega
  · omega
theorem duo_put_b (h : Duo w0 W pa pb f i j m esa esb Ua Ub) (hj : j ≤ 100) (nm bs : List UInt8) (hnm : nm.length ≤ 100) (hbs : bs.length ≤ 200) (a : Option Addr) (c : Nat) (hsrc : ∀ V, Kept [] w0 V → Src V (.slice a bs.length c) bs.length (bs.map B)) :
    Calls Try.prog 21 #[.pointer (some ⟨pb, 0, none⟩), .string (S nm), .slice a bs.length c] W fun e W' => e = .returned (.int .i64 (erP esb nm bs)) ∧ (∃ v' Ub', Duo w0 W' pa pb f i (j + 1) m esa (if erP esb nm bs = 0 then putE ⟨nm, v', bs⟩ esb else esb) Ua Ub') ∧ Kept (Ub ++ [f]) W W' := by
  refine (ob_put W Ub pb 68 [] 5000 esb (.pointer (some ⟨f, 0, none⟩)) (List.replicate (m - j) false) j (1000 - j) nm (by omega) h.b (by omega) h.fu (by omega) a c bs (fun V hk => hsrc V (h.kept.trans' hk (fun x hx hm => by simp [fuB] at hm; have h1 := h.lowb pb h.b.hp; have h2 := h.flow; rcases hm with hm | hm <;> omega))) (by have := h.szb; omega)).mono ?_
  rintro e W' ⟨v', U', h1, h2, h3, h4, h5⟩
  rw [putErr_fl (fl' := []) (opE_none _)] at h1 h4
  refine ⟨h1, ⟨v', U', h.stepB h2 h3 h4 h5 (by omega) ?_⟩, by simpa [fuB] using h2⟩
  have := h.szb
  split
  · have := size_put_le ⟨nm, v', bs⟩ esb
    simp at this
    omega
  · omega
theorem duo_drop_a (h : Duo w0 W pa pb f i j m esa esb Ua Ub) (hi : i ≤ 100) (nm : List UInt8) (hnm : nm.length ≤ 100) :
    Calls Try.prog 20 #[.pointer (some ⟨pa, 0, none⟩), .string (S nm)] W fun e W' => e = .returned (.int .i64 (erD esa nm)) ∧ Duo w0 W' pa pb f (i + 1) j m (delE nm esa) esb Ua Ub ∧ Kept Ua W W' := by
  refine (ob_drop W Ua pa 68 [] 5000 esa (.pointer none) [] i (-1) nm (by omega) h.a (by omega) (Or.inl ⟨rfl, rfl⟩) (by decide)).mono ?_
  rintro e W' ⟨h1, h2, h3, _⟩
  refine ⟨h1, h.stepA (by simpa [fuB] using h2) (fun x hx => Or.inl hx) h3 ?_, by simpa [fuB] using h2⟩
  have := h.sza
  have := size_del_le nm esa
  show sizeE (delE nm esa) ≤ _
  omega
theorem duo_drop_b (h : Duo w0 W pa pb f i j m esa esb Ua Ub) (hj : j ≤ 100) (nm : List UInt8) (hnm : nm.length ≤ 100) :
    Calls Try.prog 20 #[.pointer (some ⟨pb, 0, none⟩), .string (S nm)] W fun e W' => e = .returned (.int .i64 (erD esb nm)) ∧ Duo w0 W' pa pb f i (j + 1) m esa (delE nm esb) Ua Ub ∧ Kept (Ub ++ [f]) W W' := by
  refine (ob_drop W Ub pb 68 [] 5000 esb (.pointer (some ⟨f, 0, none⟩)) (List.replicate (m - j) false) j (1000 - j) nm (by omega) h.b (by omega) h.fu (by omega)).mono ?_
  rintro e W' ⟨h1, h2, h3, h4⟩
  have e1 : dropE (List.replicate (m - j) false) esb nm = delE nm esb := by unfold dropE; rw [if_pos (opE_none _)]
  have e2 : gotE (List.replicate (m - j) false) esb nm = erD esb nm := by unfold erD gotE; rw [opE_none, if_pos rfl]; rfl
  rw [e1] at h3
  rw [e2] at h1
  refine ⟨h1, h.stepB h2 (fun x hx => Or.inl hx) h3 h4 (by omega) ?_, by simpa [fuB] using h2⟩
  have := h.szb
  have := size_del_le nm esb
  omega
end
theorem len_del_le (nm : List UInt8) (es : List Ent) : (delE nm es).length ≤ es.length := List.length_filter_le _ _
theorem len_ins (x : Ent) (es : List Ent) : (insE x es).length = es.length + 1 := by
  induction es with
  | nil => rfl
  | cons e r ih =>
    unfold insE
    split
    · simp
    · simp [ih]
theorem len_put_le (x : Ent) (es : List Ent) : (putE x es).length ≤ es.length + 1 := by
  unfold putE
  rw [len_ins]
  have := len_del_le x.name es
  omega
theorem i64_and63 (n : Int) : bits .and .i64 n 63 = n % 64 := by
  have h7 : (BitVec.ofInt 64 63).toNat = 2 ^ 6 - 1 := by decide
  have key : (BitVec.ofInt 64 n &&& BitVec.ofInt 64 63).toNat = (n % ((2 ^ 64 : Nat) : Int)).toNat % 2 ^ 6 := by
    rw [BitVec.toNat_and, BitVec.toNat_ofInt, h7, Nat.and_two_pow_sub_one_eq_mod]
  show IntKind.i64.wrap ((BitVec.ofInt 64 n &&& BitVec.ofInt 64 63).toNat : Nat) = n % 64
  rw [key, IntKind.wrap_i64]
  omega
theorem make_bools (n : Nat) (W : World) (hn : n ≤ 1000000) : (Instr.makeSlice 22 (.int .i64 (n : Int)) (.int .i64 (n : Int))).run Try.prog W = .ok (.slice (some ⟨W.heap.size, 0, none⟩) n n) (W.alloc (.cells (madeCells #[.bool false] n) 4)) := by
  obtain ⟨i0, hi0, hz0, hz1, hz2⟩ := info_split info_bool
  have hr := run_make (P := Try.prog) W 22 4 i0 (.bool false) Try.underlying22 hi0 hz0 .i64 .i64 n n (by omega) (by omega) (by rw [hz2]; omega) (by omega)
  simp only [Int.toNat_natCast, hz1, Nat.mul_one] at hr
  exact hr
theorem bools_at (W : World) (n : Nat) (U : List Nat) (hU : ∀ x ∈ U, x < W.heap.size) : BoolAt (W.alloc (.cells (madeCells #[.bool false] n) 4)) U (.slice (some ⟨W.heap.size, 0, none⟩) n n) (List.replicate n false) := by
  refine Or.inr ⟨W.heap.size, 0, n, by simp, fun hm => Nat.lt_irrefl _ (hU _ hm), fun j u hj => ?_⟩
  have hb : (W.alloc (.cells (madeCells #[.bool false] n) 4)).heap[W.heap.size]? = some (.cells (madeCells #[.bool false] n) 4 (0, 0)) := heap_alloc_at rfl
  rw [cell_of_row _ _ _ _ _ _ hb]
  simp at hj
  obtain ⟨⟨h1, h2⟩, rfl⟩ : (j < n ∧ True) ∧ Value.bool false = u := by
    rw [List.getElem?_replicate] at hj
    split at hj
    · exact ⟨⟨by assumption, trivial⟩, by simpa using hj⟩
    · simp at hj
  simp [madeCells, h1, Nat.mod_one]
end Go.Proofs.Ytnegpggikllopaa
