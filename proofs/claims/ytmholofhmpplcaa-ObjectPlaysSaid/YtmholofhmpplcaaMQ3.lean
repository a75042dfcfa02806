import Derived.Test.YtmholofhmpplcaaMQ2
import Derived.BigQuiet
import Derived.Deep.QuietTactic
import Derived.Test.YtmholofhmpplcaaOM

/- Two stores side by side, one of them with a fuse and faults that are none; rows of names and sizes compared. -/
namespace Go.Proofs.Ytmholofhmpplcaa
open Go.RowKit Go.Lib Go.Maps

set_option maxHeartbeats 1000000 in
theorem same_names (av bv : Option Addr) (c d b0 b1 n : Nat) (es : List Ent) (w : World) (hn : n = es.length) (h : w.ownsRow b0 9 1 (.slice av n c) n (es.map nmV)) (h2 : w.ownsRow b1 9 1 (.slice bv n d) n (es.map nmV)) (hm : n ≤ 4096) :
    Calls Try.prog 30 #[.slice av n c, .slice bv n d] w fun e w' => e = .returned (.bool true) ∧ Kept [] w w' := by
  have Hx := hid h; have Hy := hid h2; have HN := hid hn
  clear h h2 hn
  go_enter Try.func30, Try.ntmps30
  go_wp2_with fail
  go_loopw [5] (fun v wr => ∃ i : Nat, i ≤ n ∧ v = .int .i64 i ∧ Hid (Kept [] w wr)) (fun v _ => n - (intOf v).toNat)
  case atStart => exact ⟨0, Nat.zero_le _, rfl, hid (Kept.refl _ _)⟩
  case round =>
    obtain ⟨i, hi, rfl, hkr⟩ := hrel
    by_cases h1 : i < n
    · have hi2 : i < es.length := by have := HN.out; omega
      have hk1 := hkr.out.owns Hx.out (by simp)
      have hk2 := hkr.out.owns Hy.out (by simp)
      obtain ⟨g, rfl⟩ : ∃ g, av = some ⟨g, 0, none⟩ := by
        rcases hk1.2 with ⟨_, h0⟩ | ⟨g, cap, cur, hv, _⟩
        · omega
        · simp at hv; exact ⟨g, hv.1⟩
      obtain ⟨g2, rfl⟩ : ∃ g, bv = some ⟨g, 0, none⟩ := by
        rcases hk2.2 with ⟨_, h0⟩ | ⟨g, cap, cur, hv, _⟩
        · omega
        · simp at hv; exact ⟨g, hv.1⟩
      obtain ⟨s, hs⟩ : ∃ s, s = S es[i].name := ⟨_, rfl⟩
      have hcell : wr.cell? ⟨g, i, none⟩ = some (.string s) := owns_cell hk1 (by simp [hi2, hs])
      have hcell2 : wr.cell? ⟨g2, i, none⟩ = some (.string s) := owns_cell hk2 (by simp [hi2, hs])
      clear hs hk1 hk2 hi2
      have hkd := hid (fun n => hkr.out.drewN n)
      go_wp2_with fail
      go_quiet (fail)
      have hk2 := hid (hkd.out nq)
      generalize wr.drewN nq = W3 at *
      go_wp2_with fail
      exact ⟨⟨i + 1, by omega, by go_num, hk2⟩, by simp [intOf]; omega⟩
    · obtain rfl : i = n := by omega
      go_wp2
      go_ret
      exact ⟨rfl, hkr.out⟩
theorem putErr_fl {fl fl' : List Bool} (h : opE fl = opE fl') (nm : List UInt8) (n m : Nat) (q z : Int) (th : Bool) : putErr fl nm n q z th m = putErr fl' nm n q z th m := by
  have e : putAsk fl nm n q z th m = putAsk fl' nm n q z th m := by
    funext j
    rcases j with _ | _ | _ | _ | _ <;> simp [putAsk, h]
  unfold putErr
  rw [e]
theorem opE_none (k : Nat) : opE (List.replicate k false) = 0 := by
  cases k <;> simp [opE, List.replicate_succ]
theorem drop_none (m i : Nat) : (List.replicate (m - i) false).drop 1 = List.replicate (m - (i + 1)) false := by
  rw [List.drop_replicate, Nat.sub_sub]
def erP (es : List Ent) (nm bs : List UInt8) : Int := putErr [] nm bs.length 5000 ((sizeE es : Int) - (lookB nm es).length + bs.length) (findE nm es).isSome es.length
def erD (es : List Ent) (nm : List UInt8) : Int := gotE [] es nm
theorem SameE.erP {es fs : List Ent} (h : SameE es fs) (nm bs : List UInt8) : erP es nm bs = erP fs nm bs := by
  unfold Go.Proofs.Ytmholofhmpplcaa.erP
  rw [h.size, (h.find nm).1, (h.find nm).2, h.length]
theorem SameE.erD {es fs : List Ent} (h : SameE es fs) (nm : List UInt8) : erD es nm = erD fs nm := by
  unfold Go.Proofs.Ytmholofhmpplcaa.erD gotE
  rw [(h.find nm).1]

/-- Two stores: how many operations each has begun. -/
structure Duo (w0 W : World) (pa pb f i j m : Nat) (esa esb : List Ent) (Ua Ub : List Nat) : Prop where
  a : Ob W Ua pa 58 [] 5000 esa (.pointer none) [] i
  b : Ob W Ub pb 58 [] 5000 esb (.pointer (some ⟨f, 0, none⟩)) (List.replicate (m - j) false) j
  fu : FuV W Ub (.pointer (some ⟨f, 0, none⟩)) (1000 - j)
  kept : Kept [] w0 W
  lowa : ∀ x ∈ Ua, w0.heap.size ≤ x
  lowb : ∀ x ∈ Ub, w0.heap.size ≤ x
  apart : ∀ x ∈ Ua, x ∉ Ub
  fa : f ∉ Ua
  flow : w0.heap.size ≤ f
  sza : sizeE esa ≤ 200 * i
  szb : sizeE esb ≤ 200 * j
theorem Duo.keep {w0 W W' : World} {pa pb f i j m : Nat} {esa esb : List Ent} {Ua Ub : List Nat} (h : Duo w0 W pa pb f i j m esa esb Ua Ub) (hk : Kept [] W W') : Duo w0 W' pa pb f i j m esa esb Ua Ub :=
  ⟨h.a.kept hk (by simp), h.b.kept hk (by simp), h.fu.kept hk (by simp), h.kept.trans hk, h.lowa, h.lowb, h.apart, h.fa, h.flow, h.sza, h.szb⟩
theorem Duo.flt {w0 W : World} {pa pb f i j m : Nat} {esa esb : List Ent} {Ua Ub : List Nat} (h : Duo w0 W pa pb f i j m esa esb Ua Ub) : f < W.heap.size ∧ f ∉ Ub := by
  rcases h.fu with ⟨h1, _⟩ | ⟨g, hg, h2, h3, _⟩
  · simp at h1
  · simp at hg; subst hg; exact ⟨lt_of_block h3, h2⟩
section
variable {w0 W : World} {pa pb f i j m : Nat} {esa esb : List Ent} {Ua Ub : List Nat}
theorem Duo.stepA (h : Duo w0 W pa pb f i j m esa esb Ua Ub) {W' : World} {esa' : List Ent} {Ua' : List Nat} (hk : Kept Ua W W') (hU : ∀ x ∈ Ua', x ∈ Ua ∨ W.heap.size ≤ x) (ho : Ob W' Ua' pa 58 [] 5000 esa' (.pointer none) [] (i + 1)) (hz : sizeE esa' ≤ 200 * (i + 1)) :
    Duo w0 W' pa pb f (i + 1) j m esa' esb Ua' Ub := by
  refine ⟨ho, h.b.kept hk (fun x hx hm => h.apart x hm hx), h.fu.kept hk (fun x hx hm => by simp [fuB] at hx; subst hx; exact h.fa hm), h.kept.trans' hk (fun x hx hm => by have := h.lowa x hm; omega), fun x hx => ?_, h.lowb, fun x hx hm => ?_, fun hm => ?_, h.flow, hz, h.szb⟩
  · rcases hU x hx with h1 | h1
    · exact h.lowa x h1
    · exact Nat.le_trans h.kept.size h1
  · rcases hU x hx with h1 | h1
    · exact h.apart x h1 hm
    · have := h.b.bound x hm; omega
  · rcases hU f hm with h1 | h1
    · exact h.fa h1
    · have := h.flt.1; omega
theorem Duo.stepB (h : Duo w0 W pa pb f i j m esa esb Ua Ub) {W' : World} {esb' : List Ent} {Ub' : List Nat} (hk : Kept (Ub ++ fuB (.pointer (some ⟨f, 0, none⟩))) W W') (hU : ∀ x ∈ Ub', x ∈ Ub ∨ W.heap.size ≤ x) (ho : Ob W' Ub' pb 58 [] 5000 esb' (.pointer (some ⟨f, 0, none⟩)) ((List.replicate (m - j) false).drop 1) (j + 1))
    (hf : FuV W' Ub' (.pointer (some ⟨f, 0, none⟩)) (decL (1000 - j))) (hj : j < 1000) (hz : sizeE esb' ≤ 200 * (j + 1)) : Duo w0 W' pa pb f i (j + 1) m esa esb' Ua Ub' := by
  rw [drop_none] at ho
  have e : decL (1000 - (j : Int)) = 1000 - ((j + 1 : Nat) : Int) := by unfold decL; rw [if_pos (by omega)]; omega
  rw [e] at hf
  refine ⟨h.a.kept hk (fun x hx hm => ?_), ho, hf, h.kept.trans' hk (fun x hx hm => ?_), h.lowa, fun x hx => ?_, fun x hx hm => ?_, h.fa, h.flow, h.sza, hz⟩
  · rcases List.mem_append.1 hm with h1 | h1
    · exact h.apart x hx h1
    · simp [fuB] at h1; subst h1; exact h.fa hx
  · rcases List.mem_append.1 hm with h1 | h1
    · have := h.lowb x h1; omega
    · simp [fuB] at h1; have := h.flow; omega
  · rcases hU x hx with h1 | h1
    · exact h.lowb x h1
    · exact Nat.le_trans h.kept.size h1
  · rcases hU x hm with h1 | h1
    · exact h.apart x hx h1
    · have := h.a.bound x hx; omega
theorem duo_put_a (h : Duo w0 W pa pb f i j m esa esb Ua Ub) (hi : i ≤ 100) (nm bs : List UInt8) (hnm : nm.length ≤ 100) (hbs : bs.length ≤ 200) (a : Option Addr) (c : Nat) (hsrc : ∀ V, Kept [] w0 V → Src V (.slice a bs.length c) bs.length (bs.map B)) :
    Calls Try.prog 15 #[.pointer (some ⟨pa, 0, none⟩), .string (S nm), .slice a bs.length c] W fun e W' => e = .returned (.int .i64 (erP esa nm bs)) ∧ (∃ v' Ua', Duo w0 W' pa pb f (i + 1) j m (if erP esa nm bs = 0 then putE ⟨nm, v', bs⟩ esa else esa) esb Ua' Ub) ∧ Kept Ua W W' := by
  refine (put_plain W Ua pa 58 [] 5000 esa i nm (by omega) h.a (by omega) a c bs bs.length rfl (fun V hk => hsrc V (h.kept.trans' hk (fun x hx hm => by simp at hm; have := h.lowa pa h.a.hp; omega))) (by have := h.sza; omega) _ rfl).mono ?_
  rintro e W' ⟨v', U', h1, h2, h3, h4⟩
  refine ⟨h1, ⟨v', U', h.stepA h2 h3 h4 ?_⟩, h2⟩
  have := h.sza
  split
  · have := size_put_le ⟨nm, v', bs⟩ esa
    simp at this
    omega
  · omega
theorem duo_put_b (h : Duo w0 W pa pb f i j m esa esb Ua Ub) (hj : j ≤ 100) (nm bs : List UInt8) (hnm : nm.length ≤ 100) (hbs : bs.length ≤ 200) (a : Option Addr) (c : Nat) (hsrc : ∀ V, Kept [] w0 V → Src V (.slice a bs.length c) bs.length (bs.map B)) :
    Calls Try.prog 15 #[.pointer (some ⟨pb, 0, none⟩), .string (S nm), .slice a bs.length c] W fun e W' => e = .returned (.int .i64 (erP esb nm bs)) ∧ (∃ v' Ub', Duo w0 W' pa pb f i (j + 1) m esa (if erP esb nm bs = 0 then putE ⟨nm, v', bs⟩ esb else esb) Ua Ub') ∧ Kept (Ub ++ [f]) W W' := by
  refine (ob_put W Ub pb 58 [] 5000 esb (.pointer (some ⟨f, 0, none⟩)) (List.replicate (m - j) false) j (1000 - j) nm (by omega) h.b (by omega) h.fu (by omega) a c bs (fun V hk => hsrc V (h.kept.trans' hk (fun x hx hm => by simp [fuB] at hm; have h1 := h.lowb pb h.b.hp; have h2 := h.flow; rcases hm with hm | hm <;> omega))) (by have := h.szb; omega)).mono ?_
  rintro e W' ⟨v', U', h1, h2, h3, h4, h5⟩
  rw [putErr_fl (fl' := []) (opE_none _)] at h1 h4
  refine ⟨h1, ⟨v', U', h.stepB h2 h3 h4 h5 (by omega) ?_⟩, by simpa [fuB] using h2⟩
  have := h.szb
  split
  · have := size_put_le ⟨nm, v', bs⟩ esb
    simp at this
    omega
  · omega
theorem duo_drop_a (h : Duo w0 W pa pb f i j m esa esb Ua Ub) (hi : i ≤ 100) (nm : List UInt8) (hnm : nm.length ≤ 100) :
    Calls Try.prog 18 #[.pointer (some ⟨pa, 0, none⟩), .string (S nm)] W fun e W' => e = .returned (.int .i64 (erD esa nm)) ∧ Duo w0 W' pa pb f (i + 1) j m (delE nm esa) esb Ua Ub ∧ Kept Ua W W' := by
  refine (ob_drop W Ua pa 58 [] 5000 esa (.pointer none) [] i (-1) nm (by omega) h.a (by omega) (Or.inl ⟨rfl, rfl⟩) (by decide)).mono ?_
  rintro e W' ⟨h1, h2, h3, _⟩
  refine ⟨h1, h.stepA (by simpa [fuB] using h2) (fun x hx => Or.inl hx) h3 ?_, by simpa [fuB] using h2⟩
  have := h.sza
  have := size_del_le nm esa
  show sizeE (delE nm esa) ≤ _
  omega
theorem duo_drop_b (h : Duo w0 W pa pb f i j m esa esb Ua Ub) (hj : j ≤ 100) (nm : List UInt8) (hnm : nm.length ≤ 100) :
    Calls Try.prog 18 #[.pointer (some ⟨pb, 0, none⟩), .string (S nm)] W fun e W' => e = .returned (.int .i64 (erD esb nm)) ∧ Duo w0 W' pa pb f i (j + 1) m esa (delE nm esb) Ua Ub ∧ Kept (Ub ++ [f]) W W' := by
  refine (ob_drop W Ub pb 58 [] 5000 esb (.pointer (some ⟨f, 0, none⟩)) (List.replicate (m - j) false) j (1000 - j) nm (by omega) h.b (by omega) h.fu (by omega)).mono ?_
  rintro e W' ⟨h1, h2, h3, h4⟩
  have e1 : dropE (List.replicate (m - j) false) esb nm = delE nm esb := by unfold dropE; rw [if_pos (opE_none _)]
  have e2 : gotE (List.replicate (m - j) false) esb nm = erD esb nm := by unfold erD gotE; rw [opE_none, if_pos rfl]; rfl
  rw [e1] at h3
  rw [e2] at h1
  refine ⟨h1, h.stepB h2 (fun x hx => Or.inl hx) h3 h4 (by omega) ?_, by simpa [fuB] using h2⟩
  have := h.szb
  have := size_del_le nm esb
  omega
end
theorem len_del_le (nm : List UInt8) (es : List Ent) : (delE nm es).length ≤ es.length := List.length_filter_le _ _
theorem len_ins (x : Ent) (es : List Ent) : (insE x es).length = es.length + 1 := by
  induction es with
  | nil => rfl
  | cons e r ih =>
    unfold insE
    split
    · simp
    · simp [ih]
theorem len_put_le (x : Ent) (es : List Ent) : (putE x es).length ≤ es.length + 1 := by
  unfold putE
  rw [len_ins]
  have := len_del_le x.name es
  omega
theorem i64_and63 (n : Int) : bits .and .i64 n 63 = n % 64 := by
  have h7 : (BitVec.ofInt 64 63).toNat = 2 ^ 6 - 1 := by decide
  have key : (BitVec.ofInt 64 n &&& BitVec.ofInt 64 63).toNat = (n % ((2 ^ 64 : Nat) : Int)).toNat % 2 ^ 6 := by
    rw [BitVec.toNat_and, BitVec.toNat_ofInt, h7, Nat.and_two_pow_sub_one_eq_mod]
  show IntKind.i64.wrap ((BitVec.ofInt 64 n &&& BitVec.ofInt 64 63).toNat : Nat) = n % 64
  rw [key, IntKind.wrap_i64]
  omega
theorem make_bools (n : Nat) (W : World) (hn : n ≤ 1000000) : (Instr.makeSlice 22 (.int .i64 (n : Int)) (.int .i64 (n : Int))).run Try.prog W = .ok (.slice (some ⟨W.heap.size, 0, none⟩) n n) (W.alloc (.cells (madeCells #[.bool false] n) 4)) := by
  obtain ⟨i0, hi0, hz0, hz1, hz2⟩ := info_split info_bool
  have hr := run_make (P := Try.prog) W 22 4 i0 (.bool false) Try.underlying22 hi0 hz0 .i64 .i64 n n (by omega) (by omega) (by rw [hz2]; omega) (by omega)
  simp only [Int.toNat_natCast, hz1, Nat.mul_one] at hr
  exact hr
theorem bools_at (W : World) (n : Nat) (U : List Nat) (hU : ∀ x ∈ U, x < W.heap.size) : BoolAt (W.alloc (.cells (madeCells #[.bool false] n) 4)) U (.slice (some ⟨W.heap.size, 0, none⟩) n n) (List.replicate n false) := by
  refine Or.inr ⟨W.heap.size, 0, n, by simp, fun hm => Nat.lt_irrefl _ (hU _ hm), fun j u hj => ?_⟩
  have hb : (W.alloc (.cells (madeCells #[.bool false] n) 4)).heap[W.heap.size]? = some (.cells (madeCells #[.bool false] n) 4 (0, 0)) := heap_alloc_at rfl
  rw [cell_of_row _ _ _ _ _ _ hb]
  simp at hj
  obtain ⟨⟨h1, h2⟩, rfl⟩ : (j < n ∧ True) ∧ Value.bool false = u := by
    rw [List.getElem?_replicate] at hj
    split at hj
    · exact ⟨⟨by assumption, trivial⟩, by simpa using hj⟩
    · simp at hj
  simp [madeCells, h1, Nat.mod_one]
end Go.Proofs.Ytmholofhmpplcaa


/- ObjectRooms' helpers: Catch told by what is kept; a map of names to texts; the closure. -/
namespace Go.Proofs.Ytmholofhmpplcaa
open Go.RowKit Go.Lib Go.Maps

/-- A closure that returns: the fuse did not blow. -/
theorem catch_ret2 (f : Addr) (k : Nat) (hk : Enters k) (caps : Array Value) (w : World) (S : List Nat) (hS : ∀ b ∈ S, b < w.heap.size) (Q : World → Prop)
    (hQ : ∀ W W', Q W → Kept [w.heap.size + 1] W W' → Q W')
    (h : Calls Try.prog k caps ((w.alloc (.cells #[.pointer (some f)] 30)).alloc (.cells #[.bool false] 4)) fun e w' => e = .returned (.tuple #[]) ∧ Kept S ((w.alloc (.cells #[.pointer (some f)] 30)).alloc (.cells #[.bool false] 4)) w' ∧ Q w') :
    Calls Try.prog 10 #[.pointer (some f), .func (.func k) #[] caps] w fun e w' => e = .returned (.bool false) ∧ Kept S w w' ∧ Q w' := by
  have hmf : ∀ (fn : Fn) (first cap : Array Value) (w : World), (Instr.makeFunc fn first cap).run Try.prog w = .ok (.func fn first cap) w := fun _ _ _ _ => rfl
  have hne := func_neq_nil
  have H : Hid (Calls Try.prog k caps ((w.alloc (.cells #[.pointer (some f)] 30)).alloc (.cells #[.bool false] 4)) fun e w' => e = .returned (.tuple #[]) ∧ Kept S ((w.alloc (.cells #[.pointer (some f)] 30)).alloc (.cells #[.bool false] 4)) w' ∧ Q w') := h
  have HS : Hid (∀ b ∈ S, b < w.heap.size) := hS
  have HQ : Hid (∀ W W', Q W → Kept [w.heap.size + 1] W W' → Q W') := hQ
  clear h hS hQ
  unfold Enters at hk
  go_enter_defers Try.func10, Try.ntmps10
  go_wp2_with fail
  refine H.out.mono ?_
  rintro e w1 ⟨rfl, hkept, hq⟩
  have hb : w1.heap[w.heap.size + 1]? = some (.cells #[.bool false] 4 (0, 0)) :=
    hkept.at (by have := heap_alloc_new' (w.alloc (.cells #[.pointer (some f)] 30)) (.cells #[.bool false] 4); simpa using this) (fun hm => by have := HS.out _ hm; omega)
  have hc := cell_of_one hb
  have hf := free_of_one hb
  have hb' := one_setCell (u := .bool false) hb
  have HK : Hid (Kept S w w1) := ((((Kept.refl S w).alloc _).alloc _).trans hkept)
  clear hb hkept
  go_wp2
  refine leaves_cons (f := 24) (args := #[.pointer (some ⟨w.heap.size, 0, none⟩), .pointer (some ⟨w.heap.size + 1, 0, none⟩)]) (by simp) (by simp [go_sem]) ?_
  refine (catch_idle ⟨w.heap.size, 0, none⟩ ⟨w.heap.size + 1, 0, none⟩ _).mono ?_
  rintro e u' w'' ⟨rfl, rfl, rfl⟩
  simp [Leaves, settle, results, Try.results10, go_sem, cell_of_one hb']
  exact ⟨HK.out.setCell (fun h => absurd h (by simp)) _, HQ.out _ _ hq ((Kept.refl _ w1).setCell (p := ⟨w.heap.size + 1, 0, none⟩) (fun _ => by simp) _)⟩

theorem zero_t (w : World) : (zeroValue 9).run Try.prog w = .ok (.string ByteArray.empty) w := by kernel_rfl
def lookT (nm : List UInt8) (es : List Ent) : Value := match findE nm es with | some e => e.v | none => .string ByteArray.empty
/-- With its text as its value. -/
def texted (e : Ent) : Ent := ⟨e.name, .string (S e.b), e.b⟩
theorem find_texted (nm : List UInt8) (es : List Ent) : findE nm (es.map texted) = (findE nm es).map texted := by
  unfold findE
  induction es with
  | nil => rfl
  | cons e r ih =>
    simp only [List.map_cons, List.find?_cons]
    have : (texted e).name = e.name := rfl
    rw [this]
    split
    · rfl
    · exact ih
theorem del_texted (nm : List UInt8) (es : List Ent) : delE nm (es.map texted) = (delE nm es).map texted := by
  unfold delE
  rw [List.filter_map]
  rfl
theorem ins_texted (x : Ent) (es : List Ent) : insE (texted x) (es.map texted) = (insE x es).map texted := by
  induction es with
  | nil => rfl
  | cons e r ih =>
    simp only [List.map_cons, insE]
    have e1 : (texted e).name = e.name := rfl
    have e2 : (texted x).name = x.name := rfl
    rw [e1, e2]
    split
    · rfl
    · rw [List.map_cons, ih]
theorem put_texted (x : Ent) (es : List Ent) : putE (texted x) (es.map texted) = (putE x es).map texted := by
  unfold putE
  rw [show (texted x).name = x.name from rfl, del_texted, ins_texted]
theorem names_texted (es : List Ent) : (es.map texted).map (·.name) = es.map (·.name) := by rw [List.map_map]; rfl

theorem del_del (nm : List UInt8) (es : List Ent) : delE nm (delE nm es) = delE nm es := by
  unfold delE
  rw [List.filter_filter]
  simp
theorem put_del (x : Ent) (es : List Ent) : putE x (delE x.name es) = putE x es := by unfold putE; rw [del_del]

def putL (er : Int) (x : Ent) (es : List Ent) : List Ent := if er = 0 then putE x es else es
/-- What the closure leaves: the store, the fuse, the error. -/
def Rm (W0 : World) (U : List Nat) (p : Nat) (q : Int) (es' : Value → List Ent) (f : Nat) (fl : List Bool) (k : Nat) (left : Int) (eb : Nat) (er : Int) (W : World) : Prop :=
  ∃ v' U', (∀ x ∈ U', x ∈ U ∨ W0.heap.size ≤ x) ∧ Ob W U' p 58 [] q (es' v') (.pointer (some ⟨f, 0, none⟩)) (fl.drop 1) (k + 1) ∧ FuV W U' (.pointer (some ⟨f, 0, none⟩)) (decL left) ∧ W.heap[eb]? = some (.cells #[.int .i64 er] 27 (0, 0))
end Go.Proofs.Ytmholofhmpplcaa


/- ObjectRooms: a store and a map of its texts, step by step. -/
namespace Go.Proofs.Ytmholofhmpplcaa
open Go.RowKit Go.Lib Go.Maps Go.Sort

structure RS (w W : World) (p bx f b : Nat) (q : Int) (i : Nat) (es : List Ent) (U : List Nat) (fl : List Bool) (k : Nat) (left : Int) : Prop where
  ob : Ob W U p 58 [] q es (.pointer (some ⟨f, 0, none⟩)) fl k
  fu : FuV W U (.pointer (some ⟨f, 0, none⟩)) left
  mp : Mp W [b] (.map (some b)) (es.map texted)
  box : W.heap[bx]? = some (.cells #[.pointer (some ⟨p, 0, none⟩)] 26 (0, 0))
  bU : b ∉ U ∧ b ≠ f
  xU : bx ∉ U ∧ bx ≠ f ∧ bx ≠ b
  kept : Kept [] w W
  low : (∀ x ∈ U, w.heap.size ≤ x) ∧ w.heap.size ≤ f ∧ w.heap.size ≤ b
  sz : (sizeE es : Int) ≤ q
  sm : sizeE es ≤ 200 * i
  kk : k ≤ i
theorem Mp.blt' {w : World} {S : List Nat} {b : Nat} {es : List Ent} (h : Mp w S (.map (some b)) es) : b < w.heap.size := by
  rcases h with ⟨h, _⟩ | ⟨b', hb, h2, h3⟩
  · cases h
  · cases hb; exact h3.lt
theorem RS.keep {w W W' : World} {p bx f b : Nat} {q : Int} {i : Nat} {es : List Ent} {U : List Nat} {fl : List Bool} {k : Nat} {left : Int} (h : RS w W p bx f b q i es U fl k left) (hk : Kept [] W W') : RS w W' p bx f b q i es U fl k left :=
  ⟨h.ob.kept hk (by simp), h.fu.kept hk (by simp), h.mp.kept hk (by simp), hk.at h.box (by simp), h.bU, h.xU, h.kept.trans hk, h.low, h.sz, h.sm, h.kk⟩
theorem RS.more {w W : World} {p bx f b : Nat} {q : Int} {i : Nat} {es : List Ent} {U : List Nat} {fl : List Bool} {k : Nat} {left : Int} (h : RS w W p bx f b q i es U fl k left) : RS w W p bx f b q (i + 1) es U fl k left :=
  ⟨h.ob, h.fu, h.mp, h.box, h.bU, h.xU, h.kept, h.low, h.sz, by have := h.sm; omega, by have := h.kk; omega⟩
theorem RS.flt {w W : World} {p bx f b : Nat} {q : Int} {i : Nat} {es : List Ent} {U : List Nat} {fl : List Bool} {k : Nat} {left : Int} (h : RS w W p bx f b q i es U fl k left) : f < W.heap.size ∧ f ∉ U ∧ -1 ≤ left := by
  rcases h.fu with ⟨h1, _⟩ | ⟨g, hg, h2, h3, h4, _⟩
  · simp at h1
  · simp at hg; subst hg; exact ⟨lt_of_block h3, h2, h4⟩
theorem Rm.kept {W0 W W' : World} {U : List Nat} {p : Nat} {q : Int} {ef : Value → List Ent} {f : Nat} {fl : List Bool} {k : Nat} {left : Int} {eb : Nat} {er : Int} {T : List Nat} (h : Rm W0 U p q ef f fl k left eb er W) (hk : Kept T W W') (hT : ∀ x ∈ T, x ∉ U ∧ x < W0.heap.size ∧ x ≠ f ∧ x ≠ eb) : Rm W0 U p q ef f fl k left eb er W' := by
  obtain ⟨v', U', h1, h2, h3, h4⟩ := h
  refine ⟨v', U', h1, h2.kept hk (fun x hx hm => ?_), h3.kept hk (fun x hx hm => ?_), hk.at h4 (fun hm => (hT _ hm).2.2.2 rfl)⟩
  · have := hT x hm
    rcases h1 x hx with h | h
    · exact this.1 h
    · omega
  · simp [fuB] at hx
    exact (hT x hm).2.2.1 hx
section
variable {w W W' : World} {p bx f b : Nat} {q : Int} {i : Nat} {es : List Ent} {U U' : List Nat} {fl : List Bool} {k : Nat} {left : Int}
/-- The closure has come: the store is another; the map is not yet. -/
theorem RS.mid (h : RS w W p bx f b q i es U fl k left) {eb : Nat} (heb : W.heap.size ≤ eb) {W2 : World} (hW2 : Kept [] W W2) (hk : Kept (eb :: (U ++ [f])) W2 W') :
    Mp W' [b] (.map (some b)) (es.map texted) ∧ W'.heap[bx]? = some (.cells #[.pointer (some ⟨p, 0, none⟩)] 26 (0, 0)) ∧ Kept [] w W' := by
  have hb := h.mp.blt'
  have hx := lt_of_block h.box
  have h1 := h.keep hW2
  refine ⟨h1.mp.kept hk (fun x hx hm => ?_), hk.at h1.box (fun hm => ?_), h1.kept.trans' hk (fun x hx hm => ?_)⟩
  · simp at hx hm
    subst hx
    rcases hm with hm | hm | hm
    · omega
    · exact h.bU.1 hm
    · exact h.bU.2 hm
  · simp at hm
    rcases hm with hm | hm | hm
    · omega
    · exact h.xU.1 hm
    · exact h.xU.2.1 hm
  · simp at hm
    have := h.kept.size
    rcases hm with hm | hm | hm
    · omega
    · have := h.low.1 x hm; omega
    · have := h.low.2.1; omega
/-- The step is done. -/
theorem RS.up (h : RS w W p bx f b q i es U fl k left) {W2 : World} (hz : W.heap.size ≤ W2.heap.size) (hU : ∀ x ∈ U', x ∈ U ∨ W2.heap.size ≤ x) {es' : List Ent} (ho : Ob W' U' p 58 [] q es' (.pointer (some ⟨f, 0, none⟩)) (fl.drop 1) (k + 1)) (hf : FuV W' U' (.pointer (some ⟨f, 0, none⟩)) (decL left))
    (hm : Mp W' [b] (.map (some b)) (es'.map texted)) (hb : W'.heap[bx]? = some (.cells #[.pointer (some ⟨p, 0, none⟩)] 26 (0, 0))) (hk : Kept [] w W') (hs : (sizeE es' : Int) ≤ q) (hs2 : sizeE es' ≤ 200 * (i + 1)) :
    RS w W' p bx f b q (i + 1) es' U' (fl.drop 1) (k + 1) (decL left) := by
  have h1 := h.mp.blt'; have h2 := lt_of_block h.box
  refine ⟨ho, hf, hm, hb, ⟨fun hx => ?_, h.bU.2⟩, ⟨fun hx => ?_, h.xU.2⟩, hk, ⟨fun x hx => ?_, h.low.2⟩, hs, hs2, by have := h.kk; omega⟩
  · rcases hU _ hx with h3 | h3
    · exact h.bU.1 h3
    · omega
  · rcases hU _ hx with h3 | h3
    · exact h.xU.1 h3
    · omega
  · rcases hU _ hx with h3 | h3
    · exact h.low.1 x h3
    · have := h.kept.size; omega
theorem size_put_eq (x : Ent) {es : List Ent} (hr : Rising es) : (sizeE (putE x es) : Int) = (sizeE es : Int) - ((lookB x.name es).length : Int) + (x.b.length : Int) := by
  unfold putE
  rw [size_ins]
  have := (del_size hr x.name).1
  omega
theorem drop_same {fl : List Bool} {es : List Ent} {nm : List UInt8} (h : gotE fl es nm ≠ 0) : dropE fl es nm = es := by
  unfold gotE at h
  unfold dropE
  split
  · rename_i h0
    rw [if_pos h0] at h
    cases hf : findE nm es with
    | none => exact del_none hf
    | some e => rw [hf] at h; simp at h
  · rfl
theorem drop_del {fl : List Bool} {es : List Ent} {nm : List UInt8} (h : gotE fl es nm = 0) : dropE fl es nm = delE nm es := by
  unfold gotE at h
  unfold dropE
  split
  · rfl
  · rename_i h0
    rw [if_neg h0] at h
    exact absurd h h0
theorem drop_size (fl : List Bool) (es : List Ent) (nm : List UInt8) : sizeE (dropE fl es nm) ≤ sizeE es := by
  unfold dropE
  split
  · exact size_del_le nm es
  · exact Nat.le_refl _
end
theorem bytes_back2 (w : World) (a : Option Addr) (c : Nat) (l : List UInt8) (h : Src w (.slice a l.length c) l.length (l.map B)) : (convert 36 9 (.slice a l.length c)).run Try.prog w = .ok (.string (S l)) w := by
  cases l with
  | cons x r => exact bytes_back w a c (x :: r) (by simp) h
  | nil =>
    rcases h with ⟨h1, h2, _⟩ | ⟨ad, c', h1, hc⟩
    · rw [h1]
      rw [run_convert_bytes_string w _ _ 5 none 0 0 Try.underlying36 Try.underlying5 Try.underlying9]
      rfl
    · simp at h1
      obtain ⟨rfl, rfl⟩ := h1
      exact run_convert_bytes_back w _ _ 5 ad c [] Try.underlying36 Try.underlying5 Try.underlying9 (fun j hj => by simp at hj)
end Go.Proofs.Ytmholofhmpplcaa
