
/- object: what Put asks ahead. -/
import Derived.Test.YtnkolgamnakegaaO7
namespace Go.Proofs.Ytnkolgamnakegaa
open Go.RowKit Go.Lib Go.Maps

theorem put_1 (b : Nat) (nm : List UInt8) (hnm : nm.length ≤ 1000000000) (w : World) (hb : w.heap[b]? = some (.cells #[.string (S nm)] 9 (0, 0))) :
    Calls Try.prog 59 #[.pointer (some ⟨b, 0, none⟩)] w fun e w' => e = .returned (.int .i64 (if (!okName nm) then 37 else 0)) ∧ Kept [] w w' := by
  have hc := cell_of_one hb
  have h1 := hid (isname_any nm hnm w)
  have h2 := hid (when_any (!okName nm) 37 w)
  generalize okName nm = o at *
  generalize (if (!o) then (37 : Int) else 0) = er at *
  clear hb
  go_enter Try.func59, Try.ntmps59
  go_wp2_with fail
  refine h1.out.mono ?_
  rintro e w1 ⟨rfl, rfl⟩
  go_wp2_with fail
  refine h2.out.mono ?_
  rintro e w1 ⟨rfl, rfl⟩
  go_wp2
  go_ret
  exact ⟨rfl, Kept.refl _ _⟩
theorem put_2 (b : Nat) (a : Option Addr) (n c : Nat) (w : World) (hb : w.heap[b]? = some (.cells #[.slice a n c] 36 (0, 0))) :
    Calls Try.prog 62 #[.pointer (some ⟨b, 0, none⟩)] w fun e w' => e = .returned (.int .i64 (if decide ((1048576 : Int) < (n : Int)) then 2 else 0)) ∧ Kept [] w w' := by
  have hc := cell_of_one hb
  have h2 := hid (fun o => when_any o 2 w)
  clear hb
  cases hd : decide ((1048576 : Int) < (n : Int))
  · have hd2 : ¬ (1048576 : Int) < (n : Int) := of_decide_eq_false hd
    clear hd
    go_enter Try.func62, Try.ntmps62
    go_wp2_with fail
    refine (h2.out _).mono ?_
    rintro e w1 ⟨rfl, rfl⟩
    go_wp2
    go_ret
    exact ⟨rfl, Kept.refl _ _⟩
  · have hd2 : (1048576 : Int) < (n : Int) := of_decide_eq_true hd
    clear hd
    go_enter Try.func62, Try.ntmps62
    go_wp2_with fail
    refine (h2.out _).mono ?_
    rintro e w1 ⟨rfl, rfl⟩
    go_wp2
    go_ret
    exact ⟨rfl, Kept.refl _ _⟩
theorem put_3 (b d p T : Nat) (z q : Int) (cs : Array Value) (hq : cs[0]? = some (.int .i64 q)) (w : World) (hb : w.heap[b]? = some (.cells #[.int .i64 z] 3 (0, 0))) (hd : w.heap[d]? = some (.cells #[.pointer (some ⟨p, 0, none⟩)] 26 (0, 0))) (hp : w.heap[p]? = some (.cells cs T (0, 0))) :
    Calls Try.prog 63 #[.pointer (some ⟨b, 0, none⟩), .pointer (some ⟨d, 0, none⟩)] w fun e w' => e = .returned (.int .i64 (if decide (q < z) then 31 else 0)) ∧ Kept [] w w' := by
  have hc := cell_of_one hb
  have hcd := cell_of_one hd
  have hcp : w.cell? ⟨p, 0, none⟩ = some (.int .i64 q) := (cell_of_row _ _ _ _ _ _ hp).trans hq
  clear hb hd hp hq
  have c0 := hid (fun (v : World) (hv : Kept [] w v) => (hv.cell (World.block_lt_of_cell? _ _ hc) (by simp)).trans hc)
  have c1 := hid (fun (v : World) (hv : Kept [] w v) => (hv.cell (World.block_lt_of_cell? _ _ hcd) (by simp)).trans hcd)
  have c2 := hid (fun (v : World) (hv : Kept [] w v) => (hv.cell (World.block_lt_of_cell? _ _ hcp) (by simp)).trans hcp)
  have h2 := hid (fun W => when_any (decide (q < z)) 31 W)
  obtain ⟨t, ht⟩ : ∃ t, t = decide (q < z) := ⟨_, rfl⟩
  rw [← ht] at h2 ⊢
  have HT := hid ht
  obtain ⟨er, her⟩ : ∃ er, er = (if t then (31 : Int) else 0) := ⟨_, rfl⟩
  rw [← her] at h2 ⊢
  clear hc hcd hcp ht her
  go_enter Try.func63, Try.ntmps63
  go_wp2_with fail
  refine wp_region_held_drew (S := Kept [] w) (by kernel_rfl) (Kept.refl _ w).drew (fun hH => ?_)
  refine takeH 0 (.int .i64 z) rfl (by kernel_rfl) (by kernel_rfl) (by kernel_rfl) (fun _ _ _ h => h) (by rfl) (fun v hv => by have h := c0.out v hv; go_simp) hH ?_
  simp only [Act.put, List.setIfInBounds_toArray, List.set_cons_succ, List.set_cons_zero]
  refine takeH 1 (.pointer (some ⟨p, 0, none⟩)) rfl (by kernel_rfl) (by kernel_rfl) (by kernel_rfl) (fun _ _ _ h => h) (by rfl) (fun v hv => by have h := c1.out v hv; go_simp) hH ?_
  simp only [Act.put, List.setIfInBounds_toArray, List.set_cons_succ, List.set_cons_zero]
  refine takeH 2 (.pointer (some ⟨p, 0, none⟩)) rfl (by kernel_rfl) (by kernel_rfl) (by kernel_rfl) (fun _ _ _ h => h) (by rfl) (fun v hv => by go_simp) hH ?_
  simp only [Act.put, List.setIfInBounds_toArray, List.set_cons_succ, List.set_cons_zero]
  refine takeH 3 (.pointer (some ⟨p, 0, none⟩)) rfl (by kernel_rfl) (by kernel_rfl) (by kernel_rfl) (fun _ _ _ h => h) (by rfl) (fun v hv => by go_simp) hH ?_
  simp only [Act.put, List.setIfInBounds_toArray, List.set_cons_succ, List.set_cons_zero]
  refine takeH 4 (.int .i64 q) rfl (by kernel_rfl) (by kernel_rfl) (by kernel_rfl) (fun _ _ _ h => h) (by rfl) (fun v hv => by have h := c2.out v hv; go_simp) hH ?_
  simp only [Act.put, List.setIfInBounds_toArray, List.set_cons_succ, List.set_cons_zero]
  refine takeH 5 (.bool t) rfl (by kernel_rfl) (by kernel_rfl) (by kernel_rfl) (fun _ _ _ h => h) (by rfl) (fun v hv => by have h := HT.out; unfold execOp; simp [Act.eval, h, go_sem]) hH ?_
  simp only [Act.put, List.setIfInBounds_toArray, List.set_cons_succ, List.set_cons_zero]
  refine callR 6 rfl (by kernel_rfl) (by rfl) 60 #[.bool t, .int .i64 31] (by go_simp) (.int .i64 er) (fun v => Kept [] w v) (fun _ h => h) ((h2.out _).mono fun e w' h => ⟨h.1, h.2 ▸ hH⟩) ?_
  intro wB hB
  simp only [Act.put, List.setIfInBounds_toArray, List.set_cons_succ, List.set_cons_zero]
  refine takeH 7 (.int .i64 er) rfl (by kernel_rfl) (by kernel_rfl) (by kernel_rfl) (fun _ _ _ h => h) (by rfl) (fun v hv => by go_simp) hB ?_
  simp only [Act.put, List.setIfInBounds_toArray, List.set_cons_succ, List.set_cons_zero]
  refine wpAnyH_done (by kernel_rfl) ?_ _
  go_wp2
  go_ret
  exact ⟨rfl, hB⟩
theorem put_4 (b d : Nat) (th : Bool) (w : World) (U : List Nat) (p T : Nat) (more : List Value) (q : Int) (es : List Ent) (fv : Value) (fl : List Bool) (k : Nat) (h : Ob w U p T more q es fv fl k) (hb : w.heap[b]? = some (.cells #[.bool th] 4 (0, 0))) (hd : w.heap[d]? = some (.cells #[.pointer (some ⟨p, 0, none⟩)] 26 (0, 0))) :
    Calls Try.prog 64 #[.pointer (some ⟨b, 0, none⟩), .pointer (some ⟨d, 0, none⟩)] w fun e w' => e = .returned (.int .i64 (if (!th && decide (es.length = 4096)) then 3 else 0)) ∧ Kept [] w w' := by
  have hc := cell_of_one hb
  have hcd := cell_of_one hd
  have hlen := hid (ob_len w U p T more q es fv fl k h)
  obtain ⟨n, hn⟩ : ∃ n, n = es.length := ⟨_, rfl⟩
  rw [← hn] at hlen ⊢
  clear hb hd h hn
  cases th
  · by_cases h4 : n = 4096
    · have h2 := hid (when_any true 3 w)
      rw [decide_eq_true h4]
      have h5 : ((n : Int) == 4096) = true := by simp; omega
      clear h4
      go_enter Try.func64, Try.ntmps64
      go_wp2_with fail
      refine hlen.out.mono ?_
      rintro e w1 ⟨rfl, rfl⟩
      go_wp2_with fail
      refine h2.out.mono ?_
      rintro e w1 ⟨rfl, rfl⟩
      go_wp2
      go_ret
      exact ⟨rfl, Kept.refl _ _⟩
    · have h2 := hid (when_any false 3 w)
      rw [decide_eq_false h4]
      have h5 : ((n : Int) == 4096) = false := by simp; omega
      clear h4
      go_enter Try.func64, Try.ntmps64
      go_wp2_with fail
      refine hlen.out.mono ?_
      rintro e w1 ⟨rfl, rfl⟩
      go_wp2_with fail
      refine h2.out.mono ?_
      rintro e w1 ⟨rfl, rfl⟩
      go_wp2
      go_ret
      exact ⟨rfl, Kept.refl _ _⟩
  · have h2 := hid (when_any false 3 w)
    go_enter Try.func64, Try.ntmps64
    go_wp2_with fail
    refine h2.out.mono ?_
    rintro e w1 ⟨rfl, rfl⟩
    go_wp2
    go_ret
    exact ⟨rfl, Kept.refl _ _⟩

/-- What Put asks ahead, in its order. -/
def putAsk (fl : List Bool) (nm : List UInt8) (n : Nat) (q z : Int) (th : Bool) (m : Nat) : Nat → Int
  | 0 => opE fl
  | 1 => if (!okName nm) then 37 else 0
  | 2 => if decide ((1048576 : Int) < (n : Int)) then 2 else 0
  | 3 => if decide (q < z) then 31 else 0
  | _ => if (!th && decide (m = 4096)) then 3 else 0
def putErr (fl : List Bool) (nm : List UInt8) (n : Nat) (q z : Int) (th : Bool) (m : Nat) : Int := (firstFrom (putAsk fl nm n q z th m) 5 0).2
/-- The boxes of what Put's closures have. -/
structure Caps (w : World) (d b4 b5 b8 b9 p : Nat) (nm : List UInt8) (bv : Value) (th : Bool) (z : Int) : Prop where
  hd : w.heap[d]? = some (.cells #[.pointer (some ⟨p, 0, none⟩)] 26 (0, 0))
  h4 : w.heap[b4]? = some (.cells #[.string (S nm)] 9 (0, 0))
  h5 : w.heap[b5]? = some (.cells #[bv] 36 (0, 0))
  h8 : w.heap[b8]? = some (.cells #[.bool th] 4 (0, 0))
  h9 : w.heap[b9]? = some (.cells #[.int .i64 z] 3 (0, 0))
theorem Caps.kept {w w' : World} {V : List Nat} {d b4 b5 b8 b9 p : Nat} {nm : List UInt8} {bv : Value} {th : Bool} {z : Int} (h : Caps w d b4 b5 b8 b9 p nm bv th z) (hk : Kept V w w') (hd : d ∉ V ∧ b4 ∉ V ∧ b5 ∉ V ∧ b8 ∉ V ∧ b9 ∉ V) : Caps w' d b4 b5 b8 b9 p nm bv th z :=
  ⟨hk.at h.hd hd.1, hk.at h.h4 hd.2.1, hk.at h.h5 hd.2.2.1, hk.at h.h8 hd.2.2.2.1, hk.at h.h9 hd.2.2.2.2⟩
theorem firstFrom_begun (E : Nat → Int) (n : Nat) (h : 0 < n) : 0 < begun E n := by unfold begun; omega
set_option maxHeartbeats 1000000 in
theorem put_all (w : World) (U : List Nat) (p T : Nat) (more : List Value) (q : Int) (es : List Ent) (fv : Value) (fl : List Bool) (k : Nat) (left : Int) (h : Ob w U p T more q es fv fl k) (hk : k ≤ 1099511627776) (hf : FuV w U fv left) (h0 : left ≠ 0)
    (g d b4 b5 b8 b9 : Nat) (nm : List UInt8) (hnm : nm.length ≤ 1000000000) (a : Option Addr) (n c : Nat) (th : Bool) (z : Int) (hc : Caps w d b4 b5 b8 b9 p nm (.slice a n c) th z) (hcU : ∀ x ∈ [d, b4, b5, b8, b9], x ∉ p :: fuB fv)
    (hg : w.heap[g]? = some (.cells #[.func (.func 58) #[.pointer (some ⟨p, 0, none⟩)] #[], .func (.func 59) #[] #[.pointer (some ⟨b4, 0, none⟩)], .func (.func 62) #[] #[.pointer (some ⟨b5, 0, none⟩)], .func (.func 63) #[] #[.pointer (some ⟨b9, 0, none⟩), .pointer (some ⟨d, 0, none⟩)], .func (.func 64) #[] #[.pointer (some ⟨b8, 0, none⟩), .pointer (some ⟨d, 0, none⟩)]] 120 (0, 0))) (hgU : g ∉ p :: fuB fv) :
    Calls Try.prog 57 #[.slice (some ⟨g, 0, none⟩) 5 5] w fun e w' => ∃ i, e = .returned (.tuple #[.int .i64 i, .int .i64 (putErr fl nm n q z th es.length)]) ∧ Kept (p :: fuB fv) w w' ∧ Ob w' U p T more q es fv (fl.drop 1) (k + 1) ∧ FuV w' U fv (decL left) := by
  have hfuU : ∀ x ∈ fuB fv, x < w.heap.size ∧ x ∉ U := fun x hx => by
    rcases hf with ⟨rfl, _⟩ | ⟨f, rfl, h2, h3, _⟩
    · simp [fuB] at hx
    · simp [fuB] at hx; subst hx; exact ⟨lt_of_block h3, h2⟩
  have hcS : d ∉ p :: fuB fv ∧ b4 ∉ p :: fuB fv ∧ b5 ∉ p :: fuB fv ∧ b8 ∉ p :: fuB fv ∧ b9 ∉ p :: fuB fv := ⟨hcU d (by simp), hcU b4 (by simp), hcU b5 (by simp), hcU b8 (by simp), hcU b9 (by simp)⟩
  let St : Nat → World → Prop := fun i W => w.heap.size ≤ W.heap.size ∧ Caps W d b4 b5 b8 b9 p nm (.slice a n c) th z ∧ (if i = 0 then Ob W U p T more q es fv fl k ∧ FuV W U fv left else Ob W U p T more q es fv (fl.drop 1) (k + 1) ∧ FuV W U fv (decL left))
  have hStk : ∀ i W W', St i W → Kept [] W W' → St i W' := fun i W W' hs hkk => by
    obtain ⟨h1, h2, h3⟩ := hs
    refine ⟨Nat.le_trans h1 hkk.size, h2.kept hkk (by simp), ?_⟩
    by_cases hi : i = 0
    · rw [if_pos hi] at h3 ⊢; exact ⟨h3.1.kept hkk (by simp), h3.2.kept hkk (by simp)⟩
    · rw [if_neg hi] at h3 ⊢; exact ⟨h3.1.kept hkk (by simp), h3.2.kept hkk (by simp)⟩
  have hres := o_all 5 (by decide) g 0 5 (fun i => match i with | 0 => 58 | 1 => 59 | 2 => 62 | 3 => 63 | _ => 64)
    (fun i => match i with | 0 => #[.pointer (some ⟨p, 0, none⟩)] | _ => #[]) (fun i => match i with | 0 => #[] | 1 => #[.pointer (some ⟨b4, 0, none⟩)] | 2 => #[.pointer (some ⟨b5, 0, none⟩)] | 3 => #[.pointer (some ⟨b9, 0, none⟩), .pointer (some ⟨d, 0, none⟩)] | _ => #[.pointer (some ⟨b8, 0, none⟩), .pointer (some ⟨d, 0, none⟩)])
    (putAsk fl nm n q z th es.length) w (p :: fuB fv) (fun x hx => by
      rcases List.mem_cons.1 hx with rfl | hx
      · exact h.bound _ h.hp
      · exact (hfuU x hx).1) (lt_of_block hg) hgU
    (fun i hi => by
      match i with
      | 0 => exact fun args w => by simp [go_sem]
      | 1 => exact fun args w => by simp [go_sem]
      | 2 => exact fun args w => by simp [go_sem]
      | 3 => exact fun args w => by simp [go_sem]
      | _ + 4 => exact fun args w => by simp [go_sem])
    (fun i hi => by
      rw [cell_of_row _ _ _ _ _ _ hg]
      match i, hi with
      | 0, _ => rfl
      | 1, _ => rfl
      | 2, _ => rfl
      | 3, _ => rfl
      | 4, _ => rfl)
    St (fun i W W' hs hb => by
      have hkk : Kept ((List.range W.heap.size).filter (fun x => decide (w.heap.size ≤ x))) W W' := ⟨hb.os, hb.tape, hb.output, hb.size, fun x hx hn => hb.block x (by
        rcases Nat.lt_or_ge x w.heap.size with h1 | h1
        · exact h1
        · exact absurd (List.mem_filter.2 ⟨List.mem_range.2 hx, by simpa using h1⟩) hn)⟩
      have hlow : ∀ x, x < w.heap.size → x ∉ (List.range W.heap.size).filter (fun x => decide (w.heap.size ≤ x)) := fun x hx hm => by
        have := (List.mem_filter.1 hm).2
        simp at this; omega
      obtain ⟨h1, h2, h3⟩ := hs
      refine ⟨Nat.le_trans h1 hkk.size, h2.kept hkk ⟨hlow _ (lt_of_block hc.hd), hlow _ (lt_of_block hc.h4), hlow _ (lt_of_block hc.h5), hlow _ (lt_of_block hc.h8), hlow _ (lt_of_block hc.h9)⟩, ?_⟩
      by_cases hi : i = 0
      · rw [if_pos hi] at h3 ⊢; exact ⟨h3.1.kept hkk (fun x hx => hlow x (h.bound x hx)), h3.2.kept hkk (fun x hx => hlow x (hfuU x hx).1)⟩
      · rw [if_neg hi] at h3 ⊢; exact ⟨h3.1.kept hkk (fun x hx => hlow x (h.bound x hx)), h3.2.kept hkk (fun x hx => hlow x (hfuU x hx).1)⟩)
    ⟨Nat.le_refl _, hc, by rw [if_pos rfl]; exact ⟨h, hf⟩⟩
    (fun i hi W hs hkk => by
      match i, hi with
      | 0, _ =>
        obtain ⟨h1, h2, h3⟩ := hs
        rw [if_pos rfl] at h3
        refine (operate_go W U p T more q es fv fl k left h3.1 hk h3.2 h0).mono ?_
        rintro e w' ⟨rfl, k1, ob1, fu1⟩
        exact ⟨rfl, k1, Nat.le_trans h1 k1.size, h2.kept k1 hcS, by rw [if_neg (by decide)]; exact ⟨ob1, fu1⟩⟩
      | 1, _ =>
        refine (put_1 b4 nm hnm W hs.2.1.h4).mono ?_
        rintro e w' ⟨rfl, k1⟩
        exact ⟨rfl, k1.wider (fun _ _ h => by simp at h), (hStk 1 _ _ hs k1)⟩
      | 2, _ =>
        refine (put_2 b5 a n c W hs.2.1.h5).mono ?_
        rintro e w' ⟨rfl, k1⟩
        exact ⟨rfl, k1.wider (fun _ _ h => by simp at h), (hStk 2 _ _ hs k1)⟩
      | 3, _ =>
        obtain ⟨⟨mv, flv, R, hR, hrow, _⟩, _⟩ := hs.2.2.1
        refine (put_3 b9 d p T z q _ (stC_get _ _ _ _ _ _ _).1 W hs.2.1.h9 hs.2.1.hd hrow).mono ?_
        rintro e w' ⟨rfl, k1⟩
        exact ⟨rfl, k1.wider (fun _ _ h => by simp at h), (hStk 3 _ _ hs k1)⟩
      | 4, _ =>
        refine (put_4 b8 d th W U p T more q es fv (fl.drop 1) (k + 1) hs.2.2.1 hs.2.1.h8 hs.2.1.hd).mono ?_
        rintro e w' ⟨rfl, k1⟩
        exact ⟨rfl, k1.wider (fun _ _ h => by simp at h), (hStk 4 _ _ hs k1)⟩)
  refine hres.mono ?_
  rintro e w' ⟨rfl, k1, h1, h2, h3⟩
  have hb := firstFrom_begun (putAsk fl nm n q z th es.length) 5 (by decide)
  rw [if_neg (by omega)] at h3
  exact ⟨_, rfl, k1, h3.1, h3.2⟩
end Go.Proofs.Ytnkolgamnakegaa
