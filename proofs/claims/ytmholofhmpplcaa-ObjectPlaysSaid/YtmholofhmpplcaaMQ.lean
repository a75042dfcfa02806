import Derived.Test.YtmholofhmpplcaaMN2
import Derived.Test.YtmholofhmpplcaaMC
import Derived.Lib.SliceRun

/- object: what a Get hands out is the caller's own; clear; ObjectCopies' helpers. -/
namespace Go.Proofs.Ytmholofhmpplcaa
open Go.RowKit Go.Lib Go.Maps

theorem bclone_own (v : Value) (bs : List UInt8) (w : World) (h : Src w v bs.length (bs.map B)) (hl : bs.length ≤ 140737488355328) :
    Calls Try.prog 41 #[v] w fun e w' => ∃ v', e = .returned v' ∧ Kept [] w w' ∧ w'.ownsRow w.heap.size 5 1 v' bs.length (bs.map B) := by
  rcases h with ⟨rfl, h1, h2⟩ | ⟨a, c, rfl, hc⟩
  · refine (Try.bytes_Clone_nil 0 0 w).mono ?_
    rintro e w' ⟨rfl, rfl⟩
    refine ⟨_, rfl, Kept.refl _ _, ?_⟩
    rw [h1, h2]
    exact ⟨rfl, Or.inl ⟨rfl, rfl⟩⟩
  · refine (Try.bytes_Clone_at a bs.length c (bs.map fun b => (b.toNat : Int)) w (by simp) hl (fun i hi => ?_)).mono ?_
    · rw [hc i (B bs[i]) (by simp [hi])]
      simp [hi, B]
    · rintro e w' ⟨v', rfl, h1, _, h3⟩
      rw [ints_B] at h1
      exact ⟨v', rfl, Kept.of_below h3, h1⟩
set_option maxHeartbeats 1000000 in
theorem ob_get_own (w : World) (U : List Nat) (p T : Nat) (more : List Value) (q : Int) (es : List Ent) (fv : Value) (fl : List Bool) (k : Nat) (left : Int) (nm : List UInt8) (hnm : nm.length ≤ 1000000000) (h : Ob w U p T more q es fv fl k) (hk : k ≤ 1099511627776) (hf : FuV w U fv left) (h0 : left ≠ 0) :
    Calls Try.prog 16 #[.pointer (some ⟨p, 0, none⟩), .string (S nm)] w fun e w' => ∃ v', e = .returned (.tuple #[v', .int .i64 (gotE fl es nm)]) ∧ Kept (p :: fuB fv) w w' ∧ Ob w' U p T more q es fv (fl.drop 1) (k + 1) ∧ FuV w' U fv (decL left) ∧ w'.ownsRow w.heap.size 5 1 v' (gotB fl es nm).length ((gotB fl es nm).map B) := by
  have hop := hid (operate_go w U p T more q es fv fl k left h hk hf h0)
  have hpU := hid h.hp
  have hbo := hid h.bound
  have hfuU := hid (show ∀ x ∈ fuB fv, x < w.heap.size from fun x hx => by
    rcases hf with ⟨rfl, _⟩ | ⟨f, rfl, _, h3, _⟩
    · simp [fuB] at hx
    · simp [fuB] at hx; subst hx; exact lt_of_block h3)
  clear h hf h0
  by_cases hop0 : opE fl = 0
  · have hE : gotE fl es nm = (if (findE nm es).isSome then 0 else 4) := by unfold gotE; rw [if_pos hop0]
    have hBB : gotB fl es nm = (lookB nm es) := by unfold gotB; rw [if_pos hop0]
    unfold Began at hop
    rw [hop0] at hop
    obtain ⟨gb, hgb⟩ : ∃ gb, gb = gotB fl es nm := ⟨_, rfl⟩
    obtain ⟨gl, hgl⟩ : ∃ gl, gl = gb.length := ⟨_, rfl⟩
    obtain ⟨er, her⟩ : ∃ er, er = gotE fl es nm := ⟨_, rfl⟩
    rw [← hgb, ← her, ← hgl]
    have HE := hid (her.trans hE); have HBB := hid (hgb.trans hBB); have HGL := hid hgl
    clear hE hBB hop0 hgb hgl her
    go_enter Try.func16, Try.ntmps16
    go_wp2_with fail
    refine hop.out.mono ?_
    rintro e w1 ⟨rfl, k1, ob1, fu1⟩
    have K1 := hid k1; have OB1 := hid ob1; have FU1 := hid fu1
    obtain ⟨⟨mv, flv, R, hR, hrow, hmp, hmpp, hfl, hth⟩, hp, hb, hq, hs⟩ := ob1
    obtain ⟨_, g1, _⟩ := st_cells hrow
    have hlk := mp_look hmp nm hnm
    have hcl := hid (bclone_own (lookV nm es) _ w1 (look_src (mv := mv) (U := U) hth nm) (by
      unfold lookB
      cases hf : findE nm es with
      | none => simp
      | some e => have h1 := sizeE_mem (find_mem hf).1; have h2 := hs.1; simp; omega))
    rw [← HBB.out] at hcl
    obtain ⟨la, lc, hlv⟩ := lookV_slice hth nm
    rw [← HBB.out] at hlv
    rw [hlv] at hlk hcl
    obtain ⟨fs, hfs⟩ : ∃ fs, fs = (findE nm es).isSome := ⟨_, rfl⟩
    rw [← hfs] at hlk
    rw [← HGL.out] at hlk hcl
    have hwh := hid (fun W => by have h := when_any (!fs) 4 W; rw [show (if (!fs) then (4 : Int) else 0) = er by rw [HE.out, hfs]; cases (findE nm es).isSome <;> rfl] at h; exact h)
    have hmv : ∃ b, mv = .map b := by
      rcases hmp with ⟨h, _⟩ | ⟨b, h, _⟩
      · exact ⟨_, h⟩
      · exact ⟨_, h⟩
    obtain ⟨mb, rfl⟩ := hmv
    clear k1 fu1 hrow hmp hmpp hfl hth hp hb hq hs hR hop hlv hfs
    go_wp2_with fail
    refine hcl.out.mono ?_
    rintro e w2 ⟨v', rfl, k2, hs2⟩
    have K2 := hid k2; have HS2 := hid hs2
    clear k2 hs2 hcl
    go_wp2_with fail
    refine (hwh.out w2).mono ?_
    rintro e w3 ⟨rfl, rfl⟩
    clear hwh
    go_wp2
    go_ret2
    exact ⟨v', rfl, K1.out.trans' K2.out (fun _ _ h => by simp at h), OB1.out.kept K2.out (by simp), FU1.out.kept K2.out (by simp), owns_low HS2.out K1.out.size⟩
  · have hE : gotE fl es nm = opE fl := by unfold gotE; rw [if_neg hop0]
    have hBB : gotB fl es nm = [] := by unfold gotB; rw [if_neg hop0]
    rw [hE, hBB]
    obtain ⟨er, her⟩ : ∃ er, er = opE fl := ⟨_, rfl⟩
    have hne : (er != 0) = true := by rw [her]; simpa using hop0
    unfold Began at hop
    rw [← her] at hop ⊢
    clear hE hBB hop0 her
    go_enter Try.func16, Try.ntmps16
    go_wp2_with fail
    refine hop.out.mono ?_
    rintro e w1 ⟨rfl, k1, ob1, fu1⟩
    have K1 := hid k1; have OB1 := hid ob1; have FU1 := hid fu1
    clear k1 ob1 fu1 hop
    have hne2 : (er == 0) = false := by simpa [bne] using hne
    go_wp2
    go_ret2
    exact ⟨_, rfl, K1.out, OB1.out, FU1.out, ⟨rfl, Or.inl ⟨rfl, rfl⟩⟩⟩
theorem get_own (w : World) (U : List Nat) (p T : Nat) (more : List Value) (q : Int) (es : List Ent) (k : Nat) (nm : List UInt8) (hnm : nm.length ≤ 1000000000) (h : Ob w U p T more q es (.pointer none) [] k) (hk : k ≤ 1099511627776) (er : Int) (her : gotE [] es nm = er) (bs : List UInt8) (hbs : gotB [] es nm = bs) (n : Nat) (hn : n = bs.length) :
    Calls Try.prog 16 #[.pointer (some ⟨p, 0, none⟩), .string (S nm)] w fun e w' => ∃ a c, e = .returned (.tuple #[.slice a n c, .int .i64 er]) ∧ Kept [p] w w' ∧ Ob w' U p T more q es (.pointer none) [] (k + 1) ∧ w'.ownsRow w.heap.size 5 1 (.slice a n c) n (bs.map B) := by
  subst hn
  refine (ob_get_own w U p T more q es (.pointer none) [] k (-1) nm hnm h hk (Or.inl ⟨rfl, rfl⟩) (by decide)).mono ?_
  rintro e w' ⟨v', h1, h2, h3, h4, h5⟩
  rw [her] at h1
  rw [hbs] at h5
  obtain ⟨a, c, rfl⟩ := owns_slice h5
  exact ⟨a, c, h1, by simpa [fuB] using h2, h3, h5⟩
theorem kept_cells (b : Nat) : ∀ (vs : List Value) (o : Nat) (w : World), Kept [b] w (w.setCells b o vs)
  | [], o, w => Kept.refl _ _
  | v :: r, o, w => ((Kept.refl [b] w).setCell (p := ⟨b, o, none⟩) (fun _ => by simp) v).trans (kept_cells b r (o + 1) _)
/-- A row of bytes of the call's own is cleared. -/
theorem clear_row (w : World) {base : Nat} {a : Option Addr} {n c : Nat} {xs : List Value} (h : w.ownsRow base 5 1 (.slice a n c) n xs) :
    ∃ w', (∀ ty, (Builtin.clear_ #[36] ty #[.slice a n c]).run Try.prog w = .ok (.tuple #[]) w') ∧ Kept (Value.slice a n c).ownBlock.toList w w' := by
  have hu : (underlying 36).run Try.prog w = .ok (.slice 5) w := run_underlying Try.underlying36 w
  rcases h.2 with ⟨h1, h2⟩ | ⟨g, cap, cur, h1, hb, hh, h3, h4, h5, _⟩
  · simp at h1; obtain ⟨rfl, rfl, rfl⟩ := h1
    exact ⟨w, fun ty => by unfold Builtin.clear_; simp [Sem.run_bind, hu, Result.andThen_ok, Sem.run_pure], Kept.refl _ _⟩
  · simp at h1; obtain ⟨rfl, rfl⟩ := h1
    by_cases hn : 0 < n
    · refine ⟨_, fun ty => Lib.run_clear_slice w 36 5 ty (.int .u8 0) Try.underlying36 (fun w => by kernel_rfl) rfl rfl g 0 n c hn (fun j hj => ?_) (fun j hj => ?_), ?_⟩
      · rw [cell_of_row w _ _ _ _ _ hh]; simp; omega
      · exact free_of_row' hh _
      · simpa [Value.ownBlock] using kept_cells g _ 0 w
    · obtain rfl : n = 0 := by omega
      exact ⟨w, fun ty => by unfold Builtin.clear_; simp [Sem.run_bind, hu, Result.andThen_ok, Sem.run_pure], Kept.refl _ _⟩
theorem putErr_ok {fl : List Bool} {nm : List UInt8} {n m : Nat} {q z : Int} {th : Bool} (h0 : opE fl = 0) (h1 : okName nm = true) (h2 : n ≤ 1048576) (h3 : z ≤ q) (h4 : th = true ∨ m ≠ 4096) : putErr fl nm n q z th m = 0 := by
  have e2 : ¬ (1048576 : Int) < (n : Int) := by omega
  have e3 : ¬ q < z := by omega
  have e4 : (!th && decide (m = 4096)) = false := by
    rcases h4 with h4 | h4
    · simp [h4]
    · simp [h4]
  simp [putErr, firstFrom, putAsk, h0, h1, e2, e3, e4]
theorem putErr_room {fl : List Bool} {nm : List UInt8} {n m : Nat} {q z : Int} {th : Bool} (h0 : opE fl = 0) (h1 : okName nm = true) (h2 : n ≤ 1048576) (h3 : q < z) : putErr fl nm n q z th m = 31 := by
  have e2 : ¬ (1048576 : Int) < (n : Int) := by omega
  simp [putErr, firstFrom, putAsk, h0, h1, e2, h3]
/-- A handed row of bytes, as its bytes. -/
theorem src_of_args {w : World} {a : Option Addr} {len cap : Nat} {zs : List Int} (h : (a = none ∧ len = 0 ∧ cap = 0 ∧ zs = []) ∨
    ∃ x, a = some x ∧ len ≤ cap ∧ cap ≤ maxLen ∧ zs.length = cap ∧ (∀ i, i < zs.length → w.cell? (x.add i) = some (.int .u8 (zs.getD i 0))) ∧ ∀ n ∈ zs, (Lit.int .u8 n).wf = true) :
    ∃ ys : List UInt8, len = ys.length ∧ SrcB w (.slice a len cap) ys ∧ len ≤ 9223372036854775807 := by
  rcases h with ⟨rfl, rfl, rfl, rfl⟩ | ⟨x, rfl, hl, hm, hz, hc, hw⟩
  · exact ⟨[], rfl, Or.inl ⟨rfl, rfl, rfl⟩, by decide⟩
  · refine ⟨(zs.take len).map fun z => UInt8.ofNat z.toNat, by simp; omega, ?_, by unfold maxLen at hm; omega⟩
    refine Or.inr ⟨x, cap, by simp; omega, fun j u hj => ?_⟩
    rw [List.map_map, List.getElem?_map, List.getElem?_take] at hj
    split at hj
    · rename_i hjl
      have hjz : j < zs.length := by omega
      rw [List.getElem?_eq_getElem hjz] at hj
      simp at hj
      have hb := bounds_u8 (hw _ (List.getElem_mem hjz))
      rw [hc j hjz, ← hj]
      have e : zs.getD j 0 = zs[j] := by simp [hjz]
      rw [e]
      unfold B
      simp
      omega
    · simp at hj
end Go.Proofs.Ytmholofhmpplcaa


/- ObjectCopies. -/
namespace Go.Proofs.Ytmholofhmpplcaa
open Go.RowKit Go.Lib Go.Maps

theorem src_own {w : World} {base : Nat} {e : TypeId} {v : Value} {n : Nat} {xs : List Value} (h : w.ownsRow base e 1 v n xs) : Src w v n xs := by
  obtain ⟨_, _, s⟩ := srcS_of_row h
  exact s.src
theorem info_byte : (Try.prog.info? 5).map (fun i => (i.zero, i.size, i.bytes)) = some (some (.int .u8 0), 1, 1) := by kernel_rfl
theorem build_0b (W : World) : (Instr.buildSlice 36 0 #[]).run Try.prog W = .ok (.slice (some ⟨W.heap.size, 0, none⟩) 0 0) (W.alloc (.cells #[] 5)) := by kernel_rfl
theorem build_1b (W : World) : (Instr.buildSlice 36 1 #[(0, .int .u8 1)]).run Try.prog W = .ok (.slice (some ⟨W.heap.size, 0, none⟩) 1 1) (W.alloc (.cells #[.int .u8 1] 5)) := by kernel_rfl

end Go.Proofs.Ytmholofhmpplcaa
