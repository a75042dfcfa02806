/- path.Parts' iterator, where a round throws. -/
import Derived.Test.YtignphegdigalaaP8
import Derived.Test.YtignphegdigalaaP9
namespace Go.Proofs.Ytignphegdigalaa
open Go.RowKit
attribute [local go_sem] Oper.semAt_some

theorem partsS_len : ∀ (a : List UInt8), ∀ x ∈ partsS a, x.length ≤ a.length
  | [], x, h => by simp [partsS] at h; simp [h]
  | c :: a, x, h => by
    have ih := partsS_len a
    unfold partsS at h
    split at h
    · rcases List.mem_cons.1 h with rfl | h
      · simp
      · have := ih x h; simp; omega
    · split at h
      · rename_i p ps hp
        rcases List.mem_cons.1 h with rfl | h
        · have := ih p (by rw [hp]; simp); simp; omega
        · have := ih x (by rw [hp]; simp [h]); simp; omega
      · simp at h; subst h; simp
theorem tail_txt (v : List UInt8) (hv : v.length ≤ 1000000000) : ∃ rest : List Txt, rest.map (·.1) = partsS v :=
  ⟨(partsS v).attach.map fun x => ⟨x.1, Nat.le_trans (partsS_len v x.1 x.2) hv⟩, by simp⟩

set_option maxRecDepth 100000 in
set_option maxHeartbeats 1000000 in
theorem parts1_throws (n : Nat) (hn : 1 ≤ n) (l Bn : Nat) (a : List UInt8) (ha : a.length ≤ 1000000000) (J : List Txt → World → Prop) (Jp : List PanicEntry → List Txt → World → Prop) (W0 : World)
    (hJ : AbidesFrom W0.heap.size J)
    (hY : ∀ pre x W, J pre W → pre.length < (partsS a).length → YieldAt Fence.wide (n - 1) Try.prog l #[.string (S x.1)] W fun e W' =>
      (e = .returned (.bool true) ∧ J (pre ++ [x]) W') ∨ (∃ ch, e = .panicked ch ∧ Jp ch (pre ++ [x]) W'))
    (W : World) (hBn : W.cell? ⟨Bn, 0, none⟩ = some (.string (S a))) (h0 : J [] W) :
    CallsIn Fence.wide n Try.prog 65 #[.func (.yield l) #[] #[], .pointer (some ⟨Bn, 0, none⟩)] W fun e W' => (∃ v xs, e = .returned v ∧ (xs : List Txt).map (·.1) = partsS a ∧ J xs W') ∨ (∃ ch, ∃ xs rest : List Txt, e = .panicked ch ∧ (xs ++ rest).map (·.1) = partsS a ∧ Jp ch xs W') := by
  refine callsIn_of_wp Try.func65 rfl trivial ?_ rfl
  simp only [Try.ntmps65, List.size_toArray, List.length_cons, List.length_nil, Nat.reduceAdd, Nat.reduceSub, Array.replicate_succ, Array.replicate_zero, List.push_toArray, List.append_toArray, List.nil_append, List.cons_append]
  gi_wp2
  gi_loopw [3] (fun p wr => ∃ (pre : List Txt) (r : List UInt8), p = .string (S r) ∧ r.length ≤ 1000000000 ∧ partsS a = pre.map (·.1) ++ partsS r ∧ J pre wr)
    (fun p wr => lenS p)
  case atStart =>
    exact ⟨[], a, rfl, ha, rfl, h0⟩
  case round =>
    obtain ⟨pre, r, rfl, hr, hx, hJs⟩ := hrel
    have hcut := hid (cut_any r 47 hr wr)
    have hl := cutS_len r 47
    have hp := partsS_cut r
    obtain ⟨u, hu⟩ : ∃ u, u = (cutS r 47).1 := ⟨_, rfl⟩
    obtain ⟨v, hv⟩ : ∃ v, v = (cutS r 47).2.1 := ⟨_, rfl⟩
    obtain ⟨b, hb⟩ : ∃ b, b = (cutS r 47).2.2 := ⟨_, rfl⟩
    rw [← hu, ← hv, ← hb] at hcut hp hl
    clear hu hv hb
    have hul : u.length ≤ 1000000000 := by omega
    have hvl : v.length ≤ 1000000000 := by omega
    have hd := hid hl.2.2
    replace hp := hid hp
    have hlt : pre.length < (partsS a).length := by
      rw [hx, hp.out]; simp
    clear hl
    have hJm : ∀ m, J pre (wr.drewN m) := fun m => hJ pre wr (wr.drewN m) none hJs ⟨rfl, rfl, rfl, Nat.le_refl _, fun _ _ _ => rfl⟩ (fun r e => by cases e)
    gi_wp2_with (refine ⟨trivial, ?_⟩; gi_at_call 66; refine (callsIn_wide.2 hcut.out).mono ?_; rintro e w' ⟨rfl, m, rfl⟩)
    obtain ⟨fn, tmps, assign, body, hy, hR⟩ := hY pre ⟨u, hul⟩ (wr.drewN m) (hJm m) hlt
    dsimp only at hy
    cases b with
    | true =>
      have hvd := hid (hd.out rfl)
      have hvt := hid (tail_txt v hvl)
      clear hd
      gi_wp2
      refine hR.mono ?_
      rintro e W' (⟨rfl, hJ'⟩ | ⟨ch, rfl, hJp⟩)
      · gi_wp2
        go_roundw
        case rel => exact ⟨pre ++ [⟨u, hul⟩], v, rfl, hvl, by rw [hx, hp.out]; simp, hJ'⟩
        case measure => simp [lenS, S_size]; exact hvd.out
      · obtain ⟨rest, hrest⟩ := hvt.out
        gi_wp2
        refine ⟨rfl, .inr ⟨ch, pre ++ [⟨u, hul⟩], rest, rfl, by rw [hx, hp.out]; simp [hrest], hJp⟩⟩
    | false =>
      replace hp : Hid (partsS r = [u]) := hid (by rw [hp.out]; simp)
      clear hd hlt hJm hcut
      rw [hy]
      gi_wp2
      refine hR.mono ?_
      rintro e W' (⟨rfl, hJ'⟩ | ⟨ch, rfl, hJp⟩)
      · gi_wp2
        refine bodyPost_ret (results_none rfl _ _ _) rfl ?_
        exact .inl ⟨_, pre ++ [⟨u, hul⟩], rfl, by rw [hx, hp.out]; simp, hJ'⟩
      · gi_wp2
        refine ⟨rfl, .inr ⟨ch, pre ++ [⟨u, hul⟩], [], rfl, by rw [hx, hp.out]; simp, hJp⟩⟩

theorem parts_throws (n : Nat) (hn : 1 ≤ n) (Bn : Nat) (a : List UInt8) (ha : a.length ≤ 1000000000) (w : World) (hB : Bn < w.heap.size)
    (hc : w.cell? ⟨Bn, 0, none⟩ = some (.string (S a))) :
    SeqThrows Fence.wide n Try.prog 65 #[.pointer (some ⟨Bn, 0, none⟩)] (fun x : Txt => #[Value.string (S x.1)]) (fun ys => ys.map (·.1) = partsS a) (partsS a).length w :=
  fun l J Jp W hW hJ hY h0 => parts1_throws n hn l Bn a ha J Jp W hJ hY W ((hW.cell (p := ⟨Bn, 0, none⟩) hB).trans hc) h0
end Go.Proofs.Ytignphegdigalaa
