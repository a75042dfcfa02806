import Derived.Test.YtmkdjonlfkfnlaaDoorMJ
import Derived.Test.YtmkdjonlfkfnlaaDoorHW
import Derived.Test.YtmkdjonlfkfnlaaDoorWK

/- A drawn region by hand: an append of rows of k cells; a call that may throw, beside a load. -/
namespace Go.Proofs.YtmkdjonlfkfnlaaDoor
open Go.RowKit Go.Lib

theorem appendKH {P : Program} {md : Region.Mode} {Q : Exit → Act → World → Prop} {S : World → Prop} {l rest : List Oper} {oi : Oper} {fuel : Nat} {listed : Array Bool} {a : Act} {w : World} (k : Nat) (hi : l.drop k = oi :: rest) (hr : Region.ready md l.toArray listed = [k]) (hgd : oi.guard = none)
    (s x : Operand) (t : TypeId) (ho : oi.op = .call { callee := .builtin .append, args := #[s, x], argTypes := #[t, t] }) (base : Nat) (e : TypeId) (i : TypeInfo) (z : Value) (size bytes : Nat) (ht : P.underlying t = some (.slice e)) (hie : P.info? e = some i) (hz : i.zero = some z)
    (hsize : i.size = size) (hby : i.bytes = bytes) (hzs : z.cells.size = size) (hsz : 0 < size) (v : Value) (n : Nat) (xs : List Value) (hs : a.eval s = v) (hown : w.ownsRow base e size v n xs)
    (sv : Value) (m : Nat) (news : List Value) (hx : a.eval x = sv) (hsrc : Src w sv m news) (hl : news.length = m * size) (h1 : ∀ u ∈ news, u.oneCell' = true)
    (h63 : n + m ≤ maxLen) (hbytes : (n + m) * bytes ≤ 140737488355328) (hbase : base ≤ w.heap.size)
    (h : ∀ b c w', w'.ownsRow base e size (.slice b (n + m) c) (n + m) (xs ++ news) → w.grownBy w' v.ownBlock → (∀ y, b = some y → base ≤ y.block) → (∀ g, (Value.slice b (n + m) c).ownBlock = some g → v.ownBlock = some g ∨ w.heap.size ≤ g) →
      S w' ∧ wpAnyH P md l.toArray Q S fuel (listed.setIfInBounds k true) (a.put oi.dst (.slice b (n + m) c)) w') : wpAnyH P md l.toArray Q S (fuel + 1) listed a w := by
  have hw : Region.wanted oi (yielded l.toArray a.tmps) = true := by simp [Region.wanted, hgd]
  refine wpAnyH_ready hr (by simp) (AllReadyH.cons (getL_of_drop hi) (fun K hK => ?_) AllReadyH.nil)
  rw [if_pos hw]
  obtain ⟨v', w', hrun, h2, h3, h4, h5⟩ := run_append_k (P := P) w t oi.type base e i z size bytes ht hie hz hsize hby hzs hsz v n xs hown sv m news hsrc hl h1 h63 hbytes hbase
  obtain ⟨b, c', rfl, hb⟩ : ∃ b c, v' = .slice b (n + m) c ∧ ∀ y, b = some y → base ≤ y.block := by
    rcases h2.2 with ⟨rfl, h0⟩ | ⟨g, cap, _, rfl, hg, _⟩
    · exact ⟨none, 0, by rw [h0], fun y hy => by simp at hy⟩
    · exact ⟨_, cap, rfl, fun y hy => by simp at hy; subst hy; exact hg⟩
  obtain ⟨hS, hgo⟩ := h b c' w' h2 h3 hb h5
  unfold Oper.wp execOp
  simp only [ho, resolve, invoke, builtin, Sem.run_bind, Sem.run_pure, Result.andThen_ok, List.map_toArray, List.map_cons, List.map_nil, hs, hx, hrun]
  exact hK.out _ _ hS (fun _ => hgo)

theorem callLoadX {P : Program} {md : Region.Mode} {Q : Exit → Act → World → Prop} {S : World → Prop} {l rest rest' : List Oper} {oi oj : Oper} {fuel : Nat} {listed : Array Bool} {a : Act} {w : World} (i j : Nat) (hi : l.drop i = oi :: rest) (hj : l.drop j = oj :: rest')
    (hr : Region.ready md l.toArray listed = [j, i]) (hri : Region.ready md l.toArray (listed.setIfInBounds i true) = [j]) (hrj : Region.ready md l.toArray (listed.setIfInBounds j true) = [i])
    (v : Value) (hwi : Region.wanted oi (yielded l.toArray a.tmps) = true) (hwj : Region.wanted oj (yielded l.toArray a.tmps) = true)
    (hwi' : Region.wanted oi (yielded l.toArray (a.put oj.dst v).tmps) = true) (hwj' : ∀ val, Region.wanted oj (yielded l.toArray (a.put oi.dst val).tmps) = true)
    (f : FuncId) (args : Array Value) (hrun : (execOp a.eval oi).run P w = .ok (.enter f args) w) (hrun' : (execOp (a.put oj.dst v).eval oi).run P w = .ok (.enter f args) w)
    (hyv : (execOp a.eval oj).run P w = .ok (.value v) w) (hS : S w)
    (hlist : (listed.setIfInBounds i true).setIfInBounds j true = (listed.setIfInBounds j true).setIfInBounds i true) (hput : ∀ val, (a.put oi.dst val).put oj.dst v = (a.put oj.dst v).put oi.dst val)
    (hc : Calls P f args w fun e w' => (∃ val, e = .returned val ∧ S w' ∧ (execOp (a.put oi.dst val).eval oj).run P w' = .ok (.value v) w' ∧ wpAnyH P md l.toArray Q S fuel ((listed.setIfInBounds j true).setIfInBounds i true) ((a.put oj.dst v).put oi.dst val) w') ∨ ∃ ch, e = .panicked ch ∧ Q (.panic ch) a w' ∧ Q (.panic ch) (a.put oj.dst v) w') :
    wpAnyH P md l.toArray Q S (fuel + 1 + 1) listed a w := by
  refine wpAnyH_ready hr (by simp) (AllReadyH.cons (getL_of_drop hj) (fun K hK => ?_) (AllReadyH.cons (getL_of_drop hi) (fun K hK => ?_) AllReadyH.nil))
  · rw [if_pos hwj]; unfold Oper.wp; rw [hyv]
    refine hK.out _ _ hS (fun _ => ?_)
    refine wpAnyH_ready hrj (by simp) (AllReadyH.cons (getL_of_drop hi) (fun K' hK' => ?_) AllReadyH.nil)
    rw [if_pos hwi']; unfold Oper.wp; rw [hrun']
    refine hc.mono ?_
    rintro e w' (⟨val, rfl, hS', _, h⟩ | ⟨ch, rfl, _, h⟩)
    · exact hK'.out _ _ hS' (fun _ => h)
    · exact h
  · rw [if_pos hwi]; unfold Oper.wp; rw [hrun]
    refine hc.mono ?_
    rintro e w' (⟨val, rfl, hS', hy, h⟩ | ⟨ch, rfl, h, _⟩)
    · refine hK.out _ _ hS' (fun _ => ?_)
      refine wpAnyH_ready hri (by simp) (AllReadyH.cons (getL_of_drop hj) (fun K' hK' => ?_) AllReadyH.nil)
      rw [if_pos (hwj' val)]; unfold Oper.wp; rw [hy]
      refine hK'.out _ _ hS' (fun _ => ?_)
      rw [hlist, hput]
      exact h
    · exact h
/-- A call that may throw, a load that may come ahead of it or behind it, a slice built of what the call answers, ahead of the load or behind it. -/
theorem callLoadBuildX {P : Program} {md : Region.Mode} {Q : Exit → Act → World → Prop} {S : World → Prop} {l rest rest' rest'' : List Oper} {oi oj ok : Oper} {fuel : Nat} {listed : Array Bool} {a : Act} {w : World} (i j k : Nat) (hi : l.drop i = oi :: rest) (hj : l.drop j = oj :: rest') (hk : l.drop k = ok :: rest'')
    (hr : Region.ready md l.toArray listed = [j, i]) (hri : Region.ready md l.toArray (listed.setIfInBounds i true) = [j, k]) (hrj : Region.ready md l.toArray (listed.setIfInBounds j true) = [i])
    (hrij : Region.ready md l.toArray ((listed.setIfInBounds j true).setIfInBounds i true) = [k]) (hrik : Region.ready md l.toArray ((listed.setIfInBounds i true).setIfInBounds k true) = [j])
    (v : Value) (hwi : Region.wanted oi (yielded l.toArray a.tmps) = true) (hwj : Region.wanted oj (yielded l.toArray a.tmps) = true)
    (hwi' : Region.wanted oi (yielded l.toArray (a.put oj.dst v).tmps) = true) (hwj' : ∀ val, Region.wanted oj (yielded l.toArray (a.put oi.dst val).tmps) = true)
    (hwk : ∀ val, Region.wanted ok (yielded l.toArray (a.put oi.dst val).tmps) = true) (hwk' : ∀ val, Region.wanted ok (yielded l.toArray ((a.put oj.dst v).put oi.dst val).tmps) = true)
    (hwj'' : ∀ val vk, Region.wanted oj (yielded l.toArray ((a.put oi.dst val).put ok.dst vk).tmps) = true)
    (f : FuncId) (args : Array Value) (hrun : (execOp a.eval oi).run P w = .ok (.enter f args) w) (hrun' : (execOp (a.put oj.dst v).eval oi).run P w = .ok (.enter f args) w)
    (hyv : (execOp a.eval oj).run P w = .ok (.value v) w) (hS : S w)
    (hl1 : (listed.setIfInBounds i true).setIfInBounds j true = (listed.setIfInBounds j true).setIfInBounds i true)
    (hl2 : ((listed.setIfInBounds i true).setIfInBounds k true).setIfInBounds j true = ((listed.setIfInBounds j true).setIfInBounds i true).setIfInBounds k true)
    (hp1 : ∀ val, (a.put oi.dst val).put oj.dst v = (a.put oj.dst v).put oi.dst val)
    (hp2 : ∀ val vk, ((a.put oi.dst val).put ok.dst vk).put oj.dst v = ((a.put oj.dst v).put oi.dst val).put ok.dst vk)
    (hc : Calls P f args w fun e w' => (∃ val vk w2, e = .returned val ∧ S w' ∧ S w2 ∧ (execOp (a.put oi.dst val).eval oj).run P w' = .ok (.value v) w' ∧ (execOp (a.put oi.dst val).eval ok).run P w' = .ok (.value vk) w2 ∧
        (execOp ((a.put oj.dst v).put oi.dst val).eval ok).run P w' = .ok (.value vk) w2 ∧ (execOp ((a.put oi.dst val).put ok.dst vk).eval oj).run P w2 = .ok (.value v) w2 ∧
        wpAnyH P md l.toArray Q S fuel (((listed.setIfInBounds j true).setIfInBounds i true).setIfInBounds k true) (((a.put oj.dst v).put oi.dst val).put ok.dst vk) w2) ∨ ∃ ch, e = .panicked ch ∧ Q (.panic ch) a w' ∧ Q (.panic ch) (a.put oj.dst v) w') :
    wpAnyH P md l.toArray Q S (fuel + 1 + 1 + 1) listed a w := by
  refine wpAnyH_ready hr (by simp) (AllReadyH.cons (getL_of_drop hj) (fun K hK => ?_) (AllReadyH.cons (getL_of_drop hi) (fun K hK => ?_) AllReadyH.nil))
  · rw [if_pos hwj]; unfold Oper.wp; rw [hyv]
    refine hK.out _ _ hS (fun _ => ?_)
    refine wpAnyH_ready hrj (by simp) (AllReadyH.cons (getL_of_drop hi) (fun K' hK' => ?_) AllReadyH.nil)
    rw [if_pos hwi']; unfold Oper.wp; rw [hrun']
    refine hc.mono ?_
    rintro e w' (⟨val, vk, w2, rfl, hS', hS2, _, _, hb, _, h⟩ | ⟨ch, rfl, _, h⟩)
    · refine hK'.out _ _ hS' (fun _ => ?_)
      refine wpAnyH_ready hrij (by simp) (AllReadyH.cons (getL_of_drop hk) (fun K2 hK2 => ?_) AllReadyH.nil)
      rw [if_pos (hwk' val)]; unfold Oper.wp; rw [hb]
      exact hK2.out _ _ hS2 (fun _ => h)
    · exact h
  · rw [if_pos hwi]; unfold Oper.wp; rw [hrun]
    refine hc.mono ?_
    rintro e w' (⟨val, vk, w2, rfl, hS', hS2, hy, hb1, hb2, hy2, h⟩ | ⟨ch, rfl, h, _⟩)
    · refine hK.out _ _ hS' (fun _ => ?_)
      refine wpAnyH_ready hri (by simp) (AllReadyH.cons (getL_of_drop hj) (fun K' hK' => ?_) (AllReadyH.cons (getL_of_drop hk) (fun K' hK' => ?_) AllReadyH.nil))
      · rw [if_pos (hwj' val)]; unfold Oper.wp; rw [hy]
        refine hK'.out _ _ hS' (fun _ => ?_)
        rw [hl1, hp1]
        refine wpAnyH_ready hrij (by simp) (AllReadyH.cons (getL_of_drop hk) (fun K2 hK2 => ?_) AllReadyH.nil)
        rw [if_pos (hwk' val)]; unfold Oper.wp; rw [hb2]
        exact hK2.out _ _ hS2 (fun _ => h)
      · rw [if_pos (hwk val)]; unfold Oper.wp; rw [hb1]
        refine hK'.out _ _ hS2 (fun _ => ?_)
        refine wpAnyH_ready hrik (by simp) (AllReadyH.cons (getL_of_drop hj) (fun K2 hK2 => ?_) AllReadyH.nil)
        rw [if_pos (hwj'' val vk)]; unfold Oper.wp; rw [hy2]
        refine hK2.out _ _ hS2 (fun _ => ?_)
        rw [hl2, hp2]
        exact h
    · exact h
end Go.Proofs.YtmkdjonlfkfnlaaDoor
