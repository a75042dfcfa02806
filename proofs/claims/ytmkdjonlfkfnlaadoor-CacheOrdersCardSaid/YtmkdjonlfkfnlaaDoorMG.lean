import Derived.Test.YtmkdjonlfkfnlaaDoorFL
import Derived.WideKeyEntry
import Derived.Test.YtmkdjonlfkfnlaaDoorFH
import Derived.Deep.AppendSrc

/- Order in a cache of blobs of one byte each: its mathematics. -/
namespace Go.Proofs.YtmkdjonlfkfnlaaDoor
open Go.RowKit Go.Lib Go.Maps
/-- The sums of the first thirty-two blobs of one byte differ. -/
def Dist : Prop := ∀ a b : UInt8, a.toNat < 32 → b.toNat < 32 → Sha.sum [a] = Sha.sum [b] → a = b
def oL (line : List UInt8) : List (List UInt8 × List UInt8) := line.map fun b => (Sha.sum [b], [b])
def Low (line : List UInt8) : Prop := ∀ a ∈ line, a.toNat < 32
/-- The line behind a byte that is put or got. -/
def moved (line : List UInt8) (b : UInt8) : List UInt8 := line.erase b ++ [b]
def cutTo (room : Nat) (line : List UInt8) : List UInt8 := if room < line.length then line.tail else line
theorem oL_len (line : List UInt8) : (oL line).length = line.length := by simp [oL]
theorem oL_app (a b : List UInt8) : oL (a ++ b) = oL a ++ oL b := by simp [oL]
theorem oL_size (line : List UInt8) : szD (oL line) = line.length := by
  unfold szD oL
  induction line with
  | nil => rfl
  | cons a r ih => simp at ih ⊢; omega
theorem oL_drop (hd : Dist) {line : List UInt8} (hl : Low line) (hn : line.Nodup) (b : UInt8) (hb : b.toNat < 32) : dropD (Sha.sum [b]) (oL line) = oL (line.erase b) := by
  induction line with
  | nil => rfl
  | cons a r ih =>
    have hn2 := List.nodup_cons.1 hn
    have ih := ih (fun x hx => hl x (List.mem_cons_of_mem _ hx)) hn2.2
    have e1 : dropD (Sha.sum [b]) (oL (a :: r)) = if Sha.sum [a] = Sha.sum [b] then dropD (Sha.sum [b]) (oL r) else (Sha.sum [a], [a]) :: dropD (Sha.sum [b]) (oL r) := by
      unfold dropD oL
      rw [List.map_cons, List.filter_cons]
      by_cases h : Sha.sum [a] = Sha.sum [b] <;> simp [h]
    rw [e1]
    by_cases hab : a = b
    · subst hab
      rw [if_pos rfl, ih, List.erase_of_not_mem hn2.1, List.erase_cons_head]
    · rw [if_neg (fun h => hab (hd a b (hl a List.mem_cons_self) hb h)), ih, List.erase_cons_tail (by simpa using hab)]
      rfl
theorem oL_find (hd : Dist) {line : List UInt8} (hl : Low line) (b : UInt8) (hb : b.toNat < 32) : findD (Sha.sum [b]) (oL line) = if b ∈ line then some [b] else none := by
  induction line with
  | nil => rfl
  | cons a r ih =>
    have ih := ih (fun x hx => hl x (List.mem_cons_of_mem _ hx))
    have e1 : findD (Sha.sum [b]) (oL (a :: r)) = if Sha.sum [a] = Sha.sum [b] then some [a] else findD (Sha.sum [b]) (oL r) := by
      unfold oL
      rw [List.map_cons, findD]
    rw [e1]
    by_cases hab : a = b
    · subst hab
      simp
    · rw [if_neg (fun h => hab (hd a b (hl a List.mem_cons_self) hb h)), ih]
      have h1 : b ≠ a := fun h => hab h.symm
      simp [h1]
theorem oL_get (hd : Dist) {line : List UInt8} (hl : Low line) (b : UInt8) (hb : b.toNat < 32) : getO (Sha.sum [b]) (oL line) = if b ∈ line then some [b] else none := by
  unfold getO
  rw [oL_find hd hl b hb]
  by_cases h : b ∈ line
  · simp [h]
  · simp [h]
theorem oL_got (hd : Dist) {line : List UInt8} (hl : Low line) (hn : line.Nodup) (b : UInt8) (hb : b.toNat < 32) : getL (Sha.sum [b]) (oL line) = oL (if b ∈ line then moved line b else line) := by
  unfold getL
  rw [oL_get hd hl b hb]
  by_cases h : b ∈ line
  · simp only [h, if_true]
    rw [oL_drop hd hl hn b hb]
    unfold moved
    rw [oL_app]
    rfl
  · simp only [h, if_false]
    rw [oL_drop hd hl hn b hb, List.erase_of_not_mem h]
theorem evict_one (room : Nat) (line : List UInt8) (h1 : 1 ≤ room) (h2 : line.length ≤ room) : evict room 1 (oL line) = oL (if room < line.length + 1 then line.tail else line) := by
  cases line with
  | nil => rw [if_neg (by simp; omega)]; rfl
  | cons a r =>
    have e1 : evict room 1 (oL (a :: r)) = if (room : Int) - ((1 : Nat) : Int) < (szD (oL (a :: r)) : Int) then evict room 1 (oL r) else oL (a :: r) := by
      show evict room 1 ((Sha.sum [a], [a]) :: oL r) = _
      rw [evict]
      rfl
    rw [e1, oL_size]
    simp only [List.length_cons] at h2 ⊢
    by_cases h : room < r.length + 1 + 1
    · rw [if_pos (by omega), if_pos h]
      cases r with
      | nil => rfl
      | cons c s =>
        have e2 : evict room 1 (oL (c :: s)) = if (room : Int) - ((1 : Nat) : Int) < (szD (oL (c :: s)) : Int) then evict room 1 (oL s) else oL (c :: s) := by
          show evict room 1 ((Sha.sum [c], [c]) :: oL s) = _
          rw [evict]
          rfl
        rw [e2, oL_size, if_neg (by simp at h h2 ⊢; omega)]
        rfl
    · rw [if_neg (by omega), if_neg h]
theorem erase_len (line : List UInt8) (b : UInt8) : (line.erase b).length ≤ line.length := List.length_erase_le
theorem oL_put (hd : Dist) {line : List UInt8} (hl : Low line) (hn : line.Nodup) (b : UInt8) (hb : b.toNat < 32) (room : Nat) (h1 : 1 ≤ room) (h2 : line.length ≤ room) :
    putD room (oL line) [b] = oL (cutTo room (moved line b)) := by
  unfold putD
  rw [if_neg (by simp; omega), oL_drop hd hl hn b hb]
  have h3 := erase_len line b
  show evict room 1 (oL (line.erase b)) ++ oL [b] = _
  rw [evict_one room _ h1 (by omega), ← oL_app]
  unfold cutTo moved
  congr 1
  simp only [List.length_append, List.length_singleton]
  by_cases h : room < (line.erase b).length + 1
  · rw [if_pos h, if_pos h]
    cases he : line.erase b with
    | nil => rw [he] at h; simp at h; omega
    | cons a r => rfl
  · rw [if_neg h, if_neg h]
theorem moved_keep {line : List UInt8} (hl : Low line) (hn : line.Nodup) (b : UInt8) (hb : b.toNat < 32) : Low (moved line b) ∧ (moved line b).Nodup := by
  unfold moved
  constructor
  · intro x hx
    rcases List.mem_append.1 hx with h | h
    · exact hl x (List.mem_of_mem_erase h)
    · simp at h; subst h; exact hb
  · have h1 : b ∉ line.erase b := hn.not_mem_erase
    exact List.nodup_append.2 ⟨hn.erase b, by simp, fun x hx y hy he => by simp at hy; subst hy; subst he; exact h1 hx⟩
theorem cut_keep {line : List UInt8} (hl : Low line) (hn : line.Nodup) (room : Nat) : Low (cutTo room line) ∧ (cutTo room line).Nodup := by
  unfold cutTo
  split
  · exact ⟨fun x hx => hl x (List.mem_of_mem_tail hx), hn.sublist (List.tail_sublist _)⟩
  · exact ⟨hl, hn⟩
theorem moved_len {line : List UInt8} (b : UInt8) (h : b ∈ line) : (moved line b).length = line.length := by
  unfold moved
  have h1 := List.length_erase_of_mem h
  have h2 : 0 < line.length := List.length_pos_of_mem h
  simp
  omega
theorem cut_len (room : Nat) (line : List UInt8) (h : line.length ≤ room + 1) : (cutTo room line).length ≤ room := by
  unfold cutTo
  split
  · simp; omega
  · omega
/-- A line without the place where b last stands. -/
theorem cut_erase {line : List UInt8} (hn : line.Nodup) {i : Nat} {b : UInt8} (h : line[i]? = some b) : line.take i ++ line.drop (i + 1) = line.erase b := by
  induction line generalizing i with
  | nil => simp at h
  | cons a r ih =>
    have hn2 := List.nodup_cons.1 hn
    cases i with
    | zero =>
      simp at h
      subst h
      simp
    | succ j =>
      simp at h
      have h1 : b ∈ r := List.mem_of_getElem? h
      have h2 : a ≠ b := fun e => hn2.1 (e ▸ h1)
      rw [List.erase_cons_tail (by simpa using h2), ← ih hn2.2 h]
      simp
end Go.Proofs.YtmkdjonlfkfnlaaDoor


/- 'm[k] op= v' over sums: the entry, then the store; a map that counts how often each of the first sums came. -/
namespace Go.Proofs.YtmkdjonlfkfnlaaDoor
open Go.RowKit Go.Lib Go.Maps Go.WideElems Go.MapKept Go.ChangeMaps
theorem same_map {w : World} {b : Nat} {es es1 : Array MapEntry} {c c1 : Nat} (h0 : ∃ a d, w.heap[b]? = some (.map a d)) (h : setBlock w b (.map es c) = setBlock w b (.map es1 c1)) : es = es1 ∧ c = c1 := by
  obtain ⟨a, d, ho⟩ := h0
  have h1 := heap_setBlock_same ho (.map es c)
  rw [h, heap_setBlock_same ho (.map es1 c1)] at h1
  simp at h1
  exact ⟨h1.1.symm, h1.2.symm⟩
theorem own_move {H : Type} {P : Program} {w w2 : World} {k : TypeId} {R : Value → Option (DataW H × List MemPlace)} {b n : Nat} {D : DataW H} (h : w.ownsMap P k R b n D) (h2 : w2.heap[b]? = w.heap[b]?) : w2.ownsMap P k R b n D := by
  obtain ⟨es, c, hb, r⟩ := h
  exact ⟨es, c, h2.trans hb, r⟩
theorem entry_id {H : Type} {P : Program} {w : World} {t k e : TypeId} {R : Value → Option (DataW H × List MemPlace)} {b n : Nat} {D : DataW H} (h : w.ownsMap P k R b n D) (K : Keyed P k) (ht : P.underlying t = some (.map k e)) (hn : n < maxLen)
    {z : Value} (hz : ∀ u : World, (zeroValue e).run P u = .ok z u) {zd : DataW H} {zp : List MemPlace} (hzd : R z = some (zd, zp)) {key : Value} {kl : Lit} (hkey : keyOf P k key = some kl) :
    ∃ (v0 : Value) (st : Nat) (es1 : Array MapEntry) (c1 : Nat), (Instr.mapEntry t (.map (some b)) key).run P w = .ok (.tuple #[v0, goInt st]) (setBlock w b (.map es1 c1)) ∧
      (∀ w2 : World, w2.heap[b]? = some (.map es1 c1) → ∃ D2, w2.ownsMap P k R b (n + 1) D2) ∧ ∀ (w2 : World) (val : Value) (d : DataW H) (ps : List MemPlace), w2.heap[b]? = some (.map es1 c1) → R val = some (d, ps) →
        ∃ es2 c2, (Instr.entryStore t (.map (some b)) (goInt st) val).run P w2 = .ok () (setBlock w2 b (.map es2 c2)) ∧ (setBlock w2 b (.map es2 c2)).ownsMap P k R b (n + 1) (D.put kl d) := by
  obtain ⟨es, clock, hb, F, hs, rfl⟩ := h
  have fin : ∀ (es2 : Array MapEntry) (c2 : Nat) (w2 : World) (val : Value) (d : DataW H) (ps : List MemPlace) (a0 : Array MapEntry) (c0 : Nat), w2.heap[b]? = some (.map a0 c0) → R val = some (d, ps) → (Instr.mapUpdate t (.map (some b)) key val).run P w = .ok () (setBlock w b (.map es2 c2)) →
      (setBlock w2 b (.map es2 c2)).ownsMap P k R b (n + 1) ((DataW.map ((es.toList.map (rg P k R)).foldr DataW.insert [])).put kl d) := by
    intro es2 c2 w2 val d ps a0 c0 hw2 hv hup
    obtain ⟨es', clock', hrun, F', hput, _⟩ := Maps.fit_store (R' := R) K ht hb F (Nat.lt_of_le_of_lt hs hn) (fun _ _ _ _ hz => hz) hkey hv
    rw [hrun] at hup
    have h1 : setBlock w b (.map es' clock') = setBlock w b (.map es2 c2) := by simpa using hup
    obtain ⟨rfl, rfl⟩ := same_map ⟨_, _, hb⟩ h1
    refine ⟨es', clock', heap_setBlock_same hw2 _, F', ?_, by rw [DataW.put_eq, hput]⟩
    have e1 : es'.size = ((es'.toList.map (rg P k R)).foldr DataW.insert []).length := by rw [length_sorted]; simp
    rw [e1, hput]
    unfold putKey
    rw [length_insert]
    have e2 := List.length_filter_le (notKey kl) ((es.toList.map (rg P k R)).foldr DataW.insert [])
    rw [length_sorted] at e2
    simp at e2
    omega
  obtain ⟨s1, s2, _⟩ := F.stamped
  rcases K.find w hkey es.toList F.keys with ⟨h1, h2⟩ | ⟨j, e0, h1, h2, h3⟩
  · have hidx : (es.push ⟨key, z, clock⟩).findIdx? (fun e => ((e.born : Nat) : Int) == ((clock : Nat) : Int)) = some es.size := by
      rw [findIdx_arr]
      refine findIdx_born (e0 := ⟨key, z, clock⟩) ?_ (by simp)
      rw [Array.toList_push, List.map_append]
      refine List.nodup_append.2 ⟨s2, by simp, fun a ha c hc he => ?_⟩
      obtain ⟨x, hx, rfl⟩ := List.mem_map.1 ha
      have h4 := s1 x hx
      simp at hc
      omega
    refine ⟨z, clock, es.push ⟨key, z, clock⟩, clock + 1, by simp [Instr.mapEntry, run_underlying ht, MapKept.run_getObj_map hb, K.check w false hkey, h1, hz, MapKept.run_setObj_map _ hb, Result.andThen, setBlock], fun w2 hw2 => ⟨_, own_move (fin (es.push ⟨key, z, clock⟩) (clock + 1) w z zd zp _ _ hb hzd (by simp [Instr.mapUpdate, run_underlying ht, MapKept.run_getObj_map hb, K.check w false hkey, h1, MapKept.run_setObj_map _ hb, Result.andThen, setBlock])) (by rw [hw2, heap_setBlock_same hb])⟩, fun w2 val d ps hw2 hv => ⟨es.push ⟨key, val, clock⟩, clock + 1, ?_, fin _ _ w2 val d ps _ _ hw2 hv ?_⟩⟩
    · have hmod : (es.push ⟨key, z, clock⟩).modify es.size (fun e => { e with val := val }) = es.push ⟨key, val, clock⟩ := by
        apply Array.ext'
        rw [Array.toList_modify, Array.toList_push, Array.toList_push, ← Array.length_toList, modify_last]
      simp [Instr.entryStore, MapKept.run_getObj_map hw2, asInt, asIntOf, goInt, hidx, hmod, MapKept.run_setObj_map _ hw2, Result.andThen, setBlock]
    · simp [Instr.mapUpdate, run_underlying ht, MapKept.run_getObj_map hb, K.check w false hkey, h1, MapKept.run_setObj_map _ hb, Result.andThen, setBlock]
  · have hj : es[j]? = some e0 := by simpa using h2
    have hidx : es.findIdx? (fun e => ((e.born : Nat) : Int) == ((e0.born : Nat) : Int)) = some j := by
      rw [findIdx_arr]
      exact findIdx_born s2 h2
    have hsame : es.modify j (fun e => { e with key := key }) = es := by
      apply Array.ext'
      rw [Array.toList_modify, modify_eq_set _ _ _ _ h2, show ({ e0 with key := key } : MapEntry) = e0 from by rw [← h3]]
      exact set_self _ _ _ h2
    refine ⟨e0.val, e0.born, es, clock, by simp [Instr.mapEntry, run_underlying ht, MapKept.run_getObj_map hb, K.check w false hkey, h1, hj, h3, K.stays w hkey, hsame, MapKept.run_setObj_map _ hb, Result.andThen, setBlock], fun w2 hw2 => ⟨_, es, clock, hw2, F, by omega, rfl⟩, fun w2 val d ps hw2 hv => ⟨es.modify j (fun e' => { e' with key := key, val := val }), clock, ?_, fin _ _ w2 val d ps _ _ hw2 hv ?_⟩⟩
    · have hmod : es.modify j (fun e => { e with val := val }) = es.modify j (fun e' => { e' with key := key, val := val }) := by
        apply Array.ext'
        rw [Array.toList_modify, Array.toList_modify, modify_eq_set _ _ _ _ h2, modify_eq_set _ _ _ _ h2, ← h3]
      simp [Instr.entryStore, MapKept.run_getObj_map hw2, asInt, asIntOf, goInt, hidx, hmod, MapKept.run_setObj_map _ hw2, Result.andThen, setBlock]
    · simp [Instr.mapUpdate, run_underlying ht, MapKept.run_getObj_map hb, K.check w false hkey, h1, hj, h3, K.stays w hkey, MapKept.run_setObj_map _ hb, Result.andThen, setBlock]
end Go.Proofs.YtmkdjonlfkfnlaaDoor


/- A map that counts how often each of the first sums came. -/
namespace Go.Proofs.YtmkdjonlfkfnlaaDoor
open Go.RowKit Go.Lib Go.Maps Go.ChangeMaps
def intR (v : Value) : Option (DataW Value × List MemPlace) := match v with
  | .int .i64 n => some (.held (.int .i64 n), [])
  | _ => none
def sumN (j : Nat) : List UInt8 := Sha.sum [UInt8.ofNat j]
/-- A map in which the sums of the first i blobs of one byte stand; its size tells whether they differ. -/
def SM (w : World) (b i : Nat) : Prop := ∃ n, ∃ D : DataW Value, n ≤ i ∧ w.ownsMap Tryd.prog 34 intR b n D ∧
  (∀ j, j < i → ∀ kl, keyOf Tryd.prog 34 (.agg ((sumN j).map B).toArray) = some kl → Maps.has D kl = true) ∧ Maps.size D ≤ i ∧
  (Maps.size D = i → ∀ j k, j < i → k < i → sumN j = sumN k → j = k)
theorem SM.kept {S : List Nat} {w w' : World} {b i : Nat} (h : SM w b i) (hk : Kept S w w') (hb : b ∉ S) : SM w' b i := by
  obtain ⟨n, D, h0, h1, h2⟩ := h
  exact ⟨n, D, h0, hk.ownsMap h1 hb, h2⟩
theorem SM.lt {w : World} {b i : Nat} (h : SM w b i) : b < w.heap.size := by
  obtain ⟨n, D, h0, h1, h2⟩ := h
  exact h1.lt
theorem sm_made (w : World) : SM (w.alloc (.map #[] 0)) w.heap.size 0 :=
  ⟨0, _, Nat.le_refl _, World.ownsMap_made w _ _ _, fun j hj => by omega, by simp [Maps.size], fun _ j k hj => by omega⟩
theorem zero_int (w : World) : (zeroValue 3).run Tryd.prog w = .ok (.int .i64 0) w := by kernel_rfl
theorem look_int {w : World} {b n : Nat} {D : DataW Value} (h1 : w.ownsMap Tryd.prog 34 intR b n D) (id : List UInt8) (hn : id.length = 32) :
    ∃ m, (Instr.lookup 54 (.map (some b)) (.agg (id.map B).toArray) false).run Tryd.prog w = .ok (.int .i64 m) w := by
  obtain ⟨kl, hkl⟩ := id_keyN hn
  obtain ⟨es, clock, hb, F, _, rfl⟩ := h1
  rcases Maps.fit_look false a_keyed Tryd.underlying54 (zero_int w) hb F hkl with ⟨hrun, _⟩ | ⟨e0, y, _, _, hrun, hRv, _⟩
  · exact ⟨0, by simpa using hrun⟩
  · unfold intR at hRv
    split at hRv
    · rename_i m he
      exact ⟨m, by rw [hrun]; simp [he]⟩
    · cases hRv
theorem sm_look {w : World} {b i : Nat} (h : SM w b i) (id : List UInt8) (hn : id.length = 32) :
    ∃ m, (Instr.lookup 54 (.map (some b)) (.agg (id.map B).toArray) false).run Tryd.prog w = .ok (.int .i64 m) w := by
  obtain ⟨n, D, h0, h1, h2⟩ := h
  exact look_int h1 id hn
theorem sm_entry {w : World} {b i : Nat} (h : SM w b i) (hi : i ≤ 1000) :
    ∃ v0 st w1, (Instr.mapEntry 54 (.map (some b)) (.agg ((sumN i).map B).toArray)).run Tryd.prog w = .ok (.tuple #[v0, goInt st]) w1 ∧ Kept [b] w w1 ∧ (∃ m, (Instr.lookup 54 (.map (some b)) (.agg ((sumN i).map B).toArray) false).run Tryd.prog w1 = .ok (.int .i64 m) w1) ∧
      ∀ w2 m, Kept [] w1 w2 → ∃ w3, (Instr.entryStore 54 (.map (some b)) (goInt st) (.int .i64 m)).run Tryd.prog w2 = .ok () w3 ∧ Kept [b] w2 w3 ∧ SM w3 b (i + 1) := by
  obtain ⟨n, D, h0, h1, h2, h3, h4⟩ := h
  have hn : (sumN i).length = 32 := Sha.sum_len _
  obtain ⟨kl, hkl⟩ := id_keyN hn
  obtain ⟨es, clock, hb, _⟩ := id h1
  obtain ⟨v0, st, es1, c1, hrun, hmid, hst⟩ := entry_id h1 a_keyed Tryd.underlying54 (by unfold maxLen; omega) zero_int (zd := .held (.int .i64 0)) (zp := []) rfl hkl
  obtain ⟨D2, ho2⟩ := hmid _ (heap_setBlock_same hb (.map es1 c1))
  refine ⟨v0, st, _, hrun, turnedI ⟨es, clock, es1, c1, hb, rfl⟩, look_int ho2 _ hn, fun w2 m hk => ?_⟩
  have hb2 := hk.at (heap_setBlock_same hb (.map es1 c1)) (by simp)
  obtain ⟨es2, c2, hrun2, ho⟩ := hst w2 (.int .i64 m) (.held (.int .i64 m)) [] hb2 rfl
  have hsz := size_put (h1.tidy a_keyed) (k := kl) (.held (.int .i64 m))
  refine ⟨_, hrun2, turnedI ⟨es1, c1, es2, c2, hb2, rfl⟩, n + 1, _, by omega, ho, fun j hj kj hkj => ?_, by rw [hsz]; split <;> omega, fun he j k hj hk2 hjk => ?_⟩
  · by_cases e : kj = kl
    · subst e
      exact has_put_same h1.isMap (a_keyed.key hkl) _
    · rw [has_put_other e]
      by_cases hji : j = i
      · subst hji
        rw [hkl] at hkj
        exact absurd (Option.some.inj hkj).symm e
      · exact h2 j (by omega) kj hkj
  · rw [hsz] at he
    have hnew : Maps.has D kl = false := by
      cases hh : Maps.has D kl with
      | false => rfl
      | true => rw [hh] at he; simp at he; omega
    rw [hnew] at he
    simp at he
    have ne : ∀ j, j < i → sumN j ≠ sumN i := fun j hj e => by
      have h5 := h2 j hj kl (by rw [e]; exact hkl)
      rw [hnew] at h5
      cases h5
    by_cases hji : j = i
    · by_cases hki : k = i
      · omega
      · subst hji; exact absurd hjk.symm (ne k (by omega))
    · by_cases hki : k = i
      · subst hki; exact absurd hjk (ne j (by omega))
      · exact h4 he j k (by omega) (by omega) hjk
theorem sm_len {w : World} {b : Nat} (h : SM w b 32) (ty : TypeId) : ∃ s : Nat, (Builtin.len_ #[54] ty #[.map (some b)]).run Tryd.prog w = .ok (.int .i64 s) w ∧ s ≤ 32 ∧ (s = 32 → Dist) := by
  obtain ⟨n, D, h0, h1, h2, h3, h4⟩ := h
  refine ⟨Maps.size D, h1.len Tryd.underlying54 ty, h3, fun he a b ha hb hab => ?_⟩
  have h5 := h4 he a.toNat b.toNat ha hb (by unfold sumN; simpa using hab)
  exact UInt8.toNat_inj.1 h5
end Go.Proofs.YtmkdjonlfkfnlaaDoor


/- A line of bytes that may begin inside its array. -/
namespace Go.Proofs.YtmkdjonlfkfnlaaDoor
open Go.RowKit Go.Lib Go.Maps
/-- v is the line xs; its array lies at g, from base on. -/
def Ln (base g : Nat) (W : World) (v : Value) (xs : List UInt8) : Prop :=
  ∃ off cap, ∃ cur : Array Value, v = .slice (some ⟨g, off, none⟩) xs.length cap ∧ base ≤ g ∧ W.heap[g]? = some (.cells cur 5 (0, 0)) ∧ xs.length ≤ cap ∧ off + cap ≤ cur.size ∧ cap ≤ maxLen ∧ ∀ j u, (xs.map B)[j]? = some u → cur[off + j]? = some u
theorem Ln.kept {base g : Nat} {W W' : World} {v : Value} {xs : List UInt8} {S : List Nat} (h : Ln base g W v xs) (hk : Kept S W W') (hg : g ∉ S) : Ln base g W' v xs := by
  obtain ⟨off, cap, cur, h1, h2, h3, h4⟩ := h
  exact ⟨off, cap, cur, h1, h2, hk.at h3 hg, h4⟩
theorem Ln.lt {base g : Nat} {W : World} {v : Value} {xs : List UInt8} (h : Ln base g W v xs) : base ≤ g ∧ g < W.heap.size := by
  obtain ⟨off, cap, cur, h1, h2, h3, h4⟩ := h
  exact ⟨h2, lt_of_block h3⟩
theorem ln_new (W : World) (base : Nat) (hb : base ≤ W.heap.size) : Ln base W.heap.size (W.alloc (.cells #[] 5)) (.slice (some ⟨W.heap.size, 0, none⟩) 0 0) [] :=
  ⟨0, 0, #[], rfl, hb, heap_alloc_at rfl, by simp, by simp, by unfold maxLen; omega, fun j u h => by simp at h⟩
/-- A row of its own is a line. -/
theorem ln_own {W : World} {base n c g : Nat} {xs : List UInt8} (h : W.ownsRow base 5 1 (.slice (some ⟨g, 0, none⟩) n c) n (xs.map B)) : Ln base g W (.slice (some ⟨g, 0, none⟩) n c) xs := by
  obtain ⟨h1, h2⟩ := h
  simp at h1
  rcases h2 with ⟨h, _⟩ | ⟨g', cap, cur, e, hb, hg, hn, hm, hs, ht⟩
  · cases h
  · cases e
    refine ⟨0, c, cur, by rw [h1], hb, hg, by omega, by omega, hm, fun j u hj => ?_⟩
    rw [← ht] at hj
    simp only [Nat.zero_add]
    have h3 := (List.getElem?_eq_some_iff.1 hj).1
    simp at h3
    rw [List.getElem?_take_of_lt (by omega)] at hj
    simpa using hj
theorem ln_cell {base g : Nat} {W : World} {v : Value} {xs : List UInt8} (h : Ln base g W v xs) : ∃ off cap, v = .slice (some ⟨g, off, none⟩) xs.length cap ∧ xs.length ≤ cap ∧ cap ≤ maxLen ∧ ∀ j u, (xs.map B)[j]? = some u → W.cell? ⟨g, off + j, none⟩ = some u := by
  obtain ⟨off, cap, cur, rfl, h2, h3, h4, h5, h6, h7⟩ := h
  exact ⟨off, cap, rfl, h4, h6, fun j u hj => by rw [cell_of_row _ _ _ _ _ _ h3]; exact h7 j u hj⟩
theorem ln_tail {base g off len cap : Nat} {W : World} {a : UInt8} {xs : List UInt8} (h : Ln base g W (.slice (some ⟨g, off, none⟩) len cap) (a :: xs)) : Ln base g W (.slice (some ⟨g, off + 1, none⟩) (len - 1) (cap - 1)) xs := by
  obtain ⟨off', cap', cur, e, h2, h3, h4, h5, h6, h7⟩ := h
  simp at e
  obtain ⟨rfl, rfl, rfl⟩ := e
  simp at h4
  refine ⟨off + 1, cap - 1, cur, by simp, h2, h3, by omega, by omega, by omega, fun j u hj => ?_⟩
  have h8 := h7 (j + 1) u (by simpa using hj)
  rw [← h8]
  congr 1
  omega
set_option maxHeartbeats 1000000 in
theorem ln_append {base g : Nat} {W : World} {v : Value} {xs : List UInt8} (h : Ln base g W v xs) (hl : xs.length ≤ 1000) (p o c : Nat) (b : UInt8) (hc : W.cell? ⟨p, o, none⟩ = some (B b)) (ty : TypeId) :
    ∃ v' g' W', (Builtin.append_ #[30, 30] ty #[v, .slice (some ⟨p, o, none⟩) 1 c]).run Tryd.prog W = .ok v' W' ∧ Ln base g' W' v' (xs ++ [b]) ∧ Kept [g] W W' ∧ (g' = g ∨ W.heap.size ≤ g') := by
  obtain ⟨j0, hj0, hz0, hz1, hz2⟩ := info_parts info_u8
  obtain ⟨off, cap, cur, rfl, h2, h3, h4, h5, h6, h7⟩ := h
  have hcell : ∀ j u, [B b][j]? = some u → W.cell? ((⟨p, o, none⟩ : Addr).add j) = some u := fun j u hj => by
    cases j with
    | zero => simp at hj; subst hj; rw [Addr.add_lit]; exact hc
    | succ j => simp at hj
  have hsrc : Go.Src Tryd.prog j0.size 30 (.slice (some ⟨p, o, none⟩) 1 c) 1 [B b] W := by
    rw [hz1]
    exact Go.Src.ofSlice W Tryd.underlying30 _ 1 c [B b] rfl hcell (B_oneCell [b])
  by_cases hr : xs.length + 1 ≤ cap
  · have hrun := run_append_room_src W 30 30 ty 5 j0 Tryd.underlying30 hj0 g off xs.length cap _ 1 [B b] hsrc hr
      (fun j hj => by simp at hj; subst hj; rw [hz1, cell_of_row _ _ _ _ _ _ h3]; simp; omega)
      (fun j hj => by simp [World.frozen?, h3])
    refine ⟨_, g, _, hrun, ?_, kset W g _ _, Or.inl rfl⟩
    rw [hz1]
    refine ⟨off, cap, _, by simp, h2, Go.heap_setCell_same W g _ _ _ _ h3, by simpa using hr, by simpa using h5, h6, fun j u hj => ?_⟩
    simp only [Array.getElem?_setIfInBounds]
    by_cases hj2 : j = xs.length
    · subst hj2
      simp at hj
      rw [if_pos (by omega), if_pos (by omega), ← hj]
    · rw [if_neg (by omega)]
      have h8 : j < xs.length := by have := (List.getElem?_eq_some_iff.1 hj).1; simp at this; omega
      refine h7 j u ?_
      rw [List.map_append, List.getElem?_append_left (by simpa using h8)] at hj
      exact hj
  · have hgr := run_append_grow_src W 30 30 ty 5 j0 (.int .u8 0) Tryd.underlying30 hj0 hz0 (some ⟨g, off, none⟩) xs.length cap (xs.map B)
      (run_firstCells_some W.drew j0.size xs.length _ _ _ (xs.map B) (by simp [hz1]) (fun j u hj => by
        have h8 := h7 j u hj
        rw [Addr.add_lit, cell_of_row W.drew _ _ _ _ _ h3]
        exact h8)) _ 1 [B b] hsrc (by omega) (by omega) (growslice_fits (by omega) (by rw [hz2]; omega))
    have hge := grownCap_ge W (xs.length + 1) cap 5
    have hcm : grownCap W (xs.length + 1) cap 5 ≤ maxLen := grownCap_le_maxLen W (xs.length + 1) cap 5 (by unfold maxLen; omega)
    refine ⟨_, W.heap.size, _, hgr, ⟨0, _, _, by simp, by have := lt_of_block h3; omega, heap_alloc_at rfl, by simpa using hge, ?_, hcm, fun j u hj => ?_⟩, ((Kept.refl [g] W).drew).alloc _, Or.inr (Nat.le_refl _)⟩
    · simp [size_zeroCells, Value.cells]
      omega
    · have h8 := (List.getElem?_eq_some_iff.1 hj).1
      simp at h8
      simp only [Nat.zero_add]
      rw [Array.getElem?_append_left (by simp; omega)]
      simpa using hj
/-- A line, or nil. -/
def Lq (base g : Nat) (W : World) (v : Value) (xs : List UInt8) : Prop := Ln base g W v xs ∨ (v = .slice none 0 0 ∧ xs = [] ∧ base ≤ g ∧ g < W.heap.size)
theorem Lq.kept {base g : Nat} {W W' : World} {v : Value} {xs : List UInt8} {S : List Nat} (h : Lq base g W v xs) (hk : Kept S W W') (hg : g ∉ S) : Lq base g W' v xs := by
  rcases h with h | ⟨h1, h2, h3, h4⟩
  · exact Or.inl (h.kept hk hg)
  · exact Or.inr ⟨h1, h2, h3, Nat.lt_of_lt_of_le h4 hk.size⟩
theorem Lq.lt {base g : Nat} {W : World} {v : Value} {xs : List UInt8} (h : Lq base g W v xs) : base ≤ g ∧ g < W.heap.size := by
  rcases h with h | ⟨h1, h2, h3, h4⟩
  · exact h.lt
  · exact ⟨h3, h4⟩
theorem lq_own {W : World} {base base0 n : Nat} {v : Value} {xs : List UInt8} (h : W.ownsRow base0 5 1 v n (xs.map B)) (hle : base ≤ base0) (g0 : Nat) (hb : base ≤ g0) (hg : g0 < W.heap.size) : ∃ g, Lq base g W v xs ∧ (base0 ≤ g ∨ g = g0) := by
  obtain ⟨h1, h2⟩ := id h
  rcases h2 with ⟨rfl, rfl⟩ | ⟨g, cap, cur, rfl, hbg, _⟩
  · exact ⟨g0, Or.inr ⟨rfl, by simpa using h1, hb, hg⟩, Or.inr rfl⟩
  · obtain ⟨o, c, cu, e1, e2, e3⟩ := ln_own h
    exact ⟨g, Or.inl ⟨o, c, cu, e1, by omega, e3⟩, Or.inl hbg⟩
theorem lq_append {base g : Nat} {W : World} {v : Value} {xs : List UInt8} (h : Lq base g W v xs) (hl : xs.length ≤ 1000) (p o c : Nat) (b : UInt8) (hc : W.cell? ⟨p, o, none⟩ = some (B b)) (ty : TypeId) :
    ∃ v' g' W', (Builtin.append_ #[30, 30] ty #[v, .slice (some ⟨p, o, none⟩) 1 c]).run Tryd.prog W = .ok v' W' ∧ Ln base g' W' v' (xs ++ [b]) ∧ Kept [g] W W' ∧ (g' = g ∨ W.heap.size ≤ g') := by
  rcases h with h | ⟨rfl, rfl, h3, h4⟩
  · exact ln_append h hl p o c b hc ty
  · obtain ⟨j0, hj0, hz0, hz1, hz2⟩ := info_parts info_u8
    have hcell : ∀ j u, [B b][j]? = some u → W.cell? ((⟨p, o, none⟩ : Addr).add j) = some u := fun j u hj => by
      cases j with
      | zero => simp at hj; subst hj; rw [Addr.add_lit]; exact hc
      | succ j => simp at hj
    have hsrc : Go.Src Tryd.prog j0.size 30 (.slice (some ⟨p, o, none⟩) 1 c) 1 [B b] W := by
      rw [hz1]
      exact Go.Src.ofSlice W Tryd.underlying30 _ 1 c [B b] rfl hcell (B_oneCell [b])
    have hgr := run_append_grow_src W 30 30 ty 5 j0 (.int .u8 0) Tryd.underlying30 hj0 hz0 none 0 0 []
      (run_firstCells_none W.drew j0.size 0 0 0) _ 1 [B b] hsrc (by omega) (by omega) (growslice_fits (by omega) (by rw [hz2]; omega))
    have hge := grownCap_ge W (0 + 1) 0 5
    have hcm : grownCap W (0 + 1) 0 5 ≤ maxLen := grownCap_le_maxLen W (0 + 1) 0 5 (by unfold maxLen; omega)
    refine ⟨_, W.heap.size, _, hgr, ⟨0, _, _, by simp, by omega, heap_alloc_at rfl, by simpa using hge, ?_, hcm, fun j u hj => ?_⟩, ((Kept.refl [g] W).drew).alloc _, Or.inr (Nat.le_refl _)⟩
    · simp [size_zeroCells, Value.cells]
      omega
    · have h8 := (List.getElem?_eq_some_iff.1 hj).1
      simp at h8
      simp only [Nat.zero_add]
      rw [Array.getElem?_append_left (by simp; omega)]
      simpa using hj
theorem wpList_append_ln {P : Program} {w : World} {ops : Array Oper} {rest : List Oper} {o : Oper} {a : Act} {Q : Exit → Act → World → Prop} (hgd : o.guard = none) (s x : Operand) (t : TypeId)
    (ho : o.op = .call { callee := .builtin .append, args := #[s, x], argTypes := #[t, t] }) (v sv : Value) (hs : a.eval s = v) (hx : a.eval x = sv) (v' : Value) (w' : World)
    (hr : (Builtin.append_ #[t, t] o.type #[v, sv]).run P w = .ok v' w') (h : wpList P ops Q rest (a.put o.dst v') w') : wpList P ops Q (o :: rest) a w := by
  refine wpList_plain hgd fun K hK => ?_
  unfold Oper.wp execOp
  simp only [ho, resolve, invoke, builtin, Sem.run_bind, Sem.run_pure, Result.andThen_ok, List.map_toArray, List.map_cons, List.map_nil, hs, hx, hr]
  exact hK _ _ h
end Go.Proofs.YtmkdjonlfkfnlaaDoor
