import Derived.Test.YtmholofhmpplcaaMQ3

/- ObjectRooms. -/
namespace Go.Proofs.Ytmholofhmpplcaa
open Go.RowKit Go.Lib Go.Maps Go.Sort

/-- How many bytes those names have. -/
def sumL (es : List Ent) (ss : List (List UInt8)) : Nat := (ss.map fun x => (lookB x es).length).sum
theorem sum_perm {l l' : List Nat} (h : l.Perm l') : l.sum = l'.sum := by
  induction h with
  | nil => rfl
  | cons a _ ih => simp [ih]
  | swap a b r => simp; omega
  | trans _ _ ih1 ih2 => exact ih1.trans ih2
theorem sumL_perm {es : List Ent} (hr : Rising es) {ss : List (List UInt8)} (h : ss.Perm (es.map (·.name))) : sumL es ss = sizeE es := by
  unfold sumL
  rw [sum_perm (h.map _), List.map_map]
  unfold sizeE
  congr 1
  apply List.map_congr_left
  intro e he
  show (lookB e.name es).length = e.b.length
  unfold lookB
  rw [find_unique hr he]
theorem sumL_le (es : List Ent) (ss : List (List UInt8)) : sumL es ss ≤ ss.length * sizeE es := by
  unfold sumL
  induction ss with
  | nil => simp
  | cons x r ih =>
    have h1 : (lookB x es).length ≤ sizeE es := by
      unfold lookB
      cases hf : findE x es with
      | none => simp
      | some e => exact sizeE_mem (find_mem hf).1
    simp only [List.map_cons, List.sum_cons, List.length_cons, Nat.succ_mul]
    omega
/-- What a range over the texts has reckoned. -/
def SumI (w v1 : World) (p bx b : Nat) (q : Int) (es : List Ent) (U : List Nat) (v : Value) (wr : World) : Prop :=
  ∃ left cnt ss kk, wr.ranges Try.prog 9 heldR b v1.heap.size (es.map texted).length (DM (es.map texted)) left cnt ∧ Collected (DM (es.map texted)) left ss ∧ ss.length + cnt ≤ (es.map texted).length ∧ Ob wr U p 58 [] q es (.pointer none) [] kk ∧ kk ≤ 60 + ss.length ∧
    wr.heap[bx]? = some (.cells #[.pointer (some ⟨p, 0, none⟩)] 26 (0, 0)) ∧ Kept [] w wr ∧ v1.heap.size ≤ wr.heap.size ∧ v = .int .i64 (sumL es ss : Int)
theorem text_at {hs es : List Ent} {x : List UInt8} {v : Value} {y : DataW Value × List MemPlace} (hhs : hs = es.map texted) (hv : heldR v = some y) (hat : ∀ zd, (DM hs).atKey (.string x) zd = y.1) : ∃ e, findE x es = some e ∧ v = .string (S e.b) := by
  subst hhs
  unfold heldR at hv
  simp at hv
  subst hv
  cases hf : findE x es with
  | none =>
    have h1 := hat (.held (.bool true)); have h2 := hat (.held (.bool false))
    rw [DM_at, find_texted, hf] at h1 h2
    simp at h1 h2
    rw [← h1] at h2
    simp at h2
  | some e =>
    have h1 := hat (.held undef)
    rw [DM_at, find_texted, hf] at h1
    simp at h1
    exact ⟨e, rfl, by rw [← h1]; rfl⟩

end Go.Proofs.Ytmholofhmpplcaa


/- []bool as an argument: the handed row, opened to cells. -/
namespace Go.Proofs.Ytmholofhmpplcaa
open Go.ChangeShapes Go.WideShapes Go.ChangeAt Go.RowKit Go.Deep Go.Lib

def IsBools (w : World) (a : Option Addr) (cap : Nat) (fl : List Bool) : Prop := Src w (.slice a fl.length cap) fl.length (fl.map .bool)
theorem open_bools {H : Type} {enc : TypeId × Value → H} {w : World} {base : Nat} {held : Bool} {fuel : Nat} {a : Option Addr} {len cap : Nat} {y : DataW H × List MemPlace} (h : DataW.trod enc Try.prog w base (fun _ => true) held fuel 22 [.slice a len cap] = some y) :
    ∃ fl : List Bool, fl.length = len ∧ IsBools w a cap fl ∧ len ≤ 9223372036854775807 := by
  have hC : Try.prog.cellsOf 4 = 1 := by kernel_rfl
  rcases open_slice Try.underlying22 h with ⟨hcs, _⟩ | ⟨x, l, c, m, n, D, Pl, hcs, hb, hl, hm, hmm, _, hi⟩
  · simp at hcs
    obtain ⟨rfl, rfl, rfl⟩ := hcs
    exact ⟨[], rfl, Or.inl ⟨rfl, rfl, rfl⟩, by omega⟩
  · simp at hcs
    obtain ⟨rfl, rfl, rfl⟩ := hcs
    obtain ⟨fl, hol, hfl⟩ := list_of6 (p := fun i (o : Bool) => w.cell? (x.add i) = some (.bool o)) len (fun i hil => by
      obtain ⟨cs, hc, ht⟩ := hi i (by simp at hmm; omega)
      rw [hC] at hc
      obtain ⟨_, hcl, hat⟩ := World.cells?_some hc
      match cs, hcl with
      | [v0], _ =>
        have c0 := hat 0 (by omega)
        obtain ⟨d, e0, _⟩ := DataW.trod_bool Try.underlying4 ht
        simp at e0 c0
        subst e0
        refine ⟨d, ?_⟩
        have e1 : (x.add i).add 0 = x.add i := by unfold Addr.add; simp
        rw [Nat.mul_one] at *
        first | exact c0 | (rw [e1] at c0; exact c0) | (simpa [e1] using c0))
    refine ⟨fl, hol, Or.inr ⟨x, cap, by rw [hol], fun j u hj => ?_⟩, by unfold maxLen at hm; omega⟩
    rw [List.getElem?_map] at hj
    cases hf : fl[j]? with
    | none => rw [hf] at hj; simp at hj
    | some d => rw [hf] at hj; simp at hj; rw [← hj]; exact hfl j d hf
end Go.Proofs.Ytmholofhmpplcaa
