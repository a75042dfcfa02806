import Derived.Test.YtdojpioclojalaaDoorMZ
import Derived.Test.YtdojpioclojalaaDoorN3

/- TreeBlobs. -/
namespace Go.Proofs.YtdojpioclojalaaDoor
open Go.RowKit Go.Lib

/-- A guarded operation that is wanted goes on as one without a guard. -/
theorem wpList_wanted {P : Program} {ops : Array Oper} {rest : List Oper} {o : Oper} {a : Act} {w : World} {Q : Exit → Act → World → Prop} (hw : Region.wanted o (yielded ops a.tmps) = true) (h : wpList P ops Q ({ o with guard := none } :: rest) a w) : wpList P ops Q (o :: rest) a w := by
  unfold wpList at h ⊢
  rw [if_pos hw]
  rw [if_pos (by simp [Region.wanted])] at h
  exact h
theorem Nodes.cells {w : World} {a : Option Addr} {c : Nat} {ns : List NodeR} (h : Nodes w a c ns) : ∀ x, a = some x → ∀ (j : Nat) u, (ns.flatMap c36)[j]? = some u → w.cell? (x.add j) = some u := by
  intro x hx j u hj
  have hl : j < ns.length * 36 := by rw [← flat_len c36 36 c36_len ns]; exact (List.getElem?_eq_some_iff.1 hj).1
  have hi : j / 36 < ns.length := by omega
  have e : j = j / 36 * 36 + j % 36 := by omega
  have hx2 : ns[j / 36]? = some ns[j / 36] := List.getElem?_eq_getElem hi
  have hn := h.at_ x hx _ _ hx2
  rw [e] at hj ⊢
  rw [flat_get c36 36 c36_len ns _ _ _ hx2 (Nat.mod_lt _ (by decide)), c36_of hn.2.2.2.2.2.1] at hj
  have := hn.reads _ _ hj
  rw [n_add_add] at this
  exact this
theorem wpList_append_nodes {P : Program} {w : World} {ops : Array Oper} {rest : List Oper} {o : Oper} {a : Act} {Q : Exit → Act → World → Prop} (hgd : o.guard = none) (s x : Operand) (t : TypeId)
    (ho : o.op = .call { callee := .builtin .append, args := #[s, x], argTypes := #[t, t] }) (base : Nat) (e : TypeId) (i : TypeInfo) (z : Value) (bytes : Nat) (ht : P.underlying t = some (.slice e)) (hi : P.info? e = some i) (hz : i.zero = some z)
    (hsize : i.size = 36) (hby : i.bytes = bytes) (hzs : z.cells.size = 36) (v : Value) (n : Nat) (xs : List Value) (hs : a.eval s = v) (hown : w.ownsRow base e 36 v n xs)
    (pa : Option Addr) (pc : Nat) (ns : List NodeR) (hI : Nodes w pa pc ns) (hx : a.eval x = .slice pa ns.length pc)
    (h63 : n + ns.length ≤ maxLen) (hbytes : (n + ns.length) * bytes ≤ 140737488355328) (hbase : base ≤ w.heap.size)
    (h : ∀ v' w', w'.ownsRow base e 36 v' (n + ns.length) (xs ++ ns.flatMap c36) → w.grownBy w' v.ownBlock → (∀ g, v'.ownBlock = some g → v.ownBlock = some g ∨ w.heap.size ≤ g) → wpList P ops Q rest (a.put o.dst v') w') :
    wpList P ops Q (o :: rest) a w := by
  cases pa with
  | none =>
    have h0 := hI.nil rfl
    subst h0
    refine wpList_plain hgd fun K hK => ?_
    have hr := run_append_none_c (P := P) (w := w) base t o.type e i 36 pc ht hi v n xs hown
    unfold Oper.wp execOp
    simp only [ho, resolve, invoke, builtin, Sem.run_bind, Sem.run_pure, Result.andThen_ok, List.map_toArray, List.map_cons, List.map_nil, hs, hx, List.length_nil, hr]
    exact hK _ _ (h v w (by simpa using hown) ⟨rfl, rfl, rfl, Nat.le_refl _, fun _ _ _ => rfl⟩ (fun g hg => Or.inl hg))
  | some y =>
    exact wpList_append_k w hgd s x t ho base e i z 36 bytes ht hi hz hsize hby hzs (by decide) v n xs hs hown (.slice (some y) ns.length pc) ns.length _ hx (Or.inr ⟨y, pc, rfl, hI.cells y rfl⟩) (flat_len c36 36 c36_len ns) (c36_one ns) h63 hbytes hbase
      (fun v' w' h1 h2 _ h4 => h v' w' h1 h2 h4)
/-- What a node of a row is, whichever row it stands in. -/
def NodeOk (W : World) (n : NodeR) : Prop := n.sub.length = 32 ∧ Ids W n.pa n.pc n.parts ∧ -9223372036854775808 ≤ n.size ∧ n.size ≤ 9223372036854775807
theorem Nodes.ok {w : World} {a : Option Addr} {c : Nat} {ns : List NodeR} (h : Nodes w a c ns) : ∀ n ∈ ns, NodeOk w n := by
  intro n hn
  cases a with
  | none => rw [h.nil rfl] at hn; simp at hn
  | some x =>
    obtain ⟨i, hi, he⟩ := List.getElem_of_mem hn
    have h1 := h.at_ x rfl i n (by rw [List.getElem?_eq_getElem hi, he])
    exact ⟨h1.2.2.2.2.2.1, h1.2.2.2.2.2.2.1, h1.2.2.2.2.2.2.2⟩
/-- A row of nodes of the program's type, from its cells. -/
theorem tnodes_of_row {W : World} {base : Nat} {a : Option Addr} {c : Nat} {ns : List NodeR} (hok : ∀ n ∈ ns, NodeOk W n)
    (ho : W.ownsRow base 42 36 (.slice a ns.length c) ns.length (ns.flatMap c36)) : Nodes W a c ns := by
  rcases ho.2 with ⟨h1, h2⟩ | ⟨g, cap, cur, hv, hg, hh, hc, hm, hs, ht⟩
  · simp at h1
    obtain ⟨rfl, h1, rfl⟩ := h1
    have h3 : ns = [] := List.eq_nil_of_length_eq_zero h2
    subst h3
    exact ⟨by simp, by omega, fun _ => rfl, fun x hx => by simp at hx⟩
  · simp at hv
    obtain ⟨rfl, rfl⟩ := hv
    refine ⟨by omega, by unfold maxLen at hm; omega, fun h => by simp at h, fun x hx i n hn => ?_⟩
    simp at hx
    subst hx
    obtain ⟨k32, kid, kz⟩ := hok n (List.mem_of_getElem? hn)
    have hcell : ∀ (j : Nat) v, n.cells[j]? = some v → W.cell? ((Addr.add ⟨g, 0, none⟩ (i * 36)).add j) = some v := by
      intro j v hj
      have hj36 : j < 36 := by have := (List.getElem?_eq_some_iff.1 hj).1; rw [node_size n k32] at this; exact this
      rw [n_add_add]
      refine ho.cells (g := g) rfl _ _ ?_
      rw [flat_get c36 36 c36_len ns i j n hn hj36, c36_of k32, hj]
    refine ⟨?_, hcell 1 _ n.c1, hcell 2 _ n.c2, hcell 3 _ n.c3, fun k b hk => hcell (4 + k) _ (n.c4 k b hk), k32, kid, kz⟩
    have h0 := hcell 0 _ n.c0
    have e : (Addr.add ⟨g, 0, none⟩ (i * 36)).add 0 = Addr.add ⟨g, 0, none⟩ (i * 36) := by simp [Addr.add]
    rw [e] at h0
    exact h0
theorem sums_few {ns : List NodeR} (h : ∀ n ∈ ns, n.few) : (sumsR ns).length ≤ ns.length * 4200 := by
  induction ns with
  | nil => simp [sumsR, sumsL]
  | cons n r ih =>
    have h1 := ih (fun m hm => h m (by simp [hm]))
    have h2 := h n (by simp)
    have h3 : (sumsR [n]).length ≤ 4200 := by
      rw [sumsR_one]
      unfold NodeR.few at h2
      split
      · simp
      · omega
    rw [show n :: r = [n] ++ r from rfl, sumsR_append, List.length_append, List.length_append, List.length_singleton]
    omega
theorem row0 {w : World} {g : Nat} {T : TypeId} {k : Nat} (hh : w.heap[g]? = some (.cells #[] T (0, 0))) (b : Nat) (hb : b ≤ g) : w.ownsRow b T k (.slice (some ⟨g, 0, none⟩) 0 0) 0 [] :=
  ⟨by simp, Or.inr ⟨g, 0, #[], rfl, hb, hh, by simp, by unfold maxLen; omega, by simp, by simp⟩⟩

set_option maxRecDepth 100000 in
set_option maxHeartbeats 8000000 in
theorem tree_blobs (a b : Option Addr) (c d : Nat) (ns ms : List NodeR) (w : World) (h : ∀ wr, Kept [] w wr → Nodes wr a c ns) (h' : ∀ wr, Kept [] w wr → Nodes wr b d ms) (ht : Tab w) :
    Calls Tryd.prog 5 #[.slice a ns.length c, .slice b ms.length d] w fun e w' => e = .returned (.bool true) ∧ Kept [] w w' := by
  have hzv := zero_node
  have hal := hid (alive10 w ht)
  have H := hid h; have HM := hid h'
  have hmx := (h w (Kept.refl [] w)).max
  have hle := (h w (Kept.refl [] w)).le
  obtain ⟨i0, hi0, hz0, hz1, hz2⟩ := info_parts id_zero
  obtain ⟨j0, hj0, hy0, hy1, hy2⟩ := info_parts node_zero'
  clear h h' ht
  go_enter Tryd.func5, Tryd.ntmps5
  go_wp2_with fail
  refine hal.out.mono ?_
  rintro e w1 ⟨rfl, k1⟩
  have K1 := hid k1
  have hfw := hid (few10_any a c ns w1 (fun wr hk => H.out wr (k1.trans hk)))
  clear k1 hal
  go_wp2_with fail
  refine hfw.out.mono ?_
  rintro e w2 ⟨rfl, k2⟩
  have K2 := hid (K1.out.trans k2)
  clear k2 hfw
  by_cases hF : Few ns
  rotate_left
  · rw [decide_eq_false hF]
    clear hF
    go_wp2
    go_ret
    exact ⟨rfl, K2.out⟩
  rw [decide_eq_true hF]
  have hfm := hid (few10_any b d ms w2 (fun wr hk => HM.out wr (K2.out.trans hk)))
  have hsn := hid (show (sumsR ns).length ≤ 3000000 ∧ ns.length ≤ 600 by have h1 := sums_few hF.1; have h2 := hF.2; omega)
  clear hF
  go_wp2_with fail
  refine hfm.out.mono ?_
  rintro e w3 ⟨rfl, k3⟩
  have K3 := hid (K2.out.trans k3)
  clear k3 hfm
  by_cases hF : Few ms
  rotate_left
  · rw [decide_eq_false hF]
    clear hF
    go_wp2
    go_ret
    exact ⟨rfl, K3.out⟩
  rw [decide_eq_true hF]
  have hsm := hid (show (sumsR ms).length ≤ 3000000 ∧ ms.length ≤ 600 by have h1 := sums_few hF.1; have h2 := hF.2; omega)
  clear hF
  have hbd := hid (sumsR_take ns)
  have hst := hid (show (w3.alloc (.cells #[] 40)).ownsRow w.heap.size 40 32 (.slice (some ⟨w3.heap.size, 0, none⟩) 0 0) 0 [] from row0 (heap_alloc_at rfl) _ K3.out.size)
  have K3a := hid (K3.out.alloc (.cells #[] 40))
  go_wp2_with fail
  go_loopw [5, 24] (fun v s wr => ∃ i : Nat, i ≤ ns.length ∧ s = .int .i64 i ∧ Kept [] w wr ∧ Hid (wr.ownsRow w.heap.size 40 32 v (sumsR (ns.take i)).length ((sumsR (ns.take i)).flatMap e32))) (fun _ s _ => ns.length - (intOf s).toNat)
  case atStart => exact ⟨0, Nat.zero_le _, rfl, K3a.out, hid (by simpa [sumsR, sumsL] using hst.out)⟩
  case round =>
    obtain ⟨i, hi, rfl, hk, hown⟩ := hrel
    have HK := hid hk
    clear hk
    by_cases hlt : i < ns.length
    · cases a with
      | none => exact absurd ((H.out w (Kept.refl _ _)).nil rfl) (fun e => by rw [e] at hlt; simp at hlt)
      | some x =>
        have hnode := (H.out wr HK.out).at_ x rfl i ns[i] (by simp [hlt])
        have htk := hid (show sumsR (ns.take (i + 1)) = sumsR (ns.take i) ++ (if ns[i].dir = true then [ns[i].sub] else ns[i].parts) from by
          rw [List.take_succ_eq_append_getElem hlt, sumsR_append, sumsR_one])
        have hb1 := hid (hbd.out (i + 1))
        have hlt2 := hid hlt
        generalize ns[i] = n at *
        have h32 := hid hnode.2.2.2.2.2.1
        have hids := hid hnode.2.2.2.2.2.2.1
        have hreads := hid hnode.reads
        have hsz := hid (show (Tryd.prog.info? 42).map (·.size) = some n.cells.length by rw [node_size n h32.out]; exact node_info)
        have hfit := hid (show 0 + n.cells.length ≤ zNode.length by rw [node_size n h32.out, zNode_len]; decide)
        have hone := hid (node_one n)
        have hspl := hid (splice36 zNode n.cells (by rw [node_size n h32.out, zNode_len]))
        clear hnode
        obtain ⟨S0, hS0⟩ : ∃ S0, S0 = sumsR (ns.take i) := ⟨_, rfl⟩
        rw [← hS0] at hown htk
        go_wp2_with (refine wpList_load_cells rfl 42 (.tmp 26) rfl (x.add (i * 36)) rfl n.cells _ Tryd.underlying42 rfl hsz.out hreads.out ?_; refine halt ?_)
        refine Halt.mk ?_
        go_wp2_with (refine wpList_store_at rfl 42 (.tmp 7) (.tmp 27) rfl wr.heap.size 0 n.cells rfl rfl 42 zNode (heap_alloc_at rfl) hsz.out hfit.out hone.out ?_; refine halt ?_)
        rw [hspl.out]
        obtain ⟨wb, hwb⟩ : ∃ wb : World, wb = (wr.alloc (.cells zNode.toArray 42)).setRow wr.heap.size n.cells.toArray := ⟨_, rfl⟩
        rw [← hwb]
        refine Halt.mk ?_
        have hkr := hid (show Kept [] wr wb by rw [hwb]; exact ((Kept.refl [] wr).alloc _).setRow (fun h => absurd h (Nat.lt_irrefl _)) _)
        have hqb : NAt wb wr.heap.size n := by rw [hwb]; exact setRow_heap _ _ _ _ _ _ (heap_alloc_at rfl)
        have HA := hid hqb
        have c1 := hqb.cell 1 _ n.c1
        have c3 := hqb.cell 3 _ n.c3
        have ho2 := hid (hkr.out.owns hown.out (by simp))
        have hidb := hid (hids.out.kept hkr.out (by simp))
        have hsb := hid (show w.heap.size ≤ wb.heap.size by have h1 := HK.out.size; have h2 := hkr.out.size; omega)
        clear hwb hreads hqb
        obtain ⟨d, hd⟩ : ∃ d, d = n.dir := ⟨_, rfl⟩
        rw [← hd] at c1 htk
        clear hd
        cases d
        · have htk2 := hid (show sumsR (ns.take (i + 1)) = S0 ++ n.parts by rw [htk.out, if_neg (by simp)])
          have hm := hid (show S0.length + n.parts.length ≤ 100000000 from by
            have h1 := hb1.out; rw [htk2.out, List.length_append] at h1; have := hsn.out; omega)
          go_wp2_with (at_builtin; refine halt ?_)
          refine Halt.mk ?_
          refine wpList_append_ids rfl _ _ _ rfl w.heap.size 40 i0 _ 32 Tryd.underlying38 hi0 hz0 hz1 hz2 (by rw [Value.cells]; rfl) u5 S0.length _ rfl ho2.out n.pa n.pc n.parts hidb.out rfl (by have := hm.out; unfold maxLen; omega) (by have := hm.out; omega) hsb.out ?_
          intro v2 w2 hown2 hgrow2 hf2
          have hk2 := hid (show Kept [] w w2 from (HK.out.trans hkr.out).trans' (Kept.of_row hgrow2) (fun y hy hm => by
            rw [Option.mem_toList] at hm
            have := (own_block_lt hown.out hm).1; omega))
          rw [← List.length_append, ← List.flatMap_append, ← htk2.out] at hown2
          have Ho := hid hown2
          have hin := hlt2.out
          clear hown2 hgrow2 hf2 c1 c3
          go_wp2
          go_roundw
          case rel => exact ⟨i + 1, hin, by go_num, hk2.out, Ho⟩
          case measure => simp [intOf]; omega
        · have htk2 := hid (show sumsR (ns.take (i + 1)) = S0 ++ [n.sub] by rw [htk.out, if_pos rfl])
          have hm := hid (show S0.length + 1 ≤ 100000000 from by
            have h1 := hb1.out; rw [htk2.out, List.length_append, List.length_singleton] at h1; have := hsn.out; omega)
          have hsub := hid (HA.out.sub h32.out).reads
          have hszi := hid (show (Tryd.prog.info? 40).map (·.size) = some (n.sub.map B).length by rw [List.length_map, h32.out]; exact ninfo32)
          have hbn := hid (build_id n.sub h32.out)
          go_wp2_with (first | (refine wpList_load_cells rfl 40 (.tmp 31) rfl ⟨wr.heap.size, 4, none⟩ rfl (n.sub.map B) _ Tryd.underlying40 rfl hszi.out hsub.out ?_) | (refine wpList_buildSlice1 rfl _ _ _ rfl (.slice (some ⟨wb.heap.size, 0, none⟩) 1 1) (wb.alloc (.cells (n.sub.map B).toArray 40)) (by have h := hbn.out wb; unfold execOp; simp [Act.eval, Act.put, h]) ?_; refine halt ?_))
          refine Halt.mk ?_
          obtain ⟨wc, hwc⟩ : ∃ wc : World, wc = wb.alloc (.cells (n.sub.map B).toArray 40) := ⟨_, rfl⟩
          rw [← hwc]
          have hkc := hid (show Kept [] wr wc from by rw [hwc]; exact hkr.out.alloc _)
          have hnew := hid (show ∀ (j : Nat) u, (e32 n.sub)[j]? = some u → wc.cell? ((⟨wb.heap.size, 0, none⟩ : Addr).add j) = some u from by
            intro j u hj
            rw [e32_of h32.out] at hj
            have e : (⟨wb.heap.size, 0, none⟩ : Addr).add j = ⟨wb.heap.size, j, none⟩ := by unfold Addr.add; split <;> simp_all
            rw [e, hwc, cell_of_row _ _ j _ _ _ (heap_alloc_at rfl)]; simpa using hj)
          have ho3 := hid (hkc.out.owns hown.out (by simp))
          have hsc := hid (show w.heap.size ≤ wc.heap.size by have h1 := HK.out.size; have h2 := hkc.out.size; omega)
          clear hwc c1 c3
          go_wp2_with (at_builtin; refine halt ?_)
          refine Halt.mk ?_
          refine wpList_append_k _ rfl _ _ _ rfl w.heap.size 40 i0 _ 32 32 Tryd.underlying38 hi0 hz0 hz1 hz2 (by rw [Value.cells]; rfl) (by decide) u5 S0.length _ rfl ho3.out (.slice (some ⟨wb.heap.size, 0, none⟩) 1 1) 1 (e32 n.sub) rfl (Or.inr ⟨_, _, rfl, hnew.out⟩) (by rw [e32_len]) (by have := e32_one [n.sub]; simpa using this) (by have := hm.out; unfold maxLen; omega) (by have := hm.out; omega) hsc.out ?_
          intro v2 w2 hown2 hgrow2 _ hf2
          have hk2 := hid (show Kept [] w w2 from (HK.out.trans hkc.out).trans' (Kept.of_row hgrow2) (fun y hy hm => by
            rw [Option.mem_toList] at hm
            have := (own_block_lt hown.out hm).1; omega))
          rw [show S0.length + 1 = (S0 ++ [n.sub]).length by simp, show S0.flatMap e32 ++ e32 n.sub = (S0 ++ [n.sub]).flatMap e32 by simp, ← htk2.out] at hown2
          have Ho := hid hown2
          have hin := hlt2.out
          clear hown2 hgrow2 hf2
          go_wp2
          go_roundw
          case rel => exact ⟨i + 1, hin, by go_num, hk2.out, Ho⟩
          case measure => simp [intOf]; omega
    · have hin : i = ns.length := by omega
      subst hin
      rw [List.take_length] at hown
      obtain ⟨a2, c2, rfl⟩ := owns_slice hown.out
      have hall := hid (show (∀ id ∈ sumsR ns, id.length = 32) ∧ ∀ id ∈ sumsR ms, id.length = 32 from by
        have hgen : ∀ (l : List NodeR) (pa : Option Addr) (pc : Nat), Nodes w pa pc l → ∀ id ∈ sumsR l, id.length = 32 := by
          intro l pa pc hN id hid
          unfold sumsR sumsL at hid
          obtain ⟨m, hm, hs⟩ := List.mem_flatMap.1 hid
          obtain ⟨n, hn, rfl⟩ := List.mem_map.1 hm
          obtain ⟨q1, q2, _⟩ := hN.ok n hn
          unfold Nd.sums at hs
          split at hs
          · simp at hs; subst hs; exact q1
          · exact q2.h32 id hs
        exact ⟨hgen ns a c (H.out w (Kept.refl _ _)), hgen ms b d (HM.out w (Kept.refl _ _))⟩)
      have hrow := hid (fun (wv : World) (hv : Kept [] wr wv) => (ids_of_row hall.out.1 (hv.owns hown.out (by simp))).1)
      have hb1 := hid (t_lblobs a c ns 1073741824 wr (fun wv hv => H.out wv (HK.out.trans hv)) (by have := hsn.out; omega) (by decide) (by decide))
      rw [List.take_of_length_le (show (sumsR ns).length ≤ 1073741824 by have := hsn.out; omega)] at hb1
      clear hlt hi hle hown
      go_wp2_with fail
      refine hb1.out.mono ?_
      rintro e w4 ⟨ax, cx, rfl, k4, ho4⟩
      have K4 := hid (HK.out.trans k4)
      have hrx := hid (fun (wv : World) (hv : Kept [] w4 wv) => (ids_of_row hall.out.1 (hv.owns ho4 (by simp))).1)
      have hre := hid (fun (wv : World) (hv : Kept [] w4 wv) => hrow.out wv (k4.trans hv))
      have hb2 := hid (t_lblobs b d ms 1073741824 w4 (fun wv hv => HM.out wv (K4.out.trans hv)) (by have := hsm.out; omega) (by decide) (by decide))
      rw [List.take_of_length_le (show (sumsR ms).length ≤ 1073741824 by have := hsm.out; omega)] at hb2
      clear k4 ho4 hb1 hrow
      go_wp2_with fail
      refine hb2.out.mono ?_
      rintro e w5 ⟨ay, cy, rfl, k5, ho5⟩
      have K5 := hid (K4.out.trans k5)
      have hry := hid (fun (wv : World) (hv : Kept [] w5 wv) => (ids_of_row hall.out.2 (hv.owns ho5 (by simp))).1)
      have hrx5 := hid (fun (wv : World) (hv : Kept [] w5 wv) => hrx.out wv (k5.trans hv))
      have hre5 := hid (fun (wv : World) (hv : Kept [] w5 wv) => hre.out wv (k5.trans hv))
      clear k5 ho5 hb2 hrx hre
      have K5a := hid (K5.out.alloc (.cells #[] 42))
      have k5a := hid ((Kept.refl [] w5).alloc (.cells #[] 42))
      have hr0 := hid (show (w5.alloc (.cells #[] 42)).ownsRow w5.heap.size 42 36 (.slice (some ⟨w5.heap.size, 0, none⟩) 0 0) 0 [] from row0 (heap_alloc_at rfl) _ (Nat.le_refl _))
      go_wp2_with (at_builtin; refine halt ?_)
      refine Halt.mk ?_
      refine wpList_append_nodes rfl _ _ _ rfl w5.heap.size 42 j0 _ 88 Tryd.underlying22 hj0 hy0 hy1 hy2 (by rw [Value.cells, List.size_toArray, zNode_len]) _ 0 [] rfl hr0.out a c ns (H.out _ K5a.out) rfl (by have := hsn.out; unfold maxLen; omega) (by have := hsn.out; omega) (by simp) ?_
      intro v6 w6 hown6 hgrow6 _
      have k6 := hid (show Kept [] w5 w6 from k5a.out.trans' (Kept.of_row hgrow6) (fun y hy hm => by rw [Option.mem_toList] at hm; have := (own_block_lt hr0.out hm).1; omega))
      simp only [Nat.zero_add, List.nil_append] at hown6
      obtain ⟨a6, c6, rfl⟩ := owns_slice hown6
      have ho6 := hid hown6
      clear hown6 hgrow6 hr0 k5a K5a
      go_wp2_with (at_builtin; refine halt ?_)
      refine Halt.mk ?_
      refine wpList_append_nodes rfl _ _ _ rfl w5.heap.size 42 j0 _ 88 Tryd.underlying22 hj0 hy0 hy1 hy2 (by rw [Value.cells, List.size_toArray, zNode_len]) (.slice a6 ns.length c6) ns.length _ rfl ho6.out b d ms (HM.out _ (K5.out.trans k6.out)) rfl (by have := hsn.out; have := hsm.out; unfold maxLen; omega) (by have := hsn.out; have := hsm.out; omega) k6.out.size ?_
      intro v7 w7 hown7 hgrow7 _
      have k7 := hid (show Kept [] w5 w7 from k6.out.trans' (Kept.of_row hgrow7) (fun y hy hm => by rw [Option.mem_toList] at hm; have := (own_block_lt ho6.out hm).1; omega))
      rw [← List.length_append, ← List.flatMap_append] at hown7
      obtain ⟨a7, c7, rfl⟩ := owns_slice hown7
      have K7 := hid (K5.out.trans k7.out)
      have hn7 := hid (fun (wv : World) (hv : Kept [] w7 wv) => tnodes_of_row (ns := ns ++ ms) (fun n hn => by
        rcases List.mem_append.1 hn with hn | hn
        · exact (H.out wv (K7.out.trans hv)).ok n hn
        · exact (HM.out wv (K7.out.trans hv)).ok n hn) (hv.owns hown7 (by simp)))
      have hb3 := hid (t_lblobs a7 c7 (ns ++ ms) 1073741824 w7 hn7.out (by rw [sumsR_append, List.length_append]; have := hsn.out; have := hsm.out; omega) (by decide) (by decide))
      rw [List.take_of_length_le (show (sumsR (ns ++ ms)).length ≤ 1073741824 by rw [sumsR_append, List.length_append]; have := hsn.out; have := hsm.out; omega)] at hb3
      obtain ⟨bl, hbl⟩ : ∃ bl, bl = ns ++ ms := ⟨_, rfl⟩
      have hsb := hid (show sumsR bl = sumsR ns ++ sumsR ms by rw [hbl, sumsR_append])
      rw [← hbl] at hb3 ⊢
      clear hown7 hgrow7 ho6 k6 hn7 hbl
      go_wp2_with fail
      refine hb3.out.mono ?_
      rintro e w8 ⟨az, cz, rfl, k8, ho8⟩
      rw [hsb.out] at ho8 ⊢
      have K8 := hid (K7.out.trans k8)
      have k58 := hid (k7.out.trans k8)
      have hrz := hid (fun (wv : World) (hv : Kept [] w8 wv) => (ids_of_row (ids := sumsR ns ++ sumsR ms) (fun id hm => by
        rcases List.mem_append.1 hm with hm | hm
        · exact hall.out.1 id hm
        · exact hall.out.2 id hm) (hv.owns ho8 (by simp))).1)
      have hs1 := hid (sameids_any ax a2 cx c2 (sumsR ns) (sumsR ns) w8 (fun wv hv => hrx5.out wv (k58.out.trans hv)) (fun wv hv => hre5.out wv (k58.out.trans hv)))
      clear k8 ho8 hb3 k7
      go_wp2_with fail
      refine hs1.out.mono ?_
      rintro e w9 ⟨rfl, k9⟩
      simp only [decide_true]
      have K9 := hid (K8.out.trans k9)
      have hk9 := hid k9
      have hr9 := hid (show (w9.alloc (.cells #[] 40)).ownsRow w9.heap.size 40 32 (.slice (some ⟨w9.heap.size, 0, none⟩) 0 0) 0 [] from row0 (heap_alloc_at rfl) _ (Nat.le_refl _))
      have k9a := hid ((Kept.refl [] w9).alloc (.cells #[] 40))
      clear k9 hs1
      go_wp2_with (at_builtin; refine halt ?_)
      refine Halt.mk ?_
      refine wpList_wanted (by rfl) ?_
      refine wpList_append_ids rfl _ _ _ rfl w9.heap.size 40 i0 _ 32 Tryd.underlying38 hi0 hz0 hz1 hz2 (by rw [Value.cells]; rfl) _ 0 [] rfl hr9.out ax cx (sumsR ns) (hrx5.out _ (k58.out.trans (hk9.out.trans k9a.out))) rfl (by have := hsn.out; unfold maxLen; omega) (by have := hsn.out; omega) (by simp) ?_
      intro v10 w10 hown10 hgrow10 _
      have k10 := hid (show Kept [] w9 w10 from k9a.out.trans' (Kept.of_row hgrow10) (fun y hy hm => by rw [Option.mem_toList] at hm; have := (own_block_lt hr9.out hm).1; omega))
      simp only [Nat.zero_add, List.nil_append] at hown10
      obtain ⟨a10, c10, rfl⟩ := owns_slice hown10
      have ho10 := hid hown10
      clear hown10 hgrow10 hr9 k9a
      go_wp2_with (at_builtin; refine halt ?_)
      refine Halt.mk ?_
      refine wpList_wanted (by rfl) ?_
      refine wpList_append_ids rfl _ _ _ rfl w9.heap.size 40 i0 _ 32 Tryd.underlying38 hi0 hz0 hz1 hz2 (by rw [Value.cells]; rfl) (.slice a10 (sumsR ns).length c10) (sumsR ns).length _ rfl ho10.out ay cy (sumsR ms) (hry.out _ (k58.out.trans (hk9.out.trans k10.out))) rfl (by have := hsn.out; have := hsm.out; unfold maxLen; omega) (by have := hsn.out; have := hsm.out; omega) k10.out.size ?_
      intro v11 w11 hown11 hgrow11 _
      have k11 := hid (show Kept [] w9 w11 from k10.out.trans' (Kept.of_row hgrow11) (fun y hy hm => by rw [Option.mem_toList] at hm; have := (own_block_lt ho10.out hm).1; omega))
      rw [← List.length_append, ← List.flatMap_append] at hown11
      obtain ⟨a11, c11, rfl⟩ := owns_slice hown11
      have hs2 := hid (sameids_any az a11 cz c11 (sumsR ns ++ sumsR ms) (sumsR ns ++ sumsR ms) w11 (fun wv hv => hrz.out wv (hk9.out.trans (k11.out.trans hv))) (fun wv hv => (ids_of_row (ids := sumsR ns ++ sumsR ms) (fun id hm => by
        rcases List.mem_append.1 hm with hm | hm
        · exact hall.out.1 id hm
        · exact hall.out.2 id hm) (hv.owns hown11 (by simp))).1))
      rw [List.length_append] at hs2
      clear hown11 hgrow11 ho10 k10
      go_wp2_with fail
      refine hs2.out.mono ?_
      rintro e w12 ⟨rfl, k12⟩
      simp only [decide_true]
      have K12 := hid (K9.out.trans (k11.out.trans k12))
      clear k12 hs2
      go_wp2
      go_ret
      exact ⟨rfl, K12.out⟩
end Go.Proofs.YtdojpioclojalaaDoor
