
/- cold: a thing's stay ends; whether there is such a thing. -/
import Derived.Test.YtnkolgamnakegaaY2
namespace Go.Proofs.Ytnkolgamnakegaa
open Go.RowKit Go.Lib Go.Maps

/-- Of an entry its name alone. -/
def nmE (e : Ent) : Ent := ⟨e.name, undef, []⟩
theorem del_nmE (nm : List UInt8) (es : List Ent) : delE nm (es.map nmE) = (delE nm es).map nmE := by
  unfold delE
  rw [List.filter_map]
  rfl
theorem ins_nmE (x : Ent) (es : List Ent) : insE (nmE x) (es.map nmE) = (insE x es).map nmE := by
  induction es with
  | nil => rfl
  | cons e r ih =>
    simp only [List.map_cons, insE]
    have e1 : (nmE e).name = e.name := rfl
    have e2 : (nmE x).name = x.name := rfl
    rw [e1, e2]
    split
    · rfl
    · rw [List.map_cons, ih]
theorem put_nmE (x : Ent) (es : List Ent) : putE (nmE x) (es.map nmE) = (putE x es).map nmE := by
  unfold putE
  rw [show (nmE x).name = x.name from rfl, del_nmE, ins_nmE]
theorem nmE_of {es fs : List Ent} : es.map (·.name) = fs.map (·.name) ↔ es.map nmE = fs.map nmE := by
  have e1 : ∀ l : List Ent, l.map nmE = (l.map (·.name)).map (fun n => (⟨n, undef, []⟩ : Ent)) := fun l => by rw [List.map_map]; rfl
  have e2 : ∀ l : List Ent, l.map (·.name) = (l.map nmE).map (·.name) := fun l => by rw [List.map_map]; rfl
  constructor
  · intro h; rw [e1, e1, h]
  · intro h; rw [e2 es, e2 fs, h]
theorem names_put {x y : Ent} {es fs : List Ent} (hxy : x.name = y.name) (h : es.map (·.name) = fs.map (·.name)) : (putE x es).map (·.name) = (putE y fs).map (·.name) := by
  rw [nmE_of] at h ⊢
  rw [← put_nmE, ← put_nmE, h]
  have : nmE x = nmE y := by unfold nmE; rw [hxy]
  rw [this]
theorem names_del (nm : List UInt8) {es fs : List Ent} (h : es.map (·.name) = fs.map (·.name)) : (delE nm es).map (·.name) = (delE nm fs).map (·.name) := by
  rw [nmE_of] at h ⊢
  rw [← del_nmE, ← del_nmE, h]
theorem names_find {es fs : List Ent} (h : es.map (·.name) = fs.map (·.name)) (nm : List UInt8) : (findE nm es).isSome = (findE nm fs).isSome := by
  have key : ∀ l : List Ent, (findE nm l).isSome = (l.map (·.name)).contains nm := by
    intro l
    induction l with
    | nil => rfl
    | cons e r ih =>
      unfold findE at ih ⊢
      rw [List.find?_cons, List.map_cons, List.contains_cons]
      cases hq : (e.name == nm)
      · have : (nm == e.name) = false := by
          rw [← hq]; exact Bool.beq_comm
        rw [this]
        simpa using ih
      · have : (nm == e.name) = true := by
          rw [← hq]; exact Bool.beq_comm
        rw [this]
        rfl
  rw [key, key, h]
theorem IsSt.del {ss : List Ent} (h : IsSt ss) (nm : List UInt8) : IsSt (delE nm ss) := fun e he => h e (mem_del.1 he).1
theorem IsSt.put {ss : List Ent} (h : IsSt ss) (nm : List UInt8) (s : Sy) (hs : SyOk s) : IsSt (putE (stE nm s) ss) := by
  intro e he
  rcases mem_put.1 he with rfl | ⟨he, _⟩
  · exact ⟨s, rfl, hs⟩
  · exact h e he
theorem mpB_in {w : World} {V : List Nat} {mv : Value} {ss : List Ent} (h : Mp w V mv ss) : ∀ x ∈ mpB mv, x ∈ V := by
  rcases h with ⟨rfl, _⟩ | ⟨b, rfl, hb, _⟩
  · intro x hx; simp [mpB] at hx
  · intro x hx; simp [mpB] at hx; subst hx; exact hb
theorem leftT_in (ss : List Ent) (nm : List UInt8) (now least : Int) : 0 ≤ leftT ss nm now least ∧ leftT ss nm now least ≤ 1125899906842624 := by
  unfold leftT
  cases findE nm ss with
  | none => simp
  | some e =>
    have i1 := momT_in now
    have i2 := latT_in (syOf e.v).since least
    simp only
    omega
theorem addT_in {a b : Int} (h1 : 0 ≤ a) (h2 : a ≤ 9223372036854775807) (h3 : 0 ≤ b) : 0 ≤ addT a b ∧ addT a b ≤ 9223372036854775807 := by unfold addT; omega
section
variable (w : World) (U V : List Nat) (p : Nat) (q : Int) (es ss : List Ent) (fv : Value) (fl : List Bool) (k : Nat) (jobs life least lost : Int)
theorem ob_letgo (mv : Value) (h1 : Ob w U p 62 (cmore jobs life least mv lost) q es fv fl k) (h2 : Mp w V mv ss) (h6 : IsSt ss) (hap : ∀ x ∈ V, x ∉ U) (n3 : 0 ≤ least) (n4 : least ≤ 1125899906842624) (l1 : 0 ≤ lost) (l2 : lost ≤ 9223372036854775807) (nm : List UInt8) (hnm : nm.length ≤ 1000000000) (now : Int) (n1 : -9223372036854775808 ≤ now) (n2 : now ≤ 9223372036854775807) :
    Calls Try.prog 50 #[.pointer (some ⟨p, 0, none⟩), .string (S nm), .int .i64 now] w fun e w' => e = .returned (.tuple #[]) ∧ Kept (p :: V) w w' ∧
      Ob w' U p 62 (cmore jobs life least mv (addT lost (leftT ss nm now least))) q es fv fl k ∧ Mp w' V mv (delE nm ss) := by
  have H1 := hid h1; have H2 := hid h2
  have hc := hid (fun W (hk : Kept [] w W) => ob_tail (h1.kept hk (by simp)))
  have hkd := hid (show Kept [] w w.drew from (Kept.refl [] w).drew)
  have hlf := hid (ob_left w.drew U V p q es ss fv fl k jobs life least lost mv (h1.kept hkd.out (by simp)) (h2.kept hkd.out (by simp)) h6 n3 n4 nm hnm now n1 n2)
  have hin := leftT_in ss nm now least
  obtain ⟨r, hr⟩ : ∃ r, r = leftT ss nm now least := ⟨_, rfl⟩
  rw [← hr] at hlf hin ⊢
  have had := hid (fun W => added_any lost r W l1 l2 (by omega) (by omega))
  have HAP := hid hap
  have hpV := hid (show p ∉ V from fun hm => hap p hm h1.hp)
  obtain ⟨z, hz⟩ : ∃ z, z = addT lost r := ⟨_, rfl⟩
  rw [← hz] at had ⊢
  clear h1 h2 h6 hr hz hap
  go_enter Try.func50, Try.ntmps50
  go_wp2_with fail
  have hH0 : True := trivial
  refine wp_region_held_drew (S := fun _ => True) (by kernel_rfl) hH0 (fun hH => ?_)
  refine takeH 0 (.pointer (some ⟨p, 0, none⟩)) rfl (by kernel_rfl) (by kernel_rfl) (by kernel_rfl) (fun _ _ _ h => h) (by rfl) (fun v hv => by go_simp) hH ?_
  simp only [Act.put, List.setIfInBounds_toArray, List.set_cons_succ, List.set_cons_zero]
  refine takeH 1 (.pointer (some ⟨p, 0, none⟩)) rfl (by kernel_rfl) (by kernel_rfl) (by kernel_rfl) (fun _ _ _ h => h) (by rfl) (fun v hv => by go_simp) hH ?_
  simp only [Act.put, List.setIfInBounds_toArray, List.set_cons_succ, List.set_cons_zero]
  refine takeH 2 (.pointer (some ⟨p, 0, none⟩)) rfl (by kernel_rfl) (by kernel_rfl) (by kernel_rfl) (fun _ _ _ h => h) (by rfl) (fun v hv => by go_simp) hH ?_
  simp only [Act.put, List.setIfInBounds_toArray, List.set_cons_succ, List.set_cons_zero]
  refine takeH 3 (.pointer (some ⟨p, 10, none⟩)) rfl (by kernel_rfl) (by kernel_rfl) (by kernel_rfl) (fun _ _ _ h => h) (by rfl) (fun v hv => by go_simp) hH ?_
  simp only [Act.put, List.setIfInBounds_toArray, List.set_cons_succ, List.set_cons_zero]
  refine takeH 5 (.pointer (some ⟨p, 0, none⟩)) rfl (by kernel_rfl) (by kernel_rfl) (by kernel_rfl) (fun _ _ _ h => h) (by rfl) (fun v hv => by go_simp) hH ?_
  simp only [Act.put, List.setIfInBounds_toArray, List.set_cons_succ, List.set_cons_zero]
  refine takeH 6 (.string (S nm)) rfl (by kernel_rfl) (by kernel_rfl) (by kernel_rfl) (fun _ _ _ h => h) (by rfl) (fun v hv => by go_simp) hH ?_
  simp only [Act.put, List.setIfInBounds_toArray, List.set_cons_succ, List.set_cons_zero]
  refine takeH 7 (.int .i64 now) rfl (by kernel_rfl) (by kernel_rfl) (by kernel_rfl) (fun _ _ _ h => h) (by rfl) (fun v hv => by go_simp) hH ?_
  simp only [Act.put, List.setIfInBounds_toArray, List.set_cons_succ, List.set_cons_zero]
  have l0 := (hc.out _ hkd.out).2.2.2.2
  refine callOrL 8 4 rfl rfl (by kernel_rfl) (by rfl) (by rfl) 31 #[.pointer (some ⟨p, 0, none⟩), .string (S nm), .int .i64 now] (by go_simp) (.int .i64 r) (fun v => Kept [] w.drew v) (fun _ _ => trivial) (hlf.out) (.int .i64 lost) w.drew (by go_simp) trivial ?_ ?_
  · intro v1 hv1
    simp only [Act.put, List.setIfInBounds_toArray, List.set_cons_succ, List.set_cons_zero]
    have l3 := (hc.out _ (hkd.out.trans hv1)).2.2.2.2
    refine runH 4 rfl (by kernel_rfl) (by rfl) (.int .i64 lost) (v1) (by go_simp) (trivial) ?_
    simp only [Act.put, List.setIfInBounds_toArray, List.set_cons_succ, List.set_cons_zero]
    have l4 := (hc.out _ (hkd.out.trans hv1)).2.2.2.2
    refine callR 9 rfl (by kernel_rfl) (by rfl) 73 #[.int .i64 lost, .int .i64 r] (by go_simp) (.int .i64 z) (fun v => v1 = v) (fun _ _ => trivial) (had.out _) ?_
    rintro v2 rfl
    simp only [Act.put, List.setIfInBounds_toArray, List.set_cons_succ, List.set_cons_zero]
    refine takeH 10 (.pointer (some ⟨p, 0, none⟩)) rfl (by kernel_rfl) (by kernel_rfl) (by kernel_rfl) (fun _ _ _ h => h) (by rfl) (fun v hv => by go_simp) trivial ?_
    simp only [Act.put, List.setIfInBounds_toArray, List.set_cons_succ, List.set_cons_zero]
    refine takeH 11 (.pointer (some ⟨p, 10, none⟩)) rfl (by kernel_rfl) (by kernel_rfl) (by kernel_rfl) (fun _ _ _ h => h) (by rfl) (fun v hv => by go_simp) trivial ?_
    simp only [Act.put, List.setIfInBounds_toArray, List.set_cons_succ, List.set_cons_zero]
    have kv1 := hid (hkd.out.trans hv1)
    have ob1 := hid (H1.out.kept kv1.out (by simp))
    have ff := ob_free ob1.out 10
    refine writeH 12 rfl (by kernel_rfl) (by rfl) (v1.setCell ⟨p, 10, none⟩ (.int .i64 z)) (by go_simp) (trivial) ?_
    simp only [Act.put, List.setIfInBounds_toArray, List.set_cons_succ, List.set_cons_zero]
    refine wpAnyH_done (by kernel_rfl) ?_ _
    have hst := ob_set ob1.out 4 (.int .i64 z)
    obtain ⟨ob2, k2⟩ := hst
    have ob2' : Ob (v1.setCell ⟨p, 10, none⟩ (.int .i64 z)) U p 62 (cmore jobs life least mv z) q es fv fl k := ob2
    have k2' : Kept [p] v1 (v1.setCell ⟨p, 10, none⟩ (.int .i64 z)) := k2
    have O2 := hid ob2'
    have m2 := (H2.out.kept kv1.out (by simp)).free hpV.out _ k2'
    have g9 := (ob_tail ob2').2.2.2.1
    obtain ⟨v3, hdel, k3, m3⟩ := my_drop m2 nm hnm
    have hmb := mpB_in m2
    have hfin := hid (And.intro (show Kept (p :: V) w v3 from ((kv1.out.wider (fun x _ hx => by simp at hx)).trans (k2'.wider (fun x _ hx => by simp at hx; simp [hx]))).trans (k3.wider (fun x _ hx => by simp [hmb x hx]))) (And.intro (ob2'.kept k3 (fun x hx hm => HAP.out x (hmb x hm) hx)) m3))
    clear ob2 k2 ob2' k2' m2 k3 m3 hmb hv1 l0 hlf had H1 H2 ob1 kv1 ff hc hkd
    generalize v1.setCell ⟨p, 10, none⟩ (.int .i64 z) = v2 at *
    go_wp2
    go_end0
    exact ⟨rfl, hfin.out⟩
  · simp only [Act.put, List.setIfInBounds_toArray, List.set_cons_succ, List.set_cons_zero]
    refine callR 8 rfl (by kernel_rfl) (by rfl) 31 #[.pointer (some ⟨p, 0, none⟩), .string (S nm), .int .i64 now] (by go_simp) (.int .i64 r) (fun v => Kept [] w.drew v) (fun _ _ => trivial) (hlf.out) ?_
    rintro v1 hv1
    simp only [Act.put, List.setIfInBounds_toArray, List.set_cons_succ, List.set_cons_zero]
    have l4 := (hc.out _ (hkd.out.trans hv1)).2.2.2.2
    refine callR 9 rfl (by kernel_rfl) (by rfl) 73 #[.int .i64 lost, .int .i64 r] (by go_simp) (.int .i64 z) (fun v => v1 = v) (fun _ _ => trivial) (had.out _) ?_
    rintro v2 rfl
    simp only [Act.put, List.setIfInBounds_toArray, List.set_cons_succ, List.set_cons_zero]
    refine takeH 10 (.pointer (some ⟨p, 0, none⟩)) rfl (by kernel_rfl) (by kernel_rfl) (by kernel_rfl) (fun _ _ _ h => h) (by rfl) (fun v hv => by go_simp) trivial ?_
    simp only [Act.put, List.setIfInBounds_toArray, List.set_cons_succ, List.set_cons_zero]
    refine takeH 11 (.pointer (some ⟨p, 10, none⟩)) rfl (by kernel_rfl) (by kernel_rfl) (by kernel_rfl) (fun _ _ _ h => h) (by rfl) (fun v hv => by go_simp) trivial ?_
    simp only [Act.put, List.setIfInBounds_toArray, List.set_cons_succ, List.set_cons_zero]
    have kv1 := hid (hkd.out.trans hv1)
    have ob1 := hid (H1.out.kept kv1.out (by simp))
    have ff := ob_free ob1.out 10
    refine writeH 12 rfl (by kernel_rfl) (by rfl) (v1.setCell ⟨p, 10, none⟩ (.int .i64 z)) (by go_simp) (trivial) ?_
    simp only [Act.put, List.setIfInBounds_toArray, List.set_cons_succ, List.set_cons_zero]
    refine wpAnyH_done (by kernel_rfl) ?_ _
    have hst := ob_set ob1.out 4 (.int .i64 z)
    obtain ⟨ob2, k2⟩ := hst
    have ob2' : Ob (v1.setCell ⟨p, 10, none⟩ (.int .i64 z)) U p 62 (cmore jobs life least mv z) q es fv fl k := ob2
    have k2' : Kept [p] v1 (v1.setCell ⟨p, 10, none⟩ (.int .i64 z)) := k2
    have O2 := hid ob2'
    have m2 := (H2.out.kept kv1.out (by simp)).free hpV.out _ k2'
    have g9 := (ob_tail ob2').2.2.2.1
    obtain ⟨v3, hdel, k3, m3⟩ := my_drop m2 nm hnm
    have hmb := mpB_in m2
    have hfin := hid (And.intro (show Kept (p :: V) w v3 from ((kv1.out.wider (fun x _ hx => by simp at hx)).trans (k2'.wider (fun x _ hx => by simp at hx; simp [hx]))).trans (k3.wider (fun x _ hx => by simp [hmb x hx]))) (And.intro (ob2'.kept k3 (fun x hx hm => HAP.out x (hmb x hm) hx)) m3))
    clear ob2 k2 ob2' k2' m2 k3 m3 hmb hv1 l0 hlf had H1 H2 ob1 kv1 ff hc hkd
    generalize v1.setCell ⟨p, 10, none⟩ (.int .i64 z) = v2 at *
    go_wp2
    go_end0
    exact ⟨rfl, hfin.out⟩
set_option maxHeartbeats 1000000 in
theorem ob_ask (T : TypeId) (more : List Value) (left : Int) (nm : List UInt8) (hnm : nm.length ≤ 1000000000) (h : Ob w U p T more q es fv fl k) (hk : k ≤ 1099511627776) (hf : FuV w U fv left) (h0 : left ≠ 0) :
    Calls Try.prog 52 #[.pointer (some ⟨p, 0, none⟩), .string (S nm)] w fun e w' => e = .returned (.int .i64 (gotE fl es nm)) ∧ Kept (p :: fuB fv) w w' ∧ Ob w' U p T more q es fv (fl.drop 1) (k + 1) ∧ FuV w' U fv (decL left) := by
  have hg := hid (ob_get w U p T more q es fv fl k left nm hnm h hk hf h0)
  clear h hk hf h0
  obtain ⟨er, her⟩ : ∃ er, er = gotE fl es nm := ⟨_, rfl⟩
  rw [← her] at hg ⊢
  clear her
  go_enter Try.func52, Try.ntmps52
  go_wp2_with fail
  refine hg.out.mono ?_
  rintro e w1 ⟨v', rfl, k1, ob1, fu1, -⟩
  have K1 := hid k1; have O1 := hid ob1; have F1 := hid fu1
  clear k1 ob1 fu1 hg
  go_wp2
  go_ret
  exact ⟨rfl, K1.out, O1.out, F1.out⟩
end
end Go.Proofs.Ytnkolgamnakegaa
