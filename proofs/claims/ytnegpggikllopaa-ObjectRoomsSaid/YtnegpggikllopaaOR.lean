
/- ObjectRooms' helpers: Catch told by what is kept; a map of names to texts; the closure. -/
import Derived.Test.YtnegpggikllopaaOQ
import Derived.Test.YtnegpggikllopaaOM
import Derived.Test.YtnegpggikllopaaOJ
namespace Go.Proofs.Ytnegpggikllopaa
open Go.RowKit Go.Lib Go.Maps

/-- A closure that returns: the fuse did not blow. -/
theorem catch_ret2 (f : Addr) (k : Nat) (hk : Enters k) (caps : Array Value) (w : World) (S : List Nat) (hS : ∀ b ∈ S, b < w.heap.size) (Q : World → Prop)
    (hQ : ∀ W W', Q W → Kept [w.heap.size + 1] W W' → Q W')
    (h : Calls Try.prog k caps ((w.alloc (.cells #[.pointer (some f)] 30)).alloc (.cells #[.bool false] 4)) fun e w' => e = .returned (.tuple #[]) ∧ Kept S ((w.alloc (.cells #[.pointer (some f)] 30)).alloc (.cells #[.bool false] 4)) w' ∧ Q w') :
    Calls Try.prog 14 #[.pointer (some f), .func (.func k) #[] caps] w fun e w' => e = .returned (.bool false) ∧ Kept S w w' ∧ Q w' := by
  have hmf : ∀ (fn : Fn) (first cap : Array Value) (w : World), (Instr.makeFunc fn first cap).run Try.prog w = .ok (.func fn first cap) w := fun _ _ _ _ => rfl
  have hne := func_neq_nil
  have H : Hid (Calls Try.prog k caps ((w.alloc (.cells #[.pointer (some f)] 30)).alloc (.cells #[.bool false] 4)) fun e w' => e = .returned (.tuple #[]) ∧ Kept S ((w.alloc (.cells #[.pointer (some f)] 30)).alloc (.cells #[.bool false] 4)) w' ∧ Q w') := h
  have HS : Hid (∀ b ∈ S, b < w.heap.size) := hS
  have HQ : Hid (∀ W W', Q W → Kept [w.heap.size + 1] W W' → Q W') := hQ
  clear h hS hQ
  unfold Enters at hk
  go_enter_defers Try.func14, Try.ntmps14
  go_wp2_with fail
  refine H.out.mono ?_
  rintro e w1 ⟨rfl, hkept, hq⟩
  have hb : w1.heap[w.heap.size + 1]? = some (.cells #[.bool false] 4 (0, 0)) :=
    hkept.at (by have := heap_alloc_new' (w.alloc (.cells #[.pointer (some f)] 30)) (.cells #[.bool false] 4); simpa using this) (fun hm => by have := HS.out _ hm; omega)
  have hc := cell_of_one hb
  have hf := free_of_one hb
  have hb' := one_setCell (u := .bool false) hb
  have HK : Hid (Kept S w w1) := ((((Kept.refl S w).alloc _).alloc _).trans hkept)
  clear hb hkept
  go_wp2
  refine leaves_cons (f := 34) (args := #[.pointer (some ⟨w.heap.size, 0, none⟩), .pointer (some ⟨w.heap.size + 1, 0, none⟩)]) (by simp) (by simp [go_sem]) ?_
  refine (catch_idle ⟨w.heap.size, 0, none⟩ ⟨w.heap.size + 1, 0, none⟩ _).mono ?_
  rintro e u' w'' ⟨rfl, rfl, rfl⟩
  simp [Leaves, settle, results, Try.results14, go_sem, cell_of_one hb']
  exact ⟨HK.out.setCell (fun h => absurd h (by simp)) _, HQ.out _ _ hq ((Kept.refl _ w1).setCell (p := ⟨w.heap.size + 1, 0, none⟩) (fun _ => by simp) _)⟩

theorem zero_t (w : World) : (zeroValue 9).run Try.prog w = .ok (.string ByteArray.empty) w := by kernel_rfl
def lookT (nm : List UInt8) (es : List Ent) : Value := match findE nm es with | some e => e.v | none => .string ByteArray.empty
theorem mt_look {w : World} {U : List Nat} {mv : Value} {es : List Ent} (h : Mp w U mv es) (nm : List UInt8) (hn : nm.length ≤ 1000000000) :
    (Instr.lookup 49 mv (.string (S nm)) true).run Try.prog w = .ok (.tuple #[lookT nm es, .bool (findE nm es).isSome]) w := by
  rcases h with ⟨rfl, rfl⟩ | ⟨b, rfl, _, h⟩
  · exact Maps.look_nil true str_law Try.underlying49 (zero_t w) (str_key nm hn)
  · obtain ⟨v, ps, h1, h2⟩ := h.look_ok str_law Try.underlying49 (zero_t w) (zd := .held (.string ByteArray.empty)) (zp := []) rfl (str_key nm hn)
    rw [DM_has] at h1
    rw [DM_at] at h2
    have hv : v = lookT nm es := by
      unfold heldR at h2
      unfold lookT
      cases hf : findE nm es <;> rw [hf] at h2 <;> simp at h2 <;> exact h2.1
    rw [← hv]
    exact h1
theorem mt_look1 {w : World} {U : List Nat} {mv : Value} {es : List Ent} (h : Mp w U mv es) (nm : List UInt8) (hn : nm.length ≤ 1000000000) :
    (Instr.lookup 49 mv (.string (S nm)) false).run Try.prog w = .ok (lookT nm es) w := by
  rcases h with ⟨rfl, rfl⟩ | ⟨b, rfl, _, h⟩
  · exact Maps.look_nil false str_law Try.underlying49 (zero_t w) (str_key nm hn)
  · obtain ⟨v, ps, h1, h2⟩ := h.lookup str_law Try.underlying49 (zero_t w) (zd := .held (.string ByteArray.empty)) (zp := []) rfl (str_key nm hn)
    rw [DM_at] at h2
    have hv : v = lookT nm es := by
      unfold heldR at h2
      unfold lookT
      cases hf : findE nm es <;> rw [hf] at h2 <;> simp at h2 <;> exact h2.1
    rw [← hv]
    exact h1
theorem mt_len {w : World} {U : List Nat} {mv : Value} {es : List Ent} (h : Mp w U mv es) (ty : TypeId) : (Builtin.len_ #[49] ty #[mv]).run Try.prog w = .ok (.int .i64 es.length) w := by
  rcases h with ⟨rfl, rfl⟩ | ⟨b, rfl, _, h⟩
  · exact Maps.len_nil Try.underlying49 ty
  · have h1 := h.len Try.underlying49 ty
    rw [DM_size] at h1
    exact h1
theorem mt_drop {w : World} {U : List Nat} {mv : Value} {es : List Ent} (h : Mp w U mv es) (nm : List UInt8) (hn : nm.length ≤ 1000000000) :
    ∃ w', (∀ ty, (Builtin.delete_ #[49, 9] ty #[mv, .string (S nm)]).run Try.prog w = .ok (.tuple #[]) w') ∧ Kept (mpB mv) w w' ∧ Mp w' U mv (delE nm es) := by
  rcases h with ⟨rfl, rfl⟩ | ⟨b, rfl, hb, h⟩
  · exact ⟨w, fun ty => Maps.drop_nil str_law Try.underlying49 (str_key nm hn) ty, Kept.refl _ _, Or.inl ⟨rfl, rfl⟩⟩
  · obtain ⟨w', h1, h2, h3⟩ := h.drop str_law Try.underlying49 (str_key nm hn) 9
    refine ⟨w', fun ty => ?_, turned_kept h3, Or.inr ⟨b, rfl, hb, ?_⟩⟩
    · exact h1
    · rw [DM_del] at h2
      exact owns_tight h2
theorem mt_put {w : World} {U : List Nat} {b : Nat} {es : List Ent} (h : Mp w U (.map (some b)) es) (x : Ent) (hn : x.name.length ≤ 1000000000) (hl : es.length ≤ 1000000000) :
    ∃ w', (Instr.mapUpdate 49 (.map (some b)) (.string (S x.name)) x.v).run Try.prog w = .ok () w' ∧ Kept [b] w w' ∧ Mp w' U (.map (some b)) (putE x es) := by
  rcases h with ⟨h, _⟩ | ⟨b', hb', hb, h⟩
  · cases h
  · cases hb'
    obtain ⟨w', h1, h2, h3⟩ := h.store (val := x.v) (d := .held x.v) (ps := []) str_law Try.underlying49 (by unfold maxLen; omega) (str_key x.name hn) rfl
    refine ⟨w', h1, turned_kept h3, Or.inr ⟨b, rfl, hb, ?_⟩⟩
    rw [DM_put] at h2
    exact owns_tight h2

/-- With its text as its value. -/
def texted (e : Ent) : Ent := ⟨e.name, .string (S e.b), e.b⟩
theorem find_texted (nm : List UInt8) (es : List Ent) : findE nm (es.map texted) = (findE nm es).map texted := by
  unfold findE
  induction es with
  | nil => rfl
  | cons e r ih =>
    simp only [List.map_cons, List.find?_cons]
    have : (texted e).name = e.name := rfl
    rw [this]
    split
    · rfl
    · exact ih
theorem del_texted (nm : List UInt8) (es : List Ent) : delE nm (es.map texted) = (delE nm es).map texted := by
  unfold delE
  rw [List.filter_map]
  rfl
theorem ins_texted (x : Ent) (es : List Ent) : insE (texted x) (es.map texted) = (insE x es).map texted := by
  induction es with
  | nil => rfl
  | cons e r ih =>
    simp only [List.map_cons, insE]
    have e1 : (texted e).name = e.name := rfl
    have e2 : (texted x).name = x.name := rfl
    rw [e1, e2]
    split
    · rfl
    · rw [List.map_cons, ih]
theorem put_texted (x : Ent) (es : List Ent) : putE (texted x) (es.map texted) = (putE x es).map texted := by
  unfold putE
  rw [show (texted x).name = x.name from rfl, del_texted, ins_texted]
theorem names_texted (es : List Ent) : (es.map texted).map (·.name) = es.map (·.name) := by rw [List.map_map]; rfl

theorem del_del (nm : List UInt8) (es : List Ent) : delE nm (delE nm es) = delE nm es := by
  unfold delE
  rw [List.filter_filter]
  simp
theorem put_del (x : Ent) (es : List Ent) : putE x (delE x.name es) = putE x es := by unfold putE; rw [del_del]

def putL (er : Int) (x : Ent) (es : List Ent) : List Ent := if er = 0 then putE x es else es
/-- What the closure leaves: the store, the fuse, the error. -/
def Rm (W0 : World) (U : List Nat) (p : Nat) (q : Int) (es' : Value → List Ent) (f : Nat) (fl : List Bool) (k : Nat) (left : Int) (eb : Nat) (er : Int) (W : World) : Prop :=
  ∃ v' U', (∀ x ∈ U', x ∈ U ∨ W0.heap.size ≤ x) ∧ Ob W U' p 68 [] q (es' v') (.pointer (some ⟨f, 0, none⟩)) (fl.drop 1) (k + 1) ∧ FuV W U' (.pointer (some ⟨f, 0, none⟩)) (decL left) ∧ W.heap[eb]? = some (.cells #[.int .i64 er] 27 (0, 0))
theorem rooms1_go (W : World) (U : List Nat) (p : Nat) (q : Int) (es : List Ent) (f : Nat) (fl : List Bool) (k : Nat) (left : Int) (o : OpO) (ob sb eb : Nat) (h : Ob W U p 68 [] q es (.pointer (some ⟨f, 0, none⟩)) fl k) (hk : k ≤ 1099511627776) (hf : FuV W U (.pointer (some ⟨f, 0, none⟩)) left) (h0 : left ≠ 0)
    (hob : W.heap[ob]? = some (.cells #[.int .i64 o.kind, .string (S o.nm), .slice o.ba o.bs.length o.bc] 38 (0, 0))) (hsb : W.heap[sb]? = some (.cells #[.pointer (some ⟨p, 0, none⟩)] 26 (0, 0))) (heb : W.heap[eb]? = some (.cells #[.int .i64 41] 27 (0, 0)))
    (hout : eb ∉ U ∧ eb ≠ f) (hnm : o.nm.length ≤ 100) (hbs : o.bs.length ≤ 200) (hz : sizeE es ≤ 1000000) (hsrc : ∀ V, Kept (p :: [f]) W V → Src V (.slice o.ba o.bs.length o.bc) o.bs.length (o.bs.map B)) :
    Calls Try.prog 19 #[.pointer (some ⟨ob, 0, none⟩), .pointer (some ⟨sb, 0, none⟩), .pointer (some ⟨eb, 0, none⟩)] W fun e W' => e = .returned (.tuple #[]) ∧ Kept (eb :: (U ++ [f])) W W' ∧
      (if o.kind = 3 then Rm W U p q (fun _ => dropE fl es o.nm) f fl k left eb (gotE fl es o.nm) W' else Rm W U p q (fun v' => putL (putErr fl o.nm o.bs.length q ((sizeE es : Int) - (lookB o.nm es).length + o.bs.length) (findE o.nm es).isSome es.length) ⟨o.nm, v', o.bs⟩ es) f fl k left eb (putErr fl o.nm o.bs.length q ((sizeE es : Int) - (lookB o.nm es).length + o.bs.length) (findE o.nm es).isSome es.length) W') := by
  have c0 : W.cell? ⟨ob, 0, none⟩ = some (.int .i64 o.kind) := by rw [cell_of_row _ _ 0 _ _ _ hob]; rfl
  have c1 : W.cell? ⟨ob, 1, none⟩ = some (.string (S o.nm)) := by rw [cell_of_row _ _ 1 _ _ _ hob]; rfl
  have c2 : W.cell? ⟨ob, 2, none⟩ = some (.slice o.ba o.bs.length o.bc) := by rw [cell_of_row _ _ 2 _ _ _ hob]; rfl
  have c3 : W.cell? ⟨sb, 0, none⟩ = some (.pointer (some ⟨p, 0, none⟩)) := cell_of_one hsb
  have HEB := hid heb; have HOUT := hid hout
  have hebl := hid (lt_of_block heb)
  by_cases hk3 : o.kind = 3
  · simp only [if_pos hk3]
    have hke : (o.kind == 3) = true := by simp [hk3]
    have hd := hid (ob_drop W U p 68 [] q es (.pointer (some ⟨f, 0, none⟩)) fl k left o.nm (by omega) h hk hf h0)
    obtain ⟨er, her⟩ : ∃ er, er = gotE fl es o.nm := ⟨_, rfl⟩
    rw [← her] at hd ⊢
    clear h hk hf h0 hob hsb heb hout hsrc hk3 her
    go_enter Try.func19, Try.ntmps19
    go_wp2_with fail
    refine hd.out.mono ?_
    rintro e V ⟨rfl, kv, obv, fuv⟩
    have kv' : Kept (U ++ [f]) W V := by simpa [fuB] using kv
    have heV := kv'.at HEB.out (by simp [HOUT.out.1, HOUT.out.2])
    have hc := cell_of_one heV
    have hfz := free_of_one heV
    have KV := hid kv'; have OBV := hid obv; have FUV := hid fuv
    have hnew := hid (one_setCell (u := .int .i64 er) heV)
    have ks := hid (show Kept [eb] V (V.setCell ⟨eb, 0, none⟩ (.int .i64 er)) from (Kept.refl [eb] V).setCell (p := ⟨eb, 0, none⟩) (fun _ => by simp) _)
    clear kv obv fuv kv' heV hd
    go_wp2
    go_end0
    exact ⟨rfl, (KV.out.wider (fun x _ hx => by simp at hx ⊢; rcases hx with h | h <;> simp [h])).trans' ks.out (fun x _ hx => by simp at hx; simp [hx]), undef, U, fun x hx => Or.inl hx, OBV.out.kept ks.out (fun x hx hm => by simp at hm; subst hm; exact HOUT.out.1 hx), FUV.out.kept ks.out (fun x hx hm => by simp [fuB] at hx; simp at hm; exact HOUT.out.2 (by rw [← hm, hx])), hnew.out⟩
  · simp only [if_neg hk3]
    have hke : (o.kind == 3) = false := by simp [hk3]
    have hd := hid (ob_put W U p 68 [] q es (.pointer (some ⟨f, 0, none⟩)) fl k left o.nm (by omega) h hk hf h0 o.ba o.bc o.bs (fun V hV => hsrc V (by simpa [fuB] using hV)) (by omega))
    obtain ⟨er, her⟩ : ∃ er, er = putErr fl o.nm o.bs.length q ((sizeE es : Int) - (lookB o.nm es).length + o.bs.length) (findE o.nm es).isSome es.length := ⟨_, rfl⟩
    rw [← her] at hd ⊢
    clear h hk hf h0 hob hsb heb hout hsrc hk3 her
    go_enter Try.func19, Try.ntmps19
    go_wp2_with fail
    refine hd.out.mono ?_
    rintro e V ⟨v', U', rfl, kv, hU', obv, fuv⟩
    have obv : Ob V U' p 68 [] q (putL er ⟨o.nm, v', o.bs⟩ es) (.pointer (some ⟨f, 0, none⟩)) (fl.drop 1) (k + 1) := obv
    have kv' : Kept (U ++ [f]) W V := by simpa [fuB] using kv
    have heV := kv'.at HEB.out (by simp [HOUT.out.1, HOUT.out.2])
    have hc := cell_of_one heV
    have hfz := free_of_one heV
    have KV := hid kv'; have OBV := hid obv; have FUV := hid fuv; have HU := hid hU'
    have hnew := hid (one_setCell (u := .int .i64 er) heV)
    have ks := hid (show Kept [eb] V (V.setCell ⟨eb, 0, none⟩ (.int .i64 er)) from (Kept.refl [eb] V).setCell (p := ⟨eb, 0, none⟩) (fun _ => by simp) _)
    clear kv obv fuv kv' heV hd hU'
    go_wp2
    go_end0
    exact ⟨rfl, (KV.out.wider (fun x _ hx => by simp at hx ⊢; rcases hx with h | h <;> simp [h])).trans' ks.out (fun x _ hx => by simp at hx; simp [hx]), v', U', HU.out, OBV.out.kept ks.out (fun x hx hm => by
      simp at hm; subst hm
      rcases HU.out x hx with h | h
      · exact HOUT.out.1 h
      · have := hebl.out; omega), FUV.out.kept ks.out (fun x hx hm => by simp [fuB] at hx; simp at hm; exact HOUT.out.2 (by rw [← hm, hx])), hnew.out⟩
theorem rooms1_blow (W : World) (U : List Nat) (p : Nat) (q : Int) (es : List Ent) (f : Nat) (fl : List Bool) (k : Nat) (o : OpO) (ob sb eb : Nat) (h : Ob W U p 68 [] q es (.pointer (some ⟨f, 0, none⟩)) fl k) (hk : k ≤ 1099511627776) (hf : FuV W U (.pointer (some ⟨f, 0, none⟩)) 0)
    (hob : W.heap[ob]? = some (.cells #[.int .i64 o.kind, .string (S o.nm), .slice o.ba o.bs.length o.bc] 38 (0, 0))) (hsb : W.heap[sb]? = some (.cells #[.pointer (some ⟨p, 0, none⟩)] 26 (0, 0)))
    (hnm : o.nm.length ≤ 100) (hbs : o.bs.length ≤ 200) (hz : sizeE es ≤ 1000000) :
    Calls Try.prog 19 #[.pointer (some ⟨ob, 0, none⟩), .pointer (some ⟨sb, 0, none⟩), .pointer (some ⟨eb, 0, none⟩)] W fun e W' => Thrown 73 (.agg #[.pointer (some ⟨f, 0, none⟩)]) e ∧ Kept [] W W' := by
  have c0 : W.cell? ⟨ob, 0, none⟩ = some (.int .i64 o.kind) := by rw [cell_of_row _ _ 0 _ _ _ hob]; rfl
  have c1 : W.cell? ⟨ob, 1, none⟩ = some (.string (S o.nm)) := by rw [cell_of_row _ _ 1 _ _ _ hob]; rfl
  have c2 : W.cell? ⟨ob, 2, none⟩ = some (.slice o.ba o.bs.length o.bc) := by rw [cell_of_row _ _ 2 _ _ _ hob]; rfl
  have c3 : W.cell? ⟨sb, 0, none⟩ = some (.pointer (some ⟨p, 0, none⟩)) := cell_of_one hsb
  by_cases hk3 : o.kind = 3
  · have hke : (o.kind == 3) = true := by simp [hk3]
    have hd := hid (drop_blow W U p 68 [] q es f fl k o.nm h hf)
    clear h hk hf hob hsb hk3
    go_enter Try.func19, Try.ntmps19
    go_wp2_with fail
    refine hd.out.mono ?_
    rintro e V ⟨⟨older, rfl, hcalm⟩, rfl⟩
    exact ⟨rfl, ⟨older, rfl, hcalm⟩, Kept.refl _ _⟩
  · have hke : (o.kind == 3) = false := by simp [hk3]
    have hd := hid (put_blow W U p 68 [] q es f fl k o.nm (by omega) h hf o.ba o.bc o.bs (by omega))
    clear h hk hf hob hsb hk3
    go_enter Try.func19, Try.ntmps19
    go_wp2_with fail
    refine hd.out.mono ?_
    rintro e V ⟨⟨older, rfl, hcalm⟩, hR⟩
    exact ⟨rfl, ⟨older, rfl, hcalm⟩, hR⟩
end Go.Proofs.Ytnegpggikllopaa
