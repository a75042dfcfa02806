import Derived.Test.YtmkdjonlfkfnlaaDoorMQ

/- cache: its calls as a law sees them. -/
namespace Go.Proofs.YtmkdjonlfkfnlaaDoor
open Go.RowKit Go.Lib Go.Maps
/-- A cache at p in world W (the law began in w), which holds l; its blocks are U. -/
structure CS (w W : World) (U : List Nat) (p : Nat) (lim : Int) (l : List (List UInt8 × List UInt8)) : Prop where
  kept : Kept [] w W
  tab : Tabs w
  ca : ∃ ns, Ca w.heap.size W U p lim ns ∧ datK ns = l
theorem CS.bound {w W : World} {U : List Nat} {p : Nat} {lim : Int} {l : List (List UInt8 × List UInt8)} (h : CS w W U p lim l) : ∀ x ∈ U, w.heap.size ≤ x ∧ x < W.heap.size := by
  obtain ⟨ns, h1, _⟩ := h.ca
  exact h1.bound
theorem CS.noTab {w W : World} {U : List Nat} {p : Nat} {lim : Int} {l : List (List UInt8 × List UInt8)} (h : CS w W U p lim l) : 0 ∉ U ∧ 1 ∉ U :=
  ⟨fun hm => by have h1 := (h.bound _ hm).1; have h2 := h.tab.pos0; omega, fun hm => by have h1 := (h.bound _ hm).1; have h2 := h.tab.pos; omega⟩
theorem CS.tabW {w W : World} {U : List Nat} {p : Nat} {lim : Int} {l : List (List UInt8 × List UInt8)} (h : CS w W U p lim l) : Tabs W := h.tab.kept h.kept (by simp) (by simp)
theorem CS.keep {w W W' : World} {U S : List Nat} {p : Nat} {lim : Int} {l : List (List UInt8 × List UInt8)} (h : CS w W U p lim l) (hk : Kept S W W') (hd : ∀ x ∈ U, x ∉ S) (hw : ∀ x ∈ S, w.heap.size ≤ x) : CS w W' U p lim l := by
  obtain ⟨ns, h1, h2⟩ := h.ca
  exact ⟨h.kept.trans' hk (fun x hx hm => by have := hw x hm; omega), h.tab, ns, h1.kept hk hd, h2⟩
theorem CS.keep0 {w W W' : World} {U : List Nat} {p : Nat} {lim : Int} {l : List (List UInt8 × List UInt8)} (h : CS w W U p lim l) (hk : Kept [] W W') : CS w W' U p lim l := h.keep hk (by simp) (by simp)
theorem CS.over {w W W' : World} {U : List Nat} {p : Nat} {lim : Int} {l : List (List UInt8 × List UInt8)} (h : CS w W U p lim l) (hk : Kept U W W') : Kept [] w W' := h.kept.trans' hk (fun x hx hm => by have := (h.bound x hm).1; omega)
def More (W W' : World) (U U' : List Nat) : Prop := (∀ x ∈ U', x ∈ U ∨ (W.heap.size ≤ x ∧ x < W'.heap.size)) ∧ ∀ x ∈ U, x ∈ U'
theorem cs_new (w W : World) (hk : Kept [] w W) (ht : Tabs w) (l : Int) (hl : l ≤ 9223372036854775807) :
    Calls Tryd.prog 7 #[.int .i64 l] W fun e W' => e = .returned (.pointer (some ⟨W.heap.size, 0, none⟩)) ∧ Kept [] W W' ∧ CS w W' [W.heap.size] W.heap.size (max l 0) [] := by
  refine (ca_new w.heap.size l hl W hk.size).mono ?_
  rintro e W' ⟨rfl, k, c⟩
  exact ⟨rfl, k, hk.trans k, ht, [], c, rfl⟩
theorem cs_put {w W : World} {U : List Nat} {p : Nat} {lim : Int} {l : List (List UInt8 × List UInt8)} (h : CS w W U p lim l) (hz : szD l ≤ 100000000) (hl : l.length ≤ 1000000)
    (a : Option Addr) (c : Nat) (ys : List UInt8) (hr : Reads W a ys) (hb : ys ≠ [] → ∀ x, a = some x → x.block ∉ U) (hac : a = none → c = 0) (hc : ys.length ≤ c) (hc2 : c ≤ 9223372036854775807) (hy : ys.length ≤ 1000000) :
    Calls Tryd.prog 10 #[.pointer (some ⟨p, 0, none⟩), .slice a ys.length c] W fun e W' => e = .returned (.agg ((Sha.sum ys).map B).toArray) ∧ Kept U W W' ∧ ∃ U', More W W' U U' ∧ CS w W' U' p lim (putD lim l ys) := by
  obtain ⟨ns, h1, rfl⟩ := h.ca
  refine (ca_put w.heap.size W U p lim ns h1 h.tabW h.noTab (by rw [sizeK_dat]; exact hz) (by unfold datK at hl; simpa using hl) a c ys hr hb hac hc hc2 hy).mono ?_
  rintro e W' ⟨rfl, hk, U', ns', hm, hU, hca, hd⟩
  exact ⟨rfl, hk, U', ⟨hm, hU⟩, h.over hk, h.tab, ns', hca, hd⟩
theorem cs_get {w W : World} {U : List Nat} {p : Nat} {lim : Int} {l : List (List UInt8 × List UInt8)} (h : CS w W U p lim l) (hz : szD l ≤ 100000000) (hl : l.length ≤ 1000000) (id : List UInt8) (h32 : id.length = 32) :
    Calls Tryd.prog 12 #[.pointer (some ⟨p, 0, none⟩), .agg (id.map B).toArray] W fun e W' => ∃ v U', e = .returned (.tuple #[v, .bool (getO id l).isSome]) ∧ Kept U W W' ∧ More W W' U U' ∧ CS w W' U' p lim (getL id l) ∧ AnsV W W' U' v (getO id l) := by
  obtain ⟨ns, h1, rfl⟩ := h.ca
  refine (ca_get w.heap.size W U p lim ns h1 h.tabW h.noTab (by rw [sizeK_dat]; exact hz) (by unfold datK at hl; simpa using hl) id h32).mono ?_
  rintro e W' ⟨v, rfl, hk, U', ns', hm, hU, hca, hd, ha⟩
  exact ⟨v, U', rfl, hk, ⟨hm, hU⟩, ⟨h.over hk, h.tab, ns', hca, hd⟩, ha⟩
theorem cs_spoil {w W : World} {U : List Nat} {p : Nat} {lim : Int} {l : List (List UInt8 × List UInt8)} (h : CS w W U p lim l) (hz : szD l ≤ 100000000) (id : List UInt8) (h32 : id.length = 32) (bit : Int) (hb1 : -9223372036854775808 ≤ bit) (hb2 : bit ≤ 9223372036854775807) :
    Calls Tryd.prog 15 #[.pointer (some ⟨p, 0, none⟩), .agg (id.map B).toArray, .int .i64 bit] W fun e W' => e = .returned (.bool (spoilL id bit l).isSome) ∧ Kept U W W' ∧ CS w W' U p lim ((spoilL id bit l).getD l) := by
  obtain ⟨ns, h1, rfl⟩ := h.ca
  refine (ca_spoil w.heap.size W U p lim ns h1 (by rw [sizeK_dat]; exact hz) id h32 bit hb1 hb2).mono ?_
  rintro e W' ⟨rfl, hk, ns', hca, hd⟩
  exact ⟨rfl, hk, h.over hk, h.tab, ns', hca, hd⟩
theorem cs_wipe {w W : World} {U : List Nat} {p : Nat} {lim : Int} {l : List (List UInt8 × List UInt8)} (h : CS w W U p lim l) :
    Calls Tryd.prog 16 #[.pointer (some ⟨p, 0, none⟩)] W fun e W' => e = .returned (.tuple #[]) ∧ Kept U W W' ∧ CS w W' U p lim [] := by
  obtain ⟨ns, h1, rfl⟩ := h.ca
  refine (ca_wipe w.heap.size W U p lim ns h1).mono ?_
  rintro e W' ⟨rfl, hk, hca⟩
  exact ⟨rfl, hk, h.over hk, h.tab, [], hca, rfl⟩
theorem cs_len {w W : World} {U : List Nat} {p : Nat} {lim : Int} {l : List (List UInt8 × List UInt8)} (h : CS w W U p lim l) :
    Calls Tryd.prog 19 #[.pointer (some ⟨p, 0, none⟩)] W fun e W' => e = .returned (.int .i64 l.length) ∧ W = W' := by
  obtain ⟨ns, h1, rfl⟩ := h.ca
  have e : (datK ns).length = ns.length := by simp [datK]
  rw [e]
  exact ca_len w.heap.size W U p lim ns h1
theorem cs_size {w W : World} {U : List Nat} {p : Nat} {lim : Int} {l : List (List UInt8 × List UInt8)} (h : CS w W U p lim l) :
    Calls Tryd.prog 20 #[.pointer (some ⟨p, 0, none⟩)] W fun e W' => e = .returned (.int .i64 (szD l)) ∧ W = W' := by
  obtain ⟨ns, h1, rfl⟩ := h.ca
  rw [← sizeK_dat]
  exact ca_size w.heap.size W U p lim ns h1
theorem cs_all {w W : World} {U : List Nat} {p : Nat} {lim : Int} {l : List (List UInt8 × List UInt8)} (h : CS w W U p lim l) (hl : l.length ≤ 1000000) (most : Nat) (hm1 : 1 ≤ most) (hm2 : most ≤ 2000000000) :
    Calls Tryd.prog 18 #[.pointer (some ⟨p, 0, none⟩), .int .i64 (most : Int)] W fun e W' => ∃ a2 c2, e = .returned (.slice a2 ((l.map (·.1)).take most).length c2) ∧ Kept [] W W' ∧ W'.ownsRow W.heap.size 34 32 (.slice a2 ((l.map (·.1)).take most).length c2) ((l.map (·.1)).take most).length (((l.map (·.1)).take most).flatMap e32) := by
  obtain ⟨ns, h1, rfl⟩ := h.ca
  have e : (datK ns).map (·.1) = idsK ns := by unfold datK idsK; rw [List.map_map]; rfl
  rw [e]
  exact ca_lall w.heap.size W U p lim ns h1 (by unfold datK at hl; simpa using hl) most hm1 hm2
end Go.Proofs.YtmkdjonlfkfnlaaDoor
