import Derived.Test.YtmfjfahlgcdehaaDoorJ1
import Derived.Test.YtmfjfahlgcdehaaDoorWV
import Derived.Test.YtmfjfahlgcdehaaDoorMS

/- snap.Encode. -/
namespace Go.Proofs.YtmfjfahlgcdehaaDoor
open Go.RowKit Go.Lib

/-- A snapshot's bytes, ahead of being sealed. -/
def Sp.enc (s : Sp) : List UInt8 := numB s.time.toNat 8 ++ (numB s.host.length 4 ++ s.host) ++ (numB s.tag.length 4 ++ s.tag) ++ s.root ++ numB s.files.toNat 4 ++ numB s.bytes.toNat 8
theorem Sp.err_far {s : Sp} (h : s.err = 0) : ¬ s.far := fun hf => by unfold Sp.err at h; rw [if_pos hf] at h; cases h
theorem Sp.err_part {s : Sp} (h : s.err = 0) : okPart s.host = true ∧ (s.tag = [] ∨ okPart s.tag = true) := by
  unfold Sp.err at h
  rw [if_neg (Sp.err_far h)] at h
  by_cases hp : okPart s.host = true ∧ (s.tag = [] ∨ okPart s.tag = true)
  · exact hp
  · rw [if_neg hp] at h; cases h
theorem Sp.err_len {s : Sp} (h : s.err = 0) : s.host.length ≤ 40 ∧ s.tag.length ≤ 40 := by
  obtain ⟨h1, h2⟩ := Sp.err_part h
  refine ⟨(j_okPart_ne h1).2, ?_⟩
  rcases h2 with h2 | h2
  · rw [h2]; simp
  · exact (j_okPart_ne h2).2
theorem Sp.enc_len {s : Sp} (h : s.ok) : s.enc.length = 60 + s.host.length + s.tag.length := by
  unfold Sp.enc; simp [numB_len, h.root]; omega
theorem sz8 : sz 8 = 8 := by decide

/-- A sum's field within a box, sliced. -/
theorem slice_root (g : Nat) (W : World) : (Instr.sliceAt 26 (.pointer (some ⟨g, 3, none⟩)) none none none).run Tryd.prog W = .ok (.slice (some ⟨g, 3, none⟩) 32 32) W := by
  have hal : Tryd.prog.arrayLen 26 = 32 := by simp [Program.arrayLen, Tryd.underlying26]
  rw [run_sliceAt_array_all W 26 ⟨g, 3, none⟩ (by simp [Program.arrayLen, Program.elem, Tryd.underlying26])]
  rw [hal]
  go_simp
theorem At.root {w : World} {p : Nat} {s : Sp} (h : At w p s) (hs : s.ok) : SrcB w (.slice (some ⟨p, 3, none⟩) 32 32) s.root := by
  refine Or.inr ⟨⟨p, 3, none⟩, 32, by rw [hs.root], fun j u hj => ?_⟩
  rw [List.getElem?_map] at hj
  obtain ⟨b, hb, rfl⟩ := Option.map_eq_some_iff.1 hj
  have e : (⟨p, 3, none⟩ : Addr).add j = ⟨p, 3 + j, none⟩ := by unfold Addr.add; split <;> simp_all
  rw [e]
  exact h.cell _ _ (Sp.cr hs j b hb)

/-- What Encode answers. -/
def Encoded (s : Sp) (w : World) (e : Ending) (w' : World) : Prop :=
  Kept [] w w' ∧ ((s.err ≠ 0 ∧ e = .returned (.tuple #[.slice none 0 0, .int .i64 s.err])) ∨
    (s.err = 0 ∧ ∃ a c, e = .returned (.tuple #[.slice a (sealed 83 s.enc).length c, .int .i64 0]) ∧ w'.ownsRow w.heap.size 5 1 (.slice a (sealed 83 s.enc).length c) (sealed 83 s.enc).length ((sealed 83 s.enc).map B)))

theorem S_data (a : List UInt8) : (S a).data.toList = a := rfl

set_option maxRecDepth 100000 in
set_option maxHeartbeats 4000000 in
theorem j_snapencode (s : Sp) (h : s.ok) (w : World) (ht : Tab w) :
    Calls Tryd.prog 32 #[.agg s.cells.toArray] w (Encoded s w) := by
  obtain ⟨cs, hcs⟩ : ∃ cs, cs = s.cells := ⟨_, rfl⟩
  have hA : At (w.alloc (.cells cs.toArray 28)) w.heap.size s := by rw [hcs]; exact heap_alloc_at rfl
  have hck := j_snapcheck s h (w.alloc (.cells cs.toArray 28))
  have hk0 := hid (show Kept [] w (w.alloc (.cells cs.toArray 28)) from (Kept.refl [] w).alloc _)
  have hrd := hid hA.reads
  have hinf := hid (Sp.info h)
  rw [← hcs] at hck hrd hinf ⊢
  have HA := hid hA; have Hok := hid h; have HT := hid ht
  clear hA hcs ht
  by_cases he : s.err = 0
  · rw [he] at hck
    have hck := hid hck
    have hfar := Sp.err_far he
    have hlen := Sp.err_len he
    unfold Sp.far at hfar
    have hb2 := h.b2
    obtain ⟨T, hT⟩ : ∃ T : Nat, s.time = T := ⟨s.time.toNat, by omega⟩
    obtain ⟨F, hF⟩ : ∃ F : Nat, s.files = F := ⟨s.files.toNat, by omega⟩
    obtain ⟨N, hN⟩ : ∃ N : Nat, s.bytes = N := ⟨s.bytes.toNat, by omega⟩
    have hT64 : T < 18446744073709551616 := by omega
    have hF64 : F < 18446744073709551616 := by omega
    have hN64 : N < 18446744073709551616 := by omega
    have hT1 : IntKind.u64.wrap (T : Int) = (T : Int) := by rw [IntKind.wrap_u64]; omega
    have hF1 : IntKind.u64.wrap (F : Int) = (F : Int) := by rw [IntKind.wrap_u64]; omega
    have hN1 : IntKind.u64.wrap (N : Int) = (N : Int) := by rw [IntKind.wrap_u64]; omega
    have he := hid he
    have c0 := hid (show s.cells[0]? = some (.int .i64 (T : Int)) by rw [← hT]; exact s.c0)
    have c1 := hid s.c1
    have c2 := hid s.c2
    have c35 := hid (show s.cells[35]? = some (.int .i64 (F : Int)) by rw [← hF]; exact Sp.c35 h)
    have c36 := hid (show s.cells[36]? = some (.int .i64 (N : Int)) by rw [← hN]; exact Sp.c36 h)
    have henc := hid (show s.enc = numB T 8 ++ (numB s.host.length 4 ++ s.host) ++ (numB s.tag.length 4 ++ s.tag) ++ s.root ++ numB F 4 ++ numB N 8 from by
      unfold Sp.enc; rw [hT, hF, hN]; rfl)
    have hel := hid (Sp.enc_len h)
    have hl1 := hid hlen.1; have hl2 := hid hlen.2
    have hr32 := hid h.root
    clear hfar hb2 hT hF hN hlen h
    go_enter Tryd.func32, Tryd.ntmps32
    go_wp2_with (refine wpList_load_cells rfl 28 (.tmp 1) rfl ⟨w.heap.size, 0, none⟩ rfl cs _ Tryd.underlying28 rfl hinf.out hrd.out ?_)
    refine hck.out.mono ?_
    rintro e w1 ⟨rfl, hk1⟩
    have A1 := hid (HA.out.kept hk1 (by simp))
    have K1 := hid (hk0.out.trans hk1)
    have hlt := hid (lt_of_block A1.out)
    have Wv0 := hid (Wv.new w1)
    have A2 := hid (A1.out.kept ((Kept.refl [] w1).alloc (.cells #[.slice none 0 0] 86)) (by simp))
    have g := A2.out.cell _ _ c0.out
    clear hk1 hck hrd HA hk0
    go_wp2_with fail
    refine (Wv0.out.num T hT64 8 (by simp)).mono ?_
    rintro e w2 ⟨rfl, h2⟩
    have V2 := hid h2
    have g := (A1.out.kept h2.kept (by simp)).cell _ _ c1.out
    clear h2 Wv0 A2
    go_wp2_with fail
    refine (V2.out.text _ (by simp [numB_len, sz8]) (by rw [S_size]; have := hl1.out; omega)).mono ?_
    rintro e w3 ⟨rfl, h3⟩
    rw [S_size, S_data] at h3
    have V3 := hid h3
    have g := (A1.out.kept h3.kept (by simp)).cell _ _ c2.out
    clear h3 V2
    go_wp2_with fail
    refine (V3.out.text _ (by have := hl1.out; simp [numB_len, sz8]; omega) (by rw [S_size]; have := hl2.out; omega)).mono ?_
    rintro e w4 ⟨rfl, h4⟩
    rw [S_size, S_data] at h4
    have V4 := hid h4
    have R4 := hid ((A1.out.kept h4.kept (by simp)).root)
    clear h4 V3
    have hsl := slice_root w.heap.size
    go_wp2_with fail
    refine (V4.out.raw _ s.root (R4.out Hok.out) (by have := hl1.out; have := hl2.out; simp [numB_len, sz8]; omega) (by rw [hr32.out]; decide)).mono ?_
    rintro e w5 ⟨rfl, h5⟩
    have V5 := hid h5
    have g := (A1.out.kept h5.kept (by simp)).cell _ _ c35.out
    clear h5 V4 R4
    go_wp2_with fail
    refine (V5.out.num F hF64 4 (by have := hl1.out; have := hl2.out; simp [numB_len, sz8, hr32.out]; omega)).mono ?_
    rintro e w6 ⟨rfl, h6⟩
    have V6 := hid h6
    have g := (A1.out.kept h6.kept (by simp)).cell _ _ c36.out
    clear h6 V5
    go_wp2_with fail
    refine (V6.out.num N hN64 8 (by have := hl1.out; have := hl2.out; simp [numB_len, sz8, sz4, hr32.out]; omega)).mono ?_
    rintro e w7 ⟨rfl, h7⟩
    have V7 := hid (show Wv w1 w1.heap.size s.enc w7 by rw [henc.out]; simpa [sz8, sz4] using h7)
    clear h7 V6 g
    have hel60 : s.enc.length ≤ 200 := by have := hl1.out; have := hl2.out; have := hel.out; omega
    go_wp2_with fail
    refine (V7.out.done (by omega)).mono ?_
    rintro e w8 ⟨a8, c8, rfl, hk8, ho8⟩
    have hb8 := (bys_of_row ho8).1
    have K8 := hid (K1.out.trans hk8)
    have hs := hid (show Calls Tryd.prog 45 #[.int .u8 83, .slice a8 s.enc.length c8] w8 (Gives w8 [] (sealed 83 s.enc)) from seal_any 83 _ _ w8 hb8 (HT.out.kept K8.out (by simp)) (by omega))
    clear V7 hk8 ho8 hb8
    go_wp2_with fail
    refine hs.out.mono ?_
    rintro e w9 ⟨a9, c9, rfl, hk9, ho9⟩
    have K9 := hid (K8.out.trans hk9)
    have O9 := hid (owns_lower ho9 K8.out.size)
    clear hk9 ho9 hs
    go_wp2
    go_ret2
    exact ⟨K9.out, Or.inr ⟨he.out, a9, c9, rfl, O9.out⟩⟩
  · have hck := hid hck
    have hne : (s.err != 0) = true := by simpa using he
    have he := hid he
    go_enter Tryd.func32, Tryd.ntmps32
    go_wp2_with (refine wpList_load_cells rfl 28 (.tmp 1) rfl ⟨w.heap.size, 0, none⟩ rfl cs _ Tryd.underlying28 rfl hinf.out hrd.out ?_)
    refine hck.out.mono ?_
    rintro e w1 ⟨rfl, hk1⟩
    have K1 := hid (hk0.out.trans hk1)
    clear hk1 hck hrd HA hk0
    go_wp2
    go_ret2
    exact ⟨K1.out, Or.inl ⟨he.out, rfl⟩⟩
end Go.Proofs.YtmfjfahlgcdehaaDoor
