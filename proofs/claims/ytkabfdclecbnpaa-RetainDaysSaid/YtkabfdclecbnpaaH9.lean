import Derived.Test.YtkabfdclecbnpaaH8
import Derived.Deep.RegionLaw
import Derived.OpenShut

/- sha.Text. -/
namespace Go.Proofs.Ytkabfdclecbnpaa
open Go.RowKit Go.Lib

/-- What has been written of a sum's digits. -/
def TxRel (w : World) (l : List UInt8) (i : Nat) (v : Value) (wr : World) : Prop :=
  Kept [] w wr ∧ wr.ownsRow w.heap.size 5 1 v (hexOf (l.take i)).length ((hexOf (l.take i)).map B)

theorem text_bytes (w : World) (x : Addr) (c : Nat) (ys : List UInt8) (hc : ∀ (j : Nat) u, (ys.map B)[j]? = some u → w.cell? (x.add j) = some u) :
    (convert 85 9 (.slice (some x) ys.length c)).run Try.prog w = .ok (.string ⟨ys.toArray⟩) w := by
  have hl : (loadCells x ys.length).run Try.prog w = .ok ((ys.map fun y => (y.toNat : Int)).map (Value.int .u8)).toArray w := by
    have := run_loadCells_list (P := Try.prog) w x (ys.map B) hc
    have eB : (ys.map fun y => (y.toNat : Int)).map (Value.int .u8) = ys.map B := by rw [List.map_map]; rfl
    rw [eB]
    simpa using this
  rw [run_convert_bytes_string w _ _ _ _ ys.length c Try.underlying85 Try.underlying5 Try.underlying9, run_bytesToString w _ ys.length c _ hl, foldl_push_bytes]
  have e : (ys.map fun y => (y.toNat : Int)).map (fun n => UInt8.ofNat n.toNat) = ys := by
    rw [List.map_map]
    conv => rhs; rw [← List.map_id ys]
    apply List.map_congr_left
    intro y _
    simp
  rw [e]
  simp [ByteArray.empty, ByteArray.emptyWithCapacity]
  rfl

theorem make_64 (W : World) : (Instr.makeSlice 85 (.int .i64 0) (.int .i64 64)).run Try.prog W = .ok (.slice (some ⟨W.heap.size, 0, none⟩) 0 64) (W.alloc (.cells (List.replicate 64 (B 0)).toArray 5)) := by
  obtain ⟨i0, hi0, hz0, hz1, hz2⟩ := info_parts sha_info_u8
  have := run_makeSlice (P := Try.prog) W 85 5 i0 (.int .u8 0) Try.underlying85 hi0 hz0 .i64 .i64 0 64 (by omega) (by omega) (by rw [hz1]; decide) (by rw [hz2]; omega) (by omega)
  rw [this]
  have e : ∀ n, madeCells (Value.int .u8 0).cells n = (List.replicate n (B 0)).toArray := fun n => by
    apply Array.ext
    · simp [madeCells, Value.cells]
    · intro j h1 h2
      simp [madeCells, Value.cells, B, Nat.mod_one]
  rw [e, hz1]
  rfl

theorem tx_next {w wr w2 : World} {l : List UInt8} {i g c c2 : Nat} {b2 : Option Addr} {x y : UInt8} {o : Obj} (hk0 : Kept [] w wr) (ho0 : wr.ownsRow w.heap.size 5 1 (.slice (some ⟨g, 0, none⟩) (2 * i) c) (2 * i) ((hexOf (l.take i)).map B))
    (hown2 : w2.ownsRow w.heap.size 5 1 (.slice b2 (2 * i + 2) c2) (2 * i + 2) ((hexOf (l.take i)).map B ++ [B x, B y])) (hgrow : (wr.alloc o).drew.grownBy w2 (Value.slice (some ⟨g, 0, none⟩) (2 * i) c).ownBlock)
    (hsn : hexOf (l.take (i + 1)) = hexOf (l.take i) ++ [x, y]) (hlen : (hexOf (l.take (i + 1))).length = 2 * i + 2) : ∃ g2, b2 = some ⟨g2, 0, none⟩ ∧ TxRel w l (i + 1) (.slice (some ⟨g2, 0, none⟩) (hexOf (l.take (i + 1))).length c2) w2 := by
  have hg : w.heap.size ≤ g := by
    rcases ho0.2 with ⟨h1, _⟩ | ⟨g', _, _, h1, h2, _⟩
    · simp at h1
    · simp at h1; omega
  obtain ⟨g2, hb2⟩ : ∃ g2, b2 = some ⟨g2, 0, none⟩ := by
    rcases hown2.2 with ⟨h1, h2⟩ | ⟨g', _, _, h1, h2, _⟩
    · omega
    · simp at h1; exact ⟨g', h1.1⟩
  subst hb2
  refine ⟨g2, rfl, ((hk0.alloc o).drew.trans' (Kept.of_row hgrow) (fun x hx hm => by simp [Value.ownBlock] at hm; omega)), ?_⟩
  rw [hlen, hsn, List.map_append]
  exact hown2

theorem two_cells (w : World) (u v : Value) : ∀ (j : Nat) (x : Value), [u, v][j]? = some x → (w.drew.alloc (.cells #[u, v] 5)).cell? ((⟨w.heap.size, 0, none⟩ : Addr).add j) = some x := by
  intro j x hj
  rw [plain_add, Nat.zero_add, cell_of_row _ _ _ _ _ _ (heap_alloc_at (by rfl))]
  rcases j with _ | _ | j
  · simpa using hj
  · simpa using hj
  · simp at hj

end Go.Proofs.Ytkabfdclecbnpaa
