import Derived.Test.YtdojpioclojalaaDoorN7

/- Handed nodes, seen from a later world. -/
namespace Go.Proofs.YtdojpioclojalaaDoor
open Go.RowKit Go.Lib

theorem cell_later {w wr : World} (hk : Kept [] w wr) {p : Addr} {v : Value} (h : w.cell? p = some v) : wr.cell? p = some v := by
  rw [hk.cell (World.block_lt_of_cell? w _ h) (by simp)]; exact h
theorem Nodes.later {w wr : World} {a : Option Addr} {c : Nat} {ns : List NodeR} (h : Nodes w a c ns) (hk : Kept [] w wr) : Nodes wr a c ns := by
  refine ⟨h.le, h.max, h.nil, fun x hx i n hn => ?_⟩
  obtain ⟨h0, h1, h2, h3, h4, h5, h6, h7⟩ := h.at_ x hx i n hn
  exact ⟨cell_later hk h0, cell_later hk h1, cell_later hk h2, cell_later hk h3, fun k b hb => cell_later hk (h4 k b hb), h5, h6.kept hk (by simp), h7⟩
end Go.Proofs.YtdojpioclojalaaDoor
