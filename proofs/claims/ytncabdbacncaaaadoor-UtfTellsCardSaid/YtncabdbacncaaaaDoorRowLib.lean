/- Rows of numbers in memory. -/
import Derived.Test.YtncabdbacncaaaaDoorPoints
namespace Go.Proofs.YtncabdbacncaaaaDoor
open Go.RowKit Go.Sort

/-- A row of numbers in memory, as it came in. -/
def RowAt (k : IntKind) (w : World) (v : Value) (zs : List Int) : Prop :=
  ∃ ad cap, v = .slice ad zs.length cap ∧ (zs ≠ [] → ∃ blk off, ad = some ⟨blk, off, none⟩ ∧ ∀ i, i < zs.length → w.cell? ⟨blk, off + i, none⟩ = some (.int k (zs.getD i 0)))
theorem RowAt.later {k : IntKind} {w w' : World} {v : Value} {zs : List Int} (h : RowAt k w v zs) (hb : Below w.heap.size w w') : RowAt k w' v zs := by
  obtain ⟨ad, cap, hv, hc⟩ := h
  refine ⟨ad, cap, hv, fun hne => ?_⟩
  obtain ⟨blk, off, ha, hcell⟩ := hc hne
  exact ⟨blk, off, ha, fun i hi => cell_later hb (hcell i hi)⟩
theorem row_of_ints {w : World} {v : Value} {zs : List Int} (h : IntsAt w v zs) : RowAt .i64 w v zs := by
  rcases h with ⟨rfl, rfl⟩ | ⟨blk, off, cap, rfl, hc⟩
  · exact ⟨none, 0, rfl, fun h => absurd rfl h⟩
  · exact ⟨some ⟨blk, off, none⟩, cap, rfl, fun _ => ⟨blk, off, rfl, hc⟩⟩
theorem ints_later {w w' : World} {v : Value} {zs : List Int} (h : IntsAt w v zs) (hb : Below w.heap.size w w') : IntsAt w' v zs := by
  rcases h with h | ⟨blk, off, cap, hv, hc⟩
  · exact Or.inl h
  · exact Or.inr ⟨blk, off, cap, hv, fun i hi => cell_later hb (hc i hi)⟩

theorem ints_cells {w : World} {ad : Option Addr} {n cap : Nat} {zs : List Int} (h : IntsAt w (.slice ad n cap) zs) (hne : zs ≠ []) : ∃ blk off, ad = some ⟨blk, off, none⟩ ∧ ∀ i, i < zs.length → w.cell? ⟨blk, off + i, none⟩ = some (.int .i64 (zs.getD i 0)) := by
  rcases h with ⟨_, rfl⟩ | ⟨blk, off, cap', hv, hc⟩
  · exact absurd rfl hne
  · injection hv with h1 h2 h3
    exact ⟨blk, off, h1, hc⟩

theorem Hid.mk' {p : Prop} (h : p) : Hid p := h

end Go.Proofs.YtncabdbacncaaaaDoor
