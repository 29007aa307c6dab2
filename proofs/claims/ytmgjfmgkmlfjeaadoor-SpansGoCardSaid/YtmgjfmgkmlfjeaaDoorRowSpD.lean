/- Spans, a span that came in (in a seat with a door). -/
import Derived.Test.YtmgjfmgkmlfjeaaDoorRowDel
import Derived.Test.YtmgjfmgkmlfjeaaDoorSpLeast
namespace Go.Proofs.YtmgjfmgkmlfjeaaDoor
open Go.ChangeShapes Go.WideShapes Go.ChangeAt Go.RowKit
set_option linter.unusedSimpArgs false
set_option linter.unusedVariables false

theorem cells15_spd : Tryd.prog.cellsOf 24 = 3 := by kernel_rfl
theorem spds_open {H : Type} {enc : TypeId × Value → H} {W : World} {fuel : Nat} {v : Value} {x : DataW H × List MemPlace} {held : Bool} (hf : DataW.trod enc Tryd.prog W 0 (fun _ => true) held fuel 22 [v] = some x) :
    ∃ rs : List Sp, SpAt W v rs ∧ rs.length ≤ maxLen ∧ True := by
  rcases row_cells Tryd.underlying22 cells15_spd (by omega) hf with rfl | ⟨ad, len, cap, rfl, hl, hc, hcell⟩
  · exact ⟨[], SpAt.nil W, Nat.zero_le _, trivial⟩
  · have hz : ∀ i, i < len → ∃ r : Sp, W.cell? ⟨ad.block, ad.off + i * 3, none⟩ = some (.int .i64 r.1) ∧ W.cell? ⟨ad.block, ad.off + i * 3 + 1, none⟩ = some (.int .i64 r.2.1) ∧ W.cell? ⟨ad.block, ad.off + i * 3 + 2, none⟩ = some (.int .i64 r.2.2) := fun i hi => by
      obtain ⟨_, cs', n, y, h1, h2⟩ := hcell i hi
      obtain ⟨z0, e0, w0⟩ := fld_int Tryd.underlying24 h2 0 _ rfl Tryd.underlying3 cells11_int
      obtain ⟨z1, e1, w1⟩ := fld_int Tryd.underlying24 h2 1 _ rfl Tryd.underlying3 cells11_int
      obtain ⟨z2, e2, w2⟩ := fld_int Tryd.underlying24 h2 2 _ rfl Tryd.underlying3 cells11_int
      exact ⟨(z0, z1, z2), (h1 0 (by omega)).trans e0, (h1 1 (by omega)).trans e1, (h1 2 (by omega)).trans e2⟩
    obtain ⟨Z, hZ⟩ := Go.Deep.choose_lt (α := Sp) hz
    refine ⟨(List.range len).map Z, ⟨some ad, cap, by simp, by simpa using hl, fun e => (by cases e), fun i z h => ?_⟩, by simp; omega, trivial⟩
    have hi : i < len := by simpa using (List.getElem?_eq_some_iff.1 h).1
    simp [hi] at h
    subst h
    have hsp := (hcell i hi).1
    obtain ⟨b, off, spot⟩ := ad
    simp only at hsp
    subst hsp
    exact ⟨b, off, rfl, hZ i hi⟩
theorem spd_open {H : Type} {enc : TypeId × Value → H} {W : World} {base : Nat} {v : Value} {d : DataW H} {p : List MemPlace}
    (hv : Value.okWide Tryd.prog W .any base 24 v) (h : DataW.Trod enc Tryd.prog W 0 (fun _ => true) true 24 v d p) :
    ∃ a0 a1 a2 : Int, v = .agg #[.int .i64 a0, .int .i64 a1, .int .i64 a2] := by
  obtain ⟨v0, v1, v2, y0, y1, y2, n, rfl, _, _, h0, h1, h2⟩ := Go.Joins.open_agg3 Tryd.underlying24 (by kernel_rfl) (by kernel_rfl) hv h
  obtain ⟨z0, e0, _, _⟩ := DataW.trod_int Tryd.underlying3 h0
  obtain ⟨z1, e1, _, _⟩ := DataW.trod_int Tryd.underlying3 h1
  obtain ⟨z2, e2, _, _⟩ := DataW.trod_int Tryd.underlying3 h2
  simp only [List.cons.injEq, and_true] at e0 e1 e2
  exact ⟨z0, z1, z2, by rw [e0, e1, e2]⟩
end Go.Proofs.YtmgjfmgkmlfjeaaDoor
