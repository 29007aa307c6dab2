/- Steps that came in, as a row in memory. -/
import Derived.Test.YtgdolopggocleaaRowPlain
namespace Go.Proofs.Ytgdolopggocleaa
open Go.ChangeShapes Go.WideShapes Go.ChangeAt Go.RowKit
set_option linter.unusedSimpArgs false
set_option linter.unusedVariables false

theorem cells7_step : Try.prog.cellsOf 34 = 3 := by kernel_rfl
theorem bytes7_step : Try.prog.bytesOf 34 = 24 := by kernel_rfl
theorem steps_open {H : Type} {enc : TypeId × Value → H} {W : World} {fuel : Nat} {a : Option Addr} {len cap : Nat} {x : DataW H × List MemPlace} {held : Bool} (hf : DataW.trod enc Try.prog W 0 (fun _ => true) held fuel 23 (Value.slice a len cap).cells.toList = some x) :
    ∃ rs : List (Int × Int × Int), rs.length = len ∧ StAt W (.slice a len cap) rs ∧ True ∧ (len = 0 ∨ ∃ el spr, x.1 = .slice el spr ∧ len ≤ el.length + spr.length) := by
  rcases slice_cells Try.underlying23 cells7_step (by omega) hf with ⟨rfl, rfl, rfl, hx⟩ | ⟨ad, el, spr, rfl, hl, hx, hc, hcell⟩
  · exact ⟨[], rfl, ⟨none, 0, rfl, Nat.le_refl _, fun i z h => by simp at h⟩, trivial, Or.inl rfl⟩
  · have hz : ∀ i, i < len → ∃ r : Int × Int × Int, W.cell? ⟨ad.block, ad.off + i * 3, none⟩ = some (.int .i64 r.1) ∧ W.cell? ⟨ad.block, ad.off + i * 3 + 1, none⟩ = some (.int .i64 r.2.1) ∧ W.cell? ⟨ad.block, ad.off + i * 3 + 2, none⟩ = some (.int .i64 r.2.2) := fun i hi => by
      obtain ⟨_, cs', n, y, h1, h2⟩ := hcell i hi
      obtain ⟨z0, e0, w0⟩ := struct_int Try.underlying34 h2 0 _ rfl Try.underlying3 cells7_int
      obtain ⟨z1, e1, w1⟩ := struct_int Try.underlying34 h2 1 _ rfl Try.underlying3 cells7_int
      obtain ⟨z2, e2, w2⟩ := struct_int Try.underlying34 h2 2 _ rfl Try.underlying3 cells7_int
      exact ⟨(z0, z1, z2), (h1 0 (by omega)).trans e0, (h1 1 (by omega)).trans e1, (h1 2 (by omega)).trans e2⟩
    obtain ⟨Z, hZ⟩ := Go.Deep.choose_lt (α := Int × Int × Int) hz
    refine ⟨(List.range len).map Z, by simp, ⟨some ad, cap, by simp, by simpa using hl, fun i z h => ?_⟩, trivial, Or.inr ⟨el, spr, hx, by omega⟩⟩
    have hi : i < len := by simpa using (List.getElem?_eq_some_iff.1 h).1
    simp [hi] at h
    subst h
    have hsp := (hcell i hi).1
    obtain ⟨b, off, spot⟩ := ad
    simp only at hsp
    subst hsp
    exact ⟨b, off, rfl, hZ i hi⟩
end Go.Proofs.Ytgdolopggocleaa
