/- Bools that came in, as a row in memory. -/
import Derived.Test.YtkiiknaoljppdabRowPlain
import Derived.Test.YtkiiknaoljppdabAlgHelp
namespace Go.Proofs.Ytkiiknaoljppdab
open Go.ChangeShapes Go.WideShapes Go.ChangeAt Go.RowKit
set_option linter.unusedSimpArgs false
set_option linter.unusedVariables false

theorem cells8_bool : Try.prog.cellsOf 4 = 1 := by kernel_rfl
theorem bytes8_bool : Try.prog.bytesOf 4 = 1 := by kernel_rfl
theorem bools_open8 {H : Type} {enc : TypeId × Value → H} {W : World} {fuel : Nat} {a : Option Addr} {len cap : Nat} {x : DataW H × List MemPlace} {held : Bool} (hf : DataW.trod enc Try.prog W 0 (fun _ => true) held fuel 22 (Value.slice a len cap).cells.toList = some x) :
    ∃ bs : List Bool, bs.length = len ∧ BoolAt W (.slice a len cap) bs ∧ True ∧ (len = 0 ∨ ∃ el spr, x.1 = .slice el spr ∧ len ≤ el.length + spr.length) := by
  rcases slice_cells Try.underlying22 cells8_bool (by omega) hf with ⟨rfl, rfl, rfl, hx⟩ | ⟨ad, el, spr, rfl, hl, hx, hc, hcell⟩
  · exact ⟨[], rfl, ⟨none, 0, rfl, Nat.le_refl _, fun i z h => by simp at h⟩, trivial, Or.inl rfl⟩
  · have hz : ∀ i, i < len → ∃ z : Bool, W.cell? ⟨ad.block, ad.off + i, none⟩ = some (.bool z) := fun i hi => by
      obtain ⟨_, cs', n, y, h1, h2⟩ := hcell i hi
      obtain ⟨z, hcs, _⟩ := DataW.trod_bool Try.underlying4 h2
      have := h1 0 (by omega)
      rw [hcs] at this
      exact ⟨z, by simpa using this⟩
    obtain ⟨Z, hZ⟩ := Go.Deep.choose_lt (α := Bool) hz
    refine ⟨(List.range len).map Z, by simp, ⟨some ad, cap, by simp, by simpa using hl, fun i z h => ?_⟩, trivial, Or.inr ⟨el, spr, hx, by omega⟩⟩
    have hi : i < len := by simpa using (List.getElem?_eq_some_iff.1 h).1
    simp [hi] at h
    subst h
    have hsp := (hcell i hi).1
    obtain ⟨b, off, spot⟩ := ad
    simp only at hsp
    subst hsp
    exact ⟨b, off, rfl, hZ i hi⟩
end Go.Proofs.Ytkiiknaoljppdab
