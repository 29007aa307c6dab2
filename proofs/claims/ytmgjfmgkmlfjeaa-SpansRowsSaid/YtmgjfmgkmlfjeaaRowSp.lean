/- Spans that came in (a plain seat), as a row in memory. -/
import Derived.Test.YtmgjfmgkmlfjeaaRowPlain
import Derived.Test.YtmgjfmgkmlfjeaaSpMem
namespace Go.Proofs.Ytmgjfmgkmlfjeaa
open Go.ChangeShapes Go.WideShapes Go.ChangeAt Go.RowKit
set_option linter.unusedSimpArgs false
set_option linter.unusedVariables false

theorem cells15_sp : Try.prog.cellsOf 26 = 3 := by kernel_rfl
theorem bytes15_sp : Try.prog.bytesOf 26 = 24 := by kernel_rfl
theorem sps_open {H : Type} {enc : TypeId × Value → H} {W : World} {fuel : Nat} {a : Option Addr} {len cap : Nat} {x : DataW H × List MemPlace} {held : Bool} (hf : DataW.trod enc Try.prog W 0 (fun _ => true) held fuel 22 (Value.slice a len cap).cells.toList = some x) :
    ∃ rs : List (Int × Int × Int), rs.length = len ∧ SpAt W (.slice a len cap) rs ∧ True ∧ (len = 0 ∨ ∃ el spr, x.1 = .slice el spr ∧ len ≤ el.length + spr.length) := by
  rcases slice_cells Try.underlying22 cells15_sp (by omega) hf with ⟨rfl, rfl, rfl, hx⟩ | ⟨ad, el, spr, rfl, hl, hx, hc, hcell⟩
  · exact ⟨[], rfl, SpAt.nil W, trivial, Or.inl rfl⟩
  · have hz : ∀ i, i < len → ∃ r : Int × Int × Int, W.cell? ⟨ad.block, ad.off + i * 3, none⟩ = some (.int .i64 r.1) ∧ W.cell? ⟨ad.block, ad.off + i * 3 + 1, none⟩ = some (.int .i64 r.2.1) ∧ W.cell? ⟨ad.block, ad.off + i * 3 + 2, none⟩ = some (.int .i64 r.2.2) := fun i hi => by
      obtain ⟨_, cs', n, y, h1, h2⟩ := hcell i hi
      obtain ⟨z0, e0, w0⟩ := struct_int Try.underlying26 h2 0 _ rfl Try.underlying3 cells7_int
      obtain ⟨z1, e1, w1⟩ := struct_int Try.underlying26 h2 1 _ rfl Try.underlying3 cells7_int
      obtain ⟨z2, e2, w2⟩ := struct_int Try.underlying26 h2 2 _ rfl Try.underlying3 cells7_int
      exact ⟨(z0, z1, z2), (h1 0 (by omega)).trans e0, (h1 1 (by omega)).trans e1, (h1 2 (by omega)).trans e2⟩
    obtain ⟨Z, hZ⟩ := Go.Deep.choose_lt (α := Int × Int × Int) hz
    refine ⟨(List.range len).map Z, by simp, ⟨some ad, cap, by simp, by simpa using hl, fun e => (by cases e), fun i z h => ?_⟩, trivial, Or.inr ⟨el, spr, hx, by omega⟩⟩
    have hi : i < len := by simpa using (List.getElem?_eq_some_iff.1 h).1
    simp [hi] at h
    subst h
    have hsp := (hcell i hi).1
    obtain ⟨b, off, spot⟩ := ad
    simp only at hsp
    subst hsp
    exact ⟨b, off, rfl, hZ i hi⟩
end Go.Proofs.Ytmgjfmgkmlfjeaa
