/- What the row's list of package variables gives: the library's two tables lie in memory. From what came in to rows of numbers, of bytes. -/
import Derived.Test.YtafhogfbjklboaaDoorBrkUtf
import Derived.Test.YtafhogfbjklboaaDoorBrkMem
import Derived.Test.YtafhogfbjklboaaDoorRowDel
namespace Go.Proofs
open Go.Shelf Go.Lib
theorem Tryd.u8extra16 : U8Extra Tryd.prog YtafhogfbjklboaaDoor.Tryd.laysVs_ren := {
  n3 := by kernel_rfl
  n4 := by kernel_rfl
  y3 := by kernel_rfl
  y4 := by kernel_rfl
  c5 := by kernel_rfl
  c119 := by kernel_rfl
  c138 := by kernel_rfl }
end Go.Proofs
namespace Go.Proofs.YtafhogfbjklboaaDoor
open Go.ChangeShapes Go.WideShapes Go.ChangeAt Go.RowKit
set_option linter.unusedSimpArgs false
set_option linter.unusedVariables false

theorem first_data16 : Rows.laid_unicode_utf8_first = Lib.firstData := by kernel_rfl
theorem accept_data16 : (Rows.laid_unicode_utf8_acceptRanges : DataW Unit) = Lib.acceptData := by kernel_rfl
theorem ut_of_laid {W : World} {l : List (String × DataW Unit)} (h3 : ("unicode/utf8.first", Rows.laid_unicode_utf8_first) ∈ l) (h4 : ("unicode/utf8.acceptRanges", Rows.laid_unicode_utf8_acceptRanges) ∈ l) (h' : laidMet Tryd.prog l W) : UT W := by
  have r3 := Lib.laidMet.reads h' h3
  have r4 := Lib.laidMet.reads h' h4
  rw [first_data16] at r3
  rw [accept_data16] at r4
  exact utf8Tabs_of_readsT (U8Types.of196 Tryd.laysVs) Tryd.u8extra16 r3 r4
/-- The library's tables' cells, for the witness. -/
def firstCells : Array Value := ((List.range 256).map fun c => Value.int .u8 (Lib.firstT c)).toArray
def acceptCells : Array Value := ((List.range 16).flatMap fun i => [Value.int .u8 (Lib.accLo i), Value.int .u8 (Lib.accHi i)]).toArray

theorem cells16_int : Tryd.prog.cellsOf 3 = 1 := by kernel_rfl
theorem cells16_u8 : Tryd.prog.cellsOf 5 = 1 := by kernel_rfl
/-- A row of bytes in memory. -/
def UAt (w : World) (v : Value) (L : List Int) : Prop :=
  ∃ a cap, v = .slice a L.length cap ∧ L.length ≤ cap ∧ ∀ i z, L[i]? = some z → ∃ g off, a = some ⟨g, off, none⟩ ∧ w.cell? ⟨g, off + i, none⟩ = some (.int .u8 z)
theorem UAt.later {w w' : World} {v : Value} {L : List Int} (h : UAt w v L) (hb : Below w.heap.size w w') : UAt w' v L := by
  obtain ⟨a, cap, e, hc, h⟩ := h
  refine ⟨a, cap, e, hc, fun i r hr => ?_⟩
  obtain ⟨g, off, ea, h1⟩ := h i r hr
  exact ⟨g, off, ea, cell_later7 hb (Nat.le_refl _) h1⟩
theorem UAt.shape {w : World} {v : Value} {L : List Int} (h : UAt w v L) : ∃ a cap, v = .slice a L.length cap := by obtain ⟨a, cap, e, _⟩ := h; exact ⟨a, cap, e⟩
theorem UAt.cell {w : World} {a : Option Addr} {n cap : Nat} {L : List Int} (h : UAt w (.slice a n cap) L) {i : Nat} {x : Int} (hx : L[i]? = some x) : ∃ g off, a = some ⟨g, off, none⟩ ∧ w.cell? ⟨g, off + i, none⟩ = some (.int .u8 x) := by
  obtain ⟨a', cap', e, _, hc⟩ := h
  cases e
  exact hc i x hx
section
variable {H : Type} {enc : TypeId × Value → H} {W : World} {fuel : Nat} {v : Value} {x : DataW H × List MemPlace} {held : Bool}
theorem nats_open (hf : DataW.trod enc Tryd.prog W 0 (fun _ => true) held fuel 22 [v] = some x) :
    ∃ L : List Int, NAt W v L ∧ L.length ≤ maxLen ∧ True := by
  rcases row_cells Tryd.underlying22 cells16_int (by omega) hf with rfl | ⟨ad, len, cap, rfl, hl, hc, hcell⟩
  · exact ⟨[], nat_nil W, Nat.zero_le _, trivial⟩
  · have hz : ∀ i, i < len → ∃ r : Int, W.cell? ⟨ad.block, ad.off + i, none⟩ = some (.int .i64 r) := fun i hi => by
      obtain ⟨_, cs', n, y, h1, h2⟩ := hcell i hi
      obtain ⟨z0, e0, _, w0⟩ := DataW.trod_int Tryd.underlying3 h2
      have := h1 0 (by omega)
      rw [Nat.mul_one, Nat.add_zero, e0] at this
      exact ⟨z0, this⟩
    obtain ⟨Z, hZ⟩ := Go.Deep.choose_lt (α := Int) hz
    refine ⟨(List.range len).map Z, ⟨some ad, cap, by simp, by simpa using hl, fun e => (by cases e), fun i z h => ?_⟩, by simp; omega, trivial⟩
    have hi : i < len := by simpa using (List.getElem?_eq_some_iff.1 h).1
    simp [hi] at h
    subst h
    have hsp := (hcell i hi).1
    obtain ⟨b, off, spot⟩ := ad
    simp only at hsp
    subst hsp
    exact ⟨b, off, rfl, hZ i hi⟩
theorem u8r_open (hf : DataW.trod enc Tryd.prog W 0 (fun _ => true) held fuel 45 [v] = some x) :
    ∃ L : List Int, UAt W v L ∧ L.length ≤ maxLen ∧ ∀ z ∈ L, 0 ≤ z ∧ z ≤ 255 := by
  rcases row_cells Tryd.underlying45 cells16_u8 (by omega) hf with rfl | ⟨ad, len, cap, rfl, hl, hc, hcell⟩
  · exact ⟨[], ⟨none, 0, rfl, Nat.zero_le _, fun i z h => by simp at h⟩, Nat.zero_le _, fun z h => by cases h⟩
  · have hz : ∀ i, i < len → ∃ r : Int, W.cell? ⟨ad.block, ad.off + i, none⟩ = some (.int .u8 r) ∧ 0 ≤ r ∧ r ≤ 255 := fun i hi => by
      obtain ⟨_, cs', n, y, h1, h2⟩ := hcell i hi
      obtain ⟨z0, e0, _, w0⟩ := DataW.trod_int Tryd.underlying5 h2
      have := h1 0 (by omega)
      rw [Nat.mul_one, Nat.add_zero, e0] at this
      have hb := bounds_u8 w0
      exact ⟨z0, this, by omega, by omega⟩
    obtain ⟨Z, hZ⟩ := Go.Deep.choose_lt (α := Int) hz
    refine ⟨(List.range len).map Z, ⟨some ad, cap, by simp, by simpa using hl, fun i z h => ?_⟩, by simp; omega, fun z h => ?_⟩
    · have hi : i < len := by simpa using (List.getElem?_eq_some_iff.1 h).1
      simp [hi] at h
      subst h
      have hsp := (hcell i hi).1
      obtain ⟨b, off, spot⟩ := ad
      simp only at hsp
      subst hsp
      exact ⟨b, off, rfl, (hZ i hi).1⟩
    · simp at h
      obtain ⟨i, hi, rfl⟩ := h
      exact (hZ i hi).2
end
end Go.Proofs.YtafhogfbjklboaaDoor
