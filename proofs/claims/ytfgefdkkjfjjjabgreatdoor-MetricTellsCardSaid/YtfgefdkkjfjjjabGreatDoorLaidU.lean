/- What the row's list of package variables gives: the project's table and both of the library's lie in memory. -/
import Derived.Test.YtfgefdkkjfjjjabGreatDoorLaid
import Derived.Test.YtfgefdkkjfjjjabGreatDoorDec
namespace Go.Proofs.YtfgefdkkjfjjjabGreatDoor
open Go.ChangeShapes Go.WideShapes Go.ChangeAt Go.RowKit

theorem first_data : Rows.laid_unicode_utf8_first = Lib.firstData := by kernel_rfl
theorem accept_data : (Rows.laid_unicode_utf8_acceptRanges : DataW Unit) = Lib.acceptData := by kernel_rfl
theorem tabs_of_laid {W : World} {l : List (String × DataW Unit)} (hm : ("palinode/utf.table", Rows.laid_palinode_utf_table) ∈ l) (h3 : ("unicode/utf8.first", Rows.laid_unicode_utf8_first) ∈ l) (h4 : ("unicode/utf8.acceptRanges", Rows.laid_unicode_utf8_acceptRanges) ∈ l) (h' : laidMet Tryz.prog l W) : ∃ tb, Tabs W tb := by
  obtain ⟨tb, ht⟩ := tab_of_laid hm h'
  have r3 := Lib.laidMet.reads h' h3
  have r4 := Lib.laidMet.reads h' h4
  rw [first_data] at r3
  rw [accept_data] at r4
  exact ⟨tb, ht, utf8Tabs_of_reads { Tryz.lays197 with } Tryz.u8extra r3 r4⟩

/-- The library's tables' cells, for the witness. -/
def firstCells : Array Value := ((List.range 256).map fun c => Value.int .u8 (Lib.firstT c)).toArray
def acceptCells : Array Value := ((List.range 16).flatMap fun i => [Value.int .u8 (Lib.accLo i), Value.int .u8 (Lib.accHi i)]).toArray
end Go.Proofs.YtfgefdkkjfjjjabGreatDoor
