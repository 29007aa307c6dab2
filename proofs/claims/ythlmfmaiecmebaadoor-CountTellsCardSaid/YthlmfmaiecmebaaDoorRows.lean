/-
  NARROWER THAN 'FOR EVERY INPUT', by the rows' own cells (each row's printed sentence says how): CountTells: laid · CountSums: laid · CountBack: laid · CountUnits: laid · CountLines: laid · CountOrder: laid.
  DERIVED. THE GIVEN ROWS OF THIS SEAT. 6 by the template 'for every input the law returns true; each argument reads behind the call as it read before'; 0 by the template 'total and deterministic' (their statements: YthlmfmaiecmebaaDoorTotals.lean).
  GIVEN WITH THE SEED: the statements are not yours to turn. If you find one false, say at which input.
  Laid BY PROGRAM, IN A SANDBOX (cutbox-rows.mjs): the forced cells as the released guide's own fill.sh prints them over the translation c66c367d44eca1da… (all of the seat's roots in one cut). By AI agents, Wed Nov 11 2026. No macro, syntax, notation, axiom, sorry.
-/
import Derived.Test.YthlmfmaiecmebaaDoorChecked
import GoSem.PinnedTables
import GoSem.Claim
import GoSem.ClaimJoined
import GoSem.ClaimMapViews
import Derived.JoinedTies
import Derived.KernelRfl
namespace Go.Proofs.YthlmfmaiecmebaaDoor
/- THE CELL 'sum', in the pinned program and in every row, IS THE sha256 OF THE DUMP (.gsa) THAT YthlmfmaiecmebaaDoorProg.lean LOADS. Nothing in Lean hashes anything: it is a label: what it is worth is what the hold of that sum in a sandbox is worth. -/
noncomputable def Tryd.pinned : Pinned := { name := "ythlmfmaiecmebaadoor", sum := "c66c367d44eca1daa4567d2bcfe3b7bf7e5b565a904ec035ac16e2584eda12b4", checked := Tryd.checked }
namespace Rows
def none {H : Type} : Left H := { results := [], args := [] }

/- WHAT THE LISTED PACKAGE-LEVEL VARIABLES READ AS WHEN THE CALL BEGINS. Each datum BY PROGRAM (the guide's laid-datum.mjs) off the statement by which the dump's own 'gosem.cut.vars' lays the variable. In a bare row this is a premise. The card (YthlmfmaiecmebaaDoorCards.lean) ties it to the program's text. -/
def laid_unicode_utf8_acceptRanges {H : Type} : DataW H := .agg [.agg [.lit (.int .u8 128), .lit (.int .u8 191)], .agg [.lit (.int .u8 160), .lit (.int .u8 191)], .agg [.lit (.int .u8 128), .lit (.int .u8 159)], .agg [.lit (.int .u8 144), .lit (.int .u8 191)], .agg [.lit (.int .u8 128), .lit (.int .u8 143)], .agg [.lit (.int .u8 0), .lit (.int .u8 0)], .agg [.lit (.int .u8 0), .lit (.int .u8 0)], .agg [.lit (.int .u8 0), .lit (.int .u8 0)], .agg [.lit (.int .u8 0), .lit (.int .u8 0)], .agg [.lit (.int .u8 0), .lit (.int .u8 0)], .agg [.lit (.int .u8 0), .lit (.int .u8 0)], .agg [.lit (.int .u8 0), .lit (.int .u8 0)], .agg [.lit (.int .u8 0), .lit (.int .u8 0)], .agg [.lit (.int .u8 0), .lit (.int .u8 0)], .agg [.lit (.int .u8 0), .lit (.int .u8 0)], .agg [.lit (.int .u8 0), .lit (.int .u8 0)]]
def laid_palinode_utf_table {H : Type} : DataW H := .slice [.agg [.lit (.int .i32 0), .lit (.int .i32 127), .lit (.int .u8 0), .lit (.int .u8 127), .lit (.int .u8 0), .lit (.int .u8 0), .lit (.int .i64 1)], .agg [.lit (.int .i32 128), .lit (.int .i32 2047), .lit (.int .u8 194), .lit (.int .u8 223), .lit (.int .u8 128), .lit (.int .u8 191), .lit (.int .i64 2)], .agg [.lit (.int .i32 2048), .lit (.int .i32 4095), .lit (.int .u8 224), .lit (.int .u8 224), .lit (.int .u8 160), .lit (.int .u8 191), .lit (.int .i64 3)], .agg [.lit (.int .i32 4096), .lit (.int .i32 53247), .lit (.int .u8 225), .lit (.int .u8 236), .lit (.int .u8 128), .lit (.int .u8 191), .lit (.int .i64 3)], .agg [.lit (.int .i32 53248), .lit (.int .i32 55295), .lit (.int .u8 237), .lit (.int .u8 237), .lit (.int .u8 128), .lit (.int .u8 159), .lit (.int .i64 3)], .agg [.lit (.int .i32 57344), .lit (.int .i32 65535), .lit (.int .u8 238), .lit (.int .u8 239), .lit (.int .u8 128), .lit (.int .u8 191), .lit (.int .i64 3)], .agg [.lit (.int .i32 65536), .lit (.int .i32 262143), .lit (.int .u8 240), .lit (.int .u8 240), .lit (.int .u8 144), .lit (.int .u8 191), .lit (.int .i64 4)], .agg [.lit (.int .i32 262144), .lit (.int .i32 1048575), .lit (.int .u8 241), .lit (.int .u8 243), .lit (.int .u8 128), .lit (.int .u8 191), .lit (.int .i64 4)], .agg [.lit (.int .i32 1048576), .lit (.int .i32 1114111), .lit (.int .u8 244), .lit (.int .u8 244), .lit (.int .u8 128), .lit (.int .u8 143), .lit (.int .i64 4)]] []
/-- One of Go's own tables, pinned by name: the form's constant. -/
def laid_unicode_utf8_first : DataW Unit := Go.Pinned.utf8First

/-- 'palinodelaw2.CountTells': WHATEVER THE INPUT: true; the input reads as it did. -/
def countTellsSpec : ChangeSpec := { name := "countTells", fn := fun _ => fun
  | [d1, d2, d3, d4, d5] => { results := [.lit (.bool true)], args := [d1, d2, d3, d4, d5] }
  | _ => none }
def countTellsRow : OpenClaim := { program := "ythlmfmaiecmebaadoor", sum := "c66c367d44eca1daa4567d2bcfe3b7bf7e5b565a904ec035ac16e2584eda12b4", func := "palinode/palinodelaw2.CountTells", spec := "countTells", inPlace := ["internal/abi.NoEscape"], named := ["palinode/utf.table", "unicode/utf8.first", "unicode/utf8.acceptRanges"], apart := false, laid := [("unicode/utf8.acceptRanges", laid_unicode_utf8_acceptRanges), ("palinode/utf.table", laid_palinode_utf_table), ("unicode/utf8.first", laid_unicode_utf8_first)] }
def CountTellsSaid : Prop := countTellsRow.holds Tryd.pinned (OpenSpec.ofChange countTellsSpec)

/-- ITS FALSE NEIGHBOUR: 'it returns false'. Refute it at one input. -/
def countTellsWrong : ChangeSpec := { name := "countTells", fn := fun _ => fun
  | [d1, d2, d3, d4, d5] => { results := [.lit (.bool false)], args := [d1, d2, d3, d4, d5] }
  | _ => none }
def CountTellsWrongFalsely : Prop := countTellsRow.holds Tryd.pinned (OpenSpec.ofChange countTellsWrong)

/-- 'palinodelaw2.CountSums': WHATEVER THE INPUT: true; the input reads as it did. -/
def countSumsSpec : ChangeSpec := { name := "countSums", fn := fun _ => fun
  | [d1, d2] => { results := [.lit (.bool true)], args := [d1, d2] }
  | _ => none }
def countSumsRow : OpenClaim := { program := "ythlmfmaiecmebaadoor", sum := "c66c367d44eca1daa4567d2bcfe3b7bf7e5b565a904ec035ac16e2584eda12b4", func := "palinode/palinodelaw2.CountSums", spec := "countSums", inPlace := ["internal/abi.NoEscape"], named := ["palinode/utf.table", "unicode/utf8.first", "unicode/utf8.acceptRanges"], apart := false, laid := [("unicode/utf8.acceptRanges", laid_unicode_utf8_acceptRanges), ("palinode/utf.table", laid_palinode_utf_table), ("unicode/utf8.first", laid_unicode_utf8_first)] }
def CountSumsSaid : Prop := countSumsRow.holds Tryd.pinned (OpenSpec.ofChange countSumsSpec)

/-- ITS FALSE NEIGHBOUR: 'it returns false'. Refute it at one input. -/
def countSumsWrong : ChangeSpec := { name := "countSums", fn := fun _ => fun
  | [d1, d2] => { results := [.lit (.bool false)], args := [d1, d2] }
  | _ => none }
def CountSumsWrongFalsely : Prop := countSumsRow.holds Tryd.pinned (OpenSpec.ofChange countSumsWrong)

/-- 'palinodelaw2.CountBack': WHATEVER THE INPUT: true; the input reads as it did. -/
def countBackSpec : ChangeSpec := { name := "countBack", fn := fun _ => fun
  | [d] => { results := [.lit (.bool true)], args := [d] }
  | _ => none }
def countBackRow : OpenClaim := { program := "ythlmfmaiecmebaadoor", sum := "c66c367d44eca1daa4567d2bcfe3b7bf7e5b565a904ec035ac16e2584eda12b4", func := "palinode/palinodelaw2.CountBack", spec := "countBack", inPlace := ["internal/abi.NoEscape"], named := ["palinode/utf.table", "unicode/utf8.first", "unicode/utf8.acceptRanges"], apart := false, laid := [("unicode/utf8.acceptRanges", laid_unicode_utf8_acceptRanges), ("palinode/utf.table", laid_palinode_utf_table), ("unicode/utf8.first", laid_unicode_utf8_first)] }
def CountBackSaid : Prop := countBackRow.holds Tryd.pinned (OpenSpec.ofChange countBackSpec)

/-- ITS FALSE NEIGHBOUR: 'it returns false'. Refute it at one input. -/
def countBackWrong : ChangeSpec := { name := "countBack", fn := fun _ => fun
  | [d] => { results := [.lit (.bool false)], args := [d] }
  | _ => none }
def CountBackWrongFalsely : Prop := countBackRow.holds Tryd.pinned (OpenSpec.ofChange countBackWrong)

/-- 'palinodelaw2.CountUnits': WHATEVER THE INPUT: true; the input reads as it did. -/
def countUnitsSpec : ChangeSpec := { name := "countUnits", fn := fun _ => fun
  | [d] => { results := [.lit (.bool true)], args := [d] }
  | _ => none }
def countUnitsRow : OpenClaim := { program := "ythlmfmaiecmebaadoor", sum := "c66c367d44eca1daa4567d2bcfe3b7bf7e5b565a904ec035ac16e2584eda12b4", func := "palinode/palinodelaw2.CountUnits", spec := "countUnits", inPlace := ["internal/abi.NoEscape"], named := ["palinode/utf.table", "unicode/utf8.first", "unicode/utf8.acceptRanges"], apart := false, laid := [("unicode/utf8.acceptRanges", laid_unicode_utf8_acceptRanges), ("palinode/utf.table", laid_palinode_utf_table), ("unicode/utf8.first", laid_unicode_utf8_first)] }
def CountUnitsSaid : Prop := countUnitsRow.holds Tryd.pinned (OpenSpec.ofChange countUnitsSpec)

/-- ITS FALSE NEIGHBOUR: 'it returns false'. Refute it at one input. -/
def countUnitsWrong : ChangeSpec := { name := "countUnits", fn := fun _ => fun
  | [d] => { results := [.lit (.bool false)], args := [d] }
  | _ => none }
def CountUnitsWrongFalsely : Prop := countUnitsRow.holds Tryd.pinned (OpenSpec.ofChange countUnitsWrong)

/-- 'palinodelaw2.CountLines': WHATEVER THE INPUT: true; the input reads as it did. -/
def countLinesSpec : ChangeSpec := { name := "countLines", fn := fun _ => fun
  | [d] => { results := [.lit (.bool true)], args := [d] }
  | _ => none }
def countLinesRow : OpenClaim := { program := "ythlmfmaiecmebaadoor", sum := "c66c367d44eca1daa4567d2bcfe3b7bf7e5b565a904ec035ac16e2584eda12b4", func := "palinode/palinodelaw2.CountLines", spec := "countLines", inPlace := ["internal/abi.NoEscape"], named := ["palinode/utf.table", "unicode/utf8.first", "unicode/utf8.acceptRanges"], apart := false, laid := [("unicode/utf8.acceptRanges", laid_unicode_utf8_acceptRanges), ("palinode/utf.table", laid_palinode_utf_table), ("unicode/utf8.first", laid_unicode_utf8_first)] }
def CountLinesSaid : Prop := countLinesRow.holds Tryd.pinned (OpenSpec.ofChange countLinesSpec)

/-- ITS FALSE NEIGHBOUR: 'it returns false'. Refute it at one input. -/
def countLinesWrong : ChangeSpec := { name := "countLines", fn := fun _ => fun
  | [d] => { results := [.lit (.bool false)], args := [d] }
  | _ => none }
def CountLinesWrongFalsely : Prop := countLinesRow.holds Tryd.pinned (OpenSpec.ofChange countLinesWrong)

/-- 'palinodelaw2.CountOrder': WHATEVER THE INPUT: true; the input reads as it did. -/
def countOrderSpec : ChangeSpec := { name := "countOrder", fn := fun _ => fun
  | [d1, d2, d3] => { results := [.lit (.bool true)], args := [d1, d2, d3] }
  | _ => none }
def countOrderRow : OpenClaim := { program := "ythlmfmaiecmebaadoor", sum := "c66c367d44eca1daa4567d2bcfe3b7bf7e5b565a904ec035ac16e2584eda12b4", func := "palinode/palinodelaw2.CountOrder", spec := "countOrder", inPlace := ["internal/abi.NoEscape"], named := ["palinode/utf.table", "unicode/utf8.first", "unicode/utf8.acceptRanges"], apart := false, laid := [("unicode/utf8.acceptRanges", laid_unicode_utf8_acceptRanges), ("palinode/utf.table", laid_palinode_utf_table), ("unicode/utf8.first", laid_unicode_utf8_first)] }
def CountOrderSaid : Prop := countOrderRow.holds Tryd.pinned (OpenSpec.ofChange countOrderSpec)

/-- ITS FALSE NEIGHBOUR: 'it returns false'. Refute it at one input. -/
def countOrderWrong : ChangeSpec := { name := "countOrder", fn := fun _ => fun
  | [d1, d2, d3] => { results := [.lit (.bool false)], args := [d1, d2, d3] }
  | _ => none }
def CountOrderWrongFalsely : Prop := countOrderRow.holds Tryd.pinned (OpenSpec.ofChange countOrderWrong)

/- THE SECOND FORM. 'bulk': how many values and letters a reading holds, each counted each time it is reached (what is shared counts as often as it is met; a slice's spare places count too). A statement '..UptoSaid' is the law's where the arguments, and the package variables that the reading takes, are together of bulk at most 1048576: NARROWER than '..Said'. Prove '..Said' where nothing that the law and all that it calls make is longer than what came in: it says more and counts as full. Else prove '..UptoSaid'. A law counts once. -/
mutual
def uptoBulk {H : Type} : DataW H → Nat
  | .lit (.string bytes) => bytes.length + 1
  | .lit _ => 1
  | .nil => 1
  | .ptr d => uptoBulk d + 1
  | .slice elems spare => uptoBulkAll elems + uptoBulkAll spare + 1
  | .agg parts => uptoBulkAll parts + 1
  | .iface _ d => uptoBulk d + 1
  | .map entries => uptoBulkEntries entries + 1
  | .held _ => 1
def uptoBulkAll {H : Type} : List (DataW H) → Nat
  | [] => 0
  | d :: r => uptoBulk d + uptoBulkAll r
def uptoBulkEntries {H : Type} : List (Lit × DataW H) → Nat
  | [] => 0
  | x :: r => uptoBulkEntry x + uptoBulkEntries r
def uptoBulkEntry {H : Type} : Lit × DataW H → Nat
  | (.string bytes, d) => bytes.length + uptoBulk d + 1
  | (_, d) => uptoBulk d + 1
 end
def uptoSmall : (H : Type) → List (DataW H) → Bool := fun _ ds => decide (uptoBulkAll ds ≤ 1048576)
def OpenSpec.upto (s : _root_.Go.ChangeSpec) : _root_.Go.OpenSpec := { _root_.Go.OpenSpec.ofChange s with cond := some uptoSmall }

/-- 'palinodelaw2.CountTells', WHERE WHAT IT READS IS OF BULK AT MOST 1048576: true; the input reads as it did. -/
def countTellsUptoRow : OpenClaim := { program := "ythlmfmaiecmebaadoor", sum := "c66c367d44eca1daa4567d2bcfe3b7bf7e5b565a904ec035ac16e2584eda12b4", func := "palinode/palinodelaw2.CountTells", spec := "countTells", inPlace := ["internal/abi.NoEscape"], named := ["palinode/utf.table", "unicode/utf8.first", "unicode/utf8.acceptRanges"], apart := false, laid := [("unicode/utf8.acceptRanges", laid_unicode_utf8_acceptRanges), ("palinode/utf.table", laid_palinode_utf_table), ("unicode/utf8.first", laid_unicode_utf8_first)], narrowed := true }
def CountTellsUptoSaid : Prop := countTellsUptoRow.holds Tryd.pinned (OpenSpec.upto countTellsSpec)

/-- 'palinodelaw2.CountSums', WHERE WHAT IT READS IS OF BULK AT MOST 1048576: true; the input reads as it did. -/
def countSumsUptoRow : OpenClaim := { program := "ythlmfmaiecmebaadoor", sum := "c66c367d44eca1daa4567d2bcfe3b7bf7e5b565a904ec035ac16e2584eda12b4", func := "palinode/palinodelaw2.CountSums", spec := "countSums", inPlace := ["internal/abi.NoEscape"], named := ["palinode/utf.table", "unicode/utf8.first", "unicode/utf8.acceptRanges"], apart := false, laid := [("unicode/utf8.acceptRanges", laid_unicode_utf8_acceptRanges), ("palinode/utf.table", laid_palinode_utf_table), ("unicode/utf8.first", laid_unicode_utf8_first)], narrowed := true }
def CountSumsUptoSaid : Prop := countSumsUptoRow.holds Tryd.pinned (OpenSpec.upto countSumsSpec)

/-- 'palinodelaw2.CountBack', WHERE WHAT IT READS IS OF BULK AT MOST 1048576: true; the input reads as it did. -/
def countBackUptoRow : OpenClaim := { program := "ythlmfmaiecmebaadoor", sum := "c66c367d44eca1daa4567d2bcfe3b7bf7e5b565a904ec035ac16e2584eda12b4", func := "palinode/palinodelaw2.CountBack", spec := "countBack", inPlace := ["internal/abi.NoEscape"], named := ["palinode/utf.table", "unicode/utf8.first", "unicode/utf8.acceptRanges"], apart := false, laid := [("unicode/utf8.acceptRanges", laid_unicode_utf8_acceptRanges), ("palinode/utf.table", laid_palinode_utf_table), ("unicode/utf8.first", laid_unicode_utf8_first)], narrowed := true }
def CountBackUptoSaid : Prop := countBackUptoRow.holds Tryd.pinned (OpenSpec.upto countBackSpec)

/-- 'palinodelaw2.CountUnits', WHERE WHAT IT READS IS OF BULK AT MOST 1048576: true; the input reads as it did. -/
def countUnitsUptoRow : OpenClaim := { program := "ythlmfmaiecmebaadoor", sum := "c66c367d44eca1daa4567d2bcfe3b7bf7e5b565a904ec035ac16e2584eda12b4", func := "palinode/palinodelaw2.CountUnits", spec := "countUnits", inPlace := ["internal/abi.NoEscape"], named := ["palinode/utf.table", "unicode/utf8.first", "unicode/utf8.acceptRanges"], apart := false, laid := [("unicode/utf8.acceptRanges", laid_unicode_utf8_acceptRanges), ("palinode/utf.table", laid_palinode_utf_table), ("unicode/utf8.first", laid_unicode_utf8_first)], narrowed := true }
def CountUnitsUptoSaid : Prop := countUnitsUptoRow.holds Tryd.pinned (OpenSpec.upto countUnitsSpec)

/-- 'palinodelaw2.CountLines', WHERE WHAT IT READS IS OF BULK AT MOST 1048576: true; the input reads as it did. -/
def countLinesUptoRow : OpenClaim := { program := "ythlmfmaiecmebaadoor", sum := "c66c367d44eca1daa4567d2bcfe3b7bf7e5b565a904ec035ac16e2584eda12b4", func := "palinode/palinodelaw2.CountLines", spec := "countLines", inPlace := ["internal/abi.NoEscape"], named := ["palinode/utf.table", "unicode/utf8.first", "unicode/utf8.acceptRanges"], apart := false, laid := [("unicode/utf8.acceptRanges", laid_unicode_utf8_acceptRanges), ("palinode/utf.table", laid_palinode_utf_table), ("unicode/utf8.first", laid_unicode_utf8_first)], narrowed := true }
def CountLinesUptoSaid : Prop := countLinesUptoRow.holds Tryd.pinned (OpenSpec.upto countLinesSpec)

/-- 'palinodelaw2.CountOrder', WHERE WHAT IT READS IS OF BULK AT MOST 1048576: true; the input reads as it did. -/
def countOrderUptoRow : OpenClaim := { program := "ythlmfmaiecmebaadoor", sum := "c66c367d44eca1daa4567d2bcfe3b7bf7e5b565a904ec035ac16e2584eda12b4", func := "palinode/palinodelaw2.CountOrder", spec := "countOrder", inPlace := ["internal/abi.NoEscape"], named := ["palinode/utf.table", "unicode/utf8.first", "unicode/utf8.acceptRanges"], apart := false, laid := [("unicode/utf8.acceptRanges", laid_unicode_utf8_acceptRanges), ("palinode/utf.table", laid_palinode_utf_table), ("unicode/utf8.first", laid_unicode_utf8_first)], narrowed := true }
def CountOrderUptoSaid : Prop := countOrderUptoRow.holds Tryd.pinned (OpenSpec.upto countOrderSpec)

end Rows
end Go.Proofs.YthlmfmaiecmebaaDoor
