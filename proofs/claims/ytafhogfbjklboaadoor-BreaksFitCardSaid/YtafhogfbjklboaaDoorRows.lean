/-
  NARROWER THAN 'FOR EVERY INPUT', by the rows' own cells (each row's printed sentence says how): BreaksTell: laid · BreaksWrap: laid · BreaksFit: laid · BreaksRows: laid · BreaksGo: laid · BreaksMany: laid.
  DERIVED. THE GIVEN ROWS OF THIS SEAT. 6 by the template 'for every input the law returns true; each argument reads behind the call as it read before'; 0 by the template 'total and deterministic' (their statements: YtafhogfbjklboaaDoorTotals.lean).
  GIVEN WITH THE SEED: the statements are not yours to turn. If you find one false, say at which input.
  Laid BY PROGRAM, IN A SANDBOX (cutbox-rows.mjs): the forced cells as the released guide's own fill.sh prints them over the translation 2fbd759a208532f8… (all of the seat's roots in one cut). By AI agents, Wed Nov 11 2026. No macro, syntax, notation, axiom, sorry.
-/
import Derived.Test.YtafhogfbjklboaaDoorChecked
import GoSem.PinnedTables
import GoSem.Claim
import GoSem.ClaimJoined
import GoSem.ClaimMapViews
import Derived.JoinedTies
import Derived.KernelRfl
namespace Go.Proofs.YtafhogfbjklboaaDoor
/- THE CELL 'sum', in the pinned program and in every row, IS THE sha256 OF THE DUMP (.gsa) THAT YtafhogfbjklboaaDoorProg.lean LOADS. Nothing in Lean hashes anything: it is a label: what it is worth is what the hold of that sum in a sandbox is worth. -/
noncomputable def Tryd.pinned : Pinned := { name := "ytafhogfbjklboaadoor", sum := "2fbd759a208532f8ac7b815bd73263ece7ab9739ed1df5e3ffb4b7fbcf3bdf14", checked := Tryd.checked }
namespace Rows
def none {H : Type} : Left H := { results := [], args := [] }

/- WHAT THE LISTED PACKAGE-LEVEL VARIABLES READ AS WHEN THE CALL BEGINS. Each datum BY PROGRAM (the guide's laid-datum.mjs) off the statement by which the dump's own 'gosem.cut.vars' lays the variable. In a bare row this is a premise. The card (YtafhogfbjklboaaDoorCards.lean) ties it to the program's text. -/
def laid_unicode_utf8_acceptRanges {H : Type} : DataW H := .agg [.agg [.lit (.int .u8 128), .lit (.int .u8 191)], .agg [.lit (.int .u8 160), .lit (.int .u8 191)], .agg [.lit (.int .u8 128), .lit (.int .u8 159)], .agg [.lit (.int .u8 144), .lit (.int .u8 191)], .agg [.lit (.int .u8 128), .lit (.int .u8 143)], .agg [.lit (.int .u8 0), .lit (.int .u8 0)], .agg [.lit (.int .u8 0), .lit (.int .u8 0)], .agg [.lit (.int .u8 0), .lit (.int .u8 0)], .agg [.lit (.int .u8 0), .lit (.int .u8 0)], .agg [.lit (.int .u8 0), .lit (.int .u8 0)], .agg [.lit (.int .u8 0), .lit (.int .u8 0)], .agg [.lit (.int .u8 0), .lit (.int .u8 0)], .agg [.lit (.int .u8 0), .lit (.int .u8 0)], .agg [.lit (.int .u8 0), .lit (.int .u8 0)], .agg [.lit (.int .u8 0), .lit (.int .u8 0)], .agg [.lit (.int .u8 0), .lit (.int .u8 0)]]
def laid_palinode_utf_table {H : Type} : DataW H := .slice [.agg [.lit (.int .i32 0), .lit (.int .i32 127), .lit (.int .u8 0), .lit (.int .u8 127), .lit (.int .u8 0), .lit (.int .u8 0), .lit (.int .i64 1)], .agg [.lit (.int .i32 128), .lit (.int .i32 2047), .lit (.int .u8 194), .lit (.int .u8 223), .lit (.int .u8 128), .lit (.int .u8 191), .lit (.int .i64 2)], .agg [.lit (.int .i32 2048), .lit (.int .i32 4095), .lit (.int .u8 224), .lit (.int .u8 224), .lit (.int .u8 160), .lit (.int .u8 191), .lit (.int .i64 3)], .agg [.lit (.int .i32 4096), .lit (.int .i32 53247), .lit (.int .u8 225), .lit (.int .u8 236), .lit (.int .u8 128), .lit (.int .u8 191), .lit (.int .i64 3)], .agg [.lit (.int .i32 53248), .lit (.int .i32 55295), .lit (.int .u8 237), .lit (.int .u8 237), .lit (.int .u8 128), .lit (.int .u8 159), .lit (.int .i64 3)], .agg [.lit (.int .i32 57344), .lit (.int .i32 65535), .lit (.int .u8 238), .lit (.int .u8 239), .lit (.int .u8 128), .lit (.int .u8 191), .lit (.int .i64 3)], .agg [.lit (.int .i32 65536), .lit (.int .i32 262143), .lit (.int .u8 240), .lit (.int .u8 240), .lit (.int .u8 144), .lit (.int .u8 191), .lit (.int .i64 4)], .agg [.lit (.int .i32 262144), .lit (.int .i32 1048575), .lit (.int .u8 241), .lit (.int .u8 243), .lit (.int .u8 128), .lit (.int .u8 191), .lit (.int .i64 4)], .agg [.lit (.int .i32 1048576), .lit (.int .i32 1114111), .lit (.int .u8 244), .lit (.int .u8 244), .lit (.int .u8 128), .lit (.int .u8 143), .lit (.int .i64 4)]] []
/-- One of Go's own tables, pinned by name: the form's constant. -/
def laid_unicode_utf8_first : DataW Unit := Go.Pinned.utf8First

/-- 'palinodelaw16.BreaksTell': WHATEVER THE INPUT: true; the input reads as it did. -/
def breaksTellSpec : ChangeSpec := { name := "breaksTell", fn := fun _ => fun
  | [d1, d2, d3, d4] => { results := [.lit (.bool true)], args := [d1, d2, d3, d4] }
  | _ => none }
def breaksTellRow : OpenClaim := { program := "ytafhogfbjklboaadoor", sum := "2fbd759a208532f8ac7b815bd73263ece7ab9739ed1df5e3ffb4b7fbcf3bdf14", func := "palinode/palinodelaw16.BreaksTell", spec := "breaksTell", inPlace := ["slices.overlaps[int]"], named := ["unicode/utf8.first", "unicode/utf8.acceptRanges", "palinode/utf.table"], apart := false, laid := [("unicode/utf8.acceptRanges", laid_unicode_utf8_acceptRanges), ("palinode/utf.table", laid_palinode_utf_table), ("unicode/utf8.first", laid_unicode_utf8_first)] }
def BreaksTellSaid : Prop := breaksTellRow.holds Tryd.pinned (OpenSpec.ofChange breaksTellSpec)

/-- ITS FALSE NEIGHBOUR: 'it returns false'. Refute it at one input. -/
def breaksTellWrong : ChangeSpec := { name := "breaksTell", fn := fun _ => fun
  | [d1, d2, d3, d4] => { results := [.lit (.bool false)], args := [d1, d2, d3, d4] }
  | _ => none }
def BreaksTellWrongFalsely : Prop := breaksTellRow.holds Tryd.pinned (OpenSpec.ofChange breaksTellWrong)

/-- 'palinodelaw16.BreaksWrap': WHATEVER THE INPUT: true; the input reads as it did. -/
def breaksWrapSpec : ChangeSpec := { name := "breaksWrap", fn := fun _ => fun
  | [d1, d2] => { results := [.lit (.bool true)], args := [d1, d2] }
  | _ => none }
def breaksWrapRow : OpenClaim := { program := "ytafhogfbjklboaadoor", sum := "2fbd759a208532f8ac7b815bd73263ece7ab9739ed1df5e3ffb4b7fbcf3bdf14", func := "palinode/palinodelaw16.BreaksWrap", spec := "breaksWrap", inPlace := ["slices.overlaps[int]"], named := ["unicode/utf8.first", "unicode/utf8.acceptRanges"], apart := false, laid := [("unicode/utf8.acceptRanges", laid_unicode_utf8_acceptRanges), ("unicode/utf8.first", laid_unicode_utf8_first)] }
def BreaksWrapSaid : Prop := breaksWrapRow.holds Tryd.pinned (OpenSpec.ofChange breaksWrapSpec)

/-- ITS FALSE NEIGHBOUR: 'it returns false'. Refute it at one input. -/
def breaksWrapWrong : ChangeSpec := { name := "breaksWrap", fn := fun _ => fun
  | [d1, d2] => { results := [.lit (.bool false)], args := [d1, d2] }
  | _ => none }
def BreaksWrapWrongFalsely : Prop := breaksWrapRow.holds Tryd.pinned (OpenSpec.ofChange breaksWrapWrong)

/-- 'palinodelaw16.BreaksFit': WHATEVER THE INPUT: true; the input reads as it did. -/
def breaksFitSpec : ChangeSpec := { name := "breaksFit", fn := fun _ => fun
  | [d1, d2] => { results := [.lit (.bool true)], args := [d1, d2] }
  | _ => none }
def breaksFitRow : OpenClaim := { program := "ytafhogfbjklboaadoor", sum := "2fbd759a208532f8ac7b815bd73263ece7ab9739ed1df5e3ffb4b7fbcf3bdf14", func := "palinode/palinodelaw16.BreaksFit", spec := "breaksFit", inPlace := ["slices.overlaps[int]"], named := ["unicode/utf8.first", "unicode/utf8.acceptRanges"], apart := false, laid := [("unicode/utf8.acceptRanges", laid_unicode_utf8_acceptRanges), ("unicode/utf8.first", laid_unicode_utf8_first)] }
def BreaksFitSaid : Prop := breaksFitRow.holds Tryd.pinned (OpenSpec.ofChange breaksFitSpec)

/-- ITS FALSE NEIGHBOUR: 'it returns false'. Refute it at one input. -/
def breaksFitWrong : ChangeSpec := { name := "breaksFit", fn := fun _ => fun
  | [d1, d2] => { results := [.lit (.bool false)], args := [d1, d2] }
  | _ => none }
def BreaksFitWrongFalsely : Prop := breaksFitRow.holds Tryd.pinned (OpenSpec.ofChange breaksFitWrong)

/-- 'palinodelaw16.BreaksRows': WHATEVER THE INPUT: true; the input reads as it did. -/
def breaksRowsSpec : ChangeSpec := { name := "breaksRows", fn := fun _ => fun
  | [d] => { results := [.lit (.bool true)], args := [d] }
  | _ => none }
def breaksRowsRow : OpenClaim := { program := "ytafhogfbjklboaadoor", sum := "2fbd759a208532f8ac7b815bd73263ece7ab9739ed1df5e3ffb4b7fbcf3bdf14", func := "palinode/palinodelaw16.BreaksRows", spec := "breaksRows", inPlace := ["slices.overlaps[int]"], named := ["unicode/utf8.first", "unicode/utf8.acceptRanges"], apart := false, laid := [("unicode/utf8.acceptRanges", laid_unicode_utf8_acceptRanges), ("unicode/utf8.first", laid_unicode_utf8_first)] }
def BreaksRowsSaid : Prop := breaksRowsRow.holds Tryd.pinned (OpenSpec.ofChange breaksRowsSpec)

/-- ITS FALSE NEIGHBOUR: 'it returns false'. Refute it at one input. -/
def breaksRowsWrong : ChangeSpec := { name := "breaksRows", fn := fun _ => fun
  | [d] => { results := [.lit (.bool false)], args := [d] }
  | _ => none }
def BreaksRowsWrongFalsely : Prop := breaksRowsRow.holds Tryd.pinned (OpenSpec.ofChange breaksRowsWrong)

/-- 'palinodelaw16.BreaksGo': WHATEVER THE INPUT: true; the input reads as it did. -/
def breaksGoSpec : ChangeSpec := { name := "breaksGo", fn := fun _ => fun
  | [d1, d2, d3] => { results := [.lit (.bool true)], args := [d1, d2, d3] }
  | _ => none }
def breaksGoRow : OpenClaim := { program := "ytafhogfbjklboaadoor", sum := "2fbd759a208532f8ac7b815bd73263ece7ab9739ed1df5e3ffb4b7fbcf3bdf14", func := "palinode/palinodelaw16.BreaksGo", spec := "breaksGo", inPlace := ["slices.overlaps[int]"], named := ["unicode/utf8.first", "unicode/utf8.acceptRanges", "palinode/utf.table"], apart := false, laid := [("unicode/utf8.acceptRanges", laid_unicode_utf8_acceptRanges), ("palinode/utf.table", laid_palinode_utf_table), ("unicode/utf8.first", laid_unicode_utf8_first)] }
def BreaksGoSaid : Prop := breaksGoRow.holds Tryd.pinned (OpenSpec.ofChange breaksGoSpec)

/-- ITS FALSE NEIGHBOUR: 'it returns false'. Refute it at one input. -/
def breaksGoWrong : ChangeSpec := { name := "breaksGo", fn := fun _ => fun
  | [d1, d2, d3] => { results := [.lit (.bool false)], args := [d1, d2, d3] }
  | _ => none }
def BreaksGoWrongFalsely : Prop := breaksGoRow.holds Tryd.pinned (OpenSpec.ofChange breaksGoWrong)

/-- 'palinodelaw16.BreaksMany': WHATEVER THE INPUT: true; the input reads as it did. -/
def breaksManySpec : ChangeSpec := { name := "breaksMany", fn := fun _ => fun
  | [d] => { results := [.lit (.bool true)], args := [d] }
  | _ => none }
def breaksManyRow : OpenClaim := { program := "ytafhogfbjklboaadoor", sum := "2fbd759a208532f8ac7b815bd73263ece7ab9739ed1df5e3ffb4b7fbcf3bdf14", func := "palinode/palinodelaw16.BreaksMany", spec := "breaksMany", inPlace := ["slices.overlaps[int]"], named := ["unicode/utf8.first", "unicode/utf8.acceptRanges"], apart := false, laid := [("unicode/utf8.acceptRanges", laid_unicode_utf8_acceptRanges), ("unicode/utf8.first", laid_unicode_utf8_first)] }
def BreaksManySaid : Prop := breaksManyRow.holds Tryd.pinned (OpenSpec.ofChange breaksManySpec)

/-- ITS FALSE NEIGHBOUR: 'it returns false'. Refute it at one input. -/
def breaksManyWrong : ChangeSpec := { name := "breaksMany", fn := fun _ => fun
  | [d] => { results := [.lit (.bool false)], args := [d] }
  | _ => none }
def BreaksManyWrongFalsely : Prop := breaksManyRow.holds Tryd.pinned (OpenSpec.ofChange breaksManyWrong)

/- THE SECOND FORM. 'bulk': how many values and letters a reading holds, each counted each time it is reached (what is shared counts as often as it is met; a slice's spare places count too). A statement '..UptoSaid' is the law's where the arguments, and the package variables that the reading takes, are together of bulk at most 1048576: NARROWER than '..Said'. Prove '..Said' where nothing that the law and all that it calls make is longer than what came in: it says more and counts as full. Else prove '..UptoSaid'. A law counts once. -/
mutual
def uptoBulk {H : Type} : DataW H → Nat
  | .lit (.string bytes) => bytes.length + 1
  | .lit _ => 1
  | .nil => 1
  | .ptr d => uptoBulk d + 1
  | .slice elems spare => uptoBulkAll elems + uptoBulkAll spare + 1
  | .agg parts => uptoBulkAll parts + 1
  | .iface _ d => uptoBulk d + 1
  | .map entries => uptoBulkEntries entries + 1
  | .held _ => 1
def uptoBulkAll {H : Type} : List (DataW H) → Nat
  | [] => 0
  | d :: r => uptoBulk d + uptoBulkAll r
def uptoBulkEntries {H : Type} : List (Lit × DataW H) → Nat
  | [] => 0
  | x :: r => uptoBulkEntry x + uptoBulkEntries r
def uptoBulkEntry {H : Type} : Lit × DataW H → Nat
  | (.string bytes, d) => bytes.length + uptoBulk d + 1
  | (_, d) => uptoBulk d + 1
 end
def uptoSmall : (H : Type) → List (DataW H) → Bool := fun _ ds => decide (uptoBulkAll ds ≤ 1048576)
def OpenSpec.upto (s : _root_.Go.ChangeSpec) : _root_.Go.OpenSpec := { _root_.Go.OpenSpec.ofChange s with cond := some uptoSmall }

/-- 'palinodelaw16.BreaksTell', WHERE WHAT IT READS IS OF BULK AT MOST 1048576: true; the input reads as it did. -/
def breaksTellUptoRow : OpenClaim := { program := "ytafhogfbjklboaadoor", sum := "2fbd759a208532f8ac7b815bd73263ece7ab9739ed1df5e3ffb4b7fbcf3bdf14", func := "palinode/palinodelaw16.BreaksTell", spec := "breaksTell", inPlace := ["slices.overlaps[int]"], named := ["unicode/utf8.first", "unicode/utf8.acceptRanges", "palinode/utf.table"], apart := false, laid := [("unicode/utf8.acceptRanges", laid_unicode_utf8_acceptRanges), ("palinode/utf.table", laid_palinode_utf_table), ("unicode/utf8.first", laid_unicode_utf8_first)], narrowed := true }
def BreaksTellUptoSaid : Prop := breaksTellUptoRow.holds Tryd.pinned (OpenSpec.upto breaksTellSpec)

/-- 'palinodelaw16.BreaksWrap', WHERE WHAT IT READS IS OF BULK AT MOST 1048576: true; the input reads as it did. -/
def breaksWrapUptoRow : OpenClaim := { program := "ytafhogfbjklboaadoor", sum := "2fbd759a208532f8ac7b815bd73263ece7ab9739ed1df5e3ffb4b7fbcf3bdf14", func := "palinode/palinodelaw16.BreaksWrap", spec := "breaksWrap", inPlace := ["slices.overlaps[int]"], named := ["unicode/utf8.first", "unicode/utf8.acceptRanges"], apart := false, laid := [("unicode/utf8.acceptRanges", laid_unicode_utf8_acceptRanges), ("unicode/utf8.first", laid_unicode_utf8_first)], narrowed := true }
def BreaksWrapUptoSaid : Prop := breaksWrapUptoRow.holds Tryd.pinned (OpenSpec.upto breaksWrapSpec)

/-- 'palinodelaw16.BreaksFit', WHERE WHAT IT READS IS OF BULK AT MOST 1048576: true; the input reads as it did. -/
def breaksFitUptoRow : OpenClaim := { program := "ytafhogfbjklboaadoor", sum := "2fbd759a208532f8ac7b815bd73263ece7ab9739ed1df5e3ffb4b7fbcf3bdf14", func := "palinode/palinodelaw16.BreaksFit", spec := "breaksFit", inPlace := ["slices.overlaps[int]"], named := ["unicode/utf8.first", "unicode/utf8.acceptRanges"], apart := false, laid := [("unicode/utf8.acceptRanges", laid_unicode_utf8_acceptRanges), ("unicode/utf8.first", laid_unicode_utf8_first)], narrowed := true }
def BreaksFitUptoSaid : Prop := breaksFitUptoRow.holds Tryd.pinned (OpenSpec.upto breaksFitSpec)

/-- 'palinodelaw16.BreaksRows', WHERE WHAT IT READS IS OF BULK AT MOST 1048576: true; the input reads as it did. -/
def breaksRowsUptoRow : OpenClaim := { program := "ytafhogfbjklboaadoor", sum := "2fbd759a208532f8ac7b815bd73263ece7ab9739ed1df5e3ffb4b7fbcf3bdf14", func := "palinode/palinodelaw16.BreaksRows", spec := "breaksRows", inPlace := ["slices.overlaps[int]"], named := ["unicode/utf8.first", "unicode/utf8.acceptRanges"], apart := false, laid := [("unicode/utf8.acceptRanges", laid_unicode_utf8_acceptRanges), ("unicode/utf8.first", laid_unicode_utf8_first)], narrowed := true }
def BreaksRowsUptoSaid : Prop := breaksRowsUptoRow.holds Tryd.pinned (OpenSpec.upto breaksRowsSpec)

/-- 'palinodelaw16.BreaksGo', WHERE WHAT IT READS IS OF BULK AT MOST 1048576: true; the input reads as it did. -/
def breaksGoUptoRow : OpenClaim := { program := "ytafhogfbjklboaadoor", sum := "2fbd759a208532f8ac7b815bd73263ece7ab9739ed1df5e3ffb4b7fbcf3bdf14", func := "palinode/palinodelaw16.BreaksGo", spec := "breaksGo", inPlace := ["slices.overlaps[int]"], named := ["unicode/utf8.first", "unicode/utf8.acceptRanges", "palinode/utf.table"], apart := false, laid := [("unicode/utf8.acceptRanges", laid_unicode_utf8_acceptRanges), ("palinode/utf.table", laid_palinode_utf_table), ("unicode/utf8.first", laid_unicode_utf8_first)], narrowed := true }
def BreaksGoUptoSaid : Prop := breaksGoUptoRow.holds Tryd.pinned (OpenSpec.upto breaksGoSpec)

/-- 'palinodelaw16.BreaksMany', WHERE WHAT IT READS IS OF BULK AT MOST 1048576: true; the input reads as it did. -/
def breaksManyUptoRow : OpenClaim := { program := "ytafhogfbjklboaadoor", sum := "2fbd759a208532f8ac7b815bd73263ece7ab9739ed1df5e3ffb4b7fbcf3bdf14", func := "palinode/palinodelaw16.BreaksMany", spec := "breaksMany", inPlace := ["slices.overlaps[int]"], named := ["unicode/utf8.first", "unicode/utf8.acceptRanges"], apart := false, laid := [("unicode/utf8.acceptRanges", laid_unicode_utf8_acceptRanges), ("unicode/utf8.first", laid_unicode_utf8_first)], narrowed := true }
def BreaksManyUptoSaid : Prop := breaksManyUptoRow.holds Tryd.pinned (OpenSpec.upto breaksManySpec)

end Rows
end Go.Proofs.YtafhogfbjklboaaDoor
