/-
  NARROWER THAN 'FOR EVERY INPUT', by the rows' own cells (each row's printed sentence says how): UtfTells: laid · UtfMakes: laid · UtfClean: laid · UtfBack: laid · UtfCuts: laid · UtfJoin: laid.
  DERIVED. THE GIVEN ROWS OF THIS SEAT. 6 by the template 'for every input the law returns true; each argument reads behind the call as it read before'; 0 by the template 'total and deterministic' (their statements: YtncabdbacncaaaaDoorTotals.lean).
  GIVEN WITH THE SEED: the statements are not yours to turn. If you find one false, say at which input.
  Laid BY PROGRAM, IN A SANDBOX (cutbox-rows.mjs): the forced cells as the released guide's own fill.sh prints them over the translation 1166d16e8aba8fa4… (all of the seat's roots in one cut). By AI agents, Wed Nov 11 2026. No macro, syntax, notation, axiom, sorry.
-/
import Derived.Test.YtncabdbacncaaaaDoorChecked
import GoSem.Claim
import GoSem.ClaimJoined
import GoSem.ClaimMapViews
import Derived.JoinedTies
import Derived.KernelRfl
namespace Go.Proofs.YtncabdbacncaaaaDoor
/- THE CELL 'sum', in the pinned program and in every row, IS THE sha256 OF THE DUMP (.gsa) THAT YtncabdbacncaaaaDoorProg.lean LOADS. Nothing in Lean hashes anything: it is a label: what it is worth is what the hold of that sum in a sandbox is worth. -/
noncomputable def Tryd.pinned : Pinned := { name := "ytncabdbacncaaaadoor", sum := "1166d16e8aba8fa46562a14456d897bfb531c7e7c3acd6784e88d6ac9f83acc8", checked := Tryd.checked }
namespace Rows
def none {H : Type} : Left H := { results := [], args := [] }

/- WHAT THE LISTED PACKAGE-LEVEL VARIABLES READ AS WHEN THE CALL BEGINS. Each datum BY PROGRAM (the guide's laid-datum.mjs) off the statement by which the dump's own 'gosem.cut.vars' lays the variable. In a bare row this is a premise. The card (YtncabdbacncaaaaDoorCards.lean) ties it to the program's text. -/
def laid_palinode_utf_table {H : Type} : DataW H := .slice [.agg [.lit (.int .i32 0), .lit (.int .i32 127), .lit (.int .u8 0), .lit (.int .u8 127), .lit (.int .u8 0), .lit (.int .u8 0), .lit (.int .i64 1)], .agg [.lit (.int .i32 128), .lit (.int .i32 2047), .lit (.int .u8 194), .lit (.int .u8 223), .lit (.int .u8 128), .lit (.int .u8 191), .lit (.int .i64 2)], .agg [.lit (.int .i32 2048), .lit (.int .i32 4095), .lit (.int .u8 224), .lit (.int .u8 224), .lit (.int .u8 160), .lit (.int .u8 191), .lit (.int .i64 3)], .agg [.lit (.int .i32 4096), .lit (.int .i32 53247), .lit (.int .u8 225), .lit (.int .u8 236), .lit (.int .u8 128), .lit (.int .u8 191), .lit (.int .i64 3)], .agg [.lit (.int .i32 53248), .lit (.int .i32 55295), .lit (.int .u8 237), .lit (.int .u8 237), .lit (.int .u8 128), .lit (.int .u8 159), .lit (.int .i64 3)], .agg [.lit (.int .i32 57344), .lit (.int .i32 65535), .lit (.int .u8 238), .lit (.int .u8 239), .lit (.int .u8 128), .lit (.int .u8 191), .lit (.int .i64 3)], .agg [.lit (.int .i32 65536), .lit (.int .i32 262143), .lit (.int .u8 240), .lit (.int .u8 240), .lit (.int .u8 144), .lit (.int .u8 191), .lit (.int .i64 4)], .agg [.lit (.int .i32 262144), .lit (.int .i32 1048575), .lit (.int .u8 241), .lit (.int .u8 243), .lit (.int .u8 128), .lit (.int .u8 191), .lit (.int .i64 4)], .agg [.lit (.int .i32 1048576), .lit (.int .i32 1114111), .lit (.int .u8 244), .lit (.int .u8 244), .lit (.int .u8 128), .lit (.int .u8 143), .lit (.int .i64 4)]] []

/-- 'palinodelaw1.UtfTells': WHATEVER THE INPUT: true; the input reads as it did. -/
def utfTellsSpec : ChangeSpec := { name := "utfTells", fn := fun _ => fun
  | [d1, d2] => { results := [.lit (.bool true)], args := [d1, d2] }
  | _ => none }
def utfTellsRow : OpenClaim := { program := "ytncabdbacncaaaadoor", sum := "1166d16e8aba8fa46562a14456d897bfb531c7e7c3acd6784e88d6ac9f83acc8", func := "palinode/palinodelaw1.UtfTells", spec := "utfTells", inPlace := ["internal/abi.NoEscape"], named := ["palinode/utf.table"], apart := false, laid := [("palinode/utf.table", laid_palinode_utf_table)] }
def UtfTellsSaid : Prop := utfTellsRow.holds Tryd.pinned (OpenSpec.ofChange utfTellsSpec)

/-- ITS FALSE NEIGHBOUR: 'it returns false'. Refute it at one input. -/
def utfTellsWrong : ChangeSpec := { name := "utfTells", fn := fun _ => fun
  | [d1, d2] => { results := [.lit (.bool false)], args := [d1, d2] }
  | _ => none }
def UtfTellsWrongFalsely : Prop := utfTellsRow.holds Tryd.pinned (OpenSpec.ofChange utfTellsWrong)

/-- 'palinodelaw1.UtfMakes': WHATEVER THE INPUT: true; the input reads as it did. -/
def utfMakesSpec : ChangeSpec := { name := "utfMakes", fn := fun _ => fun
  | [d] => { results := [.lit (.bool true)], args := [d] }
  | _ => none }
def utfMakesRow : OpenClaim := { program := "ytncabdbacncaaaadoor", sum := "1166d16e8aba8fa46562a14456d897bfb531c7e7c3acd6784e88d6ac9f83acc8", func := "palinode/palinodelaw1.UtfMakes", spec := "utfMakes", inPlace := ["internal/abi.NoEscape"], named := ["palinode/utf.table"], apart := false, laid := [("palinode/utf.table", laid_palinode_utf_table)] }
def UtfMakesSaid : Prop := utfMakesRow.holds Tryd.pinned (OpenSpec.ofChange utfMakesSpec)

/-- ITS FALSE NEIGHBOUR: 'it returns false'. Refute it at one input. -/
def utfMakesWrong : ChangeSpec := { name := "utfMakes", fn := fun _ => fun
  | [d] => { results := [.lit (.bool false)], args := [d] }
  | _ => none }
def UtfMakesWrongFalsely : Prop := utfMakesRow.holds Tryd.pinned (OpenSpec.ofChange utfMakesWrong)

/-- 'palinodelaw1.UtfClean': WHATEVER THE INPUT: true; the input reads as it did. -/
def utfCleanSpec : ChangeSpec := { name := "utfClean", fn := fun _ => fun
  | [d1, d2] => { results := [.lit (.bool true)], args := [d1, d2] }
  | _ => none }
def utfCleanRow : OpenClaim := { program := "ytncabdbacncaaaadoor", sum := "1166d16e8aba8fa46562a14456d897bfb531c7e7c3acd6784e88d6ac9f83acc8", func := "palinode/palinodelaw1.UtfClean", spec := "utfClean", inPlace := ["internal/abi.NoEscape"], named := ["palinode/utf.table"], apart := false, laid := [("palinode/utf.table", laid_palinode_utf_table)] }
def UtfCleanSaid : Prop := utfCleanRow.holds Tryd.pinned (OpenSpec.ofChange utfCleanSpec)

/-- ITS FALSE NEIGHBOUR: 'it returns false'. Refute it at one input. -/
def utfCleanWrong : ChangeSpec := { name := "utfClean", fn := fun _ => fun
  | [d1, d2] => { results := [.lit (.bool false)], args := [d1, d2] }
  | _ => none }
def UtfCleanWrongFalsely : Prop := utfCleanRow.holds Tryd.pinned (OpenSpec.ofChange utfCleanWrong)

/-- 'palinodelaw1.UtfBack': WHATEVER THE INPUT: true; the input reads as it did. -/
def utfBackSpec : ChangeSpec := { name := "utfBack", fn := fun _ => fun
  | [d] => { results := [.lit (.bool true)], args := [d] }
  | _ => none }
def utfBackRow : OpenClaim := { program := "ytncabdbacncaaaadoor", sum := "1166d16e8aba8fa46562a14456d897bfb531c7e7c3acd6784e88d6ac9f83acc8", func := "palinode/palinodelaw1.UtfBack", spec := "utfBack", inPlace := ["internal/abi.NoEscape"], named := ["palinode/utf.table"], apart := false, laid := [("palinode/utf.table", laid_palinode_utf_table)] }
def UtfBackSaid : Prop := utfBackRow.holds Tryd.pinned (OpenSpec.ofChange utfBackSpec)

/-- ITS FALSE NEIGHBOUR: 'it returns false'. Refute it at one input. -/
def utfBackWrong : ChangeSpec := { name := "utfBack", fn := fun _ => fun
  | [d] => { results := [.lit (.bool false)], args := [d] }
  | _ => none }
def UtfBackWrongFalsely : Prop := utfBackRow.holds Tryd.pinned (OpenSpec.ofChange utfBackWrong)

/-- 'palinodelaw1.UtfCuts': WHATEVER THE INPUT: true; the input reads as it did. -/
def utfCutsSpec : ChangeSpec := { name := "utfCuts", fn := fun _ => fun
  | [d1, d2] => { results := [.lit (.bool true)], args := [d1, d2] }
  | _ => none }
def utfCutsRow : OpenClaim := { program := "ytncabdbacncaaaadoor", sum := "1166d16e8aba8fa46562a14456d897bfb531c7e7c3acd6784e88d6ac9f83acc8", func := "palinode/palinodelaw1.UtfCuts", spec := "utfCuts", inPlace := ["internal/abi.NoEscape"], named := ["palinode/utf.table"], apart := false, laid := [("palinode/utf.table", laid_palinode_utf_table)] }
def UtfCutsSaid : Prop := utfCutsRow.holds Tryd.pinned (OpenSpec.ofChange utfCutsSpec)

/-- ITS FALSE NEIGHBOUR: 'it returns false'. Refute it at one input. -/
def utfCutsWrong : ChangeSpec := { name := "utfCuts", fn := fun _ => fun
  | [d1, d2] => { results := [.lit (.bool false)], args := [d1, d2] }
  | _ => none }
def UtfCutsWrongFalsely : Prop := utfCutsRow.holds Tryd.pinned (OpenSpec.ofChange utfCutsWrong)

/-- 'palinodelaw1.UtfJoin': WHATEVER THE INPUT: true; the input reads as it did. -/
def utfJoinSpec : ChangeSpec := { name := "utfJoin", fn := fun _ => fun
  | [d1, d2, d3] => { results := [.lit (.bool true)], args := [d1, d2, d3] }
  | _ => none }
def utfJoinRow : OpenClaim := { program := "ytncabdbacncaaaadoor", sum := "1166d16e8aba8fa46562a14456d897bfb531c7e7c3acd6784e88d6ac9f83acc8", func := "palinode/palinodelaw1.UtfJoin", spec := "utfJoin", inPlace := ["internal/abi.NoEscape"], named := ["palinode/utf.table"], apart := false, laid := [("palinode/utf.table", laid_palinode_utf_table)] }
def UtfJoinSaid : Prop := utfJoinRow.holds Tryd.pinned (OpenSpec.ofChange utfJoinSpec)

/-- ITS FALSE NEIGHBOUR: 'it returns false'. Refute it at one input. -/
def utfJoinWrong : ChangeSpec := { name := "utfJoin", fn := fun _ => fun
  | [d1, d2, d3] => { results := [.lit (.bool false)], args := [d1, d2, d3] }
  | _ => none }
def UtfJoinWrongFalsely : Prop := utfJoinRow.holds Tryd.pinned (OpenSpec.ofChange utfJoinWrong)

/- THE SECOND FORM. 'bulk': how many values and letters a reading holds, each counted each time it is reached (what is shared counts as often as it is met; a slice's spare places count too). A statement '..UptoSaid' is the law's where the arguments, and the package variables that the reading takes, are together of bulk at most 1048576: NARROWER than '..Said'. Prove '..Said' where nothing that the law and all that it calls make is longer than what came in: it says more and counts as full. Else prove '..UptoSaid'. A law counts once. -/
mutual
def uptoBulk {H : Type} : DataW H → Nat
  | .lit (.string bytes) => bytes.length + 1
  | .lit _ => 1
  | .nil => 1
  | .ptr d => uptoBulk d + 1
  | .slice elems spare => uptoBulkAll elems + uptoBulkAll spare + 1
  | .agg parts => uptoBulkAll parts + 1
  | .iface _ d => uptoBulk d + 1
  | .map entries => uptoBulkEntries entries + 1
  | .held _ => 1
def uptoBulkAll {H : Type} : List (DataW H) → Nat
  | [] => 0
  | d :: r => uptoBulk d + uptoBulkAll r
def uptoBulkEntries {H : Type} : List (Lit × DataW H) → Nat
  | [] => 0
  | x :: r => uptoBulkEntry x + uptoBulkEntries r
def uptoBulkEntry {H : Type} : Lit × DataW H → Nat
  | (.string bytes, d) => bytes.length + uptoBulk d + 1
  | (_, d) => uptoBulk d + 1
 end
def uptoSmall : (H : Type) → List (DataW H) → Bool := fun _ ds => decide (uptoBulkAll ds ≤ 1048576)
def OpenSpec.upto (s : _root_.Go.ChangeSpec) : _root_.Go.OpenSpec := { _root_.Go.OpenSpec.ofChange s with cond := some uptoSmall }

/-- 'palinodelaw1.UtfTells', WHERE WHAT IT READS IS OF BULK AT MOST 1048576: true; the input reads as it did. -/
def utfTellsUptoRow : OpenClaim := { program := "ytncabdbacncaaaadoor", sum := "1166d16e8aba8fa46562a14456d897bfb531c7e7c3acd6784e88d6ac9f83acc8", func := "palinode/palinodelaw1.UtfTells", spec := "utfTells", inPlace := ["internal/abi.NoEscape"], named := ["palinode/utf.table"], apart := false, laid := [("palinode/utf.table", laid_palinode_utf_table)], narrowed := true }
def UtfTellsUptoSaid : Prop := utfTellsUptoRow.holds Tryd.pinned (OpenSpec.upto utfTellsSpec)

/-- 'palinodelaw1.UtfMakes', WHERE WHAT IT READS IS OF BULK AT MOST 1048576: true; the input reads as it did. -/
def utfMakesUptoRow : OpenClaim := { program := "ytncabdbacncaaaadoor", sum := "1166d16e8aba8fa46562a14456d897bfb531c7e7c3acd6784e88d6ac9f83acc8", func := "palinode/palinodelaw1.UtfMakes", spec := "utfMakes", inPlace := ["internal/abi.NoEscape"], named := ["palinode/utf.table"], apart := false, laid := [("palinode/utf.table", laid_palinode_utf_table)], narrowed := true }
def UtfMakesUptoSaid : Prop := utfMakesUptoRow.holds Tryd.pinned (OpenSpec.upto utfMakesSpec)

/-- 'palinodelaw1.UtfClean', WHERE WHAT IT READS IS OF BULK AT MOST 1048576: true; the input reads as it did. -/
def utfCleanUptoRow : OpenClaim := { program := "ytncabdbacncaaaadoor", sum := "1166d16e8aba8fa46562a14456d897bfb531c7e7c3acd6784e88d6ac9f83acc8", func := "palinode/palinodelaw1.UtfClean", spec := "utfClean", inPlace := ["internal/abi.NoEscape"], named := ["palinode/utf.table"], apart := false, laid := [("palinode/utf.table", laid_palinode_utf_table)], narrowed := true }
def UtfCleanUptoSaid : Prop := utfCleanUptoRow.holds Tryd.pinned (OpenSpec.upto utfCleanSpec)

/-- 'palinodelaw1.UtfBack', WHERE WHAT IT READS IS OF BULK AT MOST 1048576: true; the input reads as it did. -/
def utfBackUptoRow : OpenClaim := { program := "ytncabdbacncaaaadoor", sum := "1166d16e8aba8fa46562a14456d897bfb531c7e7c3acd6784e88d6ac9f83acc8", func := "palinode/palinodelaw1.UtfBack", spec := "utfBack", inPlace := ["internal/abi.NoEscape"], named := ["palinode/utf.table"], apart := false, laid := [("palinode/utf.table", laid_palinode_utf_table)], narrowed := true }
def UtfBackUptoSaid : Prop := utfBackUptoRow.holds Tryd.pinned (OpenSpec.upto utfBackSpec)

/-- 'palinodelaw1.UtfCuts', WHERE WHAT IT READS IS OF BULK AT MOST 1048576: true; the input reads as it did. -/
def utfCutsUptoRow : OpenClaim := { program := "ytncabdbacncaaaadoor", sum := "1166d16e8aba8fa46562a14456d897bfb531c7e7c3acd6784e88d6ac9f83acc8", func := "palinode/palinodelaw1.UtfCuts", spec := "utfCuts", inPlace := ["internal/abi.NoEscape"], named := ["palinode/utf.table"], apart := false, laid := [("palinode/utf.table", laid_palinode_utf_table)], narrowed := true }
def UtfCutsUptoSaid : Prop := utfCutsUptoRow.holds Tryd.pinned (OpenSpec.upto utfCutsSpec)

/-- 'palinodelaw1.UtfJoin', WHERE WHAT IT READS IS OF BULK AT MOST 1048576: true; the input reads as it did. -/
def utfJoinUptoRow : OpenClaim := { program := "ytncabdbacncaaaadoor", sum := "1166d16e8aba8fa46562a14456d897bfb531c7e7c3acd6784e88d6ac9f83acc8", func := "palinode/palinodelaw1.UtfJoin", spec := "utfJoin", inPlace := ["internal/abi.NoEscape"], named := ["palinode/utf.table"], apart := false, laid := [("palinode/utf.table", laid_palinode_utf_table)], narrowed := true }
def UtfJoinUptoSaid : Prop := utfJoinUptoRow.holds Tryd.pinned (OpenSpec.upto utfJoinSpec)

end Rows
end Go.Proofs.YtncabdbacncaaaaDoor
