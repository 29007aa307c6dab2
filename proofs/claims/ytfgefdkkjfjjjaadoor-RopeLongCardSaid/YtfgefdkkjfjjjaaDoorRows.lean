/-
  NARROWER THAN 'FOR EVERY INPUT', by the rows' own cells (each row's printed sentence says how): RopePlays: laid · RopeLong: laid · RopeParts: laid · RopeSmall: laid · RopeCounts: laid · RopeUndo: laid.
  DERIVED. THE GIVEN ROWS OF THIS SEAT. 6 by the template 'for every input the law returns true; each argument reads behind the call as it read before'; 0 by the template 'total and deterministic' (their statements: YtfgefdkkjfjjjaaDoorTotals.lean).
  GIVEN WITH THE SEED: the statements are not yours to turn. If you find one false, say at which input.
  Laid BY PROGRAM, IN A SANDBOX (cutbox-rows.mjs): the forced cells as the released guide's own fill.sh prints them over the translation 1df4065bd37cd715… (all of the seat's roots in one cut). By AI agents, Wed Nov 11 2026. No macro, syntax, notation, axiom, sorry.
-/
import Derived.Test.YtfgefdkkjfjjjaaDoorChecked
import GoSem.Claim
import GoSem.ClaimJoined
import GoSem.ClaimMapViews
import Derived.JoinedTies
import Derived.KernelRfl
namespace Go.Proofs.YtfgefdkkjfjjjaaDoor
/- THE CELL 'sum', in the pinned program and in every row, IS THE sha256 OF THE DUMP (.gsa) THAT YtfgefdkkjfjjjaaDoorProg.lean LOADS. Nothing in Lean hashes anything: it is a label: what it is worth is what the hold of that sum in a sandbox is worth. -/
noncomputable def Tryd.pinned : Pinned := { name := "ytfgefdkkjfjjjaadoor", sum := "1df4065bd37cd715557d0906f9ab5293b094cec9ba42a968991489d61da7ac03", checked := Tryd.checked }
namespace Rows
def none {H : Type} : Left H := { results := [], args := [] }

/- WHAT THE LISTED PACKAGE-LEVEL VARIABLES READ AS WHEN THE CALL BEGINS. Each datum BY PROGRAM (the guide's laid-datum.mjs) off the statement by which the dump's own 'gosem.cut.vars' lays the variable. In a bare row this is a premise. The card (YtfgefdkkjfjjjaaDoorCards.lean) ties it to the program's text. -/
def laid_palinode_utf_table {H : Type} : DataW H := .slice [.agg [.lit (.int .i32 0), .lit (.int .i32 127), .lit (.int .u8 0), .lit (.int .u8 127), .lit (.int .u8 0), .lit (.int .u8 0), .lit (.int .i64 1)], .agg [.lit (.int .i32 128), .lit (.int .i32 2047), .lit (.int .u8 194), .lit (.int .u8 223), .lit (.int .u8 128), .lit (.int .u8 191), .lit (.int .i64 2)], .agg [.lit (.int .i32 2048), .lit (.int .i32 4095), .lit (.int .u8 224), .lit (.int .u8 224), .lit (.int .u8 160), .lit (.int .u8 191), .lit (.int .i64 3)], .agg [.lit (.int .i32 4096), .lit (.int .i32 53247), .lit (.int .u8 225), .lit (.int .u8 236), .lit (.int .u8 128), .lit (.int .u8 191), .lit (.int .i64 3)], .agg [.lit (.int .i32 53248), .lit (.int .i32 55295), .lit (.int .u8 237), .lit (.int .u8 237), .lit (.int .u8 128), .lit (.int .u8 159), .lit (.int .i64 3)], .agg [.lit (.int .i32 57344), .lit (.int .i32 65535), .lit (.int .u8 238), .lit (.int .u8 239), .lit (.int .u8 128), .lit (.int .u8 191), .lit (.int .i64 3)], .agg [.lit (.int .i32 65536), .lit (.int .i32 262143), .lit (.int .u8 240), .lit (.int .u8 240), .lit (.int .u8 144), .lit (.int .u8 191), .lit (.int .i64 4)], .agg [.lit (.int .i32 262144), .lit (.int .i32 1048575), .lit (.int .u8 241), .lit (.int .u8 243), .lit (.int .u8 128), .lit (.int .u8 191), .lit (.int .i64 4)], .agg [.lit (.int .i32 1048576), .lit (.int .i32 1114111), .lit (.int .u8 244), .lit (.int .u8 244), .lit (.int .u8 128), .lit (.int .u8 143), .lit (.int .i64 4)]] []

/-- 'palinodelaw4.RopePlays': WHATEVER THE INPUT: true; the input reads as it did. -/
def ropePlaysSpec : ChangeSpec := { name := "ropePlays", fn := fun _ => fun
  | [d1, d2, d3] => { results := [.lit (.bool true)], args := [d1, d2, d3] }
  | _ => none }
def ropePlaysRow : OpenClaim := { program := "ytfgefdkkjfjjjaadoor", sum := "1df4065bd37cd715557d0906f9ab5293b094cec9ba42a968991489d61da7ac03", func := "palinode/palinodelaw4.RopePlays", spec := "ropePlays", inPlace := ["internal/abi.NoEscape", "internal/bytealg.MakeNoZero"], unfollowed := true, recurses := true, named := ["palinode/utf.table"], apart := false, laid := [("palinode/utf.table", laid_palinode_utf_table)] }
def RopePlaysSaid : Prop := ropePlaysRow.holds Tryd.pinned (OpenSpec.ofChange ropePlaysSpec)

/-- ITS FALSE NEIGHBOUR: 'it returns false'. Refute it at one input. -/
def ropePlaysWrong : ChangeSpec := { name := "ropePlays", fn := fun _ => fun
  | [d1, d2, d3] => { results := [.lit (.bool false)], args := [d1, d2, d3] }
  | _ => none }
def RopePlaysWrongFalsely : Prop := ropePlaysRow.holds Tryd.pinned (OpenSpec.ofChange ropePlaysWrong)

/-- 'palinodelaw4.RopeLong': WHATEVER THE INPUT: true; the input reads as it did. -/
def ropeLongSpec : ChangeSpec := { name := "ropeLong", fn := fun _ => fun
  | [d1, d2] => { results := [.lit (.bool true)], args := [d1, d2] }
  | _ => none }
def ropeLongRow : OpenClaim := { program := "ytfgefdkkjfjjjaadoor", sum := "1df4065bd37cd715557d0906f9ab5293b094cec9ba42a968991489d61da7ac03", func := "palinode/palinodelaw4.RopeLong", spec := "ropeLong", inPlace := ["internal/abi.NoEscape", "internal/bytealg.MakeNoZero"], unfollowed := true, recurses := true, named := ["palinode/utf.table"], apart := false, laid := [("palinode/utf.table", laid_palinode_utf_table)] }
def RopeLongSaid : Prop := ropeLongRow.holds Tryd.pinned (OpenSpec.ofChange ropeLongSpec)

/-- ITS FALSE NEIGHBOUR: 'it returns false'. Refute it at one input. -/
def ropeLongWrong : ChangeSpec := { name := "ropeLong", fn := fun _ => fun
  | [d1, d2] => { results := [.lit (.bool false)], args := [d1, d2] }
  | _ => none }
def RopeLongWrongFalsely : Prop := ropeLongRow.holds Tryd.pinned (OpenSpec.ofChange ropeLongWrong)

/-- 'palinodelaw4.RopeParts': WHATEVER THE INPUT: true; the input reads as it did. -/
def ropePartsSpec : ChangeSpec := { name := "ropeParts", fn := fun _ => fun
  | [d1, d2] => { results := [.lit (.bool true)], args := [d1, d2] }
  | _ => none }
def ropePartsRow : OpenClaim := { program := "ytfgefdkkjfjjjaadoor", sum := "1df4065bd37cd715557d0906f9ab5293b094cec9ba42a968991489d61da7ac03", func := "palinode/palinodelaw4.RopeParts", spec := "ropeParts", inPlace := ["internal/abi.NoEscape", "internal/bytealg.MakeNoZero"], unfollowed := true, recurses := true, named := ["palinode/utf.table"], apart := false, laid := [("palinode/utf.table", laid_palinode_utf_table)] }
def RopePartsSaid : Prop := ropePartsRow.holds Tryd.pinned (OpenSpec.ofChange ropePartsSpec)

/-- ITS FALSE NEIGHBOUR: 'it returns false'. Refute it at one input. -/
def ropePartsWrong : ChangeSpec := { name := "ropeParts", fn := fun _ => fun
  | [d1, d2] => { results := [.lit (.bool false)], args := [d1, d2] }
  | _ => none }
def RopePartsWrongFalsely : Prop := ropePartsRow.holds Tryd.pinned (OpenSpec.ofChange ropePartsWrong)

/-- 'palinodelaw4.RopeSmall': WHATEVER THE INPUT: true; the input reads as it did. -/
def ropeSmallSpec : ChangeSpec := { name := "ropeSmall", fn := fun _ => fun
  | [d1, d2] => { results := [.lit (.bool true)], args := [d1, d2] }
  | _ => none }
def ropeSmallRow : OpenClaim := { program := "ytfgefdkkjfjjjaadoor", sum := "1df4065bd37cd715557d0906f9ab5293b094cec9ba42a968991489d61da7ac03", func := "palinode/palinodelaw4.RopeSmall", spec := "ropeSmall", inPlace := ["internal/abi.NoEscape", "internal/bytealg.MakeNoZero"], unfollowed := true, recurses := true, named := ["palinode/utf.table"], apart := false, laid := [("palinode/utf.table", laid_palinode_utf_table)] }
def RopeSmallSaid : Prop := ropeSmallRow.holds Tryd.pinned (OpenSpec.ofChange ropeSmallSpec)

/-- ITS FALSE NEIGHBOUR: 'it returns false'. Refute it at one input. -/
def ropeSmallWrong : ChangeSpec := { name := "ropeSmall", fn := fun _ => fun
  | [d1, d2] => { results := [.lit (.bool false)], args := [d1, d2] }
  | _ => none }
def RopeSmallWrongFalsely : Prop := ropeSmallRow.holds Tryd.pinned (OpenSpec.ofChange ropeSmallWrong)

/-- 'palinodelaw4.RopeCounts': WHATEVER THE INPUT: true; the input reads as it did. -/
def ropeCountsSpec : ChangeSpec := { name := "ropeCounts", fn := fun _ => fun
  | [d1, d2] => { results := [.lit (.bool true)], args := [d1, d2] }
  | _ => none }
def ropeCountsRow : OpenClaim := { program := "ytfgefdkkjfjjjaadoor", sum := "1df4065bd37cd715557d0906f9ab5293b094cec9ba42a968991489d61da7ac03", func := "palinode/palinodelaw4.RopeCounts", spec := "ropeCounts", inPlace := ["internal/abi.NoEscape", "internal/bytealg.MakeNoZero"], unfollowed := true, recurses := true, named := ["palinode/utf.table"], apart := false, laid := [("palinode/utf.table", laid_palinode_utf_table)] }
def RopeCountsSaid : Prop := ropeCountsRow.holds Tryd.pinned (OpenSpec.ofChange ropeCountsSpec)

/-- ITS FALSE NEIGHBOUR: 'it returns false'. Refute it at one input. -/
def ropeCountsWrong : ChangeSpec := { name := "ropeCounts", fn := fun _ => fun
  | [d1, d2] => { results := [.lit (.bool false)], args := [d1, d2] }
  | _ => none }
def RopeCountsWrongFalsely : Prop := ropeCountsRow.holds Tryd.pinned (OpenSpec.ofChange ropeCountsWrong)

/-- 'palinodelaw4.RopeUndo': WHATEVER THE INPUT: true; the input reads as it did. -/
def ropeUndoSpec : ChangeSpec := { name := "ropeUndo", fn := fun _ => fun
  | [d1, d2, d3, d4] => { results := [.lit (.bool true)], args := [d1, d2, d3, d4] }
  | _ => none }
def ropeUndoRow : OpenClaim := { program := "ytfgefdkkjfjjjaadoor", sum := "1df4065bd37cd715557d0906f9ab5293b094cec9ba42a968991489d61da7ac03", func := "palinode/palinodelaw4.RopeUndo", spec := "ropeUndo", inPlace := ["internal/abi.NoEscape", "internal/bytealg.MakeNoZero"], unfollowed := true, recurses := true, named := ["palinode/utf.table"], apart := false, laid := [("palinode/utf.table", laid_palinode_utf_table)] }
def RopeUndoSaid : Prop := ropeUndoRow.holds Tryd.pinned (OpenSpec.ofChange ropeUndoSpec)

/-- ITS FALSE NEIGHBOUR: 'it returns false'. Refute it at one input. -/
def ropeUndoWrong : ChangeSpec := { name := "ropeUndo", fn := fun _ => fun
  | [d1, d2, d3, d4] => { results := [.lit (.bool false)], args := [d1, d2, d3, d4] }
  | _ => none }
def RopeUndoWrongFalsely : Prop := ropeUndoRow.holds Tryd.pinned (OpenSpec.ofChange ropeUndoWrong)

/- THE SECOND FORM. 'bulk': how many values and letters a reading holds, each counted each time it is reached (what is shared counts as often as it is met; a slice's spare places count too). A statement '..UptoSaid' is the law's where the arguments, and the package variables that the reading takes, are together of bulk at most 1048576: NARROWER than '..Said'. Prove '..Said' where nothing that the law and all that it calls make is longer than what came in: it says more and counts as full. Else prove '..UptoSaid'. A law counts once. -/
mutual
def uptoBulk {H : Type} : DataW H → Nat
  | .lit (.string bytes) => bytes.length + 1
  | .lit _ => 1
  | .nil => 1
  | .ptr d => uptoBulk d + 1
  | .slice elems spare => uptoBulkAll elems + uptoBulkAll spare + 1
  | .agg parts => uptoBulkAll parts + 1
  | .iface _ d => uptoBulk d + 1
  | .map entries => uptoBulkEntries entries + 1
  | .held _ => 1
def uptoBulkAll {H : Type} : List (DataW H) → Nat
  | [] => 0
  | d :: r => uptoBulk d + uptoBulkAll r
def uptoBulkEntries {H : Type} : List (Lit × DataW H) → Nat
  | [] => 0
  | x :: r => uptoBulkEntry x + uptoBulkEntries r
def uptoBulkEntry {H : Type} : Lit × DataW H → Nat
  | (.string bytes, d) => bytes.length + uptoBulk d + 1
  | (_, d) => uptoBulk d + 1
 end
def uptoSmall : (H : Type) → List (DataW H) → Bool := fun _ ds => decide (uptoBulkAll ds ≤ 1048576)
def OpenSpec.upto (s : _root_.Go.ChangeSpec) : _root_.Go.OpenSpec := { _root_.Go.OpenSpec.ofChange s with cond := some uptoSmall }

/-- 'palinodelaw4.RopePlays', WHERE WHAT IT READS IS OF BULK AT MOST 1048576: true; the input reads as it did. -/
def ropePlaysUptoRow : OpenClaim := { program := "ytfgefdkkjfjjjaadoor", sum := "1df4065bd37cd715557d0906f9ab5293b094cec9ba42a968991489d61da7ac03", func := "palinode/palinodelaw4.RopePlays", spec := "ropePlays", inPlace := ["internal/abi.NoEscape", "internal/bytealg.MakeNoZero"], unfollowed := true, recurses := true, named := ["palinode/utf.table"], apart := false, laid := [("palinode/utf.table", laid_palinode_utf_table)], narrowed := true }
def RopePlaysUptoSaid : Prop := ropePlaysUptoRow.holds Tryd.pinned (OpenSpec.upto ropePlaysSpec)

/-- 'palinodelaw4.RopeLong', WHERE WHAT IT READS IS OF BULK AT MOST 1048576: true; the input reads as it did. -/
def ropeLongUptoRow : OpenClaim := { program := "ytfgefdkkjfjjjaadoor", sum := "1df4065bd37cd715557d0906f9ab5293b094cec9ba42a968991489d61da7ac03", func := "palinode/palinodelaw4.RopeLong", spec := "ropeLong", inPlace := ["internal/abi.NoEscape", "internal/bytealg.MakeNoZero"], unfollowed := true, recurses := true, named := ["palinode/utf.table"], apart := false, laid := [("palinode/utf.table", laid_palinode_utf_table)], narrowed := true }
def RopeLongUptoSaid : Prop := ropeLongUptoRow.holds Tryd.pinned (OpenSpec.upto ropeLongSpec)

/-- 'palinodelaw4.RopeParts', WHERE WHAT IT READS IS OF BULK AT MOST 1048576: true; the input reads as it did. -/
def ropePartsUptoRow : OpenClaim := { program := "ytfgefdkkjfjjjaadoor", sum := "1df4065bd37cd715557d0906f9ab5293b094cec9ba42a968991489d61da7ac03", func := "palinode/palinodelaw4.RopeParts", spec := "ropeParts", inPlace := ["internal/abi.NoEscape", "internal/bytealg.MakeNoZero"], unfollowed := true, recurses := true, named := ["palinode/utf.table"], apart := false, laid := [("palinode/utf.table", laid_palinode_utf_table)], narrowed := true }
def RopePartsUptoSaid : Prop := ropePartsUptoRow.holds Tryd.pinned (OpenSpec.upto ropePartsSpec)

/-- 'palinodelaw4.RopeSmall', WHERE WHAT IT READS IS OF BULK AT MOST 1048576: true; the input reads as it did. -/
def ropeSmallUptoRow : OpenClaim := { program := "ytfgefdkkjfjjjaadoor", sum := "1df4065bd37cd715557d0906f9ab5293b094cec9ba42a968991489d61da7ac03", func := "palinode/palinodelaw4.RopeSmall", spec := "ropeSmall", inPlace := ["internal/abi.NoEscape", "internal/bytealg.MakeNoZero"], unfollowed := true, recurses := true, named := ["palinode/utf.table"], apart := false, laid := [("palinode/utf.table", laid_palinode_utf_table)], narrowed := true }
def RopeSmallUptoSaid : Prop := ropeSmallUptoRow.holds Tryd.pinned (OpenSpec.upto ropeSmallSpec)

/-- 'palinodelaw4.RopeCounts', WHERE WHAT IT READS IS OF BULK AT MOST 1048576: true; the input reads as it did. -/
def ropeCountsUptoRow : OpenClaim := { program := "ytfgefdkkjfjjjaadoor", sum := "1df4065bd37cd715557d0906f9ab5293b094cec9ba42a968991489d61da7ac03", func := "palinode/palinodelaw4.RopeCounts", spec := "ropeCounts", inPlace := ["internal/abi.NoEscape", "internal/bytealg.MakeNoZero"], unfollowed := true, recurses := true, named := ["palinode/utf.table"], apart := false, laid := [("palinode/utf.table", laid_palinode_utf_table)], narrowed := true }
def RopeCountsUptoSaid : Prop := ropeCountsUptoRow.holds Tryd.pinned (OpenSpec.upto ropeCountsSpec)

/-- 'palinodelaw4.RopeUndo', WHERE WHAT IT READS IS OF BULK AT MOST 1048576: true; the input reads as it did. -/
def ropeUndoUptoRow : OpenClaim := { program := "ytfgefdkkjfjjjaadoor", sum := "1df4065bd37cd715557d0906f9ab5293b094cec9ba42a968991489d61da7ac03", func := "palinode/palinodelaw4.RopeUndo", spec := "ropeUndo", inPlace := ["internal/abi.NoEscape", "internal/bytealg.MakeNoZero"], unfollowed := true, recurses := true, named := ["palinode/utf.table"], apart := false, laid := [("palinode/utf.table", laid_palinode_utf_table)], narrowed := true }
def RopeUndoUptoSaid : Prop := ropeUndoUptoRow.holds Tryd.pinned (OpenSpec.upto ropeUndoSpec)

end Rows
end Go.Proofs.YtfgefdkkjfjjjaaDoor
