/-
  NARROWER THAN 'FOR EVERY INPUT', by the rows' own cells (each row's printed sentence says how): DeltaTells: laid · DeltaBuilds: laid · DeltaDoes: laid · DeltaLong: laid · DeltaKeeps: laid · DeltaLeast: laid.
  DERIVED. THE GIVEN ROWS OF THIS SEAT. 6 by the template 'for every input the law returns true; each argument reads behind the call as it read before'; 0 by the template 'total and deterministic' (their statements: YtpfkidcaolfcoaaDoorTotals.lean).
  GIVEN WITH THE SEED: the statements are not yours to turn. If you find one false, say at which input.
  Laid BY PROGRAM, IN A SANDBOX (cutbox-rows.mjs): the forced cells as the released guide's own fill.sh prints them over the translation a317ba8616b64203… (all of the seat's roots in one cut). By AI agents, Wed Nov 11 2026. No macro, syntax, notation, axiom, sorry.
-/
import Derived.Test.YtpfkidcaolfcoaaDoorChecked
import GoSem.Claim
import GoSem.ClaimJoined
import GoSem.ClaimMapViews
import Derived.JoinedTies
import Derived.KernelRfl
namespace Go.Proofs.YtpfkidcaolfcoaaDoor
/- THE CELL 'sum', in the pinned program and in every row, IS THE sha256 OF THE DUMP (.gsa) THAT YtpfkidcaolfcoaaDoorProg.lean LOADS. Nothing in Lean hashes anything: it is a label: what it is worth is what the hold of that sum in a sandbox is worth. -/
noncomputable def Tryd.pinned : Pinned := { name := "ytpfkidcaolfcoaadoor", sum := "a317ba8616b642039ecfbbb747897b43bd7aac69d58da552eefbdf765348e971", checked := Tryd.checked }
namespace Rows
def none {H : Type} : Left H := { results := [], args := [] }

/- WHAT THE LISTED PACKAGE-LEVEL VARIABLES READ AS WHEN THE CALL BEGINS. Each datum BY PROGRAM (the guide's laid-datum.mjs) off the statement by which the dump's own 'gosem.cut.vars' lays the variable. In a bare row this is a premise. The card (YtpfkidcaolfcoaaDoorCards.lean) ties it to the program's text. -/
def laid_palinode_utf_table {H : Type} : DataW H := .slice [.agg [.lit (.int .i32 0), .lit (.int .i32 127), .lit (.int .u8 0), .lit (.int .u8 127), .lit (.int .u8 0), .lit (.int .u8 0), .lit (.int .i64 1)], .agg [.lit (.int .i32 128), .lit (.int .i32 2047), .lit (.int .u8 194), .lit (.int .u8 223), .lit (.int .u8 128), .lit (.int .u8 191), .lit (.int .i64 2)], .agg [.lit (.int .i32 2048), .lit (.int .i32 4095), .lit (.int .u8 224), .lit (.int .u8 224), .lit (.int .u8 160), .lit (.int .u8 191), .lit (.int .i64 3)], .agg [.lit (.int .i32 4096), .lit (.int .i32 53247), .lit (.int .u8 225), .lit (.int .u8 236), .lit (.int .u8 128), .lit (.int .u8 191), .lit (.int .i64 3)], .agg [.lit (.int .i32 53248), .lit (.int .i32 55295), .lit (.int .u8 237), .lit (.int .u8 237), .lit (.int .u8 128), .lit (.int .u8 159), .lit (.int .i64 3)], .agg [.lit (.int .i32 57344), .lit (.int .i32 65535), .lit (.int .u8 238), .lit (.int .u8 239), .lit (.int .u8 128), .lit (.int .u8 191), .lit (.int .i64 3)], .agg [.lit (.int .i32 65536), .lit (.int .i32 262143), .lit (.int .u8 240), .lit (.int .u8 240), .lit (.int .u8 144), .lit (.int .u8 191), .lit (.int .i64 4)], .agg [.lit (.int .i32 262144), .lit (.int .i32 1048575), .lit (.int .u8 241), .lit (.int .u8 243), .lit (.int .u8 128), .lit (.int .u8 191), .lit (.int .i64 4)], .agg [.lit (.int .i32 1048576), .lit (.int .i32 1114111), .lit (.int .u8 244), .lit (.int .u8 244), .lit (.int .u8 128), .lit (.int .u8 143), .lit (.int .i64 4)]] []

/-- 'palinodelaw11.DeltaTells': WHATEVER THE INPUT: true; the input reads as it did. -/
def deltaTellsSpec : ChangeSpec := { name := "deltaTells", fn := fun _ => fun
  | [d1, d2, d3] => { results := [.lit (.bool true)], args := [d1, d2, d3] }
  | _ => none }
def deltaTellsRow : OpenClaim := { program := "ytpfkidcaolfcoaadoor", sum := "a317ba8616b642039ecfbbb747897b43bd7aac69d58da552eefbdf765348e971", func := "palinode/palinodelaw11.DeltaTells", spec := "deltaTells", named := ["palinode/utf.table"], apart := false, laid := [("palinode/utf.table", laid_palinode_utf_table)] }
def DeltaTellsSaid : Prop := deltaTellsRow.holds Tryd.pinned (OpenSpec.ofChange deltaTellsSpec)

/-- ITS FALSE NEIGHBOUR: 'it returns false'. Refute it at one input. -/
def deltaTellsWrong : ChangeSpec := { name := "deltaTells", fn := fun _ => fun
  | [d1, d2, d3] => { results := [.lit (.bool false)], args := [d1, d2, d3] }
  | _ => none }
def DeltaTellsWrongFalsely : Prop := deltaTellsRow.holds Tryd.pinned (OpenSpec.ofChange deltaTellsWrong)

/-- 'palinodelaw11.DeltaBuilds': WHATEVER THE INPUT: true; the input reads as it did. -/
def deltaBuildsSpec : ChangeSpec := { name := "deltaBuilds", fn := fun _ => fun
  | [d1, d2] => { results := [.lit (.bool true)], args := [d1, d2] }
  | _ => none }
def deltaBuildsRow : OpenClaim := { program := "ytpfkidcaolfcoaadoor", sum := "a317ba8616b642039ecfbbb747897b43bd7aac69d58da552eefbdf765348e971", func := "palinode/palinodelaw11.DeltaBuilds", spec := "deltaBuilds", named := ["palinode/utf.table"], apart := false, laid := [("palinode/utf.table", laid_palinode_utf_table)] }
def DeltaBuildsSaid : Prop := deltaBuildsRow.holds Tryd.pinned (OpenSpec.ofChange deltaBuildsSpec)

/-- ITS FALSE NEIGHBOUR: 'it returns false'. Refute it at one input. -/
def deltaBuildsWrong : ChangeSpec := { name := "deltaBuilds", fn := fun _ => fun
  | [d1, d2] => { results := [.lit (.bool false)], args := [d1, d2] }
  | _ => none }
def DeltaBuildsWrongFalsely : Prop := deltaBuildsRow.holds Tryd.pinned (OpenSpec.ofChange deltaBuildsWrong)

/-- 'palinodelaw11.DeltaDoes': WHATEVER THE INPUT: true; the input reads as it did. -/
def deltaDoesSpec : ChangeSpec := { name := "deltaDoes", fn := fun _ => fun
  | [d1, d2] => { results := [.lit (.bool true)], args := [d1, d2] }
  | _ => none }
def deltaDoesRow : OpenClaim := { program := "ytpfkidcaolfcoaadoor", sum := "a317ba8616b642039ecfbbb747897b43bd7aac69d58da552eefbdf765348e971", func := "palinode/palinodelaw11.DeltaDoes", spec := "deltaDoes", named := ["palinode/utf.table"], apart := false, laid := [("palinode/utf.table", laid_palinode_utf_table)] }
def DeltaDoesSaid : Prop := deltaDoesRow.holds Tryd.pinned (OpenSpec.ofChange deltaDoesSpec)

/-- ITS FALSE NEIGHBOUR: 'it returns false'. Refute it at one input. -/
def deltaDoesWrong : ChangeSpec := { name := "deltaDoes", fn := fun _ => fun
  | [d1, d2] => { results := [.lit (.bool false)], args := [d1, d2] }
  | _ => none }
def DeltaDoesWrongFalsely : Prop := deltaDoesRow.holds Tryd.pinned (OpenSpec.ofChange deltaDoesWrong)

/-- 'palinodelaw11.DeltaLong': WHATEVER THE INPUT: true; the input reads as it did. -/
def deltaLongSpec : ChangeSpec := { name := "deltaLong", fn := fun _ => fun
  | [d1, d2] => { results := [.lit (.bool true)], args := [d1, d2] }
  | _ => none }
def deltaLongRow : OpenClaim := { program := "ytpfkidcaolfcoaadoor", sum := "a317ba8616b642039ecfbbb747897b43bd7aac69d58da552eefbdf765348e971", func := "palinode/palinodelaw11.DeltaLong", spec := "deltaLong", named := ["palinode/utf.table"], apart := false, laid := [("palinode/utf.table", laid_palinode_utf_table)] }
def DeltaLongSaid : Prop := deltaLongRow.holds Tryd.pinned (OpenSpec.ofChange deltaLongSpec)

/-- ITS FALSE NEIGHBOUR: 'it returns false'. Refute it at one input. -/
def deltaLongWrong : ChangeSpec := { name := "deltaLong", fn := fun _ => fun
  | [d1, d2] => { results := [.lit (.bool false)], args := [d1, d2] }
  | _ => none }
def DeltaLongWrongFalsely : Prop := deltaLongRow.holds Tryd.pinned (OpenSpec.ofChange deltaLongWrong)

/-- 'palinodelaw11.DeltaKeeps': WHATEVER THE INPUT: true; the input reads as it did. -/
def deltaKeepsSpec : ChangeSpec := { name := "deltaKeeps", fn := fun _ => fun
  | [d1, d2, d3] => { results := [.lit (.bool true)], args := [d1, d2, d3] }
  | _ => none }
def deltaKeepsRow : OpenClaim := { program := "ytpfkidcaolfcoaadoor", sum := "a317ba8616b642039ecfbbb747897b43bd7aac69d58da552eefbdf765348e971", func := "palinode/palinodelaw11.DeltaKeeps", spec := "deltaKeeps", named := ["palinode/utf.table"], apart := false, laid := [("palinode/utf.table", laid_palinode_utf_table)] }
def DeltaKeepsSaid : Prop := deltaKeepsRow.holds Tryd.pinned (OpenSpec.ofChange deltaKeepsSpec)

/-- ITS FALSE NEIGHBOUR: 'it returns false'. Refute it at one input. -/
def deltaKeepsWrong : ChangeSpec := { name := "deltaKeeps", fn := fun _ => fun
  | [d1, d2, d3] => { results := [.lit (.bool false)], args := [d1, d2, d3] }
  | _ => none }
def DeltaKeepsWrongFalsely : Prop := deltaKeepsRow.holds Tryd.pinned (OpenSpec.ofChange deltaKeepsWrong)

/-- 'palinodelaw11.DeltaLeast': WHATEVER THE INPUT: true; the input reads as it did. -/
def deltaLeastSpec : ChangeSpec := { name := "deltaLeast", fn := fun _ => fun
  | [d1, d2, d3] => { results := [.lit (.bool true)], args := [d1, d2, d3] }
  | _ => none }
def deltaLeastRow : OpenClaim := { program := "ytpfkidcaolfcoaadoor", sum := "a317ba8616b642039ecfbbb747897b43bd7aac69d58da552eefbdf765348e971", func := "palinode/palinodelaw11.DeltaLeast", spec := "deltaLeast", named := ["palinode/utf.table"], apart := false, laid := [("palinode/utf.table", laid_palinode_utf_table)] }
def DeltaLeastSaid : Prop := deltaLeastRow.holds Tryd.pinned (OpenSpec.ofChange deltaLeastSpec)

/-- ITS FALSE NEIGHBOUR: 'it returns false'. Refute it at one input. -/
def deltaLeastWrong : ChangeSpec := { name := "deltaLeast", fn := fun _ => fun
  | [d1, d2, d3] => { results := [.lit (.bool false)], args := [d1, d2, d3] }
  | _ => none }
def DeltaLeastWrongFalsely : Prop := deltaLeastRow.holds Tryd.pinned (OpenSpec.ofChange deltaLeastWrong)

/- THE SECOND FORM. 'bulk': how many values and letters a reading holds, each counted each time it is reached (what is shared counts as often as it is met; a slice's spare places count too). A statement '..UptoSaid' is the law's where the arguments, and the package variables that the reading takes, are together of bulk at most 1048576: NARROWER than '..Said'. Prove '..Said' where nothing that the law and all that it calls make is longer than what came in: it says more and counts as full. Else prove '..UptoSaid'. A law counts once. -/
mutual
def uptoBulk {H : Type} : DataW H → Nat
  | .lit (.string bytes) => bytes.length + 1
  | .lit _ => 1
  | .nil => 1
  | .ptr d => uptoBulk d + 1
  | .slice elems spare => uptoBulkAll elems + uptoBulkAll spare + 1
  | .agg parts => uptoBulkAll parts + 1
  | .iface _ d => uptoBulk d + 1
  | .map entries => uptoBulkEntries entries + 1
  | .held _ => 1
def uptoBulkAll {H : Type} : List (DataW H) → Nat
  | [] => 0
  | d :: r => uptoBulk d + uptoBulkAll r
def uptoBulkEntries {H : Type} : List (Lit × DataW H) → Nat
  | [] => 0
  | x :: r => uptoBulkEntry x + uptoBulkEntries r
def uptoBulkEntry {H : Type} : Lit × DataW H → Nat
  | (.string bytes, d) => bytes.length + uptoBulk d + 1
  | (_, d) => uptoBulk d + 1
 end
def uptoSmall : (H : Type) → List (DataW H) → Bool := fun _ ds => decide (uptoBulkAll ds ≤ 1048576)
def OpenSpec.upto (s : _root_.Go.ChangeSpec) : _root_.Go.OpenSpec := { _root_.Go.OpenSpec.ofChange s with cond := some uptoSmall }

/-- 'palinodelaw11.DeltaTells', WHERE WHAT IT READS IS OF BULK AT MOST 1048576: true; the input reads as it did. -/
def deltaTellsUptoRow : OpenClaim := { program := "ytpfkidcaolfcoaadoor", sum := "a317ba8616b642039ecfbbb747897b43bd7aac69d58da552eefbdf765348e971", func := "palinode/palinodelaw11.DeltaTells", spec := "deltaTells", named := ["palinode/utf.table"], apart := false, laid := [("palinode/utf.table", laid_palinode_utf_table)], narrowed := true }
def DeltaTellsUptoSaid : Prop := deltaTellsUptoRow.holds Tryd.pinned (OpenSpec.upto deltaTellsSpec)

/-- 'palinodelaw11.DeltaBuilds', WHERE WHAT IT READS IS OF BULK AT MOST 1048576: true; the input reads as it did. -/
def deltaBuildsUptoRow : OpenClaim := { program := "ytpfkidcaolfcoaadoor", sum := "a317ba8616b642039ecfbbb747897b43bd7aac69d58da552eefbdf765348e971", func := "palinode/palinodelaw11.DeltaBuilds", spec := "deltaBuilds", named := ["palinode/utf.table"], apart := false, laid := [("palinode/utf.table", laid_palinode_utf_table)], narrowed := true }
def DeltaBuildsUptoSaid : Prop := deltaBuildsUptoRow.holds Tryd.pinned (OpenSpec.upto deltaBuildsSpec)

/-- 'palinodelaw11.DeltaDoes', WHERE WHAT IT READS IS OF BULK AT MOST 1048576: true; the input reads as it did. -/
def deltaDoesUptoRow : OpenClaim := { program := "ytpfkidcaolfcoaadoor", sum := "a317ba8616b642039ecfbbb747897b43bd7aac69d58da552eefbdf765348e971", func := "palinode/palinodelaw11.DeltaDoes", spec := "deltaDoes", named := ["palinode/utf.table"], apart := false, laid := [("palinode/utf.table", laid_palinode_utf_table)], narrowed := true }
def DeltaDoesUptoSaid : Prop := deltaDoesUptoRow.holds Tryd.pinned (OpenSpec.upto deltaDoesSpec)

/-- 'palinodelaw11.DeltaLong', WHERE WHAT IT READS IS OF BULK AT MOST 1048576: true; the input reads as it did. -/
def deltaLongUptoRow : OpenClaim := { program := "ytpfkidcaolfcoaadoor", sum := "a317ba8616b642039ecfbbb747897b43bd7aac69d58da552eefbdf765348e971", func := "palinode/palinodelaw11.DeltaLong", spec := "deltaLong", named := ["palinode/utf.table"], apart := false, laid := [("palinode/utf.table", laid_palinode_utf_table)], narrowed := true }
def DeltaLongUptoSaid : Prop := deltaLongUptoRow.holds Tryd.pinned (OpenSpec.upto deltaLongSpec)

/-- 'palinodelaw11.DeltaKeeps', WHERE WHAT IT READS IS OF BULK AT MOST 1048576: true; the input reads as it did. -/
def deltaKeepsUptoRow : OpenClaim := { program := "ytpfkidcaolfcoaadoor", sum := "a317ba8616b642039ecfbbb747897b43bd7aac69d58da552eefbdf765348e971", func := "palinode/palinodelaw11.DeltaKeeps", spec := "deltaKeeps", named := ["palinode/utf.table"], apart := false, laid := [("palinode/utf.table", laid_palinode_utf_table)], narrowed := true }
def DeltaKeepsUptoSaid : Prop := deltaKeepsUptoRow.holds Tryd.pinned (OpenSpec.upto deltaKeepsSpec)

/-- 'palinodelaw11.DeltaLeast', WHERE WHAT IT READS IS OF BULK AT MOST 1048576: true; the input reads as it did. -/
def deltaLeastUptoRow : OpenClaim := { program := "ytpfkidcaolfcoaadoor", sum := "a317ba8616b642039ecfbbb747897b43bd7aac69d58da552eefbdf765348e971", func := "palinode/palinodelaw11.DeltaLeast", spec := "deltaLeast", named := ["palinode/utf.table"], apart := false, laid := [("palinode/utf.table", laid_palinode_utf_table)], narrowed := true }
def DeltaLeastUptoSaid : Prop := deltaLeastUptoRow.holds Tryd.pinned (OpenSpec.upto deltaLeastSpec)

end Rows
end Go.Proofs.YtpfkidcaolfcoaaDoor
