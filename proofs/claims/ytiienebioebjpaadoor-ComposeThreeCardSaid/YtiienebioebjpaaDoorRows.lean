/-
  NARROWER THAN 'FOR EVERY INPUT', by the rows' own cells (each row's printed sentence says how): ComposeTells: laid · ComposeInverts: laid · ComposeBoth: laid · ComposeUndoes: laid · ComposePlain: laid · ComposeThree: laid.
  DERIVED. THE GIVEN ROWS OF THIS SEAT. 6 by the template 'for every input the law returns true; each argument reads behind the call as it read before'; 0 by the template 'total and deterministic' (their statements: YtiienebioebjpaaDoorTotals.lean).
  GIVEN WITH THE SEED: the statements are not yours to turn. If you find one false, say at which input.
  Laid BY PROGRAM, IN A SANDBOX (cutbox-rows.mjs): the forced cells as the released guide's own fill.sh prints them over the translation 83c5b09de8083767… (all of the seat's roots in one cut). By AI agents, Wed Nov 11 2026. No macro, syntax, notation, axiom, sorry.
-/
import Derived.Test.YtiienebioebjpaaDoorChecked
import GoSem.Claim
import GoSem.ClaimJoined
import GoSem.ClaimMapViews
import Derived.JoinedTies
import Derived.KernelRfl
namespace Go.Proofs.YtiienebioebjpaaDoor
/- THE CELL 'sum', in the pinned program and in every row, IS THE sha256 OF THE DUMP (.gsa) THAT YtiienebioebjpaaDoorProg.lean LOADS. Nothing in Lean hashes anything: it is a label: what it is worth is what the hold of that sum in a sandbox is worth. -/
noncomputable def Tryd.pinned : Pinned := { name := "ytiienebioebjpaadoor", sum := "83c5b09de808376741bced556d13fab2c46bda001e6109418e53876ee2978a24", checked := Tryd.checked }
namespace Rows
def none {H : Type} : Left H := { results := [], args := [] }

/- WHAT THE LISTED PACKAGE-LEVEL VARIABLES READ AS WHEN THE CALL BEGINS. Each datum BY PROGRAM (the guide's laid-datum.mjs) off the statement by which the dump's own 'gosem.cut.vars' lays the variable. In a bare row this is a premise. The card (YtiienebioebjpaaDoorCards.lean) ties it to the program's text. -/
def laid_palinode_utf_table {H : Type} : DataW H := .slice [.agg [.lit (.int .i32 0), .lit (.int .i32 127), .lit (.int .u8 0), .lit (.int .u8 127), .lit (.int .u8 0), .lit (.int .u8 0), .lit (.int .i64 1)], .agg [.lit (.int .i32 128), .lit (.int .i32 2047), .lit (.int .u8 194), .lit (.int .u8 223), .lit (.int .u8 128), .lit (.int .u8 191), .lit (.int .i64 2)], .agg [.lit (.int .i32 2048), .lit (.int .i32 4095), .lit (.int .u8 224), .lit (.int .u8 224), .lit (.int .u8 160), .lit (.int .u8 191), .lit (.int .i64 3)], .agg [.lit (.int .i32 4096), .lit (.int .i32 53247), .lit (.int .u8 225), .lit (.int .u8 236), .lit (.int .u8 128), .lit (.int .u8 191), .lit (.int .i64 3)], .agg [.lit (.int .i32 53248), .lit (.int .i32 55295), .lit (.int .u8 237), .lit (.int .u8 237), .lit (.int .u8 128), .lit (.int .u8 159), .lit (.int .i64 3)], .agg [.lit (.int .i32 57344), .lit (.int .i32 65535), .lit (.int .u8 238), .lit (.int .u8 239), .lit (.int .u8 128), .lit (.int .u8 191), .lit (.int .i64 3)], .agg [.lit (.int .i32 65536), .lit (.int .i32 262143), .lit (.int .u8 240), .lit (.int .u8 240), .lit (.int .u8 144), .lit (.int .u8 191), .lit (.int .i64 4)], .agg [.lit (.int .i32 262144), .lit (.int .i32 1048575), .lit (.int .u8 241), .lit (.int .u8 243), .lit (.int .u8 128), .lit (.int .u8 191), .lit (.int .i64 4)], .agg [.lit (.int .i32 1048576), .lit (.int .i32 1114111), .lit (.int .u8 244), .lit (.int .u8 244), .lit (.int .u8 128), .lit (.int .u8 143), .lit (.int .i64 4)]] []

/-- 'palinodelaw13.ComposeTells': WHATEVER THE INPUT: true; the input reads as it did. -/
def composeTellsSpec : ChangeSpec := { name := "composeTells", fn := fun _ => fun
  | [d1, d2] => { results := [.lit (.bool true)], args := [d1, d2] }
  | _ => none }
def composeTellsRow : OpenClaim := { program := "ytiienebioebjpaadoor", sum := "83c5b09de808376741bced556d13fab2c46bda001e6109418e53876ee2978a24", func := "palinode/palinodelaw13.ComposeTells", spec := "composeTells", named := ["palinode/utf.table"], apart := false, laid := [("palinode/utf.table", laid_palinode_utf_table)] }
def ComposeTellsSaid : Prop := composeTellsRow.holds Tryd.pinned (OpenSpec.ofChange composeTellsSpec)

/-- ITS FALSE NEIGHBOUR: 'it returns false'. Refute it at one input. -/
def composeTellsWrong : ChangeSpec := { name := "composeTells", fn := fun _ => fun
  | [d1, d2] => { results := [.lit (.bool false)], args := [d1, d2] }
  | _ => none }
def ComposeTellsWrongFalsely : Prop := composeTellsRow.holds Tryd.pinned (OpenSpec.ofChange composeTellsWrong)

/-- 'palinodelaw13.ComposeInverts': WHATEVER THE INPUT: true; the input reads as it did. -/
def composeInvertsSpec : ChangeSpec := { name := "composeInverts", fn := fun _ => fun
  | [d1, d2] => { results := [.lit (.bool true)], args := [d1, d2] }
  | _ => none }
def composeInvertsRow : OpenClaim := { program := "ytiienebioebjpaadoor", sum := "83c5b09de808376741bced556d13fab2c46bda001e6109418e53876ee2978a24", func := "palinode/palinodelaw13.ComposeInverts", spec := "composeInverts", named := ["palinode/utf.table"], apart := false, laid := [("palinode/utf.table", laid_palinode_utf_table)] }
def ComposeInvertsSaid : Prop := composeInvertsRow.holds Tryd.pinned (OpenSpec.ofChange composeInvertsSpec)

/-- ITS FALSE NEIGHBOUR: 'it returns false'. Refute it at one input. -/
def composeInvertsWrong : ChangeSpec := { name := "composeInverts", fn := fun _ => fun
  | [d1, d2] => { results := [.lit (.bool false)], args := [d1, d2] }
  | _ => none }
def ComposeInvertsWrongFalsely : Prop := composeInvertsRow.holds Tryd.pinned (OpenSpec.ofChange composeInvertsWrong)

/-- 'palinodelaw13.ComposeBoth': WHATEVER THE INPUT: true; the input reads as it did. -/
def composeBothSpec : ChangeSpec := { name := "composeBoth", fn := fun _ => fun
  | [d1, d2] => { results := [.lit (.bool true)], args := [d1, d2] }
  | _ => none }
def composeBothRow : OpenClaim := { program := "ytiienebioebjpaadoor", sum := "83c5b09de808376741bced556d13fab2c46bda001e6109418e53876ee2978a24", func := "palinode/palinodelaw13.ComposeBoth", spec := "composeBoth", named := ["palinode/utf.table"], apart := false, laid := [("palinode/utf.table", laid_palinode_utf_table)] }
def ComposeBothSaid : Prop := composeBothRow.holds Tryd.pinned (OpenSpec.ofChange composeBothSpec)

/-- ITS FALSE NEIGHBOUR: 'it returns false'. Refute it at one input. -/
def composeBothWrong : ChangeSpec := { name := "composeBoth", fn := fun _ => fun
  | [d1, d2] => { results := [.lit (.bool false)], args := [d1, d2] }
  | _ => none }
def ComposeBothWrongFalsely : Prop := composeBothRow.holds Tryd.pinned (OpenSpec.ofChange composeBothWrong)

/-- 'palinodelaw13.ComposeUndoes': WHATEVER THE INPUT: true; the input reads as it did. -/
def composeUndoesSpec : ChangeSpec := { name := "composeUndoes", fn := fun _ => fun
  | [d1, d2] => { results := [.lit (.bool true)], args := [d1, d2] }
  | _ => none }
def composeUndoesRow : OpenClaim := { program := "ytiienebioebjpaadoor", sum := "83c5b09de808376741bced556d13fab2c46bda001e6109418e53876ee2978a24", func := "palinode/palinodelaw13.ComposeUndoes", spec := "composeUndoes", named := ["palinode/utf.table"], apart := false, laid := [("palinode/utf.table", laid_palinode_utf_table)] }
def ComposeUndoesSaid : Prop := composeUndoesRow.holds Tryd.pinned (OpenSpec.ofChange composeUndoesSpec)

/-- ITS FALSE NEIGHBOUR: 'it returns false'. Refute it at one input. -/
def composeUndoesWrong : ChangeSpec := { name := "composeUndoes", fn := fun _ => fun
  | [d1, d2] => { results := [.lit (.bool false)], args := [d1, d2] }
  | _ => none }
def ComposeUndoesWrongFalsely : Prop := composeUndoesRow.holds Tryd.pinned (OpenSpec.ofChange composeUndoesWrong)

/-- 'palinodelaw13.ComposePlain': WHATEVER THE INPUT: true; the input reads as it did. -/
def composePlainSpec : ChangeSpec := { name := "composePlain", fn := fun _ => fun
  | [d1, d2] => { results := [.lit (.bool true)], args := [d1, d2] }
  | _ => none }
def composePlainRow : OpenClaim := { program := "ytiienebioebjpaadoor", sum := "83c5b09de808376741bced556d13fab2c46bda001e6109418e53876ee2978a24", func := "palinode/palinodelaw13.ComposePlain", spec := "composePlain", named := ["palinode/utf.table"], apart := false, laid := [("palinode/utf.table", laid_palinode_utf_table)] }
def ComposePlainSaid : Prop := composePlainRow.holds Tryd.pinned (OpenSpec.ofChange composePlainSpec)

/-- ITS FALSE NEIGHBOUR: 'it returns false'. Refute it at one input. -/
def composePlainWrong : ChangeSpec := { name := "composePlain", fn := fun _ => fun
  | [d1, d2] => { results := [.lit (.bool false)], args := [d1, d2] }
  | _ => none }
def ComposePlainWrongFalsely : Prop := composePlainRow.holds Tryd.pinned (OpenSpec.ofChange composePlainWrong)

/-- 'palinodelaw13.ComposeThree': WHATEVER THE INPUT: true; the input reads as it did. -/
def composeThreeSpec : ChangeSpec := { name := "composeThree", fn := fun _ => fun
  | [d1, d2, d3, d4] => { results := [.lit (.bool true)], args := [d1, d2, d3, d4] }
  | _ => none }
def composeThreeRow : OpenClaim := { program := "ytiienebioebjpaadoor", sum := "83c5b09de808376741bced556d13fab2c46bda001e6109418e53876ee2978a24", func := "palinode/palinodelaw13.ComposeThree", spec := "composeThree", named := ["palinode/utf.table"], apart := false, laid := [("palinode/utf.table", laid_palinode_utf_table)] }
def ComposeThreeSaid : Prop := composeThreeRow.holds Tryd.pinned (OpenSpec.ofChange composeThreeSpec)

/-- ITS FALSE NEIGHBOUR: 'it returns false'. Refute it at one input. -/
def composeThreeWrong : ChangeSpec := { name := "composeThree", fn := fun _ => fun
  | [d1, d2, d3, d4] => { results := [.lit (.bool false)], args := [d1, d2, d3, d4] }
  | _ => none }
def ComposeThreeWrongFalsely : Prop := composeThreeRow.holds Tryd.pinned (OpenSpec.ofChange composeThreeWrong)

/- THE SECOND FORM. 'bulk': how many values and letters a reading holds, each counted each time it is reached (what is shared counts as often as it is met; a slice's spare places count too). A statement '..UptoSaid' is the law's where the arguments, and the package variables that the reading takes, are together of bulk at most 1048576: NARROWER than '..Said'. Prove '..Said' where nothing that the law and all that it calls make is longer than what came in: it says more and counts as full. Else prove '..UptoSaid'. A law counts once. -/
mutual
def uptoBulk {H : Type} : DataW H → Nat
  | .lit (.string bytes) => bytes.length + 1
  | .lit _ => 1
  | .nil => 1
  | .ptr d => uptoBulk d + 1
  | .slice elems spare => uptoBulkAll elems + uptoBulkAll spare + 1
  | .agg parts => uptoBulkAll parts + 1
  | .iface _ d => uptoBulk d + 1
  | .map entries => uptoBulkEntries entries + 1
  | .held _ => 1
def uptoBulkAll {H : Type} : List (DataW H) → Nat
  | [] => 0
  | d :: r => uptoBulk d + uptoBulkAll r
def uptoBulkEntries {H : Type} : List (Lit × DataW H) → Nat
  | [] => 0
  | x :: r => uptoBulkEntry x + uptoBulkEntries r
def uptoBulkEntry {H : Type} : Lit × DataW H → Nat
  | (.string bytes, d) => bytes.length + uptoBulk d + 1
  | (_, d) => uptoBulk d + 1
 end
def uptoSmall : (H : Type) → List (DataW H) → Bool := fun _ ds => decide (uptoBulkAll ds ≤ 1048576)
def OpenSpec.upto (s : _root_.Go.ChangeSpec) : _root_.Go.OpenSpec := { _root_.Go.OpenSpec.ofChange s with cond := some uptoSmall }

/-- 'palinodelaw13.ComposeTells', WHERE WHAT IT READS IS OF BULK AT MOST 1048576: true; the input reads as it did. -/
def composeTellsUptoRow : OpenClaim := { program := "ytiienebioebjpaadoor", sum := "83c5b09de808376741bced556d13fab2c46bda001e6109418e53876ee2978a24", func := "palinode/palinodelaw13.ComposeTells", spec := "composeTells", named := ["palinode/utf.table"], apart := false, laid := [("palinode/utf.table", laid_palinode_utf_table)], narrowed := true }
def ComposeTellsUptoSaid : Prop := composeTellsUptoRow.holds Tryd.pinned (OpenSpec.upto composeTellsSpec)

/-- 'palinodelaw13.ComposeInverts', WHERE WHAT IT READS IS OF BULK AT MOST 1048576: true; the input reads as it did. -/
def composeInvertsUptoRow : OpenClaim := { program := "ytiienebioebjpaadoor", sum := "83c5b09de808376741bced556d13fab2c46bda001e6109418e53876ee2978a24", func := "palinode/palinodelaw13.ComposeInverts", spec := "composeInverts", named := ["palinode/utf.table"], apart := false, laid := [("palinode/utf.table", laid_palinode_utf_table)], narrowed := true }
def ComposeInvertsUptoSaid : Prop := composeInvertsUptoRow.holds Tryd.pinned (OpenSpec.upto composeInvertsSpec)

/-- 'palinodelaw13.ComposeBoth', WHERE WHAT IT READS IS OF BULK AT MOST 1048576: true; the input reads as it did. -/
def composeBothUptoRow : OpenClaim := { program := "ytiienebioebjpaadoor", sum := "83c5b09de808376741bced556d13fab2c46bda001e6109418e53876ee2978a24", func := "palinode/palinodelaw13.ComposeBoth", spec := "composeBoth", named := ["palinode/utf.table"], apart := false, laid := [("palinode/utf.table", laid_palinode_utf_table)], narrowed := true }
def ComposeBothUptoSaid : Prop := composeBothUptoRow.holds Tryd.pinned (OpenSpec.upto composeBothSpec)

/-- 'palinodelaw13.ComposeUndoes', WHERE WHAT IT READS IS OF BULK AT MOST 1048576: true; the input reads as it did. -/
def composeUndoesUptoRow : OpenClaim := { program := "ytiienebioebjpaadoor", sum := "83c5b09de808376741bced556d13fab2c46bda001e6109418e53876ee2978a24", func := "palinode/palinodelaw13.ComposeUndoes", spec := "composeUndoes", named := ["palinode/utf.table"], apart := false, laid := [("palinode/utf.table", laid_palinode_utf_table)], narrowed := true }
def ComposeUndoesUptoSaid : Prop := composeUndoesUptoRow.holds Tryd.pinned (OpenSpec.upto composeUndoesSpec)

/-- 'palinodelaw13.ComposePlain', WHERE WHAT IT READS IS OF BULK AT MOST 1048576: true; the input reads as it did. -/
def composePlainUptoRow : OpenClaim := { program := "ytiienebioebjpaadoor", sum := "83c5b09de808376741bced556d13fab2c46bda001e6109418e53876ee2978a24", func := "palinode/palinodelaw13.ComposePlain", spec := "composePlain", named := ["palinode/utf.table"], apart := false, laid := [("palinode/utf.table", laid_palinode_utf_table)], narrowed := true }
def ComposePlainUptoSaid : Prop := composePlainUptoRow.holds Tryd.pinned (OpenSpec.upto composePlainSpec)

/-- 'palinodelaw13.ComposeThree', WHERE WHAT IT READS IS OF BULK AT MOST 1048576: true; the input reads as it did. -/
def composeThreeUptoRow : OpenClaim := { program := "ytiienebioebjpaadoor", sum := "83c5b09de808376741bced556d13fab2c46bda001e6109418e53876ee2978a24", func := "palinode/palinodelaw13.ComposeThree", spec := "composeThree", named := ["palinode/utf.table"], apart := false, laid := [("palinode/utf.table", laid_palinode_utf_table)], narrowed := true }
def ComposeThreeUptoSaid : Prop := composeThreeUptoRow.holds Tryd.pinned (OpenSpec.upto composeThreeSpec)

end Rows
end Go.Proofs.YtiienebioebjpaaDoor
