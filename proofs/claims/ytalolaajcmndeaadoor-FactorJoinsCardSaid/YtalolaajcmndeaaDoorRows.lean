/-
  NARROWER THAN 'FOR EVERY INPUT', by the rows' own cells (each row's printed sentence says how): FactorTells: laid · FactorJoins: laid · FactorBack: laid · FactorPlain: laid · FactorCounts: laid.
  DERIVED. THE GIVEN ROWS OF THIS SEAT. 5 by the template 'for every input the law returns true; each argument reads behind the call as it read before'; 0 by the template 'total and deterministic' (their statements: YtalolaajcmndeaaDoorTotals.lean).
  GIVEN WITH THE SEED: the statements are not yours to turn. If you find one false, say at which input.
  Laid BY PROGRAM, IN A SANDBOX (cutbox-rows.mjs): the forced cells as the released guide's own fill.sh prints them over the translation f0ccdb715f0b1e03… (all of the seat's roots in one cut). By AI agents, Wed Nov 11 2026. No macro, syntax, notation, axiom, sorry.
-/
import Derived.Test.YtalolaajcmndeaaDoorChecked
import GoSem.Claim
import GoSem.ClaimJoined
import GoSem.ClaimMapViews
import Derived.JoinedTies
import Derived.KernelRfl
namespace Go.Proofs.YtalolaajcmndeaaDoor
/- THE CELL 'sum', in the pinned program and in every row, IS THE sha256 OF THE DUMP (.gsa) THAT YtalolaajcmndeaaDoorProg.lean LOADS. Nothing in Lean hashes anything: it is a label: what it is worth is what the hold of that sum in a sandbox is worth. -/
noncomputable def Tryd.pinned : Pinned := { name := "ytalolaajcmndeaadoor", sum := "f0ccdb715f0b1e0396f5fc628616ac89b5c80e15617df7bed07c2eb38dfb6d18", checked := Tryd.checked }
namespace Rows
def none {H : Type} : Left H := { results := [], args := [] }

/- WHAT THE LISTED PACKAGE-LEVEL VARIABLES READ AS WHEN THE CALL BEGINS. Each datum BY PROGRAM (the guide's laid-datum.mjs) off the statement by which the dump's own 'gosem.cut.vars' lays the variable. In a bare row this is a premise. The card (YtalolaajcmndeaaDoorCards.lean) ties it to the program's text. -/
def laid_palinode_utf_table {H : Type} : DataW H := .slice [.agg [.lit (.int .i32 0), .lit (.int .i32 127), .lit (.int .u8 0), .lit (.int .u8 127), .lit (.int .u8 0), .lit (.int .u8 0), .lit (.int .i64 1)], .agg [.lit (.int .i32 128), .lit (.int .i32 2047), .lit (.int .u8 194), .lit (.int .u8 223), .lit (.int .u8 128), .lit (.int .u8 191), .lit (.int .i64 2)], .agg [.lit (.int .i32 2048), .lit (.int .i32 4095), .lit (.int .u8 224), .lit (.int .u8 224), .lit (.int .u8 160), .lit (.int .u8 191), .lit (.int .i64 3)], .agg [.lit (.int .i32 4096), .lit (.int .i32 53247), .lit (.int .u8 225), .lit (.int .u8 236), .lit (.int .u8 128), .lit (.int .u8 191), .lit (.int .i64 3)], .agg [.lit (.int .i32 53248), .lit (.int .i32 55295), .lit (.int .u8 237), .lit (.int .u8 237), .lit (.int .u8 128), .lit (.int .u8 159), .lit (.int .i64 3)], .agg [.lit (.int .i32 57344), .lit (.int .i32 65535), .lit (.int .u8 238), .lit (.int .u8 239), .lit (.int .u8 128), .lit (.int .u8 191), .lit (.int .i64 3)], .agg [.lit (.int .i32 65536), .lit (.int .i32 262143), .lit (.int .u8 240), .lit (.int .u8 240), .lit (.int .u8 144), .lit (.int .u8 191), .lit (.int .i64 4)], .agg [.lit (.int .i32 262144), .lit (.int .i32 1048575), .lit (.int .u8 241), .lit (.int .u8 243), .lit (.int .u8 128), .lit (.int .u8 191), .lit (.int .i64 4)], .agg [.lit (.int .i32 1048576), .lit (.int .i32 1114111), .lit (.int .u8 244), .lit (.int .u8 244), .lit (.int .u8 128), .lit (.int .u8 143), .lit (.int .i64 4)]] []

/-- 'palinodelaw12.FactorTells': WHATEVER THE INPUT: true; the input reads as it did. -/
def factorTellsSpec : ChangeSpec := { name := "factorTells", fn := fun _ => fun
  | [d] => { results := [.lit (.bool true)], args := [d] }
  | _ => none }
def factorTellsRow : OpenClaim := { program := "ytalolaajcmndeaadoor", sum := "f0ccdb715f0b1e0396f5fc628616ac89b5c80e15617df7bed07c2eb38dfb6d18", func := "palinode/palinodelaw12.FactorTells", spec := "factorTells", named := ["palinode/utf.table"], apart := false, laid := [("palinode/utf.table", laid_palinode_utf_table)] }
def FactorTellsSaid : Prop := factorTellsRow.holds Tryd.pinned (OpenSpec.ofChange factorTellsSpec)

/-- ITS FALSE NEIGHBOUR: 'it returns false'. Refute it at one input. -/
def factorTellsWrong : ChangeSpec := { name := "factorTells", fn := fun _ => fun
  | [d] => { results := [.lit (.bool false)], args := [d] }
  | _ => none }
def FactorTellsWrongFalsely : Prop := factorTellsRow.holds Tryd.pinned (OpenSpec.ofChange factorTellsWrong)

/-- 'palinodelaw12.FactorJoins': WHATEVER THE INPUT: true; the input reads as it did. -/
def factorJoinsSpec : ChangeSpec := { name := "factorJoins", fn := fun _ => fun
  | [d1, d2] => { results := [.lit (.bool true)], args := [d1, d2] }
  | _ => none }
def factorJoinsRow : OpenClaim := { program := "ytalolaajcmndeaadoor", sum := "f0ccdb715f0b1e0396f5fc628616ac89b5c80e15617df7bed07c2eb38dfb6d18", func := "palinode/palinodelaw12.FactorJoins", spec := "factorJoins", named := ["palinode/utf.table"], apart := false, laid := [("palinode/utf.table", laid_palinode_utf_table)] }
def FactorJoinsSaid : Prop := factorJoinsRow.holds Tryd.pinned (OpenSpec.ofChange factorJoinsSpec)

/-- ITS FALSE NEIGHBOUR: 'it returns false'. Refute it at one input. -/
def factorJoinsWrong : ChangeSpec := { name := "factorJoins", fn := fun _ => fun
  | [d1, d2] => { results := [.lit (.bool false)], args := [d1, d2] }
  | _ => none }
def FactorJoinsWrongFalsely : Prop := factorJoinsRow.holds Tryd.pinned (OpenSpec.ofChange factorJoinsWrong)

/-- 'palinodelaw12.FactorBack': WHATEVER THE INPUT: true; the input reads as it did. -/
def factorBackSpec : ChangeSpec := { name := "factorBack", fn := fun _ => fun
  | [d1, d2] => { results := [.lit (.bool true)], args := [d1, d2] }
  | _ => none }
def factorBackRow : OpenClaim := { program := "ytalolaajcmndeaadoor", sum := "f0ccdb715f0b1e0396f5fc628616ac89b5c80e15617df7bed07c2eb38dfb6d18", func := "palinode/palinodelaw12.FactorBack", spec := "factorBack", named := ["palinode/utf.table"], apart := false, laid := [("palinode/utf.table", laid_palinode_utf_table)] }
def FactorBackSaid : Prop := factorBackRow.holds Tryd.pinned (OpenSpec.ofChange factorBackSpec)

/-- ITS FALSE NEIGHBOUR: 'it returns false'. Refute it at one input. -/
def factorBackWrong : ChangeSpec := { name := "factorBack", fn := fun _ => fun
  | [d1, d2] => { results := [.lit (.bool false)], args := [d1, d2] }
  | _ => none }
def FactorBackWrongFalsely : Prop := factorBackRow.holds Tryd.pinned (OpenSpec.ofChange factorBackWrong)

/-- 'palinodelaw12.FactorPlain': WHATEVER THE INPUT: true; the input reads as it did. -/
def factorPlainSpec : ChangeSpec := { name := "factorPlain", fn := fun _ => fun
  | [d1, d2, d3, d4] => { results := [.lit (.bool true)], args := [d1, d2, d3, d4] }
  | _ => none }
def factorPlainRow : OpenClaim := { program := "ytalolaajcmndeaadoor", sum := "f0ccdb715f0b1e0396f5fc628616ac89b5c80e15617df7bed07c2eb38dfb6d18", func := "palinode/palinodelaw12.FactorPlain", spec := "factorPlain", named := ["palinode/utf.table"], apart := false, laid := [("palinode/utf.table", laid_palinode_utf_table)] }
def FactorPlainSaid : Prop := factorPlainRow.holds Tryd.pinned (OpenSpec.ofChange factorPlainSpec)

/-- ITS FALSE NEIGHBOUR: 'it returns false'. Refute it at one input. -/
def factorPlainWrong : ChangeSpec := { name := "factorPlain", fn := fun _ => fun
  | [d1, d2, d3, d4] => { results := [.lit (.bool false)], args := [d1, d2, d3, d4] }
  | _ => none }
def FactorPlainWrongFalsely : Prop := factorPlainRow.holds Tryd.pinned (OpenSpec.ofChange factorPlainWrong)

/-- 'palinodelaw12.FactorCounts': WHATEVER THE INPUT: true; the input reads as it did. -/
def factorCountsSpec : ChangeSpec := { name := "factorCounts", fn := fun _ => fun
  | [d1, d2] => { results := [.lit (.bool true)], args := [d1, d2] }
  | _ => none }
def factorCountsRow : OpenClaim := { program := "ytalolaajcmndeaadoor", sum := "f0ccdb715f0b1e0396f5fc628616ac89b5c80e15617df7bed07c2eb38dfb6d18", func := "palinode/palinodelaw12.FactorCounts", spec := "factorCounts", named := ["palinode/utf.table"], apart := false, laid := [("palinode/utf.table", laid_palinode_utf_table)] }
def FactorCountsSaid : Prop := factorCountsRow.holds Tryd.pinned (OpenSpec.ofChange factorCountsSpec)

/-- ITS FALSE NEIGHBOUR: 'it returns false'. Refute it at one input. -/
def factorCountsWrong : ChangeSpec := { name := "factorCounts", fn := fun _ => fun
  | [d1, d2] => { results := [.lit (.bool false)], args := [d1, d2] }
  | _ => none }
def FactorCountsWrongFalsely : Prop := factorCountsRow.holds Tryd.pinned (OpenSpec.ofChange factorCountsWrong)

/- THE SECOND FORM. 'bulk': how many values and letters a reading holds, each counted each time it is reached (what is shared counts as often as it is met; a slice's spare places count too). A statement '..UptoSaid' is the law's where the arguments, and the package variables that the reading takes, are together of bulk at most 1048576: NARROWER than '..Said'. Prove '..Said' where nothing that the law and all that it calls make is longer than what came in: it says more and counts as full. Else prove '..UptoSaid'. A law counts once. -/
mutual
def uptoBulk {H : Type} : DataW H → Nat
  | .lit (.string bytes) => bytes.length + 1
  | .lit _ => 1
  | .nil => 1
  | .ptr d => uptoBulk d + 1
  | .slice elems spare => uptoBulkAll elems + uptoBulkAll spare + 1
  | .agg parts => uptoBulkAll parts + 1
  | .iface _ d => uptoBulk d + 1
  | .map entries => uptoBulkEntries entries + 1
  | .held _ => 1
def uptoBulkAll {H : Type} : List (DataW H) → Nat
  | [] => 0
  | d :: r => uptoBulk d + uptoBulkAll r
def uptoBulkEntries {H : Type} : List (Lit × DataW H) → Nat
  | [] => 0
  | x :: r => uptoBulkEntry x + uptoBulkEntries r
def uptoBulkEntry {H : Type} : Lit × DataW H → Nat
  | (.string bytes, d) => bytes.length + uptoBulk d + 1
  | (_, d) => uptoBulk d + 1
 end
def uptoSmall : (H : Type) → List (DataW H) → Bool := fun _ ds => decide (uptoBulkAll ds ≤ 1048576)
def OpenSpec.upto (s : _root_.Go.ChangeSpec) : _root_.Go.OpenSpec := { _root_.Go.OpenSpec.ofChange s with cond := some uptoSmall }

/-- 'palinodelaw12.FactorTells', WHERE WHAT IT READS IS OF BULK AT MOST 1048576: true; the input reads as it did. -/
def factorTellsUptoRow : OpenClaim := { program := "ytalolaajcmndeaadoor", sum := "f0ccdb715f0b1e0396f5fc628616ac89b5c80e15617df7bed07c2eb38dfb6d18", func := "palinode/palinodelaw12.FactorTells", spec := "factorTells", named := ["palinode/utf.table"], apart := false, laid := [("palinode/utf.table", laid_palinode_utf_table)], narrowed := true }
def FactorTellsUptoSaid : Prop := factorTellsUptoRow.holds Tryd.pinned (OpenSpec.upto factorTellsSpec)

/-- 'palinodelaw12.FactorJoins', WHERE WHAT IT READS IS OF BULK AT MOST 1048576: true; the input reads as it did. -/
def factorJoinsUptoRow : OpenClaim := { program := "ytalolaajcmndeaadoor", sum := "f0ccdb715f0b1e0396f5fc628616ac89b5c80e15617df7bed07c2eb38dfb6d18", func := "palinode/palinodelaw12.FactorJoins", spec := "factorJoins", named := ["palinode/utf.table"], apart := false, laid := [("palinode/utf.table", laid_palinode_utf_table)], narrowed := true }
def FactorJoinsUptoSaid : Prop := factorJoinsUptoRow.holds Tryd.pinned (OpenSpec.upto factorJoinsSpec)

/-- 'palinodelaw12.FactorBack', WHERE WHAT IT READS IS OF BULK AT MOST 1048576: true; the input reads as it did. -/
def factorBackUptoRow : OpenClaim := { program := "ytalolaajcmndeaadoor", sum := "f0ccdb715f0b1e0396f5fc628616ac89b5c80e15617df7bed07c2eb38dfb6d18", func := "palinode/palinodelaw12.FactorBack", spec := "factorBack", named := ["palinode/utf.table"], apart := false, laid := [("palinode/utf.table", laid_palinode_utf_table)], narrowed := true }
def FactorBackUptoSaid : Prop := factorBackUptoRow.holds Tryd.pinned (OpenSpec.upto factorBackSpec)

/-- 'palinodelaw12.FactorPlain', WHERE WHAT IT READS IS OF BULK AT MOST 1048576: true; the input reads as it did. -/
def factorPlainUptoRow : OpenClaim := { program := "ytalolaajcmndeaadoor", sum := "f0ccdb715f0b1e0396f5fc628616ac89b5c80e15617df7bed07c2eb38dfb6d18", func := "palinode/palinodelaw12.FactorPlain", spec := "factorPlain", named := ["palinode/utf.table"], apart := false, laid := [("palinode/utf.table", laid_palinode_utf_table)], narrowed := true }
def FactorPlainUptoSaid : Prop := factorPlainUptoRow.holds Tryd.pinned (OpenSpec.upto factorPlainSpec)

/-- 'palinodelaw12.FactorCounts', WHERE WHAT IT READS IS OF BULK AT MOST 1048576: true; the input reads as it did. -/
def factorCountsUptoRow : OpenClaim := { program := "ytalolaajcmndeaadoor", sum := "f0ccdb715f0b1e0396f5fc628616ac89b5c80e15617df7bed07c2eb38dfb6d18", func := "palinode/palinodelaw12.FactorCounts", spec := "factorCounts", named := ["palinode/utf.table"], apart := false, laid := [("palinode/utf.table", laid_palinode_utf_table)], narrowed := true }
def FactorCountsUptoSaid : Prop := factorCountsUptoRow.holds Tryd.pinned (OpenSpec.upto factorCountsSpec)

end Rows
end Go.Proofs.YtalolaajcmndeaaDoor
