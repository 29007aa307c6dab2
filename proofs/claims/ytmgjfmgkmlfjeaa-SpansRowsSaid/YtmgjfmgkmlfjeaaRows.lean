/-
  No cell of these rows narrows 'for every input' (looked for: loops, veiled, ifaces, maps, wideKeys, modest, calm, conditions, laid).
  DERIVED. THE GIVEN ROWS OF THIS SEAT. 4 by the template 'for every input the law returns true; each argument reads behind the call as it read before'; 0 by the template 'total and deterministic' (their statements: YtmgjfmgkmlfjeaaTotals.lean).
  GIVEN WITH THE SEED: the statements are not yours to turn. If you find one false, say at which input.
  Laid BY PROGRAM, IN A SANDBOX (cutbox-rows.mjs): the forced cells as the released guide's own fill.sh prints them over the translation f00e20705502fbd4… (all of the seat's roots in one cut). By AI agents, Wed Nov 11 2026. No macro, syntax, notation, axiom, sorry.
-/
import Derived.Test.YtmgjfmgkmlfjeaaChecked
import GoSem.Claim
import GoSem.ClaimJoined
import GoSem.ClaimMapViews
import Derived.JoinedTies
import Derived.KernelRfl
namespace Go.Proofs.Ytmgjfmgkmlfjeaa
/- THE CELL 'sum', in the pinned program and in every row, IS THE sha256 OF THE DUMP (.gsa) THAT YtmgjfmgkmlfjeaaProg.lean LOADS. Nothing in Lean hashes anything: it is a label: what it is worth is what the hold of that sum in a sandbox is worth. -/
noncomputable def Try.pinned : Pinned := { name := "ytmgjfmgkmlfjeaa", sum := "f00e20705502fbd4e11ff6ef67e7b992994bd75b75df407e77f951d45d726d1e", checked := Try.checked }
namespace Rows
def none {H : Type} : Left H := { results := [], args := [] }

/-- 'palinodelaw15.SpansRows': WHATEVER THE INPUT: true; the input reads as it did. -/
def spansRowsSpec : ChangeSpec := { name := "spansRows", fn := fun _ => fun
  | [d] => { results := [.lit (.bool true)], args := [d] }
  | _ => none }
def spansRowsRow : OpenClaim := { program := "ytmgjfmgkmlfjeaa", sum := "f00e20705502fbd4e11ff6ef67e7b992994bd75b75df407e77f951d45d726d1e", func := "palinode/palinodelaw15.SpansRows", spec := "spansRows", apart := false }
def SpansRowsSaid : Prop := spansRowsRow.holds Try.pinned (OpenSpec.ofChange spansRowsSpec)

/-- ITS FALSE NEIGHBOUR: 'it returns false'. Refute it at one input. -/
def spansRowsWrong : ChangeSpec := { name := "spansRows", fn := fun _ => fun
  | [d] => { results := [.lit (.bool false)], args := [d] }
  | _ => none }
def SpansRowsWrongFalsely : Prop := spansRowsRow.holds Try.pinned (OpenSpec.ofChange spansRowsWrong)

/-- 'palinodelaw15.SpansAgain': WHATEVER THE INPUT: true; the input reads as it did. -/
def spansAgainSpec : ChangeSpec := { name := "spansAgain", fn := fun _ => fun
  | [d1, d2, d3, d4] => { results := [.lit (.bool true)], args := [d1, d2, d3, d4] }
  | _ => none }
def spansAgainRow : OpenClaim := { program := "ytmgjfmgkmlfjeaa", sum := "f00e20705502fbd4e11ff6ef67e7b992994bd75b75df407e77f951d45d726d1e", func := "palinode/palinodelaw15.SpansAgain", spec := "spansAgain", apart := false }
def SpansAgainSaid : Prop := spansAgainRow.holds Try.pinned (OpenSpec.ofChange spansAgainSpec)

/-- ITS FALSE NEIGHBOUR: 'it returns false'. Refute it at one input. -/
def spansAgainWrong : ChangeSpec := { name := "spansAgain", fn := fun _ => fun
  | [d1, d2, d3, d4] => { results := [.lit (.bool false)], args := [d1, d2, d3, d4] }
  | _ => none }
def SpansAgainWrongFalsely : Prop := spansAgainRow.holds Try.pinned (OpenSpec.ofChange spansAgainWrong)

/-- 'palinodelaw15.SpansIn': WHATEVER THE INPUT: true; the input reads as it did. -/
def spansInSpec : ChangeSpec := { name := "spansIn", fn := fun _ => fun
  | [d1, d2, d3] => { results := [.lit (.bool true)], args := [d1, d2, d3] }
  | _ => none }
def spansInRow : OpenClaim := { program := "ytmgjfmgkmlfjeaa", sum := "f00e20705502fbd4e11ff6ef67e7b992994bd75b75df407e77f951d45d726d1e", func := "palinode/palinodelaw15.SpansIn", spec := "spansIn", apart := false }
def SpansInSaid : Prop := spansInRow.holds Try.pinned (OpenSpec.ofChange spansInSpec)

/-- ITS FALSE NEIGHBOUR: 'it returns false'. Refute it at one input. -/
def spansInWrong : ChangeSpec := { name := "spansIn", fn := fun _ => fun
  | [d1, d2, d3] => { results := [.lit (.bool false)], args := [d1, d2, d3] }
  | _ => none }
def SpansInWrongFalsely : Prop := spansInRow.holds Try.pinned (OpenSpec.ofChange spansInWrong)

/-- 'palinodelaw15.SpansMany': WHATEVER THE INPUT: true; the input reads as it did. -/
def spansManySpec : ChangeSpec := { name := "spansMany", fn := fun _ => fun
  | [d] => { results := [.lit (.bool true)], args := [d] }
  | _ => none }
def spansManyRow : OpenClaim := { program := "ytmgjfmgkmlfjeaa", sum := "f00e20705502fbd4e11ff6ef67e7b992994bd75b75df407e77f951d45d726d1e", func := "palinode/palinodelaw15.SpansMany", spec := "spansMany", apart := false }
def SpansManySaid : Prop := spansManyRow.holds Try.pinned (OpenSpec.ofChange spansManySpec)

/-- ITS FALSE NEIGHBOUR: 'it returns false'. Refute it at one input. -/
def spansManyWrong : ChangeSpec := { name := "spansMany", fn := fun _ => fun
  | [d] => { results := [.lit (.bool false)], args := [d] }
  | _ => none }
def SpansManyWrongFalsely : Prop := spansManyRow.holds Try.pinned (OpenSpec.ofChange spansManyWrong)

/- THE SECOND FORM. 'bulk': how many values and letters a reading holds, each counted each time it is reached (what is shared counts as often as it is met; a slice's spare places count too). A statement '..UptoSaid' is the law's where the arguments, and the package variables that the reading takes, are together of bulk at most 1048576: NARROWER than '..Said'. Prove '..Said' where nothing that the law and all that it calls make is longer than what came in: it says more and counts as full. Else prove '..UptoSaid'. A law counts once. -/
mutual
def uptoBulk {H : Type} : DataW H → Nat
  | .lit (.string bytes) => bytes.length + 1
  | .lit _ => 1
  | .nil => 1
  | .ptr d => uptoBulk d + 1
  | .slice elems spare => uptoBulkAll elems + uptoBulkAll spare + 1
  | .agg parts => uptoBulkAll parts + 1
  | .iface _ d => uptoBulk d + 1
  | .map entries => uptoBulkEntries entries + 1
  | .held _ => 1
def uptoBulkAll {H : Type} : List (DataW H) → Nat
  | [] => 0
  | d :: r => uptoBulk d + uptoBulkAll r
def uptoBulkEntries {H : Type} : List (Lit × DataW H) → Nat
  | [] => 0
  | x :: r => uptoBulkEntry x + uptoBulkEntries r
def uptoBulkEntry {H : Type} : Lit × DataW H → Nat
  | (.string bytes, d) => bytes.length + uptoBulk d + 1
  | (_, d) => uptoBulk d + 1
 end
def uptoSmall : (H : Type) → List (DataW H) → Bool := fun _ ds => decide (uptoBulkAll ds ≤ 1048576)
def OpenSpec.upto (s : _root_.Go.ChangeSpec) : _root_.Go.OpenSpec := { _root_.Go.OpenSpec.ofChange s with cond := some uptoSmall }

/-- 'palinodelaw15.SpansRows', WHERE WHAT IT READS IS OF BULK AT MOST 1048576: true; the input reads as it did. -/
def spansRowsUptoRow : OpenClaim := { program := "ytmgjfmgkmlfjeaa", sum := "f00e20705502fbd4e11ff6ef67e7b992994bd75b75df407e77f951d45d726d1e", func := "palinode/palinodelaw15.SpansRows", spec := "spansRows", apart := false, narrowed := true }
def SpansRowsUptoSaid : Prop := spansRowsUptoRow.holds Try.pinned (OpenSpec.upto spansRowsSpec)

/-- 'palinodelaw15.SpansAgain', WHERE WHAT IT READS IS OF BULK AT MOST 1048576: true; the input reads as it did. -/
def spansAgainUptoRow : OpenClaim := { program := "ytmgjfmgkmlfjeaa", sum := "f00e20705502fbd4e11ff6ef67e7b992994bd75b75df407e77f951d45d726d1e", func := "palinode/palinodelaw15.SpansAgain", spec := "spansAgain", apart := false, narrowed := true }
def SpansAgainUptoSaid : Prop := spansAgainUptoRow.holds Try.pinned (OpenSpec.upto spansAgainSpec)

/-- 'palinodelaw15.SpansIn', WHERE WHAT IT READS IS OF BULK AT MOST 1048576: true; the input reads as it did. -/
def spansInUptoRow : OpenClaim := { program := "ytmgjfmgkmlfjeaa", sum := "f00e20705502fbd4e11ff6ef67e7b992994bd75b75df407e77f951d45d726d1e", func := "palinode/palinodelaw15.SpansIn", spec := "spansIn", apart := false, narrowed := true }
def SpansInUptoSaid : Prop := spansInUptoRow.holds Try.pinned (OpenSpec.upto spansInSpec)

/-- 'palinodelaw15.SpansMany', WHERE WHAT IT READS IS OF BULK AT MOST 1048576: true; the input reads as it did. -/
def spansManyUptoRow : OpenClaim := { program := "ytmgjfmgkmlfjeaa", sum := "f00e20705502fbd4e11ff6ef67e7b992994bd75b75df407e77f951d45d726d1e", func := "palinode/palinodelaw15.SpansMany", spec := "spansMany", apart := false, narrowed := true }
def SpansManyUptoSaid : Prop := spansManyUptoRow.holds Try.pinned (OpenSpec.upto spansManySpec)

end Rows
end Go.Proofs.Ytmgjfmgkmlfjeaa
