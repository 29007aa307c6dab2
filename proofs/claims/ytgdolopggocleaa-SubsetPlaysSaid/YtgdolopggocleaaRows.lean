/-
  No cell of these rows narrows 'for every input' (looked for: loops, veiled, ifaces, maps, wideKeys, modest, calm, conditions, laid).
  DERIVED. THE GIVEN ROWS OF THIS SEAT. 5 by the template 'for every input the law returns true; each argument reads behind the call as it read before'; 0 by the template 'total and deterministic' (their statements: YtgdolopggocleaaTotals.lean).
  GIVEN WITH THE SEED: the statements are not yours to turn. If you find one false, say at which input.
  Laid BY PROGRAM, IN A SANDBOX (cutbox-rows.mjs): the forced cells as the released guide's own fill.sh prints them over the translation f092efef86f27d59… (all of the seat's roots in one cut). By AI agents, Wed Nov 11 2026. No macro, syntax, notation, axiom, sorry.
-/
import Derived.Test.YtgdolopggocleaaChecked
import GoSem.Claim
import GoSem.ClaimJoined
import GoSem.ClaimMapViews
import Derived.JoinedTies
import Derived.KernelRfl
namespace Go.Proofs.Ytgdolopggocleaa
/- THE CELL 'sum', in the pinned program and in every row, IS THE sha256 OF THE DUMP (.gsa) THAT YtgdolopggocleaaProg.lean LOADS. Nothing in Lean hashes anything: it is a label: what it is worth is what the hold of that sum in a sandbox is worth. -/
noncomputable def Try.pinned : Pinned := { name := "ytgdolopggocleaa", sum := "f092efef86f27d59a419e0ebe610eda067b9fbbb0e9e60a96f2df0c37f324447", checked := Try.checked }
namespace Rows
def none {H : Type} : Left H := { results := [], args := [] }

/-- 'palinodelaw7.SubsetPlays': WHATEVER THE INPUT: true; the input reads as it did. -/
def subsetPlaysSpec : ChangeSpec := { name := "subsetPlays", fn := fun _ => fun
  | [d1, d2] => { results := [.lit (.bool true)], args := [d1, d2] }
  | _ => none }
def subsetPlaysRow : OpenClaim := { program := "ytgdolopggocleaa", sum := "f092efef86f27d59a419e0ebe610eda067b9fbbb0e9e60a96f2df0c37f324447", func := "palinode/palinodelaw7.SubsetPlays", spec := "subsetPlays", apart := false }
def SubsetPlaysSaid : Prop := subsetPlaysRow.holds Try.pinned (OpenSpec.ofChange subsetPlaysSpec)

/-- ITS FALSE NEIGHBOUR: 'it returns false'. Refute it at one input. -/
def subsetPlaysWrong : ChangeSpec := { name := "subsetPlays", fn := fun _ => fun
  | [d1, d2] => { results := [.lit (.bool false)], args := [d1, d2] }
  | _ => none }
def SubsetPlaysWrongFalsely : Prop := subsetPlaysRow.holds Try.pinned (OpenSpec.ofChange subsetPlaysWrong)

/-- 'palinodelaw7.SubsetRuns': WHATEVER THE INPUT: true; the input reads as it did. -/
def subsetRunsSpec : ChangeSpec := { name := "subsetRuns", fn := fun _ => fun
  | [d1, d2, d3] => { results := [.lit (.bool true)], args := [d1, d2, d3] }
  | _ => none }
def subsetRunsRow : OpenClaim := { program := "ytgdolopggocleaa", sum := "f092efef86f27d59a419e0ebe610eda067b9fbbb0e9e60a96f2df0c37f324447", func := "palinode/palinodelaw7.SubsetRuns", spec := "subsetRuns", apart := false }
def SubsetRunsSaid : Prop := subsetRunsRow.holds Try.pinned (OpenSpec.ofChange subsetRunsSpec)

/-- ITS FALSE NEIGHBOUR: 'it returns false'. Refute it at one input. -/
def subsetRunsWrong : ChangeSpec := { name := "subsetRuns", fn := fun _ => fun
  | [d1, d2, d3] => { results := [.lit (.bool false)], args := [d1, d2, d3] }
  | _ => none }
def SubsetRunsWrongFalsely : Prop := subsetRunsRow.holds Try.pinned (OpenSpec.ofChange subsetRunsWrong)

/-- 'palinodelaw7.SubsetWith': WHATEVER THE INPUT: true; the input reads as it did. -/
def subsetWithSpec : ChangeSpec := { name := "subsetWith", fn := fun _ => fun
  | [d1, d2, d3, d4, d5] => { results := [.lit (.bool true)], args := [d1, d2, d3, d4, d5] }
  | _ => none }
def subsetWithRow : OpenClaim := { program := "ytgdolopggocleaa", sum := "f092efef86f27d59a419e0ebe610eda067b9fbbb0e9e60a96f2df0c37f324447", func := "palinode/palinodelaw7.SubsetWith", spec := "subsetWith", apart := false }
def SubsetWithSaid : Prop := subsetWithRow.holds Try.pinned (OpenSpec.ofChange subsetWithSpec)

/-- ITS FALSE NEIGHBOUR: 'it returns false'. Refute it at one input. -/
def subsetWithWrong : ChangeSpec := { name := "subsetWith", fn := fun _ => fun
  | [d1, d2, d3, d4, d5] => { results := [.lit (.bool false)], args := [d1, d2, d3, d4, d5] }
  | _ => none }
def SubsetWithWrongFalsely : Prop := subsetWithRow.holds Try.pinned (OpenSpec.ofChange subsetWithWrong)

/-- 'palinodelaw7.SubsetOrder': WHATEVER THE INPUT: true; the input reads as it did. -/
def subsetOrderSpec : ChangeSpec := { name := "subsetOrder", fn := fun _ => fun
  | [d1, d2, d3, d4, d5, d6] => { results := [.lit (.bool true)], args := [d1, d2, d3, d4, d5, d6] }
  | _ => none }
def subsetOrderRow : OpenClaim := { program := "ytgdolopggocleaa", sum := "f092efef86f27d59a419e0ebe610eda067b9fbbb0e9e60a96f2df0c37f324447", func := "palinode/palinodelaw7.SubsetOrder", spec := "subsetOrder", apart := false }
def SubsetOrderSaid : Prop := subsetOrderRow.holds Try.pinned (OpenSpec.ofChange subsetOrderSpec)

/-- ITS FALSE NEIGHBOUR: 'it returns false'. Refute it at one input. -/
def subsetOrderWrong : ChangeSpec := { name := "subsetOrder", fn := fun _ => fun
  | [d1, d2, d3, d4, d5, d6] => { results := [.lit (.bool false)], args := [d1, d2, d3, d4, d5, d6] }
  | _ => none }
def SubsetOrderWrongFalsely : Prop := subsetOrderRow.holds Try.pinned (OpenSpec.ofChange subsetOrderWrong)

/-- 'palinodelaw7.SubsetWrong': WHATEVER THE INPUT: true; the input reads as it did. -/
def subsetWrongSpec : ChangeSpec := { name := "subsetWrong", fn := fun _ => fun
  | [d1, d2, d3, d4] => { results := [.lit (.bool true)], args := [d1, d2, d3, d4] }
  | _ => none }
def subsetWrongRow : OpenClaim := { program := "ytgdolopggocleaa", sum := "f092efef86f27d59a419e0ebe610eda067b9fbbb0e9e60a96f2df0c37f324447", func := "palinode/palinodelaw7.SubsetWrong", spec := "subsetWrong", apart := false }
def SubsetWrongSaid : Prop := subsetWrongRow.holds Try.pinned (OpenSpec.ofChange subsetWrongSpec)

/-- ITS FALSE NEIGHBOUR: 'it returns false'. Refute it at one input. -/
def subsetWrongWrong : ChangeSpec := { name := "subsetWrong", fn := fun _ => fun
  | [d1, d2, d3, d4] => { results := [.lit (.bool false)], args := [d1, d2, d3, d4] }
  | _ => none }
def SubsetWrongWrongFalsely : Prop := subsetWrongRow.holds Try.pinned (OpenSpec.ofChange subsetWrongWrong)

/- THE SECOND FORM. 'bulk': how many values and letters a reading holds, each counted each time it is reached (what is shared counts as often as it is met; a slice's spare places count too). A statement '..UptoSaid' is the law's where the arguments, and the package variables that the reading takes, are together of bulk at most 1048576: NARROWER than '..Said'. Prove '..Said' where nothing that the law and all that it calls make is longer than what came in: it says more and counts as full. Else prove '..UptoSaid'. A law counts once. -/
mutual
def uptoBulk {H : Type} : DataW H → Nat
  | .lit (.string bytes) => bytes.length + 1
  | .lit _ => 1
  | .nil => 1
  | .ptr d => uptoBulk d + 1
  | .slice elems spare => uptoBulkAll elems + uptoBulkAll spare + 1
  | .agg parts => uptoBulkAll parts + 1
  | .iface _ d => uptoBulk d + 1
  | .map entries => uptoBulkEntries entries + 1
  | .held _ => 1
def uptoBulkAll {H : Type} : List (DataW H) → Nat
  | [] => 0
  | d :: r => uptoBulk d + uptoBulkAll r
def uptoBulkEntries {H : Type} : List (Lit × DataW H) → Nat
  | [] => 0
  | x :: r => uptoBulkEntry x + uptoBulkEntries r
def uptoBulkEntry {H : Type} : Lit × DataW H → Nat
  | (.string bytes, d) => bytes.length + uptoBulk d + 1
  | (_, d) => uptoBulk d + 1
 end
def uptoSmall : (H : Type) → List (DataW H) → Bool := fun _ ds => decide (uptoBulkAll ds ≤ 1048576)
def OpenSpec.upto (s : _root_.Go.ChangeSpec) : _root_.Go.OpenSpec := { _root_.Go.OpenSpec.ofChange s with cond := some uptoSmall }

/-- 'palinodelaw7.SubsetPlays', WHERE WHAT IT READS IS OF BULK AT MOST 1048576: true; the input reads as it did. -/
def subsetPlaysUptoRow : OpenClaim := { program := "ytgdolopggocleaa", sum := "f092efef86f27d59a419e0ebe610eda067b9fbbb0e9e60a96f2df0c37f324447", func := "palinode/palinodelaw7.SubsetPlays", spec := "subsetPlays", apart := false, narrowed := true }
def SubsetPlaysUptoSaid : Prop := subsetPlaysUptoRow.holds Try.pinned (OpenSpec.upto subsetPlaysSpec)

/-- 'palinodelaw7.SubsetRuns', WHERE WHAT IT READS IS OF BULK AT MOST 1048576: true; the input reads as it did. -/
def subsetRunsUptoRow : OpenClaim := { program := "ytgdolopggocleaa", sum := "f092efef86f27d59a419e0ebe610eda067b9fbbb0e9e60a96f2df0c37f324447", func := "palinode/palinodelaw7.SubsetRuns", spec := "subsetRuns", apart := false, narrowed := true }
def SubsetRunsUptoSaid : Prop := subsetRunsUptoRow.holds Try.pinned (OpenSpec.upto subsetRunsSpec)

/-- 'palinodelaw7.SubsetWith', WHERE WHAT IT READS IS OF BULK AT MOST 1048576: true; the input reads as it did. -/
def subsetWithUptoRow : OpenClaim := { program := "ytgdolopggocleaa", sum := "f092efef86f27d59a419e0ebe610eda067b9fbbb0e9e60a96f2df0c37f324447", func := "palinode/palinodelaw7.SubsetWith", spec := "subsetWith", apart := false, narrowed := true }
def SubsetWithUptoSaid : Prop := subsetWithUptoRow.holds Try.pinned (OpenSpec.upto subsetWithSpec)

/-- 'palinodelaw7.SubsetOrder', WHERE WHAT IT READS IS OF BULK AT MOST 1048576: true; the input reads as it did. -/
def subsetOrderUptoRow : OpenClaim := { program := "ytgdolopggocleaa", sum := "f092efef86f27d59a419e0ebe610eda067b9fbbb0e9e60a96f2df0c37f324447", func := "palinode/palinodelaw7.SubsetOrder", spec := "subsetOrder", apart := false, narrowed := true }
def SubsetOrderUptoSaid : Prop := subsetOrderUptoRow.holds Try.pinned (OpenSpec.upto subsetOrderSpec)

/-- 'palinodelaw7.SubsetWrong', WHERE WHAT IT READS IS OF BULK AT MOST 1048576: true; the input reads as it did. -/
def subsetWrongUptoRow : OpenClaim := { program := "ytgdolopggocleaa", sum := "f092efef86f27d59a419e0ebe610eda067b9fbbb0e9e60a96f2df0c37f324447", func := "palinode/palinodelaw7.SubsetWrong", spec := "subsetWrong", apart := false, narrowed := true }
def SubsetWrongUptoSaid : Prop := subsetWrongUptoRow.holds Try.pinned (OpenSpec.upto subsetWrongSpec)

end Rows
end Go.Proofs.Ytgdolopggocleaa
