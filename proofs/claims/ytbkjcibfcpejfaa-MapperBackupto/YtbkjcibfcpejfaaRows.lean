/-
  No cell of these rows narrows 'for every input' (looked for: loops, veiled, ifaces, maps, wideKeys, modest, calm, conditions, laid).
  DERIVED. THE GIVEN ROWS OF THIS SEAT. 4 by the template 'for every input the law returns true; each argument reads behind the call as it read before'; 0 by the template 'total and deterministic' (their statements: YtbkjcibfcpejfaaTotals.lean).
  GIVEN WITH THE SEED: the statements are not yours to turn. If you find one false, say at which input.
  Laid BY PROGRAM, IN A SANDBOX (cutbox-rows.mjs): the forced cells as the released guide's own fill.sh prints them over the translation 699b2336b8584027… (all of the seat's roots in one cut). By AI agents, Wed Nov 11 2026. No macro, syntax, notation, axiom, sorry.
-/
import Derived.Test.YtbkjcibfcpejfaaChecked
import GoSem.Claim
import GoSem.ClaimJoined
import GoSem.ClaimMapViews
import Derived.JoinedTies
import Derived.KernelRfl
namespace Go.Proofs.Ytbkjcibfcpejfaa
/- THE CELL 'sum', in the pinned program and in every row, IS THE sha256 OF THE DUMP (.gsa) THAT YtbkjcibfcpejfaaProg.lean LOADS. Nothing in Lean hashes anything: it is a label: what it is worth is what the hold of that sum in a sandbox is worth. -/
noncomputable def Try.pinned : Pinned := { name := "ytbkjcibfcpejfaa", sum := "699b2336b85840279fec852d7585a8059ca5d1f31db9f8251dc5358f662dbf24", checked := Try.checked }
namespace Rows
def none {H : Type} : Left H := { results := [], args := [] }

/-- 'palinodelaw9.MapperTells': WHATEVER THE INPUT: true; the input reads as it did. -/
def mapperTellsSpec : ChangeSpec := { name := "mapperTells", fn := fun _ => fun
  | [d1, d2] => { results := [.lit (.bool true)], args := [d1, d2] }
  | _ => none }
def mapperTellsRow : OpenClaim := { program := "ytbkjcibfcpejfaa", sum := "699b2336b85840279fec852d7585a8059ca5d1f31db9f8251dc5358f662dbf24", func := "palinode/palinodelaw9.MapperTells", spec := "mapperTells", apart := false }
def MapperTellsSaid : Prop := mapperTellsRow.holds Try.pinned (OpenSpec.ofChange mapperTellsSpec)

/-- ITS FALSE NEIGHBOUR: 'it returns false'. Refute it at one input. -/
def mapperTellsWrong : ChangeSpec := { name := "mapperTells", fn := fun _ => fun
  | [d1, d2] => { results := [.lit (.bool false)], args := [d1, d2] }
  | _ => none }
def MapperTellsWrongFalsely : Prop := mapperTellsRow.holds Try.pinned (OpenSpec.ofChange mapperTellsWrong)

/-- 'palinodelaw9.MapperBack': WHATEVER THE INPUT: true; the input reads as it did. -/
def mapperBackSpec : ChangeSpec := { name := "mapperBack", fn := fun _ => fun
  | [d] => { results := [.lit (.bool true)], args := [d] }
  | _ => none }
def mapperBackRow : OpenClaim := { program := "ytbkjcibfcpejfaa", sum := "699b2336b85840279fec852d7585a8059ca5d1f31db9f8251dc5358f662dbf24", func := "palinode/palinodelaw9.MapperBack", spec := "mapperBack", apart := false }
def MapperBackSaid : Prop := mapperBackRow.holds Try.pinned (OpenSpec.ofChange mapperBackSpec)

/-- ITS FALSE NEIGHBOUR: 'it returns false'. Refute it at one input. -/
def mapperBackWrong : ChangeSpec := { name := "mapperBack", fn := fun _ => fun
  | [d] => { results := [.lit (.bool false)], args := [d] }
  | _ => none }
def MapperBackWrongFalsely : Prop := mapperBackRow.holds Try.pinned (OpenSpec.ofChange mapperBackWrong)

/-- 'palinodelaw9.MapperPlain': WHATEVER THE INPUT: true; the input reads as it did. -/
def mapperPlainSpec : ChangeSpec := { name := "mapperPlain", fn := fun _ => fun
  | [d1, d2] => { results := [.lit (.bool true)], args := [d1, d2] }
  | _ => none }
def mapperPlainRow : OpenClaim := { program := "ytbkjcibfcpejfaa", sum := "699b2336b85840279fec852d7585a8059ca5d1f31db9f8251dc5358f662dbf24", func := "palinode/palinodelaw9.MapperPlain", spec := "mapperPlain", apart := false }
def MapperPlainSaid : Prop := mapperPlainRow.holds Try.pinned (OpenSpec.ofChange mapperPlainSpec)

/-- ITS FALSE NEIGHBOUR: 'it returns false'. Refute it at one input. -/
def mapperPlainWrong : ChangeSpec := { name := "mapperPlain", fn := fun _ => fun
  | [d1, d2] => { results := [.lit (.bool false)], args := [d1, d2] }
  | _ => none }
def MapperPlainWrongFalsely : Prop := mapperPlainRow.holds Try.pinned (OpenSpec.ofChange mapperPlainWrong)

/-- 'palinodelaw9.MapperOrder': WHATEVER THE INPUT: true; the input reads as it did. -/
def mapperOrderSpec : ChangeSpec := { name := "mapperOrder", fn := fun _ => fun
  | [d] => { results := [.lit (.bool true)], args := [d] }
  | _ => none }
def mapperOrderRow : OpenClaim := { program := "ytbkjcibfcpejfaa", sum := "699b2336b85840279fec852d7585a8059ca5d1f31db9f8251dc5358f662dbf24", func := "palinode/palinodelaw9.MapperOrder", spec := "mapperOrder", apart := false }
def MapperOrderSaid : Prop := mapperOrderRow.holds Try.pinned (OpenSpec.ofChange mapperOrderSpec)

/-- ITS FALSE NEIGHBOUR: 'it returns false'. Refute it at one input. -/
def mapperOrderWrong : ChangeSpec := { name := "mapperOrder", fn := fun _ => fun
  | [d] => { results := [.lit (.bool false)], args := [d] }
  | _ => none }
def MapperOrderWrongFalsely : Prop := mapperOrderRow.holds Try.pinned (OpenSpec.ofChange mapperOrderWrong)

/- THE SECOND FORM. 'bulk': how many values and letters a reading holds, each counted each time it is reached (what is shared counts as often as it is met; a slice's spare places count too). A statement '..UptoSaid' is the law's where the arguments, and the package variables that the reading takes, are together of bulk at most 1048576: NARROWER than '..Said'. Prove '..Said' where nothing that the law and all that it calls make is longer than what came in: it says more and counts as full. Else prove '..UptoSaid'. A law counts once. -/
mutual
def uptoBulk {H : Type} : DataW H → Nat
  | .lit (.string bytes) => bytes.length + 1
  | .lit _ => 1
  | .nil => 1
  | .ptr d => uptoBulk d + 1
  | .slice elems spare => uptoBulkAll elems + uptoBulkAll spare + 1
  | .agg parts => uptoBulkAll parts + 1
  | .iface _ d => uptoBulk d + 1
  | .map entries => uptoBulkEntries entries + 1
  | .held _ => 1
def uptoBulkAll {H : Type} : List (DataW H) → Nat
  | [] => 0
  | d :: r => uptoBulk d + uptoBulkAll r
def uptoBulkEntries {H : Type} : List (Lit × DataW H) → Nat
  | [] => 0
  | x :: r => uptoBulkEntry x + uptoBulkEntries r
def uptoBulkEntry {H : Type} : Lit × DataW H → Nat
  | (.string bytes, d) => bytes.length + uptoBulk d + 1
  | (_, d) => uptoBulk d + 1
 end
def uptoSmall : (H : Type) → List (DataW H) → Bool := fun _ ds => decide (uptoBulkAll ds ≤ 1048576)
def OpenSpec.upto (s : _root_.Go.ChangeSpec) : _root_.Go.OpenSpec := { _root_.Go.OpenSpec.ofChange s with cond := some uptoSmall }

/-- 'palinodelaw9.MapperTells', WHERE WHAT IT READS IS OF BULK AT MOST 1048576: true; the input reads as it did. -/
def mapperTellsUptoRow : OpenClaim := { program := "ytbkjcibfcpejfaa", sum := "699b2336b85840279fec852d7585a8059ca5d1f31db9f8251dc5358f662dbf24", func := "palinode/palinodelaw9.MapperTells", spec := "mapperTells", apart := false, narrowed := true }
def MapperTellsUptoSaid : Prop := mapperTellsUptoRow.holds Try.pinned (OpenSpec.upto mapperTellsSpec)

/-- 'palinodelaw9.MapperBack', WHERE WHAT IT READS IS OF BULK AT MOST 1048576: true; the input reads as it did. -/
def mapperBackUptoRow : OpenClaim := { program := "ytbkjcibfcpejfaa", sum := "699b2336b85840279fec852d7585a8059ca5d1f31db9f8251dc5358f662dbf24", func := "palinode/palinodelaw9.MapperBack", spec := "mapperBack", apart := false, narrowed := true }
def MapperBackUptoSaid : Prop := mapperBackUptoRow.holds Try.pinned (OpenSpec.upto mapperBackSpec)

/-- 'palinodelaw9.MapperPlain', WHERE WHAT IT READS IS OF BULK AT MOST 1048576: true; the input reads as it did. -/
def mapperPlainUptoRow : OpenClaim := { program := "ytbkjcibfcpejfaa", sum := "699b2336b85840279fec852d7585a8059ca5d1f31db9f8251dc5358f662dbf24", func := "palinode/palinodelaw9.MapperPlain", spec := "mapperPlain", apart := false, narrowed := true }
def MapperPlainUptoSaid : Prop := mapperPlainUptoRow.holds Try.pinned (OpenSpec.upto mapperPlainSpec)

/-- 'palinodelaw9.MapperOrder', WHERE WHAT IT READS IS OF BULK AT MOST 1048576: true; the input reads as it did. -/
def mapperOrderUptoRow : OpenClaim := { program := "ytbkjcibfcpejfaa", sum := "699b2336b85840279fec852d7585a8059ca5d1f31db9f8251dc5358f662dbf24", func := "palinode/palinodelaw9.MapperOrder", spec := "mapperOrder", apart := false, narrowed := true }
def MapperOrderUptoSaid : Prop := mapperOrderUptoRow.holds Try.pinned (OpenSpec.upto mapperOrderSpec)

end Rows
end Go.Proofs.Ytbkjcibfcpejfaa
