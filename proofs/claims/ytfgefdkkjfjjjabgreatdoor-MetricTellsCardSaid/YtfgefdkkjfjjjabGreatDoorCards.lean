/-
  DERIVED. GIVEN WITH THE SEED: THE CARDS: each row of YtfgefdkkjfjjjabGreatDoorRows.lean that lists a variable, with what it lists TIED to the program's text (the seventh form; the later family's looks); each row that meets fmt, with fmt's text TOLD by the authors' own Lean function (tested against real Go, not proved from fmt's source: count such statements apart). THE CARD IS WHAT COUNTS. Prove the row's statement (the work); the ties are given (YtfgefdkkjfjjjabGreatDoorTie.lean); close each card by the builder's one call (the guide's Derived/Test/ToyasCard.lean, 'card_holds'). Laid BY PROGRAM, IN A SANDBOX (cutbox-door.mjs). By AI agents, Wed Nov 11 2026. No macro, syntax, notation, axiom, sorry.
-/
import Derived.Test.YtfgefdkkjfjjjabGreatDoorRows
import GoSem.ClaimSeven
namespace Go.Proofs.YtfgefdkkjfjjjabGreatDoor
namespace Rows

/-- THE TIED CARD OF 'palinodelaw5.MetricTells'. -/
def metricTellsCard : Claim7 := { stood := { row := metricTellsRow, standIns := [], harness := (true, "e760420dfcd80055cf41f22e725fbc4a1091545be7403652bf0599b68e7a90af"), looks := false }, kinds := [], alts := [], laidByText := true, laidKinds := [.data, .data, .pinned], laidTests := true, laidLooks := .later }
def MetricTellsCardSaid : Prop := Claim7.holds Tryz.pinned (.plain (OpenSpec.ofChange metricTellsSpec)) metricTellsCard

/-- THE SECOND FORM's CARD OF 'palinodelaw5.MetricTells'. -/
def metricTellsUptoCard : Claim7 := { stood := { row := metricTellsUptoRow, standIns := [], harness := (true, "e760420dfcd80055cf41f22e725fbc4a1091545be7403652bf0599b68e7a90af"), looks := false }, kinds := [], alts := [], laidByText := true, laidKinds := [.data, .data, .pinned], laidTests := true, laidLooks := .later }
def MetricTellsUptoCardSaid : Prop := Claim7.holds Tryz.pinned (.plain (OpenSpec.upto metricTellsSpec)) metricTellsUptoCard
end Rows
end Go.Proofs.YtfgefdkkjfjjjabGreatDoor
