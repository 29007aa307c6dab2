/-
  DERIVED. GIVEN WITH THE SEED: THE CARDS: each row of YtfgefdkkjfjjjabDoorRows.lean that lists a variable, with what it lists TIED to the program's text (the seventh form; the later family's looks); each row that meets fmt, with fmt's text TOLD by the authors' own Lean function (tested against real Go, not proved from fmt's source: count such statements apart). THE CARD IS WHAT COUNTS. Prove the row's statement (the work); the ties are given (YtfgefdkkjfjjjabDoorTie.lean); close each card by the builder's one call (the guide's Derived/Test/ToyasCard.lean, 'card_holds'). Laid BY PROGRAM, IN A SANDBOX (cutbox-door.mjs). By AI agents, Wed Nov 11 2026. No macro, syntax, notation, axiom, sorry.
-/
import Derived.Test.YtfgefdkkjfjjjabDoorRows
import GoSem.ClaimSeven
namespace Go.Proofs.YtfgefdkkjfjjjabDoor
namespace Rows

/-- THE TIED CARD OF 'palinodelaw4.RopeEmpty'. -/
def ropeEmptyCard : Claim7 := { stood := { row := ropeEmptyRow, standIns := [], harness := (true, "43f0d074981d414f8b9c85f88cfa445c6734b0e83b59ef267ee21fb5a7ff9e03"), looks := false }, kinds := [], alts := [], laidByText := true, laidKinds := [.data], laidTests := true, laidLooks := .later }
def RopeEmptyCardSaid : Prop := Claim7.holds Tryd.pinned (.plain (OpenSpec.ofChange ropeEmptySpec)) ropeEmptyCard

/-- THE TIED CARD OF 'palinodelaw5.MetricBack'. -/
def metricBackCard : Claim7 := { stood := { row := metricBackRow, standIns := [], harness := (true, "43f0d074981d414f8b9c85f88cfa445c6734b0e83b59ef267ee21fb5a7ff9e03"), looks := false }, kinds := [], alts := [], laidByText := true, laidKinds := [.data, .data, .pinned], laidTests := true, laidLooks := .later }
def MetricBackCardSaid : Prop := Claim7.holds Tryd.pinned (.plain (OpenSpec.ofChange metricBackSpec)) metricBackCard

/-- THE TIED CARD OF 'palinodelaw5.MetricParts'. -/
def metricPartsCard : Claim7 := { stood := { row := metricPartsRow, standIns := [], harness := (true, "43f0d074981d414f8b9c85f88cfa445c6734b0e83b59ef267ee21fb5a7ff9e03"), looks := false }, kinds := [], alts := [], laidByText := true, laidKinds := [.data, .data, .pinned], laidTests := true, laidLooks := .later }
def MetricPartsCardSaid : Prop := Claim7.holds Tryd.pinned (.plain (OpenSpec.ofChange metricPartsSpec)) metricPartsCard

/-- THE TIED CARD OF 'palinodelaw5.MetricNone'. -/
def metricNoneCard : Claim7 := { stood := { row := metricNoneRow, standIns := [], harness := (true, "43f0d074981d414f8b9c85f88cfa445c6734b0e83b59ef267ee21fb5a7ff9e03"), looks := false }, kinds := [], alts := [], laidByText := true, laidKinds := [.data, .data, .pinned], laidTests := true, laidLooks := .later }
def MetricNoneCardSaid : Prop := Claim7.holds Tryd.pinned (.plain (OpenSpec.ofChange metricNoneSpec)) metricNoneCard

/-- THE SECOND FORM's CARD OF 'palinodelaw4.RopeEmpty'. -/
def ropeEmptyUptoCard : Claim7 := { stood := { row := ropeEmptyUptoRow, standIns := [], harness := (true, "43f0d074981d414f8b9c85f88cfa445c6734b0e83b59ef267ee21fb5a7ff9e03"), looks := false }, kinds := [], alts := [], laidByText := true, laidKinds := [.data], laidTests := true, laidLooks := .later }
def RopeEmptyUptoCardSaid : Prop := Claim7.holds Tryd.pinned (.plain (OpenSpec.upto ropeEmptySpec)) ropeEmptyUptoCard

/-- THE SECOND FORM's CARD OF 'palinodelaw5.MetricBack'. -/
def metricBackUptoCard : Claim7 := { stood := { row := metricBackUptoRow, standIns := [], harness := (true, "43f0d074981d414f8b9c85f88cfa445c6734b0e83b59ef267ee21fb5a7ff9e03"), looks := false }, kinds := [], alts := [], laidByText := true, laidKinds := [.data, .data, .pinned], laidTests := true, laidLooks := .later }
def MetricBackUptoCardSaid : Prop := Claim7.holds Tryd.pinned (.plain (OpenSpec.upto metricBackSpec)) metricBackUptoCard

/-- THE SECOND FORM's CARD OF 'palinodelaw5.MetricParts'. -/
def metricPartsUptoCard : Claim7 := { stood := { row := metricPartsUptoRow, standIns := [], harness := (true, "43f0d074981d414f8b9c85f88cfa445c6734b0e83b59ef267ee21fb5a7ff9e03"), looks := false }, kinds := [], alts := [], laidByText := true, laidKinds := [.data, .data, .pinned], laidTests := true, laidLooks := .later }
def MetricPartsUptoCardSaid : Prop := Claim7.holds Tryd.pinned (.plain (OpenSpec.upto metricPartsSpec)) metricPartsUptoCard

/-- THE SECOND FORM's CARD OF 'palinodelaw5.MetricNone'. -/
def metricNoneUptoCard : Claim7 := { stood := { row := metricNoneUptoRow, standIns := [], harness := (true, "43f0d074981d414f8b9c85f88cfa445c6734b0e83b59ef267ee21fb5a7ff9e03"), looks := false }, kinds := [], alts := [], laidByText := true, laidKinds := [.data, .data, .pinned], laidTests := true, laidLooks := .later }
def MetricNoneUptoCardSaid : Prop := Claim7.holds Tryd.pinned (.plain (OpenSpec.upto metricNoneSpec)) metricNoneUptoCard
end Rows
end Go.Proofs.YtfgefdkkjfjjjabDoor
