/-
  DERIVED. GIVEN WITH THE SEED: THE CARDS: each row of YtpfkidcaolfcoaaDoorRows.lean that lists a variable, with what it lists TIED to the program's text (the seventh form; the later family's looks); each row that meets fmt, with fmt's text TOLD by the authors' own Lean function (tested against real Go, not proved from fmt's source: count such statements apart). THE CARD IS WHAT COUNTS. Prove the row's statement (the work); the ties are given (YtpfkidcaolfcoaaDoorTie.lean); close each card by the builder's one call (the guide's Derived/Test/ToyasCard.lean, 'card_holds'). Laid BY PROGRAM, IN A SANDBOX (cutbox-door.mjs). By AI agents, Wed Nov 11 2026. No macro, syntax, notation, axiom, sorry.
-/
import Derived.Test.YtpfkidcaolfcoaaDoorRows
import GoSem.ClaimSeven
namespace Go.Proofs.YtpfkidcaolfcoaaDoor
namespace Rows

/-- THE TIED CARD OF 'palinodelaw11.DeltaTells'. -/
def deltaTellsCard : Claim7 := { stood := { row := deltaTellsRow, standIns := [], harness := (true, "684cf69dbfde6ffbdd5e901eb1b3d210319c55a0356d281f32a9fb74a15a4197"), looks := false }, kinds := [], alts := [], laidByText := true, laidKinds := [.data], laidTests := true, laidLooks := .later }
def DeltaTellsCardSaid : Prop := Claim7.holds Tryd.pinned (.plain (OpenSpec.ofChange deltaTellsSpec)) deltaTellsCard

/-- THE TIED CARD OF 'palinodelaw11.DeltaBuilds'. -/
def deltaBuildsCard : Claim7 := { stood := { row := deltaBuildsRow, standIns := [], harness := (true, "684cf69dbfde6ffbdd5e901eb1b3d210319c55a0356d281f32a9fb74a15a4197"), looks := false }, kinds := [], alts := [], laidByText := true, laidKinds := [.data], laidTests := true, laidLooks := .later }
def DeltaBuildsCardSaid : Prop := Claim7.holds Tryd.pinned (.plain (OpenSpec.ofChange deltaBuildsSpec)) deltaBuildsCard

/-- THE TIED CARD OF 'palinodelaw11.DeltaDoes'. -/
def deltaDoesCard : Claim7 := { stood := { row := deltaDoesRow, standIns := [], harness := (true, "684cf69dbfde6ffbdd5e901eb1b3d210319c55a0356d281f32a9fb74a15a4197"), looks := false }, kinds := [], alts := [], laidByText := true, laidKinds := [.data], laidTests := true, laidLooks := .later }
def DeltaDoesCardSaid : Prop := Claim7.holds Tryd.pinned (.plain (OpenSpec.ofChange deltaDoesSpec)) deltaDoesCard

/-- THE TIED CARD OF 'palinodelaw11.DeltaLong'. -/
def deltaLongCard : Claim7 := { stood := { row := deltaLongRow, standIns := [], harness := (true, "684cf69dbfde6ffbdd5e901eb1b3d210319c55a0356d281f32a9fb74a15a4197"), looks := false }, kinds := [], alts := [], laidByText := true, laidKinds := [.data], laidTests := true, laidLooks := .later }
def DeltaLongCardSaid : Prop := Claim7.holds Tryd.pinned (.plain (OpenSpec.ofChange deltaLongSpec)) deltaLongCard

/-- THE TIED CARD OF 'palinodelaw11.DeltaKeeps'. -/
def deltaKeepsCard : Claim7 := { stood := { row := deltaKeepsRow, standIns := [], harness := (true, "684cf69dbfde6ffbdd5e901eb1b3d210319c55a0356d281f32a9fb74a15a4197"), looks := false }, kinds := [], alts := [], laidByText := true, laidKinds := [.data], laidTests := true, laidLooks := .later }
def DeltaKeepsCardSaid : Prop := Claim7.holds Tryd.pinned (.plain (OpenSpec.ofChange deltaKeepsSpec)) deltaKeepsCard

/-- THE TIED CARD OF 'palinodelaw11.DeltaLeast'. -/
def deltaLeastCard : Claim7 := { stood := { row := deltaLeastRow, standIns := [], harness := (true, "684cf69dbfde6ffbdd5e901eb1b3d210319c55a0356d281f32a9fb74a15a4197"), looks := false }, kinds := [], alts := [], laidByText := true, laidKinds := [.data], laidTests := true, laidLooks := .later }
def DeltaLeastCardSaid : Prop := Claim7.holds Tryd.pinned (.plain (OpenSpec.ofChange deltaLeastSpec)) deltaLeastCard

/-- THE SECOND FORM's CARD OF 'palinodelaw11.DeltaTells'. -/
def deltaTellsUptoCard : Claim7 := { stood := { row := deltaTellsUptoRow, standIns := [], harness := (true, "684cf69dbfde6ffbdd5e901eb1b3d210319c55a0356d281f32a9fb74a15a4197"), looks := false }, kinds := [], alts := [], laidByText := true, laidKinds := [.data], laidTests := true, laidLooks := .later }
def DeltaTellsUptoCardSaid : Prop := Claim7.holds Tryd.pinned (.plain (OpenSpec.upto deltaTellsSpec)) deltaTellsUptoCard

/-- THE SECOND FORM's CARD OF 'palinodelaw11.DeltaBuilds'. -/
def deltaBuildsUptoCard : Claim7 := { stood := { row := deltaBuildsUptoRow, standIns := [], harness := (true, "684cf69dbfde6ffbdd5e901eb1b3d210319c55a0356d281f32a9fb74a15a4197"), looks := false }, kinds := [], alts := [], laidByText := true, laidKinds := [.data], laidTests := true, laidLooks := .later }
def DeltaBuildsUptoCardSaid : Prop := Claim7.holds Tryd.pinned (.plain (OpenSpec.upto deltaBuildsSpec)) deltaBuildsUptoCard

/-- THE SECOND FORM's CARD OF 'palinodelaw11.DeltaDoes'. -/
def deltaDoesUptoCard : Claim7 := { stood := { row := deltaDoesUptoRow, standIns := [], harness := (true, "684cf69dbfde6ffbdd5e901eb1b3d210319c55a0356d281f32a9fb74a15a4197"), looks := false }, kinds := [], alts := [], laidByText := true, laidKinds := [.data], laidTests := true, laidLooks := .later }
def DeltaDoesUptoCardSaid : Prop := Claim7.holds Tryd.pinned (.plain (OpenSpec.upto deltaDoesSpec)) deltaDoesUptoCard

/-- THE SECOND FORM's CARD OF 'palinodelaw11.DeltaLong'. -/
def deltaLongUptoCard : Claim7 := { stood := { row := deltaLongUptoRow, standIns := [], harness := (true, "684cf69dbfde6ffbdd5e901eb1b3d210319c55a0356d281f32a9fb74a15a4197"), looks := false }, kinds := [], alts := [], laidByText := true, laidKinds := [.data], laidTests := true, laidLooks := .later }
def DeltaLongUptoCardSaid : Prop := Claim7.holds Tryd.pinned (.plain (OpenSpec.upto deltaLongSpec)) deltaLongUptoCard

/-- THE SECOND FORM's CARD OF 'palinodelaw11.DeltaKeeps'. -/
def deltaKeepsUptoCard : Claim7 := { stood := { row := deltaKeepsUptoRow, standIns := [], harness := (true, "684cf69dbfde6ffbdd5e901eb1b3d210319c55a0356d281f32a9fb74a15a4197"), looks := false }, kinds := [], alts := [], laidByText := true, laidKinds := [.data], laidTests := true, laidLooks := .later }
def DeltaKeepsUptoCardSaid : Prop := Claim7.holds Tryd.pinned (.plain (OpenSpec.upto deltaKeepsSpec)) deltaKeepsUptoCard

/-- THE SECOND FORM's CARD OF 'palinodelaw11.DeltaLeast'. -/
def deltaLeastUptoCard : Claim7 := { stood := { row := deltaLeastUptoRow, standIns := [], harness := (true, "684cf69dbfde6ffbdd5e901eb1b3d210319c55a0356d281f32a9fb74a15a4197"), looks := false }, kinds := [], alts := [], laidByText := true, laidKinds := [.data], laidTests := true, laidLooks := .later }
def DeltaLeastUptoCardSaid : Prop := Claim7.holds Tryd.pinned (.plain (OpenSpec.upto deltaLeastSpec)) deltaLeastUptoCard
end Rows
end Go.Proofs.YtpfkidcaolfcoaaDoor
