/-
  DERIVED. GIVEN WITH THE SEED: THE CARDS: each row of YtiienebioebjpaaDoorRows.lean that lists a variable, with what it lists TIED to the program's text (the seventh form; the later family's looks); each row that meets fmt, with fmt's text TOLD by the authors' own Lean function (tested against real Go, not proved from fmt's source: count such statements apart). THE CARD IS WHAT COUNTS. Prove the row's statement (the work); the ties are given (YtiienebioebjpaaDoorTie.lean); close each card by the builder's one call (the guide's Derived/Test/ToyasCard.lean, 'card_holds'). Laid BY PROGRAM, IN A SANDBOX (cutbox-door.mjs). By AI agents, Wed Nov 11 2026. No macro, syntax, notation, axiom, sorry.
-/
import Derived.Test.YtiienebioebjpaaDoorRows
import GoSem.ClaimSeven
namespace Go.Proofs.YtiienebioebjpaaDoor
namespace Rows

/-- THE TIED CARD OF 'palinodelaw13.ComposeTells'. -/
def composeTellsCard : Claim7 := { stood := { row := composeTellsRow, standIns := [], harness := (true, "3febe19412acc7a1c71747c9f3651e376816698beffc9361bc8237c0516df5b7"), looks := false }, kinds := [], alts := [], laidByText := true, laidKinds := [.data], laidTests := true, laidLooks := .later }
def ComposeTellsCardSaid : Prop := Claim7.holds Tryd.pinned (.plain (OpenSpec.ofChange composeTellsSpec)) composeTellsCard

/-- THE TIED CARD OF 'palinodelaw13.ComposeInverts'. -/
def composeInvertsCard : Claim7 := { stood := { row := composeInvertsRow, standIns := [], harness := (true, "3febe19412acc7a1c71747c9f3651e376816698beffc9361bc8237c0516df5b7"), looks := false }, kinds := [], alts := [], laidByText := true, laidKinds := [.data], laidTests := true, laidLooks := .later }
def ComposeInvertsCardSaid : Prop := Claim7.holds Tryd.pinned (.plain (OpenSpec.ofChange composeInvertsSpec)) composeInvertsCard

/-- THE TIED CARD OF 'palinodelaw13.ComposeBoth'. -/
def composeBothCard : Claim7 := { stood := { row := composeBothRow, standIns := [], harness := (true, "3febe19412acc7a1c71747c9f3651e376816698beffc9361bc8237c0516df5b7"), looks := false }, kinds := [], alts := [], laidByText := true, laidKinds := [.data], laidTests := true, laidLooks := .later }
def ComposeBothCardSaid : Prop := Claim7.holds Tryd.pinned (.plain (OpenSpec.ofChange composeBothSpec)) composeBothCard

/-- THE TIED CARD OF 'palinodelaw13.ComposeUndoes'. -/
def composeUndoesCard : Claim7 := { stood := { row := composeUndoesRow, standIns := [], harness := (true, "3febe19412acc7a1c71747c9f3651e376816698beffc9361bc8237c0516df5b7"), looks := false }, kinds := [], alts := [], laidByText := true, laidKinds := [.data], laidTests := true, laidLooks := .later }
def ComposeUndoesCardSaid : Prop := Claim7.holds Tryd.pinned (.plain (OpenSpec.ofChange composeUndoesSpec)) composeUndoesCard

/-- THE TIED CARD OF 'palinodelaw13.ComposePlain'. -/
def composePlainCard : Claim7 := { stood := { row := composePlainRow, standIns := [], harness := (true, "3febe19412acc7a1c71747c9f3651e376816698beffc9361bc8237c0516df5b7"), looks := false }, kinds := [], alts := [], laidByText := true, laidKinds := [.data], laidTests := true, laidLooks := .later }
def ComposePlainCardSaid : Prop := Claim7.holds Tryd.pinned (.plain (OpenSpec.ofChange composePlainSpec)) composePlainCard

/-- THE TIED CARD OF 'palinodelaw13.ComposeThree'. -/
def composeThreeCard : Claim7 := { stood := { row := composeThreeRow, standIns := [], harness := (true, "3febe19412acc7a1c71747c9f3651e376816698beffc9361bc8237c0516df5b7"), looks := false }, kinds := [], alts := [], laidByText := true, laidKinds := [.data], laidTests := true, laidLooks := .later }
def ComposeThreeCardSaid : Prop := Claim7.holds Tryd.pinned (.plain (OpenSpec.ofChange composeThreeSpec)) composeThreeCard

/-- THE SECOND FORM's CARD OF 'palinodelaw13.ComposeTells'. -/
def composeTellsUptoCard : Claim7 := { stood := { row := composeTellsUptoRow, standIns := [], harness := (true, "3febe19412acc7a1c71747c9f3651e376816698beffc9361bc8237c0516df5b7"), looks := false }, kinds := [], alts := [], laidByText := true, laidKinds := [.data], laidTests := true, laidLooks := .later }
def ComposeTellsUptoCardSaid : Prop := Claim7.holds Tryd.pinned (.plain (OpenSpec.upto composeTellsSpec)) composeTellsUptoCard

/-- THE SECOND FORM's CARD OF 'palinodelaw13.ComposeInverts'. -/
def composeInvertsUptoCard : Claim7 := { stood := { row := composeInvertsUptoRow, standIns := [], harness := (true, "3febe19412acc7a1c71747c9f3651e376816698beffc9361bc8237c0516df5b7"), looks := false }, kinds := [], alts := [], laidByText := true, laidKinds := [.data], laidTests := true, laidLooks := .later }
def ComposeInvertsUptoCardSaid : Prop := Claim7.holds Tryd.pinned (.plain (OpenSpec.upto composeInvertsSpec)) composeInvertsUptoCard

/-- THE SECOND FORM's CARD OF 'palinodelaw13.ComposeBoth'. -/
def composeBothUptoCard : Claim7 := { stood := { row := composeBothUptoRow, standIns := [], harness := (true, "3febe19412acc7a1c71747c9f3651e376816698beffc9361bc8237c0516df5b7"), looks := false }, kinds := [], alts := [], laidByText := true, laidKinds := [.data], laidTests := true, laidLooks := .later }
def ComposeBothUptoCardSaid : Prop := Claim7.holds Tryd.pinned (.plain (OpenSpec.upto composeBothSpec)) composeBothUptoCard

/-- THE SECOND FORM's CARD OF 'palinodelaw13.ComposeUndoes'. -/
def composeUndoesUptoCard : Claim7 := { stood := { row := composeUndoesUptoRow, standIns := [], harness := (true, "3febe19412acc7a1c71747c9f3651e376816698beffc9361bc8237c0516df5b7"), looks := false }, kinds := [], alts := [], laidByText := true, laidKinds := [.data], laidTests := true, laidLooks := .later }
def ComposeUndoesUptoCardSaid : Prop := Claim7.holds Tryd.pinned (.plain (OpenSpec.upto composeUndoesSpec)) composeUndoesUptoCard

/-- THE SECOND FORM's CARD OF 'palinodelaw13.ComposePlain'. -/
def composePlainUptoCard : Claim7 := { stood := { row := composePlainUptoRow, standIns := [], harness := (true, "3febe19412acc7a1c71747c9f3651e376816698beffc9361bc8237c0516df5b7"), looks := false }, kinds := [], alts := [], laidByText := true, laidKinds := [.data], laidTests := true, laidLooks := .later }
def ComposePlainUptoCardSaid : Prop := Claim7.holds Tryd.pinned (.plain (OpenSpec.upto composePlainSpec)) composePlainUptoCard

/-- THE SECOND FORM's CARD OF 'palinodelaw13.ComposeThree'. -/
def composeThreeUptoCard : Claim7 := { stood := { row := composeThreeUptoRow, standIns := [], harness := (true, "3febe19412acc7a1c71747c9f3651e376816698beffc9361bc8237c0516df5b7"), looks := false }, kinds := [], alts := [], laidByText := true, laidKinds := [.data], laidTests := true, laidLooks := .later }
def ComposeThreeUptoCardSaid : Prop := Claim7.holds Tryd.pinned (.plain (OpenSpec.upto composeThreeSpec)) composeThreeUptoCard
end Rows
end Go.Proofs.YtiienebioebjpaaDoor
