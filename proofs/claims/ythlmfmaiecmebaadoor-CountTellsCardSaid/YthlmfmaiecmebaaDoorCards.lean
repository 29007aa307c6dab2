/-
  DERIVED. GIVEN WITH THE SEED: THE CARDS: each row of YthlmfmaiecmebaaDoorRows.lean that lists a variable, with what it lists TIED to the program's text (the seventh form; the later family's looks); each row that meets fmt, with fmt's text TOLD by the authors' own Lean function (tested against real Go, not proved from fmt's source: count such statements apart). THE CARD IS WHAT COUNTS. Prove the row's statement (the work); the ties are given (YthlmfmaiecmebaaDoorTie.lean); close each card by the builder's one call (the guide's Derived/Test/ToyasCard.lean, 'card_holds'). Laid BY PROGRAM, IN A SANDBOX (cutbox-door.mjs). By AI agents, Wed Nov 11 2026. No macro, syntax, notation, axiom, sorry.
-/
import Derived.Test.YthlmfmaiecmebaaDoorRows
import GoSem.ClaimSeven
namespace Go.Proofs.YthlmfmaiecmebaaDoor
namespace Rows

/-- THE TIED CARD OF 'palinodelaw2.CountTells'. -/
def countTellsCard : Claim7 := { stood := { row := countTellsRow, standIns := [], harness := (true, "e6d0535efdb9c3d303599e2759824bde0c1cb20f1346d83f06045cbf1946ba50"), looks := false }, kinds := [], alts := [], laidByText := true, laidKinds := [.data, .data, .pinned], laidTests := true, laidLooks := .later }
def CountTellsCardSaid : Prop := Claim7.holds Tryd.pinned (.plain (OpenSpec.ofChange countTellsSpec)) countTellsCard

/-- THE TIED CARD OF 'palinodelaw2.CountSums'. -/
def countSumsCard : Claim7 := { stood := { row := countSumsRow, standIns := [], harness := (true, "e6d0535efdb9c3d303599e2759824bde0c1cb20f1346d83f06045cbf1946ba50"), looks := false }, kinds := [], alts := [], laidByText := true, laidKinds := [.data, .data, .pinned], laidTests := true, laidLooks := .later }
def CountSumsCardSaid : Prop := Claim7.holds Tryd.pinned (.plain (OpenSpec.ofChange countSumsSpec)) countSumsCard

/-- THE TIED CARD OF 'palinodelaw2.CountBack'. -/
def countBackCard : Claim7 := { stood := { row := countBackRow, standIns := [], harness := (true, "e6d0535efdb9c3d303599e2759824bde0c1cb20f1346d83f06045cbf1946ba50"), looks := false }, kinds := [], alts := [], laidByText := true, laidKinds := [.data, .data, .pinned], laidTests := true, laidLooks := .later }
def CountBackCardSaid : Prop := Claim7.holds Tryd.pinned (.plain (OpenSpec.ofChange countBackSpec)) countBackCard

/-- THE TIED CARD OF 'palinodelaw2.CountUnits'. -/
def countUnitsCard : Claim7 := { stood := { row := countUnitsRow, standIns := [], harness := (true, "e6d0535efdb9c3d303599e2759824bde0c1cb20f1346d83f06045cbf1946ba50"), looks := false }, kinds := [], alts := [], laidByText := true, laidKinds := [.data, .data, .pinned], laidTests := true, laidLooks := .later }
def CountUnitsCardSaid : Prop := Claim7.holds Tryd.pinned (.plain (OpenSpec.ofChange countUnitsSpec)) countUnitsCard

/-- THE TIED CARD OF 'palinodelaw2.CountLines'. -/
def countLinesCard : Claim7 := { stood := { row := countLinesRow, standIns := [], harness := (true, "e6d0535efdb9c3d303599e2759824bde0c1cb20f1346d83f06045cbf1946ba50"), looks := false }, kinds := [], alts := [], laidByText := true, laidKinds := [.data, .data, .pinned], laidTests := true, laidLooks := .later }
def CountLinesCardSaid : Prop := Claim7.holds Tryd.pinned (.plain (OpenSpec.ofChange countLinesSpec)) countLinesCard

/-- THE TIED CARD OF 'palinodelaw2.CountOrder'. -/
def countOrderCard : Claim7 := { stood := { row := countOrderRow, standIns := [], harness := (true, "e6d0535efdb9c3d303599e2759824bde0c1cb20f1346d83f06045cbf1946ba50"), looks := false }, kinds := [], alts := [], laidByText := true, laidKinds := [.data, .data, .pinned], laidTests := true, laidLooks := .later }
def CountOrderCardSaid : Prop := Claim7.holds Tryd.pinned (.plain (OpenSpec.ofChange countOrderSpec)) countOrderCard

/-- THE SECOND FORM's CARD OF 'palinodelaw2.CountTells'. -/
def countTellsUptoCard : Claim7 := { stood := { row := countTellsUptoRow, standIns := [], harness := (true, "e6d0535efdb9c3d303599e2759824bde0c1cb20f1346d83f06045cbf1946ba50"), looks := false }, kinds := [], alts := [], laidByText := true, laidKinds := [.data, .data, .pinned], laidTests := true, laidLooks := .later }
def CountTellsUptoCardSaid : Prop := Claim7.holds Tryd.pinned (.plain (OpenSpec.upto countTellsSpec)) countTellsUptoCard

/-- THE SECOND FORM's CARD OF 'palinodelaw2.CountSums'. -/
def countSumsUptoCard : Claim7 := { stood := { row := countSumsUptoRow, standIns := [], harness := (true, "e6d0535efdb9c3d303599e2759824bde0c1cb20f1346d83f06045cbf1946ba50"), looks := false }, kinds := [], alts := [], laidByText := true, laidKinds := [.data, .data, .pinned], laidTests := true, laidLooks := .later }
def CountSumsUptoCardSaid : Prop := Claim7.holds Tryd.pinned (.plain (OpenSpec.upto countSumsSpec)) countSumsUptoCard

/-- THE SECOND FORM's CARD OF 'palinodelaw2.CountBack'. -/
def countBackUptoCard : Claim7 := { stood := { row := countBackUptoRow, standIns := [], harness := (true, "e6d0535efdb9c3d303599e2759824bde0c1cb20f1346d83f06045cbf1946ba50"), looks := false }, kinds := [], alts := [], laidByText := true, laidKinds := [.data, .data, .pinned], laidTests := true, laidLooks := .later }
def CountBackUptoCardSaid : Prop := Claim7.holds Tryd.pinned (.plain (OpenSpec.upto countBackSpec)) countBackUptoCard

/-- THE SECOND FORM's CARD OF 'palinodelaw2.CountUnits'. -/
def countUnitsUptoCard : Claim7 := { stood := { row := countUnitsUptoRow, standIns := [], harness := (true, "e6d0535efdb9c3d303599e2759824bde0c1cb20f1346d83f06045cbf1946ba50"), looks := false }, kinds := [], alts := [], laidByText := true, laidKinds := [.data, .data, .pinned], laidTests := true, laidLooks := .later }
def CountUnitsUptoCardSaid : Prop := Claim7.holds Tryd.pinned (.plain (OpenSpec.upto countUnitsSpec)) countUnitsUptoCard

/-- THE SECOND FORM's CARD OF 'palinodelaw2.CountLines'. -/
def countLinesUptoCard : Claim7 := { stood := { row := countLinesUptoRow, standIns := [], harness := (true, "e6d0535efdb9c3d303599e2759824bde0c1cb20f1346d83f06045cbf1946ba50"), looks := false }, kinds := [], alts := [], laidByText := true, laidKinds := [.data, .data, .pinned], laidTests := true, laidLooks := .later }
def CountLinesUptoCardSaid : Prop := Claim7.holds Tryd.pinned (.plain (OpenSpec.upto countLinesSpec)) countLinesUptoCard

/-- THE SECOND FORM's CARD OF 'palinodelaw2.CountOrder'. -/
def countOrderUptoCard : Claim7 := { stood := { row := countOrderUptoRow, standIns := [], harness := (true, "e6d0535efdb9c3d303599e2759824bde0c1cb20f1346d83f06045cbf1946ba50"), looks := false }, kinds := [], alts := [], laidByText := true, laidKinds := [.data, .data, .pinned], laidTests := true, laidLooks := .later }
def CountOrderUptoCardSaid : Prop := Claim7.holds Tryd.pinned (.plain (OpenSpec.upto countOrderSpec)) countOrderUptoCard
end Rows
end Go.Proofs.YthlmfmaiecmebaaDoor
