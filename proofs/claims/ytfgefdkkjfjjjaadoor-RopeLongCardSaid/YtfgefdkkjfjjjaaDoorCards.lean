/-
  DERIVED. GIVEN WITH THE SEED: THE CARDS: each row of YtfgefdkkjfjjjaaDoorRows.lean that lists a variable, with what it lists TIED to the program's text (the seventh form; the later family's looks); each row that meets fmt, with fmt's text TOLD by the authors' own Lean function (tested against real Go, not proved from fmt's source: count such statements apart). THE CARD IS WHAT COUNTS. Prove the row's statement (the work); the ties are given (YtfgefdkkjfjjjaaDoorTie.lean); close each card by the builder's one call (the guide's Derived/Test/ToyasCard.lean, 'card_holds'). Laid BY PROGRAM, IN A SANDBOX (cutbox-door.mjs). By AI agents, Wed Nov 11 2026. No macro, syntax, notation, axiom, sorry.
-/
import Derived.Test.YtfgefdkkjfjjjaaDoorRows
import GoSem.ClaimSeven
namespace Go.Proofs.YtfgefdkkjfjjjaaDoor
namespace Rows

/-- THE TIED CARD OF 'palinodelaw4.RopePlays'. -/
def ropePlaysCard : Claim7 := { stood := { row := ropePlaysRow, standIns := [], harness := (true, "17282edb7d1d2915c89027d5cbf9b0ff68fc1195c5dbf815e3bca993c2aa0c53"), looks := false }, kinds := [], alts := [], laidByText := true, laidKinds := [.data], laidTests := true, laidLooks := .later }
def RopePlaysCardSaid : Prop := Claim7.holds Tryd.pinned (.plain (OpenSpec.ofChange ropePlaysSpec)) ropePlaysCard

/-- THE TIED CARD OF 'palinodelaw4.RopeLong'. -/
def ropeLongCard : Claim7 := { stood := { row := ropeLongRow, standIns := [], harness := (true, "17282edb7d1d2915c89027d5cbf9b0ff68fc1195c5dbf815e3bca993c2aa0c53"), looks := false }, kinds := [], alts := [], laidByText := true, laidKinds := [.data], laidTests := true, laidLooks := .later }
def RopeLongCardSaid : Prop := Claim7.holds Tryd.pinned (.plain (OpenSpec.ofChange ropeLongSpec)) ropeLongCard

/-- THE TIED CARD OF 'palinodelaw4.RopeParts'. -/
def ropePartsCard : Claim7 := { stood := { row := ropePartsRow, standIns := [], harness := (true, "17282edb7d1d2915c89027d5cbf9b0ff68fc1195c5dbf815e3bca993c2aa0c53"), looks := false }, kinds := [], alts := [], laidByText := true, laidKinds := [.data], laidTests := true, laidLooks := .later }
def RopePartsCardSaid : Prop := Claim7.holds Tryd.pinned (.plain (OpenSpec.ofChange ropePartsSpec)) ropePartsCard

/-- THE TIED CARD OF 'palinodelaw4.RopeSmall'. -/
def ropeSmallCard : Claim7 := { stood := { row := ropeSmallRow, standIns := [], harness := (true, "17282edb7d1d2915c89027d5cbf9b0ff68fc1195c5dbf815e3bca993c2aa0c53"), looks := false }, kinds := [], alts := [], laidByText := true, laidKinds := [.data], laidTests := true, laidLooks := .later }
def RopeSmallCardSaid : Prop := Claim7.holds Tryd.pinned (.plain (OpenSpec.ofChange ropeSmallSpec)) ropeSmallCard

/-- THE TIED CARD OF 'palinodelaw4.RopeCounts'. -/
def ropeCountsCard : Claim7 := { stood := { row := ropeCountsRow, standIns := [], harness := (true, "17282edb7d1d2915c89027d5cbf9b0ff68fc1195c5dbf815e3bca993c2aa0c53"), looks := false }, kinds := [], alts := [], laidByText := true, laidKinds := [.data], laidTests := true, laidLooks := .later }
def RopeCountsCardSaid : Prop := Claim7.holds Tryd.pinned (.plain (OpenSpec.ofChange ropeCountsSpec)) ropeCountsCard

/-- THE TIED CARD OF 'palinodelaw4.RopeUndo'. -/
def ropeUndoCard : Claim7 := { stood := { row := ropeUndoRow, standIns := [], harness := (true, "17282edb7d1d2915c89027d5cbf9b0ff68fc1195c5dbf815e3bca993c2aa0c53"), looks := false }, kinds := [], alts := [], laidByText := true, laidKinds := [.data], laidTests := true, laidLooks := .later }
def RopeUndoCardSaid : Prop := Claim7.holds Tryd.pinned (.plain (OpenSpec.ofChange ropeUndoSpec)) ropeUndoCard

/-- THE SECOND FORM's CARD OF 'palinodelaw4.RopePlays'. -/
def ropePlaysUptoCard : Claim7 := { stood := { row := ropePlaysUptoRow, standIns := [], harness := (true, "17282edb7d1d2915c89027d5cbf9b0ff68fc1195c5dbf815e3bca993c2aa0c53"), looks := false }, kinds := [], alts := [], laidByText := true, laidKinds := [.data], laidTests := true, laidLooks := .later }
def RopePlaysUptoCardSaid : Prop := Claim7.holds Tryd.pinned (.plain (OpenSpec.upto ropePlaysSpec)) ropePlaysUptoCard

/-- THE SECOND FORM's CARD OF 'palinodelaw4.RopeLong'. -/
def ropeLongUptoCard : Claim7 := { stood := { row := ropeLongUptoRow, standIns := [], harness := (true, "17282edb7d1d2915c89027d5cbf9b0ff68fc1195c5dbf815e3bca993c2aa0c53"), looks := false }, kinds := [], alts := [], laidByText := true, laidKinds := [.data], laidTests := true, laidLooks := .later }
def RopeLongUptoCardSaid : Prop := Claim7.holds Tryd.pinned (.plain (OpenSpec.upto ropeLongSpec)) ropeLongUptoCard

/-- THE SECOND FORM's CARD OF 'palinodelaw4.RopeParts'. -/
def ropePartsUptoCard : Claim7 := { stood := { row := ropePartsUptoRow, standIns := [], harness := (true, "17282edb7d1d2915c89027d5cbf9b0ff68fc1195c5dbf815e3bca993c2aa0c53"), looks := false }, kinds := [], alts := [], laidByText := true, laidKinds := [.data], laidTests := true, laidLooks := .later }
def RopePartsUptoCardSaid : Prop := Claim7.holds Tryd.pinned (.plain (OpenSpec.upto ropePartsSpec)) ropePartsUptoCard

/-- THE SECOND FORM's CARD OF 'palinodelaw4.RopeSmall'. -/
def ropeSmallUptoCard : Claim7 := { stood := { row := ropeSmallUptoRow, standIns := [], harness := (true, "17282edb7d1d2915c89027d5cbf9b0ff68fc1195c5dbf815e3bca993c2aa0c53"), looks := false }, kinds := [], alts := [], laidByText := true, laidKinds := [.data], laidTests := true, laidLooks := .later }
def RopeSmallUptoCardSaid : Prop := Claim7.holds Tryd.pinned (.plain (OpenSpec.upto ropeSmallSpec)) ropeSmallUptoCard

/-- THE SECOND FORM's CARD OF 'palinodelaw4.RopeCounts'. -/
def ropeCountsUptoCard : Claim7 := { stood := { row := ropeCountsUptoRow, standIns := [], harness := (true, "17282edb7d1d2915c89027d5cbf9b0ff68fc1195c5dbf815e3bca993c2aa0c53"), looks := false }, kinds := [], alts := [], laidByText := true, laidKinds := [.data], laidTests := true, laidLooks := .later }
def RopeCountsUptoCardSaid : Prop := Claim7.holds Tryd.pinned (.plain (OpenSpec.upto ropeCountsSpec)) ropeCountsUptoCard

/-- THE SECOND FORM's CARD OF 'palinodelaw4.RopeUndo'. -/
def ropeUndoUptoCard : Claim7 := { stood := { row := ropeUndoUptoRow, standIns := [], harness := (true, "17282edb7d1d2915c89027d5cbf9b0ff68fc1195c5dbf815e3bca993c2aa0c53"), looks := false }, kinds := [], alts := [], laidByText := true, laidKinds := [.data], laidTests := true, laidLooks := .later }
def RopeUndoUptoCardSaid : Prop := Claim7.holds Tryd.pinned (.plain (OpenSpec.upto ropeUndoSpec)) ropeUndoUptoCard
end Rows
end Go.Proofs.YtfgefdkkjfjjjaaDoor
