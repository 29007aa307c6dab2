/-
  DERIVED. GIVEN WITH THE SEED: THE CARDS: each row of YtbpklbhaoemkkabDoorRows.lean that lists a variable, with what it lists TIED to the program's text (the seventh form; the later family's looks); each row that meets fmt, with fmt's text TOLD by the authors' own Lean function (tested against real Go, not proved from fmt's source: count such statements apart). THE CARD IS WHAT COUNTS. Prove the row's statement (the work); the ties are given (YtbpklbhaoemkkabDoorTie.lean); close each card by the builder's one call (the guide's Derived/Test/ToyasCard.lean, 'card_holds'). Laid BY PROGRAM, IN A SANDBOX (cutbox-door.mjs). By AI agents, Wed Nov 11 2026. No macro, syntax, notation, axiom, sorry.
-/
import Derived.Test.YtbpklbhaoemkkabDoorRows
import GoSem.ClaimSeven
namespace Go.Proofs.YtbpklbhaoemkkabDoor
namespace Rows

/-- THE TIED CARD OF 'palinodelaw4.RopeEmpty'. -/
def ropeEmptyCard : Claim7 := { stood := { row := ropeEmptyRow, standIns := [], harness := (true, "6e7e9318ff36086aa06199329fee6503a0cfda45e325fc637268c5a1660d536f"), looks := false }, kinds := [], alts := [], laidByText := true, laidKinds := [.data], laidTests := true, laidLooks := .later }
def RopeEmptyCardSaid : Prop := Claim7.holds Tryd.pinned (.plain (OpenSpec.ofChange ropeEmptySpec)) ropeEmptyCard

/-- THE SECOND FORM's CARD OF 'palinodelaw4.RopeEmpty'. -/
def ropeEmptyUptoCard : Claim7 := { stood := { row := ropeEmptyUptoRow, standIns := [], harness := (true, "6e7e9318ff36086aa06199329fee6503a0cfda45e325fc637268c5a1660d536f"), looks := false }, kinds := [], alts := [], laidByText := true, laidKinds := [.data], laidTests := true, laidLooks := .later }
def RopeEmptyUptoCardSaid : Prop := Claim7.holds Tryd.pinned (.plain (OpenSpec.upto ropeEmptySpec)) ropeEmptyUptoCard
end Rows
end Go.Proofs.YtbpklbhaoemkkabDoor
