/-
  DERIVED. GIVEN WITH THE SEED: THE CARDS: each row of YtmgjfmgkmlfjeaaDoorRows.lean that lists a variable, with what it lists TIED to the program's text (the seventh form; the later family's looks); each row that meets fmt, with fmt's text TOLD by the authors' own Lean function (tested against real Go, not proved from fmt's source: count such statements apart). THE CARD IS WHAT COUNTS. Prove the row's statement (the work); the ties are given (YtmgjfmgkmlfjeaaDoorTie.lean); close each card by the builder's one call (the guide's Derived/Test/ToyasCard.lean, 'card_holds'). Laid BY PROGRAM, IN A SANDBOX (cutbox-door.mjs). By AI agents, Wed Nov 11 2026. No macro, syntax, notation, axiom, sorry.
-/
import Derived.Test.YtmgjfmgkmlfjeaaDoorRows
import GoSem.ClaimSeven
namespace Go.Proofs.YtmgjfmgkmlfjeaaDoor
namespace Rows

/-- THE TIED CARD OF 'palinodelaw15.SpansTell'. -/
def spansTellCard : Claim7 := { stood := { row := spansTellRow, standIns := [], harness := (true, "af952c1bb8bf53f3125b556a892df70749479e539241226604d1ef5901c1fd46"), looks := false }, kinds := [], alts := [], laidByText := true, laidKinds := [.data], laidTests := true, laidLooks := .later }
def SpansTellCardSaid : Prop := Claim7.holds Tryd.pinned (.plain (OpenSpec.ofChange spansTellSpec)) spansTellCard

/-- THE TIED CARD OF 'palinodelaw15.SpansGo'. -/
def spansGoCard : Claim7 := { stood := { row := spansGoRow, standIns := [], harness := (true, "af952c1bb8bf53f3125b556a892df70749479e539241226604d1ef5901c1fd46"), looks := false }, kinds := [], alts := [], laidByText := true, laidKinds := [.data], laidTests := true, laidLooks := .later }
def SpansGoCardSaid : Prop := Claim7.holds Tryd.pinned (.plain (OpenSpec.ofChange spansGoSpec)) spansGoCard

/-- THE SECOND FORM's CARD OF 'palinodelaw15.SpansTell'. -/
def spansTellUptoCard : Claim7 := { stood := { row := spansTellUptoRow, standIns := [], harness := (true, "af952c1bb8bf53f3125b556a892df70749479e539241226604d1ef5901c1fd46"), looks := false }, kinds := [], alts := [], laidByText := true, laidKinds := [.data], laidTests := true, laidLooks := .later }
def SpansTellUptoCardSaid : Prop := Claim7.holds Tryd.pinned (.plain (OpenSpec.upto spansTellSpec)) spansTellUptoCard

/-- THE SECOND FORM's CARD OF 'palinodelaw15.SpansGo'. -/
def spansGoUptoCard : Claim7 := { stood := { row := spansGoUptoRow, standIns := [], harness := (true, "af952c1bb8bf53f3125b556a892df70749479e539241226604d1ef5901c1fd46"), looks := false }, kinds := [], alts := [], laidByText := true, laidKinds := [.data], laidTests := true, laidLooks := .later }
def SpansGoUptoCardSaid : Prop := Claim7.holds Tryd.pinned (.plain (OpenSpec.upto spansGoSpec)) spansGoUptoCard
end Rows
end Go.Proofs.YtmgjfmgkmlfjeaaDoor
