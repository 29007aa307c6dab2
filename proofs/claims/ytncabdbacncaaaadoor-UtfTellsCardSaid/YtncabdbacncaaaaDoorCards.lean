/-
  DERIVED. GIVEN WITH THE SEED: THE CARDS: each row of YtncabdbacncaaaaDoorRows.lean that lists a variable, with what it lists TIED to the program's text (the seventh form; the later family's looks); each row that meets fmt, with fmt's text TOLD by the authors' own Lean function (tested against real Go, not proved from fmt's source: count such statements apart). THE CARD IS WHAT COUNTS. Prove the row's statement (the work); the ties are given (YtncabdbacncaaaaDoorTie.lean); close each card by the builder's one call (the guide's Derived/Test/ToyasCard.lean, 'card_holds'). Laid BY PROGRAM, IN A SANDBOX (cutbox-door.mjs). By AI agents, Wed Nov 11 2026. No macro, syntax, notation, axiom, sorry.
-/
import Derived.Test.YtncabdbacncaaaaDoorRows
import GoSem.ClaimSeven
namespace Go.Proofs.YtncabdbacncaaaaDoor
namespace Rows

/-- THE TIED CARD OF 'palinodelaw1.UtfTells'. -/
def utfTellsCard : Claim7 := { stood := { row := utfTellsRow, standIns := [], harness := (true, "f6cecda16c9277ba2fdb07eb31933e03540ad25e7da0ea20cc25ab3fab02a071"), looks := false }, kinds := [], alts := [], laidByText := true, laidKinds := [.data], laidTests := true, laidLooks := .later }
def UtfTellsCardSaid : Prop := Claim7.holds Tryd.pinned (.plain (OpenSpec.ofChange utfTellsSpec)) utfTellsCard

/-- THE TIED CARD OF 'palinodelaw1.UtfMakes'. -/
def utfMakesCard : Claim7 := { stood := { row := utfMakesRow, standIns := [], harness := (true, "f6cecda16c9277ba2fdb07eb31933e03540ad25e7da0ea20cc25ab3fab02a071"), looks := false }, kinds := [], alts := [], laidByText := true, laidKinds := [.data], laidTests := true, laidLooks := .later }
def UtfMakesCardSaid : Prop := Claim7.holds Tryd.pinned (.plain (OpenSpec.ofChange utfMakesSpec)) utfMakesCard

/-- THE TIED CARD OF 'palinodelaw1.UtfClean'. -/
def utfCleanCard : Claim7 := { stood := { row := utfCleanRow, standIns := [], harness := (true, "f6cecda16c9277ba2fdb07eb31933e03540ad25e7da0ea20cc25ab3fab02a071"), looks := false }, kinds := [], alts := [], laidByText := true, laidKinds := [.data], laidTests := true, laidLooks := .later }
def UtfCleanCardSaid : Prop := Claim7.holds Tryd.pinned (.plain (OpenSpec.ofChange utfCleanSpec)) utfCleanCard

/-- THE TIED CARD OF 'palinodelaw1.UtfBack'. -/
def utfBackCard : Claim7 := { stood := { row := utfBackRow, standIns := [], harness := (true, "f6cecda16c9277ba2fdb07eb31933e03540ad25e7da0ea20cc25ab3fab02a071"), looks := false }, kinds := [], alts := [], laidByText := true, laidKinds := [.data], laidTests := true, laidLooks := .later }
def UtfBackCardSaid : Prop := Claim7.holds Tryd.pinned (.plain (OpenSpec.ofChange utfBackSpec)) utfBackCard

/-- THE TIED CARD OF 'palinodelaw1.UtfCuts'. -/
def utfCutsCard : Claim7 := { stood := { row := utfCutsRow, standIns := [], harness := (true, "f6cecda16c9277ba2fdb07eb31933e03540ad25e7da0ea20cc25ab3fab02a071"), looks := false }, kinds := [], alts := [], laidByText := true, laidKinds := [.data], laidTests := true, laidLooks := .later }
def UtfCutsCardSaid : Prop := Claim7.holds Tryd.pinned (.plain (OpenSpec.ofChange utfCutsSpec)) utfCutsCard

/-- THE TIED CARD OF 'palinodelaw1.UtfJoin'. -/
def utfJoinCard : Claim7 := { stood := { row := utfJoinRow, standIns := [], harness := (true, "f6cecda16c9277ba2fdb07eb31933e03540ad25e7da0ea20cc25ab3fab02a071"), looks := false }, kinds := [], alts := [], laidByText := true, laidKinds := [.data], laidTests := true, laidLooks := .later }
def UtfJoinCardSaid : Prop := Claim7.holds Tryd.pinned (.plain (OpenSpec.ofChange utfJoinSpec)) utfJoinCard

/-- THE SECOND FORM's CARD OF 'palinodelaw1.UtfTells'. -/
def utfTellsUptoCard : Claim7 := { stood := { row := utfTellsUptoRow, standIns := [], harness := (true, "f6cecda16c9277ba2fdb07eb31933e03540ad25e7da0ea20cc25ab3fab02a071"), looks := false }, kinds := [], alts := [], laidByText := true, laidKinds := [.data], laidTests := true, laidLooks := .later }
def UtfTellsUptoCardSaid : Prop := Claim7.holds Tryd.pinned (.plain (OpenSpec.upto utfTellsSpec)) utfTellsUptoCard

/-- THE SECOND FORM's CARD OF 'palinodelaw1.UtfMakes'. -/
def utfMakesUptoCard : Claim7 := { stood := { row := utfMakesUptoRow, standIns := [], harness := (true, "f6cecda16c9277ba2fdb07eb31933e03540ad25e7da0ea20cc25ab3fab02a071"), looks := false }, kinds := [], alts := [], laidByText := true, laidKinds := [.data], laidTests := true, laidLooks := .later }
def UtfMakesUptoCardSaid : Prop := Claim7.holds Tryd.pinned (.plain (OpenSpec.upto utfMakesSpec)) utfMakesUptoCard

/-- THE SECOND FORM's CARD OF 'palinodelaw1.UtfClean'. -/
def utfCleanUptoCard : Claim7 := { stood := { row := utfCleanUptoRow, standIns := [], harness := (true, "f6cecda16c9277ba2fdb07eb31933e03540ad25e7da0ea20cc25ab3fab02a071"), looks := false }, kinds := [], alts := [], laidByText := true, laidKinds := [.data], laidTests := true, laidLooks := .later }
def UtfCleanUptoCardSaid : Prop := Claim7.holds Tryd.pinned (.plain (OpenSpec.upto utfCleanSpec)) utfCleanUptoCard

/-- THE SECOND FORM's CARD OF 'palinodelaw1.UtfBack'. -/
def utfBackUptoCard : Claim7 := { stood := { row := utfBackUptoRow, standIns := [], harness := (true, "f6cecda16c9277ba2fdb07eb31933e03540ad25e7da0ea20cc25ab3fab02a071"), looks := false }, kinds := [], alts := [], laidByText := true, laidKinds := [.data], laidTests := true, laidLooks := .later }
def UtfBackUptoCardSaid : Prop := Claim7.holds Tryd.pinned (.plain (OpenSpec.upto utfBackSpec)) utfBackUptoCard

/-- THE SECOND FORM's CARD OF 'palinodelaw1.UtfCuts'. -/
def utfCutsUptoCard : Claim7 := { stood := { row := utfCutsUptoRow, standIns := [], harness := (true, "f6cecda16c9277ba2fdb07eb31933e03540ad25e7da0ea20cc25ab3fab02a071"), looks := false }, kinds := [], alts := [], laidByText := true, laidKinds := [.data], laidTests := true, laidLooks := .later }
def UtfCutsUptoCardSaid : Prop := Claim7.holds Tryd.pinned (.plain (OpenSpec.upto utfCutsSpec)) utfCutsUptoCard

/-- THE SECOND FORM's CARD OF 'palinodelaw1.UtfJoin'. -/
def utfJoinUptoCard : Claim7 := { stood := { row := utfJoinUptoRow, standIns := [], harness := (true, "f6cecda16c9277ba2fdb07eb31933e03540ad25e7da0ea20cc25ab3fab02a071"), looks := false }, kinds := [], alts := [], laidByText := true, laidKinds := [.data], laidTests := true, laidLooks := .later }
def UtfJoinUptoCardSaid : Prop := Claim7.holds Tryd.pinned (.plain (OpenSpec.upto utfJoinSpec)) utfJoinUptoCard
end Rows
end Go.Proofs.YtncabdbacncaaaaDoor
