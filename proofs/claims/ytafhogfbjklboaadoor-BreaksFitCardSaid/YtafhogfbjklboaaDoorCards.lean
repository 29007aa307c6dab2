/-
  DERIVED. GIVEN WITH THE SEED: THE CARDS: each row of YtafhogfbjklboaaDoorRows.lean that lists a variable, with what it lists TIED to the program's text (the seventh form; the later family's looks); each row that meets fmt, with fmt's text TOLD by the authors' own Lean function (tested against real Go, not proved from fmt's source: count such statements apart). THE CARD IS WHAT COUNTS. Prove the row's statement (the work); the ties are given (YtafhogfbjklboaaDoorTie.lean); close each card by the builder's one call (the guide's Derived/Test/ToyasCard.lean, 'card_holds'). Laid BY PROGRAM, IN A SANDBOX (cutbox-door.mjs). By AI agents, Wed Nov 11 2026. No macro, syntax, notation, axiom, sorry.
-/
import Derived.Test.YtafhogfbjklboaaDoorRows
import GoSem.ClaimSeven
namespace Go.Proofs.YtafhogfbjklboaaDoor
namespace Rows

/-- THE TIED CARD OF 'palinodelaw16.BreaksTell'. -/
def breaksTellCard : Claim7 := { stood := { row := breaksTellRow, standIns := [], harness := (true, "d694d16f404e9f343bd894d36831d676d171a6c8a62edab37a8fe2201327b735"), looks := false }, kinds := [], alts := [], laidByText := true, laidKinds := [.data, .data, .pinned], laidTests := true, laidLooks := .later }
def BreaksTellCardSaid : Prop := Claim7.holds Tryd.pinned (.plain (OpenSpec.ofChange breaksTellSpec)) breaksTellCard

/-- THE TIED CARD OF 'palinodelaw16.BreaksWrap'. -/
def breaksWrapCard : Claim7 := { stood := { row := breaksWrapRow, standIns := [], harness := (true, "d694d16f404e9f343bd894d36831d676d171a6c8a62edab37a8fe2201327b735"), looks := false }, kinds := [], alts := [], laidByText := true, laidKinds := [.data, .pinned], laidTests := true, laidLooks := .later }
def BreaksWrapCardSaid : Prop := Claim7.holds Tryd.pinned (.plain (OpenSpec.ofChange breaksWrapSpec)) breaksWrapCard

/-- THE TIED CARD OF 'palinodelaw16.BreaksFit'. -/
def breaksFitCard : Claim7 := { stood := { row := breaksFitRow, standIns := [], harness := (true, "d694d16f404e9f343bd894d36831d676d171a6c8a62edab37a8fe2201327b735"), looks := false }, kinds := [], alts := [], laidByText := true, laidKinds := [.data, .pinned], laidTests := true, laidLooks := .later }
def BreaksFitCardSaid : Prop := Claim7.holds Tryd.pinned (.plain (OpenSpec.ofChange breaksFitSpec)) breaksFitCard

/-- THE TIED CARD OF 'palinodelaw16.BreaksRows'. -/
def breaksRowsCard : Claim7 := { stood := { row := breaksRowsRow, standIns := [], harness := (true, "d694d16f404e9f343bd894d36831d676d171a6c8a62edab37a8fe2201327b735"), looks := false }, kinds := [], alts := [], laidByText := true, laidKinds := [.data, .pinned], laidTests := true, laidLooks := .later }
def BreaksRowsCardSaid : Prop := Claim7.holds Tryd.pinned (.plain (OpenSpec.ofChange breaksRowsSpec)) breaksRowsCard

/-- THE TIED CARD OF 'palinodelaw16.BreaksGo'. -/
def breaksGoCard : Claim7 := { stood := { row := breaksGoRow, standIns := [], harness := (true, "d694d16f404e9f343bd894d36831d676d171a6c8a62edab37a8fe2201327b735"), looks := false }, kinds := [], alts := [], laidByText := true, laidKinds := [.data, .data, .pinned], laidTests := true, laidLooks := .later }
def BreaksGoCardSaid : Prop := Claim7.holds Tryd.pinned (.plain (OpenSpec.ofChange breaksGoSpec)) breaksGoCard

/-- THE TIED CARD OF 'palinodelaw16.BreaksMany'. -/
def breaksManyCard : Claim7 := { stood := { row := breaksManyRow, standIns := [], harness := (true, "d694d16f404e9f343bd894d36831d676d171a6c8a62edab37a8fe2201327b735"), looks := false }, kinds := [], alts := [], laidByText := true, laidKinds := [.data, .pinned], laidTests := true, laidLooks := .later }
def BreaksManyCardSaid : Prop := Claim7.holds Tryd.pinned (.plain (OpenSpec.ofChange breaksManySpec)) breaksManyCard

/-- THE SECOND FORM's CARD OF 'palinodelaw16.BreaksTell'. -/
def breaksTellUptoCard : Claim7 := { stood := { row := breaksTellUptoRow, standIns := [], harness := (true, "d694d16f404e9f343bd894d36831d676d171a6c8a62edab37a8fe2201327b735"), looks := false }, kinds := [], alts := [], laidByText := true, laidKinds := [.data, .data, .pinned], laidTests := true, laidLooks := .later }
def BreaksTellUptoCardSaid : Prop := Claim7.holds Tryd.pinned (.plain (OpenSpec.upto breaksTellSpec)) breaksTellUptoCard

/-- THE SECOND FORM's CARD OF 'palinodelaw16.BreaksWrap'. -/
def breaksWrapUptoCard : Claim7 := { stood := { row := breaksWrapUptoRow, standIns := [], harness := (true, "d694d16f404e9f343bd894d36831d676d171a6c8a62edab37a8fe2201327b735"), looks := false }, kinds := [], alts := [], laidByText := true, laidKinds := [.data, .pinned], laidTests := true, laidLooks := .later }
def BreaksWrapUptoCardSaid : Prop := Claim7.holds Tryd.pinned (.plain (OpenSpec.upto breaksWrapSpec)) breaksWrapUptoCard

/-- THE SECOND FORM's CARD OF 'palinodelaw16.BreaksFit'. -/
def breaksFitUptoCard : Claim7 := { stood := { row := breaksFitUptoRow, standIns := [], harness := (true, "d694d16f404e9f343bd894d36831d676d171a6c8a62edab37a8fe2201327b735"), looks := false }, kinds := [], alts := [], laidByText := true, laidKinds := [.data, .pinned], laidTests := true, laidLooks := .later }
def BreaksFitUptoCardSaid : Prop := Claim7.holds Tryd.pinned (.plain (OpenSpec.upto breaksFitSpec)) breaksFitUptoCard

/-- THE SECOND FORM's CARD OF 'palinodelaw16.BreaksRows'. -/
def breaksRowsUptoCard : Claim7 := { stood := { row := breaksRowsUptoRow, standIns := [], harness := (true, "d694d16f404e9f343bd894d36831d676d171a6c8a62edab37a8fe2201327b735"), looks := false }, kinds := [], alts := [], laidByText := true, laidKinds := [.data, .pinned], laidTests := true, laidLooks := .later }
def BreaksRowsUptoCardSaid : Prop := Claim7.holds Tryd.pinned (.plain (OpenSpec.upto breaksRowsSpec)) breaksRowsUptoCard

/-- THE SECOND FORM's CARD OF 'palinodelaw16.BreaksGo'. -/
def breaksGoUptoCard : Claim7 := { stood := { row := breaksGoUptoRow, standIns := [], harness := (true, "d694d16f404e9f343bd894d36831d676d171a6c8a62edab37a8fe2201327b735"), looks := false }, kinds := [], alts := [], laidByText := true, laidKinds := [.data, .data, .pinned], laidTests := true, laidLooks := .later }
def BreaksGoUptoCardSaid : Prop := Claim7.holds Tryd.pinned (.plain (OpenSpec.upto breaksGoSpec)) breaksGoUptoCard

/-- THE SECOND FORM's CARD OF 'palinodelaw16.BreaksMany'. -/
def breaksManyUptoCard : Claim7 := { stood := { row := breaksManyUptoRow, standIns := [], harness := (true, "d694d16f404e9f343bd894d36831d676d171a6c8a62edab37a8fe2201327b735"), looks := false }, kinds := [], alts := [], laidByText := true, laidKinds := [.data, .pinned], laidTests := true, laidLooks := .later }
def BreaksManyUptoCardSaid : Prop := Claim7.holds Tryd.pinned (.plain (OpenSpec.upto breaksManySpec)) breaksManyUptoCard
end Rows
end Go.Proofs.YtafhogfbjklboaaDoor
