/-
  DERIVED. GIVEN WITH THE SEED: THE CARDS: each row of YtncabdbacncaaabDoorRows.lean that lists a variable, with what it lists TIED to the program's text (the seventh form; the later family's looks); each row that meets fmt, with fmt's text TOLD by the authors' own Lean function (tested against real Go, not proved from fmt's source: count such statements apart). THE CARD IS WHAT COUNTS. Prove the row's statement (the work); the ties are given (YtncabdbacncaaabDoorTie.lean); close each card by the builder's one call (the guide's Derived/Test/ToyasCard.lean, 'card_holds'). Laid BY PROGRAM, IN A SANDBOX (cutbox-door.mjs). By AI agents, Wed Nov 11 2026. No macro, syntax, notation, axiom, sorry.
-/
import Derived.Test.YtncabdbacncaaabDoorRows
import GoSem.ClaimSeven
namespace Go.Proofs.YtncabdbacncaaabDoor
namespace Rows

/-- THE TIED CARD OF 'palinodelaw1.UtfSteps'. -/
def utfStepsCard : Claim7 := { stood := { row := utfStepsRow, standIns := [], harness := (true, "4c3147a3edb500dc1e9cce00262e130ab27f720dd38c825276d1031e66bb41d7"), looks := false }, kinds := [], alts := [], laidByText := true, laidKinds := [.data], laidTests := true, laidLooks := .later }
def UtfStepsCardSaid : Prop := Claim7.holds Tryd.pinned (.plain (OpenSpec.ofChange utfStepsSpec)) utfStepsCard

/-- THE TIED CARD OF 'palinodelaw1.UtfNone'. -/
def utfNoneCard : Claim7 := { stood := { row := utfNoneRow, standIns := [], harness := (true, "4c3147a3edb500dc1e9cce00262e130ab27f720dd38c825276d1031e66bb41d7"), looks := false }, kinds := [], alts := [], laidByText := true, laidKinds := [.data], laidTests := true, laidLooks := .later }
def UtfNoneCardSaid : Prop := Claim7.holds Tryd.pinned (.plain (OpenSpec.ofChange utfNoneSpec)) utfNoneCard

/-- THE SECOND FORM's CARD OF 'palinodelaw1.UtfSteps'. -/
def utfStepsUptoCard : Claim7 := { stood := { row := utfStepsUptoRow, standIns := [], harness := (true, "4c3147a3edb500dc1e9cce00262e130ab27f720dd38c825276d1031e66bb41d7"), looks := false }, kinds := [], alts := [], laidByText := true, laidKinds := [.data], laidTests := true, laidLooks := .later }
def UtfStepsUptoCardSaid : Prop := Claim7.holds Tryd.pinned (.plain (OpenSpec.upto utfStepsSpec)) utfStepsUptoCard

/-- THE SECOND FORM's CARD OF 'palinodelaw1.UtfNone'. -/
def utfNoneUptoCard : Claim7 := { stood := { row := utfNoneUptoRow, standIns := [], harness := (true, "4c3147a3edb500dc1e9cce00262e130ab27f720dd38c825276d1031e66bb41d7"), looks := false }, kinds := [], alts := [], laidByText := true, laidKinds := [.data], laidTests := true, laidLooks := .later }
def UtfNoneUptoCardSaid : Prop := Claim7.holds Tryd.pinned (.plain (OpenSpec.upto utfNoneSpec)) utfNoneUptoCard
end Rows
end Go.Proofs.YtncabdbacncaaabDoor
