/-
  DERIVED. GIVEN WITH THE SEED: THE CARDS: each row of YtalolaajcmndeaaDoorRows.lean that lists a variable, with what it lists TIED to the program's text (the seventh form; the later family's looks); each row that meets fmt, with fmt's text TOLD by the authors' own Lean function (tested against real Go, not proved from fmt's source: count such statements apart). THE CARD IS WHAT COUNTS. Prove the row's statement (the work); the ties are given (YtalolaajcmndeaaDoorTie.lean); close each card by the builder's one call (the guide's Derived/Test/ToyasCard.lean, 'card_holds'). Laid BY PROGRAM, IN A SANDBOX (cutbox-door.mjs). By AI agents, Wed Nov 11 2026. No macro, syntax, notation, axiom, sorry.
-/
import Derived.Test.YtalolaajcmndeaaDoorRows
import GoSem.ClaimSeven
namespace Go.Proofs.YtalolaajcmndeaaDoor
namespace Rows

/-- THE TIED CARD OF 'palinodelaw12.FactorTells'. -/
def factorTellsCard : Claim7 := { stood := { row := factorTellsRow, standIns := [], harness := (true, "1fd7b1f248cd51803c495e097387c9023d50cbb1a006ac94b764ad57d733b6ab"), looks := false }, kinds := [], alts := [], laidByText := true, laidKinds := [.data], laidTests := true, laidLooks := .later }
def FactorTellsCardSaid : Prop := Claim7.holds Tryd.pinned (.plain (OpenSpec.ofChange factorTellsSpec)) factorTellsCard

/-- THE TIED CARD OF 'palinodelaw12.FactorJoins'. -/
def factorJoinsCard : Claim7 := { stood := { row := factorJoinsRow, standIns := [], harness := (true, "1fd7b1f248cd51803c495e097387c9023d50cbb1a006ac94b764ad57d733b6ab"), looks := false }, kinds := [], alts := [], laidByText := true, laidKinds := [.data], laidTests := true, laidLooks := .later }
def FactorJoinsCardSaid : Prop := Claim7.holds Tryd.pinned (.plain (OpenSpec.ofChange factorJoinsSpec)) factorJoinsCard

/-- THE TIED CARD OF 'palinodelaw12.FactorBack'. -/
def factorBackCard : Claim7 := { stood := { row := factorBackRow, standIns := [], harness := (true, "1fd7b1f248cd51803c495e097387c9023d50cbb1a006ac94b764ad57d733b6ab"), looks := false }, kinds := [], alts := [], laidByText := true, laidKinds := [.data], laidTests := true, laidLooks := .later }
def FactorBackCardSaid : Prop := Claim7.holds Tryd.pinned (.plain (OpenSpec.ofChange factorBackSpec)) factorBackCard

/-- THE TIED CARD OF 'palinodelaw12.FactorPlain'. -/
def factorPlainCard : Claim7 := { stood := { row := factorPlainRow, standIns := [], harness := (true, "1fd7b1f248cd51803c495e097387c9023d50cbb1a006ac94b764ad57d733b6ab"), looks := false }, kinds := [], alts := [], laidByText := true, laidKinds := [.data], laidTests := true, laidLooks := .later }
def FactorPlainCardSaid : Prop := Claim7.holds Tryd.pinned (.plain (OpenSpec.ofChange factorPlainSpec)) factorPlainCard

/-- THE TIED CARD OF 'palinodelaw12.FactorCounts'. -/
def factorCountsCard : Claim7 := { stood := { row := factorCountsRow, standIns := [], harness := (true, "1fd7b1f248cd51803c495e097387c9023d50cbb1a006ac94b764ad57d733b6ab"), looks := false }, kinds := [], alts := [], laidByText := true, laidKinds := [.data], laidTests := true, laidLooks := .later }
def FactorCountsCardSaid : Prop := Claim7.holds Tryd.pinned (.plain (OpenSpec.ofChange factorCountsSpec)) factorCountsCard

/-- THE SECOND FORM's CARD OF 'palinodelaw12.FactorTells'. -/
def factorTellsUptoCard : Claim7 := { stood := { row := factorTellsUptoRow, standIns := [], harness := (true, "1fd7b1f248cd51803c495e097387c9023d50cbb1a006ac94b764ad57d733b6ab"), looks := false }, kinds := [], alts := [], laidByText := true, laidKinds := [.data], laidTests := true, laidLooks := .later }
def FactorTellsUptoCardSaid : Prop := Claim7.holds Tryd.pinned (.plain (OpenSpec.upto factorTellsSpec)) factorTellsUptoCard

/-- THE SECOND FORM's CARD OF 'palinodelaw12.FactorJoins'. -/
def factorJoinsUptoCard : Claim7 := { stood := { row := factorJoinsUptoRow, standIns := [], harness := (true, "1fd7b1f248cd51803c495e097387c9023d50cbb1a006ac94b764ad57d733b6ab"), looks := false }, kinds := [], alts := [], laidByText := true, laidKinds := [.data], laidTests := true, laidLooks := .later }
def FactorJoinsUptoCardSaid : Prop := Claim7.holds Tryd.pinned (.plain (OpenSpec.upto factorJoinsSpec)) factorJoinsUptoCard

/-- THE SECOND FORM's CARD OF 'palinodelaw12.FactorBack'. -/
def factorBackUptoCard : Claim7 := { stood := { row := factorBackUptoRow, standIns := [], harness := (true, "1fd7b1f248cd51803c495e097387c9023d50cbb1a006ac94b764ad57d733b6ab"), looks := false }, kinds := [], alts := [], laidByText := true, laidKinds := [.data], laidTests := true, laidLooks := .later }
def FactorBackUptoCardSaid : Prop := Claim7.holds Tryd.pinned (.plain (OpenSpec.upto factorBackSpec)) factorBackUptoCard

/-- THE SECOND FORM's CARD OF 'palinodelaw12.FactorPlain'. -/
def factorPlainUptoCard : Claim7 := { stood := { row := factorPlainUptoRow, standIns := [], harness := (true, "1fd7b1f248cd51803c495e097387c9023d50cbb1a006ac94b764ad57d733b6ab"), looks := false }, kinds := [], alts := [], laidByText := true, laidKinds := [.data], laidTests := true, laidLooks := .later }
def FactorPlainUptoCardSaid : Prop := Claim7.holds Tryd.pinned (.plain (OpenSpec.upto factorPlainSpec)) factorPlainUptoCard

/-- THE SECOND FORM's CARD OF 'palinodelaw12.FactorCounts'. -/
def factorCountsUptoCard : Claim7 := { stood := { row := factorCountsUptoRow, standIns := [], harness := (true, "1fd7b1f248cd51803c495e097387c9023d50cbb1a006ac94b764ad57d733b6ab"), looks := false }, kinds := [], alts := [], laidByText := true, laidKinds := [.data], laidTests := true, laidLooks := .later }
def FactorCountsUptoCardSaid : Prop := Claim7.holds Tryd.pinned (.plain (OpenSpec.upto factorCountsSpec)) factorCountsUptoCard
end Rows
end Go.Proofs.YtalolaajcmndeaaDoor
