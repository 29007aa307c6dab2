/-
  DERIVED. GIVEN WITH THE SEED: THE CARDS: each row of YtelpinngimohoaaDoorRows.lean that lists a variable, with what it lists TIED to the program's text (the seventh form; the later family's looks); each row that meets fmt, with fmt's text TOLD by the authors' own Lean function (tested against real Go, not proved from fmt's source: count such statements apart). THE CARD IS WHAT COUNTS. Prove the row's statement (the work); the ties are given (YtelpinngimohoaaDoorTie.lean); close each card by the builder's one call (the guide's Derived/Test/ToyasCard.lean, 'card_holds'). Laid BY PROGRAM, IN A SANDBOX (cutbox-door.mjs). By AI agents, Wed Nov 11 2026. No macro, syntax, notation, axiom, sorry.
-/
import Derived.Test.YtelpinngimohoaaDoorRows
import GoSem.ClaimSeven
namespace Go.Proofs.YtelpinngimohoaaDoor
namespace Rows

/-- THE TIED CARD OF 'palinodelaw14.OffsetTells'. -/
def offsetTellsCard : Claim7 := { stood := { row := offsetTellsRow, standIns := [], harness := (true, "ae5d1912302b65a840e0d6dfd5a5f913e42b83bd896eb8f70836b0d24634c0a9"), looks := false }, kinds := [], alts := [], laidByText := true, laidKinds := [.data], laidTests := true, laidLooks := .later }
def OffsetTellsCardSaid : Prop := Claim7.holds Tryd.pinned (.plain (OpenSpec.ofChange offsetTellsSpec)) offsetTellsCard

/-- THE TIED CARD OF 'palinodelaw14.OffsetOrder'. -/
def offsetOrderCard : Claim7 := { stood := { row := offsetOrderRow, standIns := [], harness := (true, "ae5d1912302b65a840e0d6dfd5a5f913e42b83bd896eb8f70836b0d24634c0a9"), looks := false }, kinds := [], alts := [], laidByText := true, laidKinds := [.data], laidTests := true, laidLooks := .later }
def OffsetOrderCardSaid : Prop := Claim7.holds Tryd.pinned (.plain (OpenSpec.ofChange offsetOrderSpec)) offsetOrderCard

/-- THE TIED CARD OF 'palinodelaw14.OffsetMarks'. -/
def offsetMarksCard : Claim7 := { stood := { row := offsetMarksRow, standIns := [], harness := (true, "ae5d1912302b65a840e0d6dfd5a5f913e42b83bd896eb8f70836b0d24634c0a9"), looks := false }, kinds := [], alts := [], laidByText := true, laidKinds := [.data], laidTests := true, laidLooks := .later }
def OffsetMarksCardSaid : Prop := Claim7.holds Tryd.pinned (.plain (OpenSpec.ofChange offsetMarksSpec)) offsetMarksCard

/-- THE TIED CARD OF 'palinodelaw14.OffsetTwice'. -/
def offsetTwiceCard : Claim7 := { stood := { row := offsetTwiceRow, standIns := [], harness := (true, "ae5d1912302b65a840e0d6dfd5a5f913e42b83bd896eb8f70836b0d24634c0a9"), looks := false }, kinds := [], alts := [], laidByText := true, laidKinds := [.data], laidTests := true, laidLooks := .later }
def OffsetTwiceCardSaid : Prop := Claim7.holds Tryd.pinned (.plain (OpenSpec.ofChange offsetTwiceSpec)) offsetTwiceCard

/-- THE TIED CARD OF 'palinodelaw14.OffsetPlain'. -/
def offsetPlainCard : Claim7 := { stood := { row := offsetPlainRow, standIns := [], harness := (true, "ae5d1912302b65a840e0d6dfd5a5f913e42b83bd896eb8f70836b0d24634c0a9"), looks := false }, kinds := [], alts := [], laidByText := true, laidKinds := [.data], laidTests := true, laidLooks := .later }
def OffsetPlainCardSaid : Prop := Claim7.holds Tryd.pinned (.plain (OpenSpec.ofChange offsetPlainSpec)) offsetPlainCard

/-- THE SECOND FORM's CARD OF 'palinodelaw14.OffsetTells'. -/
def offsetTellsUptoCard : Claim7 := { stood := { row := offsetTellsUptoRow, standIns := [], harness := (true, "ae5d1912302b65a840e0d6dfd5a5f913e42b83bd896eb8f70836b0d24634c0a9"), looks := false }, kinds := [], alts := [], laidByText := true, laidKinds := [.data], laidTests := true, laidLooks := .later }
def OffsetTellsUptoCardSaid : Prop := Claim7.holds Tryd.pinned (.plain (OpenSpec.upto offsetTellsSpec)) offsetTellsUptoCard

/-- THE SECOND FORM's CARD OF 'palinodelaw14.OffsetOrder'. -/
def offsetOrderUptoCard : Claim7 := { stood := { row := offsetOrderUptoRow, standIns := [], harness := (true, "ae5d1912302b65a840e0d6dfd5a5f913e42b83bd896eb8f70836b0d24634c0a9"), looks := false }, kinds := [], alts := [], laidByText := true, laidKinds := [.data], laidTests := true, laidLooks := .later }
def OffsetOrderUptoCardSaid : Prop := Claim7.holds Tryd.pinned (.plain (OpenSpec.upto offsetOrderSpec)) offsetOrderUptoCard

/-- THE SECOND FORM's CARD OF 'palinodelaw14.OffsetMarks'. -/
def offsetMarksUptoCard : Claim7 := { stood := { row := offsetMarksUptoRow, standIns := [], harness := (true, "ae5d1912302b65a840e0d6dfd5a5f913e42b83bd896eb8f70836b0d24634c0a9"), looks := false }, kinds := [], alts := [], laidByText := true, laidKinds := [.data], laidTests := true, laidLooks := .later }
def OffsetMarksUptoCardSaid : Prop := Claim7.holds Tryd.pinned (.plain (OpenSpec.upto offsetMarksSpec)) offsetMarksUptoCard

/-- THE SECOND FORM's CARD OF 'palinodelaw14.OffsetTwice'. -/
def offsetTwiceUptoCard : Claim7 := { stood := { row := offsetTwiceUptoRow, standIns := [], harness := (true, "ae5d1912302b65a840e0d6dfd5a5f913e42b83bd896eb8f70836b0d24634c0a9"), looks := false }, kinds := [], alts := [], laidByText := true, laidKinds := [.data], laidTests := true, laidLooks := .later }
def OffsetTwiceUptoCardSaid : Prop := Claim7.holds Tryd.pinned (.plain (OpenSpec.upto offsetTwiceSpec)) offsetTwiceUptoCard

/-- THE SECOND FORM's CARD OF 'palinodelaw14.OffsetPlain'. -/
def offsetPlainUptoCard : Claim7 := { stood := { row := offsetPlainUptoRow, standIns := [], harness := (true, "ae5d1912302b65a840e0d6dfd5a5f913e42b83bd896eb8f70836b0d24634c0a9"), looks := false }, kinds := [], alts := [], laidByText := true, laidKinds := [.data], laidTests := true, laidLooks := .later }
def OffsetPlainUptoCardSaid : Prop := Claim7.holds Tryd.pinned (.plain (OpenSpec.upto offsetPlainSpec)) offsetPlainUptoCard
end Rows
end Go.Proofs.YtelpinngimohoaaDoor
