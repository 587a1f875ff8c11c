/-
  DERIVED. GIVEN WITH THE SEED: THE CARDS: each row of YtgajjaibljmikaaDoorRows.lean that lists a variable, with what it lists TIED to the program's text (the seventh form; the later family's looks); each row that meets fmt, with fmt's text TOLD by the authors' own Lean function (tested against real Go, not proved from fmt's source: count such statements apart). THE CARD IS WHAT COUNTS. Prove the row's statement (the work); the ties are given (YtgajjaibljmikaaDoorTie.lean); close each card by the builder's one call (the guide's Derived/Test/ToyasCard.lean, 'card_holds'). Laid BY PROGRAM, IN A SANDBOX (cutbox-door.mjs). By AI agents, Wed Nov 11 2026. No macro, syntax, notation, axiom, sorry.
-/
import Derived.Test.YtgajjaibljmikaaDoorRows
import GoSem.ClaimSeven
namespace Go.Proofs.YtgajjaibljmikaaDoor
namespace Rows

/-- THE TIED CARD OF 'matryoshkalaw09.PoolPlays'. -/
def poolPlaysCard : Claim7 := { stood := { row := poolPlaysRow, standIns := [], harness := (true, "4c15a354bf3c7b53dcdd772593dcaa7df3032813d998e2526c92fabe4b407bef"), looks := false }, kinds := [], alts := [], laidByText := true, laidKinds := [.data], laidTests := true, laidLooks := .later }
def PoolPlaysCardSaid : Prop := Claim7.holds Tryd.pinned (.plain (OpenSpec.ofChange poolPlaysSpec)) poolPlaysCard

/-- THE TIED CARD OF 'matryoshkalaw09.PoolParts'. -/
def poolPartsCard : Claim7 := { stood := { row := poolPartsRow, standIns := [], harness := (true, "4c15a354bf3c7b53dcdd772593dcaa7df3032813d998e2526c92fabe4b407bef"), looks := false }, kinds := [], alts := [], laidByText := true, laidKinds := [.data], laidTests := true, laidLooks := .later }
def PoolPartsCardSaid : Prop := Claim7.holds Tryd.pinned (.plain (OpenSpec.ofChange poolPartsSpec)) poolPartsCard

/-- THE TIED CARD OF 'matryoshkalaw09.PoolLeast'. -/
def poolLeastCard : Claim7 := { stood := { row := poolLeastRow, standIns := [], harness := (true, "4c15a354bf3c7b53dcdd772593dcaa7df3032813d998e2526c92fabe4b407bef"), looks := false }, kinds := [], alts := [], laidByText := true, laidKinds := [.data], laidTests := true, laidLooks := .later }
def PoolLeastCardSaid : Prop := Claim7.holds Tryd.pinned (.plain (OpenSpec.ofChange poolLeastSpec)) poolLeastCard

/-- THE TIED CARD OF 'matryoshkalaw09.PoolNil'. -/
def poolNilCard : Claim7 := { stood := { row := poolNilRow, standIns := [], harness := (true, "4c15a354bf3c7b53dcdd772593dcaa7df3032813d998e2526c92fabe4b407bef"), looks := false }, kinds := [], alts := [], laidByText := true, laidKinds := [.data], laidTests := true, laidLooks := .later }
def PoolNilCardSaid : Prop := Claim7.holds Tryd.pinned (.plain (OpenSpec.ofChange poolNilSpec)) poolNilCard

/-- THE TIED CARD OF 'matryoshkalaw09.PoolRefs'. -/
def poolRefsCard : Claim7 := { stood := { row := poolRefsRow, standIns := [], harness := (true, "4c15a354bf3c7b53dcdd772593dcaa7df3032813d998e2526c92fabe4b407bef"), looks := false }, kinds := [], alts := [], laidByText := true, laidKinds := [.data], laidTests := true, laidLooks := .later }
def PoolRefsCardSaid : Prop := Claim7.holds Tryd.pinned (.plain (OpenSpec.ofChange poolRefsSpec)) poolRefsCard

/-- THE TIED CARD OF 'matryoshkalaw09.PoolOwned'. -/
def poolOwnedCard : Claim7 := { stood := { row := poolOwnedRow, standIns := [], harness := (true, "4c15a354bf3c7b53dcdd772593dcaa7df3032813d998e2526c92fabe4b407bef"), looks := false }, kinds := [], alts := [], laidByText := true, laidKinds := [.data], laidTests := true, laidLooks := .later }
def PoolOwnedCardSaid : Prop := Claim7.holds Tryd.pinned (.plain (OpenSpec.ofChange poolOwnedSpec)) poolOwnedCard

/-- THE SECOND FORM's CARD OF 'matryoshkalaw09.PoolPlays'. -/
def poolPlaysUptoCard : Claim7 := { stood := { row := poolPlaysUptoRow, standIns := [], harness := (true, "4c15a354bf3c7b53dcdd772593dcaa7df3032813d998e2526c92fabe4b407bef"), looks := false }, kinds := [], alts := [], laidByText := true, laidKinds := [.data], laidTests := true, laidLooks := .later }
def PoolPlaysUptoCardSaid : Prop := Claim7.holds Tryd.pinned (.plain (OpenSpec.upto poolPlaysSpec)) poolPlaysUptoCard

/-- THE SECOND FORM's CARD OF 'matryoshkalaw09.PoolParts'. -/
def poolPartsUptoCard : Claim7 := { stood := { row := poolPartsUptoRow, standIns := [], harness := (true, "4c15a354bf3c7b53dcdd772593dcaa7df3032813d998e2526c92fabe4b407bef"), looks := false }, kinds := [], alts := [], laidByText := true, laidKinds := [.data], laidTests := true, laidLooks := .later }
def PoolPartsUptoCardSaid : Prop := Claim7.holds Tryd.pinned (.plain (OpenSpec.upto poolPartsSpec)) poolPartsUptoCard

/-- THE SECOND FORM's CARD OF 'matryoshkalaw09.PoolLeast'. -/
def poolLeastUptoCard : Claim7 := { stood := { row := poolLeastUptoRow, standIns := [], harness := (true, "4c15a354bf3c7b53dcdd772593dcaa7df3032813d998e2526c92fabe4b407bef"), looks := false }, kinds := [], alts := [], laidByText := true, laidKinds := [.data], laidTests := true, laidLooks := .later }
def PoolLeastUptoCardSaid : Prop := Claim7.holds Tryd.pinned (.plain (OpenSpec.upto poolLeastSpec)) poolLeastUptoCard

/-- THE SECOND FORM's CARD OF 'matryoshkalaw09.PoolNil'. -/
def poolNilUptoCard : Claim7 := { stood := { row := poolNilUptoRow, standIns := [], harness := (true, "4c15a354bf3c7b53dcdd772593dcaa7df3032813d998e2526c92fabe4b407bef"), looks := false }, kinds := [], alts := [], laidByText := true, laidKinds := [.data], laidTests := true, laidLooks := .later }
def PoolNilUptoCardSaid : Prop := Claim7.holds Tryd.pinned (.plain (OpenSpec.upto poolNilSpec)) poolNilUptoCard

/-- THE SECOND FORM's CARD OF 'matryoshkalaw09.PoolRefs'. -/
def poolRefsUptoCard : Claim7 := { stood := { row := poolRefsUptoRow, standIns := [], harness := (true, "4c15a354bf3c7b53dcdd772593dcaa7df3032813d998e2526c92fabe4b407bef"), looks := false }, kinds := [], alts := [], laidByText := true, laidKinds := [.data], laidTests := true, laidLooks := .later }
def PoolRefsUptoCardSaid : Prop := Claim7.holds Tryd.pinned (.plain (OpenSpec.upto poolRefsSpec)) poolRefsUptoCard

/-- THE SECOND FORM's CARD OF 'matryoshkalaw09.PoolOwned'. -/
def poolOwnedUptoCard : Claim7 := { stood := { row := poolOwnedUptoRow, standIns := [], harness := (true, "4c15a354bf3c7b53dcdd772593dcaa7df3032813d998e2526c92fabe4b407bef"), looks := false }, kinds := [], alts := [], laidByText := true, laidKinds := [.data], laidTests := true, laidLooks := .later }
def PoolOwnedUptoCardSaid : Prop := Claim7.holds Tryd.pinned (.plain (OpenSpec.upto poolOwnedSpec)) poolOwnedUptoCard
end Rows
end Go.Proofs.YtgajjaibljmikaaDoor
