/-
  DERIVED. GIVEN WITH THE SEED: THE CARDS: each row of YtoeopapnegjooaaDoorRows.lean that lists a variable, with what it lists TIED to the program's text (the seventh form; the later family's looks); each row that meets fmt, with fmt's text TOLD by the authors' own Lean function (tested against real Go, not proved from fmt's source: count such statements apart). THE CARD IS WHAT COUNTS. Prove the row's statement (the work); the ties are given (YtoeopapnegjooaaDoorTie.lean); close each card by the builder's one call (the guide's Derived/Test/ToyasCard.lean, 'card_holds'). Laid BY PROGRAM, IN A SANDBOX (cutbox-door.mjs). By AI agents, Wed Nov 11 2026. No macro, syntax, notation, axiom, sorry.
-/
import Derived.Test.YtoeopapnegjooaaDoorRows
import GoSem.ClaimSeven
namespace Go.Proofs.YtoeopapnegjooaaDoor
namespace Rows

/-- THE TIED CARD OF 'matryoshkalaw03.ActDoes'. -/
def actDoesCard : Claim7 := { stood := { row := actDoesRow, standIns := [], harness := (true, "c4919c58b93887917cc7a87bc6282f8d6ed1d2facc01f85698e165b2c1ac30a8"), looks := true }, kinds := [], alts := [], laidByText := true, laidKinds := [.data, .data, .data, .data, .sentinel, .sentinel, .data, .pinned], laidTests := true, laidLooks := .later }
def ActDoesCardSaid : Prop := Claim7.holds Tryd.pinned (.plain (OpenSpec.ofChange actDoesSpec)) actDoesCard

/-- THE TIED CARD OF 'matryoshkalaw03.ActTells'. -/
def actTellsCard : Claim7 := { stood := { row := actTellsRow, standIns := [], harness := (true, "c4919c58b93887917cc7a87bc6282f8d6ed1d2facc01f85698e165b2c1ac30a8"), looks := true }, kinds := [], alts := [], laidByText := true, laidKinds := [.data, .data, .data, .data, .sentinel, .sentinel, .data, .pinned], laidTests := true, laidLooks := .later }
def ActTellsCardSaid : Prop := Claim7.holds Tryd.pinned (.plain (OpenSpec.ofChange actTellsSpec)) actTellsCard

/-- THE TIED CARD OF 'matryoshkalaw03.ActOrder'. -/
def actOrderCard : Claim7 := { stood := { row := actOrderRow, standIns := [], harness := (true, "c4919c58b93887917cc7a87bc6282f8d6ed1d2facc01f85698e165b2c1ac30a8"), looks := true }, kinds := [], alts := [], laidByText := true, laidKinds := [.data, .data, .data, .data, .sentinel, .sentinel, .data, .pinned], laidTests := true, laidLooks := .later }
def ActOrderCardSaid : Prop := Claim7.holds Tryd.pinned (.plain (OpenSpec.ofChange actOrderSpec)) actOrderCard

/-- THE TIED CARD OF 'matryoshkalaw03.ActBack'. -/
def actBackCard : Claim7 := { stood := { row := actBackRow, standIns := [], harness := (true, "c4919c58b93887917cc7a87bc6282f8d6ed1d2facc01f85698e165b2c1ac30a8"), looks := true }, kinds := [], alts := [], laidByText := true, laidKinds := [.data, .data, .data, .data, .sentinel, .sentinel, .data, .pinned], laidTests := true, laidLooks := .later }
def ActBackCardSaid : Prop := Claim7.holds Tryd.pinned (.plain (OpenSpec.ofChange actBackSpec)) actBackCard

/-- THE TIED CARD OF 'matryoshkalaw03.ActCas'. -/
def actCasCard : Claim7 := { stood := { row := actCasRow, standIns := [], harness := (true, "c4919c58b93887917cc7a87bc6282f8d6ed1d2facc01f85698e165b2c1ac30a8"), looks := true }, kinds := [], alts := [], laidByText := true, laidKinds := [.data, .data, .data, .data, .sentinel, .sentinel, .data, .pinned], laidTests := true, laidLooks := .later }
def ActCasCardSaid : Prop := Claim7.holds Tryd.pinned (.plain (OpenSpec.ofChange actCasSpec)) actCasCard

/-- THE TIED CARD OF 'matryoshkalaw03.ActRun'. -/
def actRunCard : Claim7 := { stood := { row := actRunRow, standIns := [], harness := (true, "c4919c58b93887917cc7a87bc6282f8d6ed1d2facc01f85698e165b2c1ac30a8"), looks := true }, kinds := [], alts := [], laidByText := true, laidKinds := [.data, .data, .data, .data, .sentinel, .sentinel, .data, .pinned], laidTests := true, laidLooks := .later }
def ActRunCardSaid : Prop := Claim7.holds Tryd.pinned (.plain (OpenSpec.ofChange actRunSpec)) actRunCard

/-- THE SECOND FORM's CARD OF 'matryoshkalaw03.ActDoes'. -/
def actDoesUptoCard : Claim7 := { stood := { row := actDoesUptoRow, standIns := [], harness := (true, "c4919c58b93887917cc7a87bc6282f8d6ed1d2facc01f85698e165b2c1ac30a8"), looks := true }, kinds := [], alts := [], laidByText := true, laidKinds := [.data, .data, .data, .data, .sentinel, .sentinel, .data, .pinned], laidTests := true, laidLooks := .later }
def ActDoesUptoCardSaid : Prop := Claim7.holds Tryd.pinned (.plain (OpenSpec.upto actDoesSpec)) actDoesUptoCard

/-- THE SECOND FORM's CARD OF 'matryoshkalaw03.ActTells'. -/
def actTellsUptoCard : Claim7 := { stood := { row := actTellsUptoRow, standIns := [], harness := (true, "c4919c58b93887917cc7a87bc6282f8d6ed1d2facc01f85698e165b2c1ac30a8"), looks := true }, kinds := [], alts := [], laidByText := true, laidKinds := [.data, .data, .data, .data, .sentinel, .sentinel, .data, .pinned], laidTests := true, laidLooks := .later }
def ActTellsUptoCardSaid : Prop := Claim7.holds Tryd.pinned (.plain (OpenSpec.upto actTellsSpec)) actTellsUptoCard

/-- THE SECOND FORM's CARD OF 'matryoshkalaw03.ActOrder'. -/
def actOrderUptoCard : Claim7 := { stood := { row := actOrderUptoRow, standIns := [], harness := (true, "c4919c58b93887917cc7a87bc6282f8d6ed1d2facc01f85698e165b2c1ac30a8"), looks := true }, kinds := [], alts := [], laidByText := true, laidKinds := [.data, .data, .data, .data, .sentinel, .sentinel, .data, .pinned], laidTests := true, laidLooks := .later }
def ActOrderUptoCardSaid : Prop := Claim7.holds Tryd.pinned (.plain (OpenSpec.upto actOrderSpec)) actOrderUptoCard

/-- THE SECOND FORM's CARD OF 'matryoshkalaw03.ActBack'. -/
def actBackUptoCard : Claim7 := { stood := { row := actBackUptoRow, standIns := [], harness := (true, "c4919c58b93887917cc7a87bc6282f8d6ed1d2facc01f85698e165b2c1ac30a8"), looks := true }, kinds := [], alts := [], laidByText := true, laidKinds := [.data, .data, .data, .data, .sentinel, .sentinel, .data, .pinned], laidTests := true, laidLooks := .later }
def ActBackUptoCardSaid : Prop := Claim7.holds Tryd.pinned (.plain (OpenSpec.upto actBackSpec)) actBackUptoCard

/-- THE SECOND FORM's CARD OF 'matryoshkalaw03.ActCas'. -/
def actCasUptoCard : Claim7 := { stood := { row := actCasUptoRow, standIns := [], harness := (true, "c4919c58b93887917cc7a87bc6282f8d6ed1d2facc01f85698e165b2c1ac30a8"), looks := true }, kinds := [], alts := [], laidByText := true, laidKinds := [.data, .data, .data, .data, .sentinel, .sentinel, .data, .pinned], laidTests := true, laidLooks := .later }
def ActCasUptoCardSaid : Prop := Claim7.holds Tryd.pinned (.plain (OpenSpec.upto actCasSpec)) actCasUptoCard

/-- THE SECOND FORM's CARD OF 'matryoshkalaw03.ActRun'. -/
def actRunUptoCard : Claim7 := { stood := { row := actRunUptoRow, standIns := [], harness := (true, "c4919c58b93887917cc7a87bc6282f8d6ed1d2facc01f85698e165b2c1ac30a8"), looks := true }, kinds := [], alts := [], laidByText := true, laidKinds := [.data, .data, .data, .data, .sentinel, .sentinel, .data, .pinned], laidTests := true, laidLooks := .later }
def ActRunUptoCardSaid : Prop := Claim7.holds Tryd.pinned (.plain (OpenSpec.upto actRunSpec)) actRunUptoCard
end Rows
end Go.Proofs.YtoeopapnegjooaaDoor
