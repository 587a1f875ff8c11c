/-
  DERIVED. GIVEN WITH THE SEED: THE CARDS: each row of YtpfmmlbakbhklaaGreatDoorRows.lean that lists a variable, with what it lists TIED to the program's text (the seventh form; the later family's looks); each row that meets fmt, with fmt's text TOLD by the authors' own Lean function (tested against real Go, not proved from fmt's source: count such statements apart). THE CARD IS WHAT COUNTS. Prove the row's statement (the work); the ties are given (YtpfmmlbakbhklaaGreatDoorTie.lean); close each card by the builder's one call (the guide's Derived/Test/ToyasCard.lean, 'card_holds'). Laid BY PROGRAM, IN A SANDBOX (cutbox-door.mjs). By AI agents, Wed Nov 11 2026. No macro, syntax, notation, axiom, sorry.
-/
import Derived.Test.YtpfmmlbakbhklaaGreatDoorRows
import GoSem.ClaimSeven
namespace Go.Proofs.YtpfmmlbakbhklaaGreatDoor
namespace Rows

/-- THE TIED CARD OF 'matryoshkalaw13.NptPlays'. -/
def nptPlaysCard : Claim7 := { stood := { row := nptPlaysRow, standIns := [], harness := (true, "01d919b89e1d8b75cf064ff029311a12fc803a16212a52ec3a3cc5753345bb76"), looks := false }, kinds := [], alts := [], laidByText := true, laidKinds := [.data], laidTests := true, laidLooks := .later }
def NptPlaysCardSaid : Prop := Claim7.holds Tryz.pinned (.plain (OpenSpec.ofChange nptPlaysSpec)) nptPlaysCard

/-- THE TIED CARD OF 'matryoshkalaw13.NptModel'. -/
def nptModelCard : Claim7 := { stood := { row := nptModelRow, standIns := [], harness := (true, "01d919b89e1d8b75cf064ff029311a12fc803a16212a52ec3a3cc5753345bb76"), looks := false }, kinds := [], alts := [], laidByText := true, laidKinds := [.data], laidTests := true, laidLooks := .later }
def NptModelCardSaid : Prop := Claim7.holds Tryz.pinned (.plain (OpenSpec.ofChange nptModelSpec)) nptModelCard

/-- THE TIED CARD OF 'matryoshkalaw13.NptFails'. -/
def nptFailsCard : Claim7 := { stood := { row := nptFailsRow, standIns := [], harness := (true, "01d919b89e1d8b75cf064ff029311a12fc803a16212a52ec3a3cc5753345bb76"), looks := false }, kinds := [], alts := [], laidByText := true, laidKinds := [.data], laidTests := true, laidLooks := .later }
def NptFailsCardSaid : Prop := Claim7.holds Tryz.pinned (.plain (OpenSpec.ofChange nptFailsSpec)) nptFailsCard

/-- THE TIED CARD OF 'matryoshkalaw13.NptEnds'. -/
def nptEndsCard : Claim7 := { stood := { row := nptEndsRow, standIns := [], harness := (true, "01d919b89e1d8b75cf064ff029311a12fc803a16212a52ec3a3cc5753345bb76"), looks := false }, kinds := [], alts := [], laidByText := true, laidKinds := [.data], laidTests := true, laidLooks := .later }
def NptEndsCardSaid : Prop := Claim7.holds Tryz.pinned (.plain (OpenSpec.ofChange nptEndsSpec)) nptEndsCard

/-- THE TIED CARD OF 'matryoshkalaw13.NptNil'. -/
def nptNilCard : Claim7 := { stood := { row := nptNilRow, standIns := [], harness := (true, "01d919b89e1d8b75cf064ff029311a12fc803a16212a52ec3a3cc5753345bb76"), looks := false }, kinds := [], alts := [], laidByText := true, laidKinds := [.data], laidTests := true, laidLooks := .later }
def NptNilCardSaid : Prop := Claim7.holds Tryz.pinned (.plain (OpenSpec.ofChange nptNilSpec)) nptNilCard

/-- THE TIED CARD OF 'matryoshkalaw13.NptLarge'. -/
def nptLargeCard : Claim7 := { stood := { row := nptLargeRow, standIns := [], harness := (true, "01d919b89e1d8b75cf064ff029311a12fc803a16212a52ec3a3cc5753345bb76"), looks := false }, kinds := [], alts := [], laidByText := true, laidKinds := [.data], laidTests := true, laidLooks := .later }
def NptLargeCardSaid : Prop := Claim7.holds Tryz.pinned (.plain (OpenSpec.ofChange nptLargeSpec)) nptLargeCard

/-- THE TIED CARD OF 'matryoshkalaw13.NptTwo'. -/
def nptTwoCard : Claim7 := { stood := { row := nptTwoRow, standIns := [], harness := (true, "01d919b89e1d8b75cf064ff029311a12fc803a16212a52ec3a3cc5753345bb76"), looks := false }, kinds := [], alts := [], laidByText := true, laidKinds := [.data], laidTests := true, laidLooks := .later }
def NptTwoCardSaid : Prop := Claim7.holds Tryz.pinned (.plain (OpenSpec.ofChange nptTwoSpec)) nptTwoCard

/-- THE SECOND FORM's CARD OF 'matryoshkalaw13.NptPlays'. -/
def nptPlaysUptoCard : Claim7 := { stood := { row := nptPlaysUptoRow, standIns := [], harness := (true, "01d919b89e1d8b75cf064ff029311a12fc803a16212a52ec3a3cc5753345bb76"), looks := false }, kinds := [], alts := [], laidByText := true, laidKinds := [.data], laidTests := true, laidLooks := .later }
def NptPlaysUptoCardSaid : Prop := Claim7.holds Tryz.pinned (.plain (OpenSpec.upto nptPlaysSpec)) nptPlaysUptoCard

/-- THE SECOND FORM's CARD OF 'matryoshkalaw13.NptModel'. -/
def nptModelUptoCard : Claim7 := { stood := { row := nptModelUptoRow, standIns := [], harness := (true, "01d919b89e1d8b75cf064ff029311a12fc803a16212a52ec3a3cc5753345bb76"), looks := false }, kinds := [], alts := [], laidByText := true, laidKinds := [.data], laidTests := true, laidLooks := .later }
def NptModelUptoCardSaid : Prop := Claim7.holds Tryz.pinned (.plain (OpenSpec.upto nptModelSpec)) nptModelUptoCard

/-- THE SECOND FORM's CARD OF 'matryoshkalaw13.NptFails'. -/
def nptFailsUptoCard : Claim7 := { stood := { row := nptFailsUptoRow, standIns := [], harness := (true, "01d919b89e1d8b75cf064ff029311a12fc803a16212a52ec3a3cc5753345bb76"), looks := false }, kinds := [], alts := [], laidByText := true, laidKinds := [.data], laidTests := true, laidLooks := .later }
def NptFailsUptoCardSaid : Prop := Claim7.holds Tryz.pinned (.plain (OpenSpec.upto nptFailsSpec)) nptFailsUptoCard

/-- THE SECOND FORM's CARD OF 'matryoshkalaw13.NptEnds'. -/
def nptEndsUptoCard : Claim7 := { stood := { row := nptEndsUptoRow, standIns := [], harness := (true, "01d919b89e1d8b75cf064ff029311a12fc803a16212a52ec3a3cc5753345bb76"), looks := false }, kinds := [], alts := [], laidByText := true, laidKinds := [.data], laidTests := true, laidLooks := .later }
def NptEndsUptoCardSaid : Prop := Claim7.holds Tryz.pinned (.plain (OpenSpec.upto nptEndsSpec)) nptEndsUptoCard

/-- THE SECOND FORM's CARD OF 'matryoshkalaw13.NptNil'. -/
def nptNilUptoCard : Claim7 := { stood := { row := nptNilUptoRow, standIns := [], harness := (true, "01d919b89e1d8b75cf064ff029311a12fc803a16212a52ec3a3cc5753345bb76"), looks := false }, kinds := [], alts := [], laidByText := true, laidKinds := [.data], laidTests := true, laidLooks := .later }
def NptNilUptoCardSaid : Prop := Claim7.holds Tryz.pinned (.plain (OpenSpec.upto nptNilSpec)) nptNilUptoCard

/-- THE SECOND FORM's CARD OF 'matryoshkalaw13.NptLarge'. -/
def nptLargeUptoCard : Claim7 := { stood := { row := nptLargeUptoRow, standIns := [], harness := (true, "01d919b89e1d8b75cf064ff029311a12fc803a16212a52ec3a3cc5753345bb76"), looks := false }, kinds := [], alts := [], laidByText := true, laidKinds := [.data], laidTests := true, laidLooks := .later }
def NptLargeUptoCardSaid : Prop := Claim7.holds Tryz.pinned (.plain (OpenSpec.upto nptLargeSpec)) nptLargeUptoCard

/-- THE SECOND FORM's CARD OF 'matryoshkalaw13.NptTwo'. -/
def nptTwoUptoCard : Claim7 := { stood := { row := nptTwoUptoRow, standIns := [], harness := (true, "01d919b89e1d8b75cf064ff029311a12fc803a16212a52ec3a3cc5753345bb76"), looks := false }, kinds := [], alts := [], laidByText := true, laidKinds := [.data], laidTests := true, laidLooks := .later }
def NptTwoUptoCardSaid : Prop := Claim7.holds Tryz.pinned (.plain (OpenSpec.upto nptTwoSpec)) nptTwoUptoCard
end Rows
end Go.Proofs.YtpfmmlbakbhklaaGreatDoor
