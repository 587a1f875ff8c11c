/-
  DERIVED. GIVEN WITH THE SEED: THE CARDS: each row of YtacifhfkadnklaaDoorRows.lean that lists a variable, with what it lists TIED to the program's text (the seventh form; the later family's looks); each row that meets fmt, with fmt's text TOLD by the authors' own Lean function (tested against real Go, not proved from fmt's source: count such statements apart). THE CARD IS WHAT COUNTS. Prove the row's statement (the work); the ties are given (YtacifhfkadnklaaDoorTie.lean); close each card by the builder's one call (the guide's Derived/Test/ToyasCard.lean, 'card_holds'). Laid BY PROGRAM, IN A SANDBOX (cutbox-door.mjs). By AI agents, Wed Nov 11 2026. No macro, syntax, notation, axiom, sorry.
-/
import Derived.Test.YtacifhfkadnklaaDoorRows
import GoSem.ClaimSeven
namespace Go.Proofs.YtacifhfkadnklaaDoor
namespace Rows

/-- THE TIED CARD OF 'matryoshkalaw08.DescTells'. -/
def descTellsCard : Claim7 := { stood := { row := descTellsRow, standIns := [], harness := (true, "74baa66a74c03fd4b9203066f84d648b389166d7c310e23ac9bbde8f7ed4a12c"), looks := false }, kinds := [], alts := [], laidByText := true, laidKinds := [.data, .data], laidTests := true, laidLooks := .later }
def DescTellsCardSaid : Prop := Claim7.holds Tryd.pinned (.plain (OpenSpec.ofChange descTellsSpec)) descTellsCard

/-- THE TIED CARD OF 'matryoshkalaw08.DescChanges'. -/
def descChangesCard : Claim7 := { stood := { row := descChangesRow, standIns := [], harness := (true, "74baa66a74c03fd4b9203066f84d648b389166d7c310e23ac9bbde8f7ed4a12c"), looks := false }, kinds := [], alts := [], laidByText := true, laidKinds := [.data, .data], laidTests := true, laidLooks := .later }
def DescChangesCardSaid : Prop := Claim7.holds Tryd.pinned (.plain (OpenSpec.ofChange descChangesSpec)) descChangesCard

/-- THE TIED CARD OF 'matryoshkalaw08.DescBack'. -/
def descBackCard : Claim7 := { stood := { row := descBackRow, standIns := [], harness := (true, "74baa66a74c03fd4b9203066f84d648b389166d7c310e23ac9bbde8f7ed4a12c"), looks := false }, kinds := [], alts := [], laidByText := true, laidKinds := [.data, .data], laidTests := true, laidLooks := .later }
def DescBackCardSaid : Prop := Claim7.holds Tryd.pinned (.plain (OpenSpec.ofChange descBackSpec)) descBackCard

/-- THE TIED CARD OF 'matryoshkalaw08.DescKeeps'. -/
def descKeepsCard : Claim7 := { stood := { row := descKeepsRow, standIns := [], harness := (true, "74baa66a74c03fd4b9203066f84d648b389166d7c310e23ac9bbde8f7ed4a12c"), looks := false }, kinds := [], alts := [], laidByText := true, laidKinds := [.data, .data], laidTests := true, laidLooks := .later }
def DescKeepsCardSaid : Prop := Claim7.holds Tryd.pinned (.plain (OpenSpec.ofChange descKeepsSpec)) descKeepsCard

/-- THE TIED CARD OF 'matryoshkalaw08.DescRounds'. -/
def descRoundsCard : Claim7 := { stood := { row := descRoundsRow, standIns := [], harness := (true, "74baa66a74c03fd4b9203066f84d648b389166d7c310e23ac9bbde8f7ed4a12c"), looks := false }, kinds := [], alts := [], laidByText := true, laidKinds := [.data, .data], laidTests := true, laidLooks := .later }
def DescRoundsCardSaid : Prop := Claim7.holds Tryd.pinned (.plain (OpenSpec.ofChange descRoundsSpec)) descRoundsCard

/-- THE SECOND FORM's CARD OF 'matryoshkalaw08.DescTells'. -/
def descTellsUptoCard : Claim7 := { stood := { row := descTellsUptoRow, standIns := [], harness := (true, "74baa66a74c03fd4b9203066f84d648b389166d7c310e23ac9bbde8f7ed4a12c"), looks := false }, kinds := [], alts := [], laidByText := true, laidKinds := [.data, .data], laidTests := true, laidLooks := .later }
def DescTellsUptoCardSaid : Prop := Claim7.holds Tryd.pinned (.plain (OpenSpec.upto descTellsSpec)) descTellsUptoCard

/-- THE SECOND FORM's CARD OF 'matryoshkalaw08.DescChanges'. -/
def descChangesUptoCard : Claim7 := { stood := { row := descChangesUptoRow, standIns := [], harness := (true, "74baa66a74c03fd4b9203066f84d648b389166d7c310e23ac9bbde8f7ed4a12c"), looks := false }, kinds := [], alts := [], laidByText := true, laidKinds := [.data, .data], laidTests := true, laidLooks := .later }
def DescChangesUptoCardSaid : Prop := Claim7.holds Tryd.pinned (.plain (OpenSpec.upto descChangesSpec)) descChangesUptoCard

/-- THE SECOND FORM's CARD OF 'matryoshkalaw08.DescBack'. -/
def descBackUptoCard : Claim7 := { stood := { row := descBackUptoRow, standIns := [], harness := (true, "74baa66a74c03fd4b9203066f84d648b389166d7c310e23ac9bbde8f7ed4a12c"), looks := false }, kinds := [], alts := [], laidByText := true, laidKinds := [.data, .data], laidTests := true, laidLooks := .later }
def DescBackUptoCardSaid : Prop := Claim7.holds Tryd.pinned (.plain (OpenSpec.upto descBackSpec)) descBackUptoCard

/-- THE SECOND FORM's CARD OF 'matryoshkalaw08.DescKeeps'. -/
def descKeepsUptoCard : Claim7 := { stood := { row := descKeepsUptoRow, standIns := [], harness := (true, "74baa66a74c03fd4b9203066f84d648b389166d7c310e23ac9bbde8f7ed4a12c"), looks := false }, kinds := [], alts := [], laidByText := true, laidKinds := [.data, .data], laidTests := true, laidLooks := .later }
def DescKeepsUptoCardSaid : Prop := Claim7.holds Tryd.pinned (.plain (OpenSpec.upto descKeepsSpec)) descKeepsUptoCard

/-- THE SECOND FORM's CARD OF 'matryoshkalaw08.DescRounds'. -/
def descRoundsUptoCard : Claim7 := { stood := { row := descRoundsUptoRow, standIns := [], harness := (true, "74baa66a74c03fd4b9203066f84d648b389166d7c310e23ac9bbde8f7ed4a12c"), looks := false }, kinds := [], alts := [], laidByText := true, laidKinds := [.data, .data], laidTests := true, laidLooks := .later }
def DescRoundsUptoCardSaid : Prop := Claim7.holds Tryd.pinned (.plain (OpenSpec.upto descRoundsSpec)) descRoundsUptoCard
end Rows
end Go.Proofs.YtacifhfkadnklaaDoor
