/-
  DERIVED. GIVEN WITH THE SEED: THE CARDS: each row of YthhilppeeffheaaDoorRows.lean that lists a variable, with what it lists TIED to the program's text (the seventh form; the later family's looks); each row that meets fmt, with fmt's text TOLD by the authors' own Lean function (tested against real Go, not proved from fmt's source: count such statements apart). THE CARD IS WHAT COUNTS. Prove the row's statement (the work); the ties are given (YthhilppeeffheaaDoorTie.lean); close each card by the builder's one call (the guide's Derived/Test/ToyasCard.lean, 'card_holds'). Laid BY PROGRAM, IN A SANDBOX (cutbox-door.mjs). By AI agents, Wed Nov 11 2026. No macro, syntax, notation, axiom, sorry.
-/
import Derived.Test.YthhilppeeffheaaDoorRows
import GoSem.ClaimSeven
namespace Go.Proofs.YthhilppeeffheaaDoor
namespace Rows

/-- THE TIED CARD OF 'matryoshkalaw01.FieldTells'. -/
def fieldTellsCard : Claim7 := { stood := { row := fieldTellsRow, standIns := [], harness := (true, "3571cbc7f1df05bb1e8ccdba3c16b6a163d7ae944cec2a15855fe08f0a560597"), looks := false }, kinds := [], alts := [], laidByText := true, laidKinds := [.data], laidTests := true, laidLooks := .later }
def FieldTellsCardSaid : Prop := Claim7.holds Tryd.pinned (.plain (OpenSpec.ofChange fieldTellsSpec)) fieldTellsCard

/-- THE TIED CARD OF 'matryoshkalaw01.FieldSplits'. -/
def fieldSplitsCard : Claim7 := { stood := { row := fieldSplitsRow, standIns := [], harness := (true, "3571cbc7f1df05bb1e8ccdba3c16b6a163d7ae944cec2a15855fe08f0a560597"), looks := false }, kinds := [], alts := [], laidByText := true, laidKinds := [.data], laidTests := true, laidLooks := .later }
def FieldSplitsCardSaid : Prop := Claim7.holds Tryd.pinned (.plain (OpenSpec.ofChange fieldSplitsSpec)) fieldSplitsCard

/-- THE TIED CARD OF 'matryoshkalaw01.FieldBack'. -/
def fieldBackCard : Claim7 := { stood := { row := fieldBackRow, standIns := [], harness := (true, "3571cbc7f1df05bb1e8ccdba3c16b6a163d7ae944cec2a15855fe08f0a560597"), looks := false }, kinds := [], alts := [], laidByText := true, laidKinds := [.data], laidTests := true, laidLooks := .later }
def FieldBackCardSaid : Prop := Claim7.holds Tryd.pinned (.plain (OpenSpec.ofChange fieldBackSpec)) fieldBackCard

/-- THE TIED CARD OF 'matryoshkalaw01.FieldPacks'. -/
def fieldPacksCard : Claim7 := { stood := { row := fieldPacksRow, standIns := [], harness := (true, "3571cbc7f1df05bb1e8ccdba3c16b6a163d7ae944cec2a15855fe08f0a560597"), looks := false }, kinds := [], alts := [], laidByText := true, laidKinds := [.data], laidTests := true, laidLooks := .later }
def FieldPacksCardSaid : Prop := Claim7.holds Tryd.pinned (.plain (OpenSpec.ofChange fieldPacksSpec)) fieldPacksCard

/-- THE TIED CARD OF 'matryoshkalaw01.FieldOnes'. -/
def fieldOnesCard : Claim7 := { stood := { row := fieldOnesRow, standIns := [], harness := (true, "3571cbc7f1df05bb1e8ccdba3c16b6a163d7ae944cec2a15855fe08f0a560597"), looks := false }, kinds := [], alts := [], laidByText := true, laidKinds := [.data], laidTests := true, laidLooks := .later }
def FieldOnesCardSaid : Prop := Claim7.holds Tryd.pinned (.plain (OpenSpec.ofChange fieldOnesSpec)) fieldOnesCard

/-- THE TIED CARD OF 'matryoshkalaw01.FieldApart'. -/
def fieldApartCard : Claim7 := { stood := { row := fieldApartRow, standIns := [], harness := (true, "3571cbc7f1df05bb1e8ccdba3c16b6a163d7ae944cec2a15855fe08f0a560597"), looks := false }, kinds := [], alts := [], laidByText := true, laidKinds := [.data], laidTests := true, laidLooks := .later }
def FieldApartCardSaid : Prop := Claim7.holds Tryd.pinned (.plain (OpenSpec.ofChange fieldApartSpec)) fieldApartCard

/-- THE TIED CARD OF 'matryoshkalaw01.FieldMasks'. -/
def fieldMasksCard : Claim7 := { stood := { row := fieldMasksRow, standIns := [], harness := (true, "3571cbc7f1df05bb1e8ccdba3c16b6a163d7ae944cec2a15855fe08f0a560597"), looks := false }, kinds := [], alts := [], laidByText := true, laidKinds := [.data], laidTests := true, laidLooks := .later }
def FieldMasksCardSaid : Prop := Claim7.holds Tryd.pinned (.plain (OpenSpec.ofChange fieldMasksSpec)) fieldMasksCard

/-- THE SECOND FORM's CARD OF 'matryoshkalaw01.FieldTells'. -/
def fieldTellsUptoCard : Claim7 := { stood := { row := fieldTellsUptoRow, standIns := [], harness := (true, "3571cbc7f1df05bb1e8ccdba3c16b6a163d7ae944cec2a15855fe08f0a560597"), looks := false }, kinds := [], alts := [], laidByText := true, laidKinds := [.data], laidTests := true, laidLooks := .later }
def FieldTellsUptoCardSaid : Prop := Claim7.holds Tryd.pinned (.plain (OpenSpec.upto fieldTellsSpec)) fieldTellsUptoCard

/-- THE SECOND FORM's CARD OF 'matryoshkalaw01.FieldSplits'. -/
def fieldSplitsUptoCard : Claim7 := { stood := { row := fieldSplitsUptoRow, standIns := [], harness := (true, "3571cbc7f1df05bb1e8ccdba3c16b6a163d7ae944cec2a15855fe08f0a560597"), looks := false }, kinds := [], alts := [], laidByText := true, laidKinds := [.data], laidTests := true, laidLooks := .later }
def FieldSplitsUptoCardSaid : Prop := Claim7.holds Tryd.pinned (.plain (OpenSpec.upto fieldSplitsSpec)) fieldSplitsUptoCard

/-- THE SECOND FORM's CARD OF 'matryoshkalaw01.FieldBack'. -/
def fieldBackUptoCard : Claim7 := { stood := { row := fieldBackUptoRow, standIns := [], harness := (true, "3571cbc7f1df05bb1e8ccdba3c16b6a163d7ae944cec2a15855fe08f0a560597"), looks := false }, kinds := [], alts := [], laidByText := true, laidKinds := [.data], laidTests := true, laidLooks := .later }
def FieldBackUptoCardSaid : Prop := Claim7.holds Tryd.pinned (.plain (OpenSpec.upto fieldBackSpec)) fieldBackUptoCard

/-- THE SECOND FORM's CARD OF 'matryoshkalaw01.FieldPacks'. -/
def fieldPacksUptoCard : Claim7 := { stood := { row := fieldPacksUptoRow, standIns := [], harness := (true, "3571cbc7f1df05bb1e8ccdba3c16b6a163d7ae944cec2a15855fe08f0a560597"), looks := false }, kinds := [], alts := [], laidByText := true, laidKinds := [.data], laidTests := true, laidLooks := .later }
def FieldPacksUptoCardSaid : Prop := Claim7.holds Tryd.pinned (.plain (OpenSpec.upto fieldPacksSpec)) fieldPacksUptoCard

/-- THE SECOND FORM's CARD OF 'matryoshkalaw01.FieldOnes'. -/
def fieldOnesUptoCard : Claim7 := { stood := { row := fieldOnesUptoRow, standIns := [], harness := (true, "3571cbc7f1df05bb1e8ccdba3c16b6a163d7ae944cec2a15855fe08f0a560597"), looks := false }, kinds := [], alts := [], laidByText := true, laidKinds := [.data], laidTests := true, laidLooks := .later }
def FieldOnesUptoCardSaid : Prop := Claim7.holds Tryd.pinned (.plain (OpenSpec.upto fieldOnesSpec)) fieldOnesUptoCard

/-- THE SECOND FORM's CARD OF 'matryoshkalaw01.FieldApart'. -/
def fieldApartUptoCard : Claim7 := { stood := { row := fieldApartUptoRow, standIns := [], harness := (true, "3571cbc7f1df05bb1e8ccdba3c16b6a163d7ae944cec2a15855fe08f0a560597"), looks := false }, kinds := [], alts := [], laidByText := true, laidKinds := [.data], laidTests := true, laidLooks := .later }
def FieldApartUptoCardSaid : Prop := Claim7.holds Tryd.pinned (.plain (OpenSpec.upto fieldApartSpec)) fieldApartUptoCard

/-- THE SECOND FORM's CARD OF 'matryoshkalaw01.FieldMasks'. -/
def fieldMasksUptoCard : Claim7 := { stood := { row := fieldMasksUptoRow, standIns := [], harness := (true, "3571cbc7f1df05bb1e8ccdba3c16b6a163d7ae944cec2a15855fe08f0a560597"), looks := false }, kinds := [], alts := [], laidByText := true, laidKinds := [.data], laidTests := true, laidLooks := .later }
def FieldMasksUptoCardSaid : Prop := Claim7.holds Tryd.pinned (.plain (OpenSpec.upto fieldMasksSpec)) fieldMasksUptoCard
end Rows
end Go.Proofs.YthhilppeeffheaaDoor
