/-
  NARROWER THAN 'FOR EVERY INPUT', by the rows' own cells (each row's printed sentence says how): DescTells: laid · DescChanges: laid · DescBack: laid · DescKeeps: laid · DescRounds: laid.
  DERIVED. THE GIVEN ROWS OF THIS SEAT. 5 by the template 'for every input the law returns true; each argument reads behind the call as it read before'; 0 by the template 'total and deterministic' (their statements: YtacifhfkadnklaaDoorTotals.lean).
  GIVEN WITH THE SEED: the statements are not yours to turn. If you find one false, say at which input.
  Laid BY PROGRAM, IN A SANDBOX (cutbox-rows.mjs): the forced cells as the released guide's own fill.sh prints them over the translation b20015501aa7599a… (all of the seat's roots in one cut). By AI agents, Wed Nov 11 2026. No macro, syntax, notation, axiom, sorry.
-/
import Derived.Test.YtacifhfkadnklaaDoorChecked
import GoSem.Claim
import GoSem.ClaimJoined
import GoSem.ClaimMapViews
import Derived.JoinedTies
import Derived.KernelRfl
namespace Go.Proofs.YtacifhfkadnklaaDoor
/- THE CELL 'sum', in the pinned program and in every row, IS THE sha256 OF THE DUMP (.gsa) THAT YtacifhfkadnklaaDoorProg.lean LOADS. Nothing in Lean hashes anything: it is a label: what it is worth is what the hold of that sum in a sandbox is worth. -/
noncomputable def Tryd.pinned : Pinned := { name := "ytacifhfkadnklaadoor", sum := "b20015501aa7599a7d03d8c604ec47f123d0b956a5720319f73696ecccf08c0b", checked := Tryd.checked }
namespace Rows
def none {H : Type} : Left H := { results := [], args := [] }

/- WHAT THE LISTED PACKAGE-LEVEL VARIABLES READ AS WHEN THE CALL BEGINS. Each datum BY PROGRAM (the guide's laid-datum.mjs) off the statement by which the dump's own 'gosem.cut.vars' lays the variable. In a bare row this is a premise. The card (YtacifhfkadnklaaDoorCards.lean) ties it to the program's text. -/
def laid_matryoshka_desc_rules {H : Type} : DataW H := .agg [.agg [.lit (.int .i64 0), .lit (.int .i64 0), .lit (.int .i64 0), .lit (.int .i64 0)], .agg [.lit (.int .i64 0), .lit (.int .i64 0), .lit (.int .i64 0), .lit (.int .i64 0)], .agg [.lit (.int .i64 0), .lit (.int .i64 0), .lit (.int .i64 65535), .lit (.int .i64 0)], .agg [.lit (.int .i64 1), .lit (.int .i64 16), .lit (.int .i64 65535), .lit (.int .i64 0)], .agg [.lit (.int .i64 1), .lit (.int .i64 16), .lit (.int .i64 65535), .lit (.int .i64 0)], .agg [.lit (.int .i64 0), .lit (.int .i64 16), .lit (.int .i64 0), .lit (.int .i64 4294967295)]]
def laid_matryoshka_desc_names {H : Type} : DataW H := .agg [.lit (.string [102, 114, 101, 101]), .lit (.string [99, 97, 99, 104, 101, 100]), .lit (.string [109, 111, 110, 105, 116, 111, 114]), .lit (.string [116, 97, 98, 108, 101]), .lit (.string [103, 117, 101, 115, 116]), .lit (.string [114, 101, 116, 105, 114, 101, 100])]

/-- 'matryoshkalaw08.DescTells': WHATEVER THE INPUT: true; the input reads as it did. -/
def descTellsSpec : ChangeSpec := { name := "descTells", fn := fun _ => fun
  | [d1, d2] => { results := [.lit (.bool true)], args := [d1, d2] }
  | _ => none }
def descTellsRow : OpenClaim := { program := "ytacifhfkadnklaadoor", sum := "b20015501aa7599a7d03d8c604ec47f123d0b956a5720319f73696ecccf08c0b", func := "matryoshka/matryoshkalaw08.DescTells", spec := "descTells", named := ["matryoshka/desc.rules", "matryoshka/desc.names"], apart := false, laid := [("matryoshka/desc.rules", laid_matryoshka_desc_rules), ("matryoshka/desc.names", laid_matryoshka_desc_names)] }
def DescTellsSaid : Prop := descTellsRow.holds Tryd.pinned (OpenSpec.ofChange descTellsSpec)

/-- ITS FALSE NEIGHBOUR: 'it returns false'. Refute it at one input. -/
def descTellsWrong : ChangeSpec := { name := "descTells", fn := fun _ => fun
  | [d1, d2] => { results := [.lit (.bool false)], args := [d1, d2] }
  | _ => none }
def DescTellsWrongFalsely : Prop := descTellsRow.holds Tryd.pinned (OpenSpec.ofChange descTellsWrong)

/-- 'matryoshkalaw08.DescChanges': WHATEVER THE INPUT: true; the input reads as it did. -/
def descChangesSpec : ChangeSpec := { name := "descChanges", fn := fun _ => fun
  | [d1, d2, d3] => { results := [.lit (.bool true)], args := [d1, d2, d3] }
  | _ => none }
def descChangesRow : OpenClaim := { program := "ytacifhfkadnklaadoor", sum := "b20015501aa7599a7d03d8c604ec47f123d0b956a5720319f73696ecccf08c0b", func := "matryoshka/matryoshkalaw08.DescChanges", spec := "descChanges", named := ["matryoshka/desc.rules", "matryoshka/desc.names"], apart := false, laid := [("matryoshka/desc.rules", laid_matryoshka_desc_rules), ("matryoshka/desc.names", laid_matryoshka_desc_names)] }
def DescChangesSaid : Prop := descChangesRow.holds Tryd.pinned (OpenSpec.ofChange descChangesSpec)

/-- ITS FALSE NEIGHBOUR: 'it returns false'. Refute it at one input. -/
def descChangesWrong : ChangeSpec := { name := "descChanges", fn := fun _ => fun
  | [d1, d2, d3] => { results := [.lit (.bool false)], args := [d1, d2, d3] }
  | _ => none }
def DescChangesWrongFalsely : Prop := descChangesRow.holds Tryd.pinned (OpenSpec.ofChange descChangesWrong)

/-- 'matryoshkalaw08.DescBack': WHATEVER THE INPUT: true; the input reads as it did. -/
def descBackSpec : ChangeSpec := { name := "descBack", fn := fun _ => fun
  | [d1, d2] => { results := [.lit (.bool true)], args := [d1, d2] }
  | _ => none }
def descBackRow : OpenClaim := { program := "ytacifhfkadnklaadoor", sum := "b20015501aa7599a7d03d8c604ec47f123d0b956a5720319f73696ecccf08c0b", func := "matryoshka/matryoshkalaw08.DescBack", spec := "descBack", named := ["matryoshka/desc.rules", "matryoshka/desc.names"], apart := false, laid := [("matryoshka/desc.rules", laid_matryoshka_desc_rules), ("matryoshka/desc.names", laid_matryoshka_desc_names)] }
def DescBackSaid : Prop := descBackRow.holds Tryd.pinned (OpenSpec.ofChange descBackSpec)

/-- ITS FALSE NEIGHBOUR: 'it returns false'. Refute it at one input. -/
def descBackWrong : ChangeSpec := { name := "descBack", fn := fun _ => fun
  | [d1, d2] => { results := [.lit (.bool false)], args := [d1, d2] }
  | _ => none }
def DescBackWrongFalsely : Prop := descBackRow.holds Tryd.pinned (OpenSpec.ofChange descBackWrong)

/-- 'matryoshkalaw08.DescKeeps': WHATEVER THE INPUT: true; the input reads as it did. -/
def descKeepsSpec : ChangeSpec := { name := "descKeeps", fn := fun _ => fun
  | [d1, d2, d3] => { results := [.lit (.bool true)], args := [d1, d2, d3] }
  | _ => none }
def descKeepsRow : OpenClaim := { program := "ytacifhfkadnklaadoor", sum := "b20015501aa7599a7d03d8c604ec47f123d0b956a5720319f73696ecccf08c0b", func := "matryoshka/matryoshkalaw08.DescKeeps", spec := "descKeeps", named := ["matryoshka/desc.rules", "matryoshka/desc.names"], apart := false, laid := [("matryoshka/desc.rules", laid_matryoshka_desc_rules), ("matryoshka/desc.names", laid_matryoshka_desc_names)] }
def DescKeepsSaid : Prop := descKeepsRow.holds Tryd.pinned (OpenSpec.ofChange descKeepsSpec)

/-- ITS FALSE NEIGHBOUR: 'it returns false'. Refute it at one input. -/
def descKeepsWrong : ChangeSpec := { name := "descKeeps", fn := fun _ => fun
  | [d1, d2, d3] => { results := [.lit (.bool false)], args := [d1, d2, d3] }
  | _ => none }
def DescKeepsWrongFalsely : Prop := descKeepsRow.holds Tryd.pinned (OpenSpec.ofChange descKeepsWrong)

/-- 'matryoshkalaw08.DescRounds': WHATEVER THE INPUT: true; the input reads as it did. -/
def descRoundsSpec : ChangeSpec := { name := "descRounds", fn := fun _ => fun
  | [d1, d2, d3] => { results := [.lit (.bool true)], args := [d1, d2, d3] }
  | _ => none }
def descRoundsRow : OpenClaim := { program := "ytacifhfkadnklaadoor", sum := "b20015501aa7599a7d03d8c604ec47f123d0b956a5720319f73696ecccf08c0b", func := "matryoshka/matryoshkalaw08.DescRounds", spec := "descRounds", named := ["matryoshka/desc.rules", "matryoshka/desc.names"], apart := false, laid := [("matryoshka/desc.rules", laid_matryoshka_desc_rules), ("matryoshka/desc.names", laid_matryoshka_desc_names)] }
def DescRoundsSaid : Prop := descRoundsRow.holds Tryd.pinned (OpenSpec.ofChange descRoundsSpec)

/-- ITS FALSE NEIGHBOUR: 'it returns false'. Refute it at one input. -/
def descRoundsWrong : ChangeSpec := { name := "descRounds", fn := fun _ => fun
  | [d1, d2, d3] => { results := [.lit (.bool false)], args := [d1, d2, d3] }
  | _ => none }
def DescRoundsWrongFalsely : Prop := descRoundsRow.holds Tryd.pinned (OpenSpec.ofChange descRoundsWrong)

/- THE SECOND FORM. 'bulk': how many values and letters a reading holds, each counted each time it is reached (what is shared counts as often as it is met; a slice's spare places count too). A statement '..UptoSaid' is the law's where the arguments, and the package variables that the reading takes, are together of bulk at most 1048576: NARROWER than '..Said'. Prove '..Said' where nothing that the law and all that it calls make is longer than what came in: it says more and counts as full. Else prove '..UptoSaid'. A law counts once. -/
mutual
def uptoBulk {H : Type} : DataW H → Nat
  | .lit (.string bytes) => bytes.length + 1
  | .lit _ => 1
  | .nil => 1
  | .ptr d => uptoBulk d + 1
  | .slice elems spare => uptoBulkAll elems + uptoBulkAll spare + 1
  | .agg parts => uptoBulkAll parts + 1
  | .iface _ d => uptoBulk d + 1
  | .map entries => uptoBulkEntries entries + 1
  | .held _ => 1
def uptoBulkAll {H : Type} : List (DataW H) → Nat
  | [] => 0
  | d :: r => uptoBulk d + uptoBulkAll r
def uptoBulkEntries {H : Type} : List (Lit × DataW H) → Nat
  | [] => 0
  | x :: r => uptoBulkEntry x + uptoBulkEntries r
def uptoBulkEntry {H : Type} : Lit × DataW H → Nat
  | (.string bytes, d) => bytes.length + uptoBulk d + 1
  | (_, d) => uptoBulk d + 1
 end
def uptoSmall : (H : Type) → List (DataW H) → Bool := fun _ ds => decide (uptoBulkAll ds ≤ 1048576)
def OpenSpec.upto (s : _root_.Go.ChangeSpec) : _root_.Go.OpenSpec := { _root_.Go.OpenSpec.ofChange s with cond := some uptoSmall }

/-- 'matryoshkalaw08.DescTells', WHERE WHAT IT READS IS OF BULK AT MOST 1048576: true; the input reads as it did. -/
def descTellsUptoRow : OpenClaim := { program := "ytacifhfkadnklaadoor", sum := "b20015501aa7599a7d03d8c604ec47f123d0b956a5720319f73696ecccf08c0b", func := "matryoshka/matryoshkalaw08.DescTells", spec := "descTells", named := ["matryoshka/desc.rules", "matryoshka/desc.names"], apart := false, laid := [("matryoshka/desc.rules", laid_matryoshka_desc_rules), ("matryoshka/desc.names", laid_matryoshka_desc_names)], narrowed := true }
def DescTellsUptoSaid : Prop := descTellsUptoRow.holds Tryd.pinned (OpenSpec.upto descTellsSpec)

/-- 'matryoshkalaw08.DescChanges', WHERE WHAT IT READS IS OF BULK AT MOST 1048576: true; the input reads as it did. -/
def descChangesUptoRow : OpenClaim := { program := "ytacifhfkadnklaadoor", sum := "b20015501aa7599a7d03d8c604ec47f123d0b956a5720319f73696ecccf08c0b", func := "matryoshka/matryoshkalaw08.DescChanges", spec := "descChanges", named := ["matryoshka/desc.rules", "matryoshka/desc.names"], apart := false, laid := [("matryoshka/desc.rules", laid_matryoshka_desc_rules), ("matryoshka/desc.names", laid_matryoshka_desc_names)], narrowed := true }
def DescChangesUptoSaid : Prop := descChangesUptoRow.holds Tryd.pinned (OpenSpec.upto descChangesSpec)

/-- 'matryoshkalaw08.DescBack', WHERE WHAT IT READS IS OF BULK AT MOST 1048576: true; the input reads as it did. -/
def descBackUptoRow : OpenClaim := { program := "ytacifhfkadnklaadoor", sum := "b20015501aa7599a7d03d8c604ec47f123d0b956a5720319f73696ecccf08c0b", func := "matryoshka/matryoshkalaw08.DescBack", spec := "descBack", named := ["matryoshka/desc.rules", "matryoshka/desc.names"], apart := false, laid := [("matryoshka/desc.rules", laid_matryoshka_desc_rules), ("matryoshka/desc.names", laid_matryoshka_desc_names)], narrowed := true }
def DescBackUptoSaid : Prop := descBackUptoRow.holds Tryd.pinned (OpenSpec.upto descBackSpec)

/-- 'matryoshkalaw08.DescKeeps', WHERE WHAT IT READS IS OF BULK AT MOST 1048576: true; the input reads as it did. -/
def descKeepsUptoRow : OpenClaim := { program := "ytacifhfkadnklaadoor", sum := "b20015501aa7599a7d03d8c604ec47f123d0b956a5720319f73696ecccf08c0b", func := "matryoshka/matryoshkalaw08.DescKeeps", spec := "descKeeps", named := ["matryoshka/desc.rules", "matryoshka/desc.names"], apart := false, laid := [("matryoshka/desc.rules", laid_matryoshka_desc_rules), ("matryoshka/desc.names", laid_matryoshka_desc_names)], narrowed := true }
def DescKeepsUptoSaid : Prop := descKeepsUptoRow.holds Tryd.pinned (OpenSpec.upto descKeepsSpec)

/-- 'matryoshkalaw08.DescRounds', WHERE WHAT IT READS IS OF BULK AT MOST 1048576: true; the input reads as it did. -/
def descRoundsUptoRow : OpenClaim := { program := "ytacifhfkadnklaadoor", sum := "b20015501aa7599a7d03d8c604ec47f123d0b956a5720319f73696ecccf08c0b", func := "matryoshka/matryoshkalaw08.DescRounds", spec := "descRounds", named := ["matryoshka/desc.rules", "matryoshka/desc.names"], apart := false, laid := [("matryoshka/desc.rules", laid_matryoshka_desc_rules), ("matryoshka/desc.names", laid_matryoshka_desc_names)], narrowed := true }
def DescRoundsUptoSaid : Prop := descRoundsUptoRow.holds Tryd.pinned (OpenSpec.upto descRoundsSpec)

end Rows
end Go.Proofs.YtacifhfkadnklaaDoor
