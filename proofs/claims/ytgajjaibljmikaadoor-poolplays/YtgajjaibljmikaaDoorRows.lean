/-
  NARROWER THAN 'FOR EVERY INPUT', by the rows' own cells (each row's printed sentence says how): PoolPlays: laid · PoolParts: laid · PoolLeast: laid · PoolNil: laid · PoolRefs: laid · PoolOwned: laid.
  DERIVED. THE GIVEN ROWS OF THIS SEAT. 6 by the template 'for every input the law returns true; each argument reads behind the call as it read before'; 0 by the template 'total and deterministic' (their statements: YtgajjaibljmikaaDoorTotals.lean).
  GIVEN WITH THE SEED: the statements are not yours to turn. If you find one false, say at which input.
  Laid BY PROGRAM, IN A SANDBOX (cutbox-rows.mjs): the forced cells as the released guide's own fill.sh prints them over the translation 398548aaedb3db43… (all of the seat's roots in one cut). By AI agents, Wed Nov 11 2026. No macro, syntax, notation, axiom, sorry.
-/
import Derived.Test.YtgajjaibljmikaaDoorChecked
import GoSem.Claim
import GoSem.ClaimJoined
import GoSem.ClaimMapViews
import Derived.JoinedTies
import Derived.KernelRfl
namespace Go.Proofs.YtgajjaibljmikaaDoor
/- THE CELL 'sum', in the pinned program and in every row, IS THE sha256 OF THE DUMP (.gsa) THAT YtgajjaibljmikaaDoorProg.lean LOADS. Nothing in Lean hashes anything: it is a label: what it is worth is what the hold of that sum in a sandbox is worth. -/
noncomputable def Tryd.pinned : Pinned := { name := "ytgajjaibljmikaadoor", sum := "398548aaedb3db4399aa6dc4e2aca72086f625acb19997596f5f9934d1a1bf91", checked := Tryd.checked }
namespace Rows
def none {H : Type} : Left H := { results := [], args := [] }

/- WHAT THE LISTED PACKAGE-LEVEL VARIABLES READ AS WHEN THE CALL BEGINS. Each datum BY PROGRAM (the guide's laid-datum.mjs) off the statement by which the dump's own 'gosem.cut.vars' lays the variable. In a bare row this is a premise. The card (YtgajjaibljmikaaDoorCards.lean) ties it to the program's text. -/
def laid_matryoshka_desc_rules {H : Type} : DataW H := .agg [.agg [.lit (.int .i64 0), .lit (.int .i64 0), .lit (.int .i64 0), .lit (.int .i64 0)], .agg [.lit (.int .i64 0), .lit (.int .i64 0), .lit (.int .i64 0), .lit (.int .i64 0)], .agg [.lit (.int .i64 0), .lit (.int .i64 0), .lit (.int .i64 65535), .lit (.int .i64 0)], .agg [.lit (.int .i64 1), .lit (.int .i64 16), .lit (.int .i64 65535), .lit (.int .i64 0)], .agg [.lit (.int .i64 1), .lit (.int .i64 16), .lit (.int .i64 65535), .lit (.int .i64 0)], .agg [.lit (.int .i64 0), .lit (.int .i64 16), .lit (.int .i64 0), .lit (.int .i64 4294967295)]]

/-- 'matryoshkalaw09.PoolPlays': WHATEVER THE INPUT: true; the input reads as it did. -/
def poolPlaysSpec : ChangeSpec := { name := "poolPlays", fn := fun _ => fun
  | [d1, d2] => { results := [.lit (.bool true)], args := [d1, d2] }
  | _ => none }
def poolPlaysRow : OpenClaim := { program := "ytgajjaibljmikaadoor", sum := "398548aaedb3db4399aa6dc4e2aca72086f625acb19997596f5f9934d1a1bf91", func := "matryoshka/matryoshkalaw09.PoolPlays", spec := "poolPlays", unfollowed := true, recurses := true, named := ["matryoshka/desc.rules"], apart := false, laid := [("matryoshka/desc.rules", laid_matryoshka_desc_rules)] }
def PoolPlaysSaid : Prop := poolPlaysRow.holds Tryd.pinned (OpenSpec.ofChange poolPlaysSpec)

/-- ITS FALSE NEIGHBOUR: 'it returns false'. Refute it at one input. -/
def poolPlaysWrong : ChangeSpec := { name := "poolPlays", fn := fun _ => fun
  | [d1, d2] => { results := [.lit (.bool false)], args := [d1, d2] }
  | _ => none }
def PoolPlaysWrongFalsely : Prop := poolPlaysRow.holds Tryd.pinned (OpenSpec.ofChange poolPlaysWrong)

/-- 'matryoshkalaw09.PoolParts': WHATEVER THE INPUT: true; the input reads as it did. -/
def poolPartsSpec : ChangeSpec := { name := "poolParts", fn := fun _ => fun
  | [d] => { results := [.lit (.bool true)], args := [d] }
  | _ => none }
def poolPartsRow : OpenClaim := { program := "ytgajjaibljmikaadoor", sum := "398548aaedb3db4399aa6dc4e2aca72086f625acb19997596f5f9934d1a1bf91", func := "matryoshka/matryoshkalaw09.PoolParts", spec := "poolParts", unfollowed := true, recurses := true, named := ["matryoshka/desc.rules"], apart := false, laid := [("matryoshka/desc.rules", laid_matryoshka_desc_rules)] }
def PoolPartsSaid : Prop := poolPartsRow.holds Tryd.pinned (OpenSpec.ofChange poolPartsSpec)

/-- ITS FALSE NEIGHBOUR: 'it returns false'. Refute it at one input. -/
def poolPartsWrong : ChangeSpec := { name := "poolParts", fn := fun _ => fun
  | [d] => { results := [.lit (.bool false)], args := [d] }
  | _ => none }
def PoolPartsWrongFalsely : Prop := poolPartsRow.holds Tryd.pinned (OpenSpec.ofChange poolPartsWrong)

/-- 'matryoshkalaw09.PoolLeast': WHATEVER THE INPUT: true; the input reads as it did. -/
def poolLeastSpec : ChangeSpec := { name := "poolLeast", fn := fun _ => fun
  | [d1, d2] => { results := [.lit (.bool true)], args := [d1, d2] }
  | _ => none }
def poolLeastRow : OpenClaim := { program := "ytgajjaibljmikaadoor", sum := "398548aaedb3db4399aa6dc4e2aca72086f625acb19997596f5f9934d1a1bf91", func := "matryoshka/matryoshkalaw09.PoolLeast", spec := "poolLeast", unfollowed := true, recurses := true, named := ["matryoshka/desc.rules"], apart := false, laid := [("matryoshka/desc.rules", laid_matryoshka_desc_rules)] }
def PoolLeastSaid : Prop := poolLeastRow.holds Tryd.pinned (OpenSpec.ofChange poolLeastSpec)

/-- ITS FALSE NEIGHBOUR: 'it returns false'. Refute it at one input. -/
def poolLeastWrong : ChangeSpec := { name := "poolLeast", fn := fun _ => fun
  | [d1, d2] => { results := [.lit (.bool false)], args := [d1, d2] }
  | _ => none }
def PoolLeastWrongFalsely : Prop := poolLeastRow.holds Tryd.pinned (OpenSpec.ofChange poolLeastWrong)

/-- 'matryoshkalaw09.PoolNil': WHATEVER THE INPUT: true; the input reads as it did. -/
def poolNilSpec : ChangeSpec := { name := "poolNil", fn := fun _ => fun
  | [d] => { results := [.lit (.bool true)], args := [d] }
  | _ => none }
def poolNilRow : OpenClaim := { program := "ytgajjaibljmikaadoor", sum := "398548aaedb3db4399aa6dc4e2aca72086f625acb19997596f5f9934d1a1bf91", func := "matryoshka/matryoshkalaw09.PoolNil", spec := "poolNil", unfollowed := true, recurses := true, named := ["matryoshka/desc.rules"], apart := false, laid := [("matryoshka/desc.rules", laid_matryoshka_desc_rules)] }
def PoolNilSaid : Prop := poolNilRow.holds Tryd.pinned (OpenSpec.ofChange poolNilSpec)

/-- ITS FALSE NEIGHBOUR: 'it returns false'. Refute it at one input. -/
def poolNilWrong : ChangeSpec := { name := "poolNil", fn := fun _ => fun
  | [d] => { results := [.lit (.bool false)], args := [d] }
  | _ => none }
def PoolNilWrongFalsely : Prop := poolNilRow.holds Tryd.pinned (OpenSpec.ofChange poolNilWrong)

/-- 'matryoshkalaw09.PoolRefs': WHATEVER THE INPUT: true; the input reads as it did. -/
def poolRefsSpec : ChangeSpec := { name := "poolRefs", fn := fun _ => fun
  | [d1, d2] => { results := [.lit (.bool true)], args := [d1, d2] }
  | _ => none }
def poolRefsRow : OpenClaim := { program := "ytgajjaibljmikaadoor", sum := "398548aaedb3db4399aa6dc4e2aca72086f625acb19997596f5f9934d1a1bf91", func := "matryoshka/matryoshkalaw09.PoolRefs", spec := "poolRefs", unfollowed := true, recurses := true, named := ["matryoshka/desc.rules"], apart := false, laid := [("matryoshka/desc.rules", laid_matryoshka_desc_rules)] }
def PoolRefsSaid : Prop := poolRefsRow.holds Tryd.pinned (OpenSpec.ofChange poolRefsSpec)

/-- ITS FALSE NEIGHBOUR: 'it returns false'. Refute it at one input. -/
def poolRefsWrong : ChangeSpec := { name := "poolRefs", fn := fun _ => fun
  | [d1, d2] => { results := [.lit (.bool false)], args := [d1, d2] }
  | _ => none }
def PoolRefsWrongFalsely : Prop := poolRefsRow.holds Tryd.pinned (OpenSpec.ofChange poolRefsWrong)

/-- 'matryoshkalaw09.PoolOwned': WHATEVER THE INPUT: true; the input reads as it did. -/
def poolOwnedSpec : ChangeSpec := { name := "poolOwned", fn := fun _ => fun
  | [d1, d2] => { results := [.lit (.bool true)], args := [d1, d2] }
  | _ => none }
def poolOwnedRow : OpenClaim := { program := "ytgajjaibljmikaadoor", sum := "398548aaedb3db4399aa6dc4e2aca72086f625acb19997596f5f9934d1a1bf91", func := "matryoshka/matryoshkalaw09.PoolOwned", spec := "poolOwned", unfollowed := true, recurses := true, named := ["matryoshka/desc.rules"], apart := false, laid := [("matryoshka/desc.rules", laid_matryoshka_desc_rules)] }
def PoolOwnedSaid : Prop := poolOwnedRow.holds Tryd.pinned (OpenSpec.ofChange poolOwnedSpec)

/-- ITS FALSE NEIGHBOUR: 'it returns false'. Refute it at one input. -/
def poolOwnedWrong : ChangeSpec := { name := "poolOwned", fn := fun _ => fun
  | [d1, d2] => { results := [.lit (.bool false)], args := [d1, d2] }
  | _ => none }
def PoolOwnedWrongFalsely : Prop := poolOwnedRow.holds Tryd.pinned (OpenSpec.ofChange poolOwnedWrong)

/- THE SECOND FORM. 'bulk': how many values and letters a reading holds, each counted each time it is reached (what is shared counts as often as it is met; a slice's spare places count too). A statement '..UptoSaid' is the law's where the arguments, and the package variables that the reading takes, are together of bulk at most 1048576: NARROWER than '..Said'. Prove '..Said' where nothing that the law and all that it calls make is longer than what came in: it says more and counts as full. Else prove '..UptoSaid'. A law counts once. -/
mutual
def uptoBulk {H : Type} : DataW H → Nat
  | .lit (.string bytes) => bytes.length + 1
  | .lit _ => 1
  | .nil => 1
  | .ptr d => uptoBulk d + 1
  | .slice elems spare => uptoBulkAll elems + uptoBulkAll spare + 1
  | .agg parts => uptoBulkAll parts + 1
  | .iface _ d => uptoBulk d + 1
  | .map entries => uptoBulkEntries entries + 1
  | .held _ => 1
def uptoBulkAll {H : Type} : List (DataW H) → Nat
  | [] => 0
  | d :: r => uptoBulk d + uptoBulkAll r
def uptoBulkEntries {H : Type} : List (Lit × DataW H) → Nat
  | [] => 0
  | x :: r => uptoBulkEntry x + uptoBulkEntries r
def uptoBulkEntry {H : Type} : Lit × DataW H → Nat
  | (.string bytes, d) => bytes.length + uptoBulk d + 1
  | (_, d) => uptoBulk d + 1
 end
def uptoSmall : (H : Type) → List (DataW H) → Bool := fun _ ds => decide (uptoBulkAll ds ≤ 1048576)
def OpenSpec.upto (s : _root_.Go.ChangeSpec) : _root_.Go.OpenSpec := { _root_.Go.OpenSpec.ofChange s with cond := some uptoSmall }

/-- 'matryoshkalaw09.PoolPlays', WHERE WHAT IT READS IS OF BULK AT MOST 1048576: true; the input reads as it did. -/
def poolPlaysUptoRow : OpenClaim := { program := "ytgajjaibljmikaadoor", sum := "398548aaedb3db4399aa6dc4e2aca72086f625acb19997596f5f9934d1a1bf91", func := "matryoshka/matryoshkalaw09.PoolPlays", spec := "poolPlays", unfollowed := true, recurses := true, named := ["matryoshka/desc.rules"], apart := false, laid := [("matryoshka/desc.rules", laid_matryoshka_desc_rules)], narrowed := true }
def PoolPlaysUptoSaid : Prop := poolPlaysUptoRow.holds Tryd.pinned (OpenSpec.upto poolPlaysSpec)

/-- 'matryoshkalaw09.PoolParts', WHERE WHAT IT READS IS OF BULK AT MOST 1048576: true; the input reads as it did. -/
def poolPartsUptoRow : OpenClaim := { program := "ytgajjaibljmikaadoor", sum := "398548aaedb3db4399aa6dc4e2aca72086f625acb19997596f5f9934d1a1bf91", func := "matryoshka/matryoshkalaw09.PoolParts", spec := "poolParts", unfollowed := true, recurses := true, named := ["matryoshka/desc.rules"], apart := false, laid := [("matryoshka/desc.rules", laid_matryoshka_desc_rules)], narrowed := true }
def PoolPartsUptoSaid : Prop := poolPartsUptoRow.holds Tryd.pinned (OpenSpec.upto poolPartsSpec)

/-- 'matryoshkalaw09.PoolLeast', WHERE WHAT IT READS IS OF BULK AT MOST 1048576: true; the input reads as it did. -/
def poolLeastUptoRow : OpenClaim := { program := "ytgajjaibljmikaadoor", sum := "398548aaedb3db4399aa6dc4e2aca72086f625acb19997596f5f9934d1a1bf91", func := "matryoshka/matryoshkalaw09.PoolLeast", spec := "poolLeast", unfollowed := true, recurses := true, named := ["matryoshka/desc.rules"], apart := false, laid := [("matryoshka/desc.rules", laid_matryoshka_desc_rules)], narrowed := true }
def PoolLeastUptoSaid : Prop := poolLeastUptoRow.holds Tryd.pinned (OpenSpec.upto poolLeastSpec)

/-- 'matryoshkalaw09.PoolNil', WHERE WHAT IT READS IS OF BULK AT MOST 1048576: true; the input reads as it did. -/
def poolNilUptoRow : OpenClaim := { program := "ytgajjaibljmikaadoor", sum := "398548aaedb3db4399aa6dc4e2aca72086f625acb19997596f5f9934d1a1bf91", func := "matryoshka/matryoshkalaw09.PoolNil", spec := "poolNil", unfollowed := true, recurses := true, named := ["matryoshka/desc.rules"], apart := false, laid := [("matryoshka/desc.rules", laid_matryoshka_desc_rules)], narrowed := true }
def PoolNilUptoSaid : Prop := poolNilUptoRow.holds Tryd.pinned (OpenSpec.upto poolNilSpec)

/-- 'matryoshkalaw09.PoolRefs', WHERE WHAT IT READS IS OF BULK AT MOST 1048576: true; the input reads as it did. -/
def poolRefsUptoRow : OpenClaim := { program := "ytgajjaibljmikaadoor", sum := "398548aaedb3db4399aa6dc4e2aca72086f625acb19997596f5f9934d1a1bf91", func := "matryoshka/matryoshkalaw09.PoolRefs", spec := "poolRefs", unfollowed := true, recurses := true, named := ["matryoshka/desc.rules"], apart := false, laid := [("matryoshka/desc.rules", laid_matryoshka_desc_rules)], narrowed := true }
def PoolRefsUptoSaid : Prop := poolRefsUptoRow.holds Tryd.pinned (OpenSpec.upto poolRefsSpec)

/-- 'matryoshkalaw09.PoolOwned', WHERE WHAT IT READS IS OF BULK AT MOST 1048576: true; the input reads as it did. -/
def poolOwnedUptoRow : OpenClaim := { program := "ytgajjaibljmikaadoor", sum := "398548aaedb3db4399aa6dc4e2aca72086f625acb19997596f5f9934d1a1bf91", func := "matryoshka/matryoshkalaw09.PoolOwned", spec := "poolOwned", unfollowed := true, recurses := true, named := ["matryoshka/desc.rules"], apart := false, laid := [("matryoshka/desc.rules", laid_matryoshka_desc_rules)], narrowed := true }
def PoolOwnedUptoSaid : Prop := poolOwnedUptoRow.holds Tryd.pinned (OpenSpec.upto poolOwnedSpec)

end Rows
end Go.Proofs.YtgajjaibljmikaaDoor
