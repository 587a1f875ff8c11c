/- Scripts: calls that lie in memory, three numbers each. Of no function; no conditions. -/
import Derived.Test.YthiicngnhnglfaaK
namespace Go.Proofs.Ythiicngnhnglfaa
open Go.RowKit

/-- A call of a script: its kind, the CPU, the frame. -/
structure Cl where
  kd : Int
  c : Int
  f : Int
def noCl : Cl := ⟨0, 0, 0⟩
/-- Its numbers are an int's. -/
def Cl.fit (o : Cl) : Prop := (-9223372036854775808 ≤ o.c ∧ o.c ≤ 9223372036854775807) ∧ (-9223372036854775808 ≤ o.f ∧ o.f ≤ 9223372036854775807)
/-- A slice that reads as a script. -/
def Script (w : World) (q : Option Addr) (l : List Cl) : Prop :=
  l ≠ [] → ∃ b off, q = some ⟨b, off, none⟩ ∧ b < w.heap.size ∧ ∀ i, i < l.length → (l.getD i noCl).fit ∧ w.cell? ⟨b, off + i * 3, none⟩ = some (.int .i64 (l.getD i noCl).kd) ∧ w.cell? ⟨b, off + i * 3 + 1, none⟩ = some (.int .i64 (l.getD i noCl).c) ∧ w.cell? ⟨b, off + i * 3 + 2, none⟩ = some (.int .i64 (l.getD i noCl).f)
end Go.Proofs.Ythiicngnhnglfaa
