/- Scripts: calls that lie in memory, five numbers each. Of no function; no conditions. -/
import Derived.Test.YtgajjaibljmikaaDoorK
namespace Go.Proofs.YtgajjaibljmikaaDoor
open Go.RowKit

/-- A call of a script: its kind, the frame, the kind to which, the owner, by how much. -/
structure Cl where
  kd : Int
  f : Int
  k : Int
  o : Int
  y : Int
def noCl : Cl := ⟨0, 0, 0, 0, 0⟩
/-- A slice that reads as a script. -/
def Script (w : World) (q : Option Addr) (l : List Cl) : Prop :=
  l ≠ [] → ∃ b off, q = some ⟨b, off, none⟩ ∧ b < w.heap.size ∧ ∀ i, i < l.length → w.cell? ⟨b, off + i * 5, none⟩ = some (.int .i64 (l.getD i noCl).kd) ∧ w.cell? ⟨b, off + i * 5 + 1, none⟩ = some (.int .i64 (l.getD i noCl).f) ∧ w.cell? ⟨b, off + i * 5 + 2, none⟩ = some (.int .i64 (l.getD i noCl).k) ∧ w.cell? ⟨b, off + i * 5 + 3, none⟩ = some (.int .i64 (l.getD i noCl).o) ∧ w.cell? ⟨b, off + i * 5 + 4, none⟩ = some (.int .i64 (l.getD i noCl).y)
/-- A slice of small numbers. -/
def PL (W : World) (q : Option Addr) (n : Nat) (f : Nat → Nat) : Prop :=
  n ≤ maxLen ∧ (∀ i, f i < 256) ∧ (n ≠ 0 → ∃ b off, q = some ⟨b, off, none⟩ ∧ b < W.heap.size ∧ ∀ i, i < n → W.cell? ⟨b, off + i, none⟩ = some (.int .u8 (f i : Nat)))
end Go.Proofs.YtgajjaibljmikaaDoor
