/- Slices that read as small numbers, and as bools. Of no function; no conditions. -/
import Derived.Test.YtmglacaikpcjhaaRows
import Derived.ProofKit
namespace Go.Proofs.Ytmglacaikpcjhaa
open Go.RowKit

/-- A slice that reads as numbers of 8 bits. -/
def PL (W : World) (q : Option Addr) (n : Nat) (f : Nat → Nat) : Prop :=
  n ≤ maxLen ∧ (∀ i, f i < 256) ∧ (n ≠ 0 → ∃ b off, q = some ⟨b, off, none⟩ ∧ b < W.heap.size ∧ ∀ i, i < n → W.cell? ⟨b, off + i, none⟩ = some (.int .u8 (f i : Int)))
/-- A slice that reads as bools. -/
def BL (W : World) (q : Option Addr) (n : Nat) (f : Nat → Bool) : Prop :=
  n ≤ maxLen ∧ (n ≠ 0 → ∃ b off, q = some ⟨b, off, none⟩ ∧ b < W.heap.size ∧ ∀ i, i < n → W.cell? ⟨b, off + i, none⟩ = some (.bool (f i)))
end Go.Proofs.Ytmglacaikpcjhaa
