/- What goOn leaves of a task. Conditions: it is one that Push, Pop or Steal gave. -/
import Derived.Test.YtmglacaikpcjhaaS3
import Derived.BigQuiet
namespace Go.Proofs.Ytmglacaikpcjhaa
open Go.RowKit

theorem IsTk.drewN {w : World} {g : Nat} {x : Tk} (h : IsTk w g x) (n : Nat) : IsTk (w.drewN n) g x := h.below (below_drewN (Below.refl _ _) n)
theorem But.drewN {p b : Nat} {w w' : World} (h : But p b w w') (n : Nat) : But p b w (w'.drewN n) := h.trans (But.of_below (below_drewN (Below.refl _ _) n))
theorem re_new {w : World} (r : Re) (W : World) (hw : W.heap.size = w.heap.size) : (W.alloc (.cells (reC r) 95)).heap[w.heap.size]? = some (.cells (reC r) 95 (0, 0)) := by
  rw [← hw]; exact heap_alloc_new _ _
theorem set_size (w : World) (a : Addr) (u : Value) : (w.setCell a u).heap.size = w.heap.size := by simp [World.setCell]
/-- One less, of a number of 64 bits. -/
def dec64 (v : Int) : Int := IntKind.u64.wrap (v - 1)
end Go.Proofs.Ytmglacaikpcjhaa
