/- That PoolNil returns true, for every number; nothing that lay before is changed. Condition: the table of rules lies in its variable as the program's text lays it. -/
import Derived.Test.YtgajjaibljmikaaDoorK
namespace Go.Proofs.YtgajjaibljmikaaDoor
open Go.RowKit

/-- A pool that New did not give, made since w0. -/
structure Zn (w0 w : World) (z : Nat) : Prop where
  cell : w.cell? ⟨z, 0, none⟩ = some (.slice none 0 0)
  bel : Below w0.heap.size w0 w
  tab : Tab w
theorem Zn.no {w0 w : World} {z : Nat} (h : Zn w0 w z) : NoP w (.pointer (some ⟨z, 0, none⟩)) := .inr ⟨z, rfl, h.cell⟩
theorem Zn.below {w0 w w' : World} {z : Nat} (h : Zn w0 w z) (k : Below w.heap.size w w') : Zn w0 w' z :=
  ⟨(k.cell (p := ⟨z, 0, none⟩) (World.block_lt_of_cell? w ⟨z, 0, none⟩ h.cell)).trans h.cell, h.bel.trans (k.mono h.bel.size), h.tab.go k⟩

set_option maxRecDepth 100000 in
set_option maxHeartbeats 2000000 in
theorem nil_true (f : Int) (w : World) (hT : Tab w) : Calls Tryd.prog 6 #[.int .i64 f] w fun v w' => v = .returned (.bool true) ∧ Below w.heap.size w w' := by
  have HZ0 : Hid (Zn w (w.alloc (.cells #[.slice none 0 0] 59)) w.heap.size) := ⟨cell_of (heap_alloc_new w _) rfl, below_one w _, hT.alloc _⟩
  clear hT
  go_enter Tryd.func6, Tryd.ntmps6
  go_wp2_with fail
  refine (take_none (show NoP _ (.pointer none) from .inl rfl) 4 1).mono ?_
  rintro v w1 ⟨rfl, rfl⟩
  go_wp2_with fail
  refine (take_none HZ0.out.no 4 1).mono ?_
  rintro v w2 ⟨rfl, rfl⟩
  go_wp2_with fail
  refine (of_none (show NoP _ (.pointer none) from .inl rfl) f).mono ?_
  rintro v w3 ⟨rfl, hB⟩
  have HZ3 := hid (HZ0.out.below hB)
  clear hB
  have HZd := hid (HZ3.out.below (below_one _ (.cells #[.int .i64 0, .int .i64 0, .int .i64 0, .int .i64 0] 40)))
  unfold dV zd
  (try simp only [])
  go_wp2_with fail
  refine (give_none (show NoP _ (.pointer none) from .inl rfl) f).mono ?_
  rintro v w4 ⟨rfl, hB⟩
  have HZ4 := hid (HZd.out.below hB)
  clear hB
  go_wp2_with fail
  refine (turn_none HZ4.out.no f 0 0).mono ?_
  rintro v w5 ⟨rfl, hB⟩
  have HZ5 := hid (HZ4.out.below hB)
  clear hB
  go_wp2_with fail
  refine (ref_none (show NoP _ (.pointer none) from .inl rfl) f 1).mono ?_
  rintro v w6 ⟨rfl, hB⟩
  have HZ6 := hid (HZ5.out.below hB)
  clear hB
  go_wp2_with fail
  refine (count_none (p := none) (show NoP _ (.pointer none) from .inl rfl) 0).mono ?_
  rintro v w7 ⟨rfl, hB⟩
  have HZ7 := hid (HZ6.out.below hB)
  clear hB
  go_wp2_with fail
  refine (owned_none HZ7.out.no 0).mono ?_
  rintro v w8 ⟨rfl, hB⟩
  have HZ8 := hid (HZ7.out.below hB)
  clear hB
  go_wp2_with fail
  refine (len_none (show NoP _ (.pointer none) from .inl rfl)).mono ?_
  rintro v w9 ⟨rfl, rfl⟩
  go_wp2_with fail
  refine (copy_none (show NoP _ (.pointer none) from .inl rfl)).mono ?_
  rintro v w10 ⟨rfl, rfl⟩
  go_wp2_with fail
  refine (copy_none HZ8.out.no).mono ?_
  rintro v w11 ⟨rfl, rfl⟩
  go_wp2_with fail
  refine (known_yes _ HZ8.out.tab).mono ?_
  rintro v w12 ⟨rfl, hB⟩
  have HZ12 := hid (HZ8.out.below hB)
  clear hB
  go_wp2
  go_ret
  exact ⟨rfl, HZ12.out.bel⟩
end Go.Proofs.YtgajjaibljmikaaDoor
