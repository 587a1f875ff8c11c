/- That EpochNil returns true, for every number; nothing that lay before is changed. No conditions. -/
import Derived.Test.YthiicngnhnglfaaK
namespace Go.Proofs.Ythiicngnhnglfaa
open Go.RowKit

set_option maxRecDepth 100000 in
set_option maxHeartbeats 4000000 in
theorem nil_true (n : Int) (w : World) : Calls Try.prog 6 #[.int .i64 n] w fun v w' => v = .returned (.bool true) ∧ Below w.heap.size w w' := by
  have hN : ∀ W, NoE W (.pointer none) := fun _ => .inl rfl
  have HN := hid hN
  have hZ : NoE (w.alloc (.cells #[.int .i64 0, .slice none 0 0, .map none] 51)) (.pointer (some ⟨w.heap.size, 0, none⟩)) := .inr ⟨_, rfl, cell_of (heap_alloc_new w _) rfl⟩
  have Z1 := hid hZ
  have B1 := hid (below_one w (.cells #[.int .i64 0, .slice none 0 0, .map none] 51))
  clear hN hZ
  go_enter Try.func6, Try.ntmps6
  go_wp2_with fail
  refine (pinned_none (HN.out _) n).mono ?_
  rintro v w1x ⟨rfl, rfl⟩
  go_wp2_with fail
  refine (pin_none (HN.out _) n).mono ?_
  rintro v w2y ⟨rfl, hB⟩
  have Z2y := hid (Z1.out.below hB)
  have B2y := hid (bgo B1.out hB)
  clear hB Z1 B1
  go_wp2_with fail
  refine (pin_none Z2y.out n).mono ?_
  rintro v w3y ⟨rfl, hB⟩
  have Z3y := hid (Z2y.out.below hB)
  have B3y := hid (bgo B2y.out hB)
  clear hB Z2y B2y
  go_wp2_with fail
  refine (unpin_none (HN.out _) n).mono ?_
  rintro v w4y ⟨rfl, hB⟩
  have Z4y := hid (Z3y.out.below hB)
  have B4y := hid (bgo B3y.out hB)
  clear hB Z3y B3y
  go_wp2_with fail
  refine (retire_none (HN.out _) n).mono ?_
  rintro v w5x ⟨rfl, rfl⟩
  go_wp2_with fail
  refine (retire_none Z4y.out n).mono ?_
  rintro v w6x ⟨rfl, rfl⟩
  go_wp2_with fail
  refine (advance_none (HN.out _)).mono ?_
  rintro v w7x ⟨rfl, rfl⟩
  go_wp2_with fail
  refine (advance_none Z4y.out).mono ?_
  rintro v w8x ⟨rfl, rfl⟩
  go_wp2_with fail
  refine (free_none (HN.out _)).mono ?_
  rintro v w9x ⟨rfl, rfl⟩
  go_wp2_with fail
  refine (waiting_none Z4y.out).mono ?_
  rintro v w10x ⟨rfl, rfl⟩
  go_wp2_with fail
  refine (now_none (HN.out _)).mono ?_
  rintro v w11x ⟨rfl, rfl⟩
  go_wp2_with fail
  refine (copy_none (HN.out _)).mono ?_
  rintro v w12x ⟨rfl, rfl⟩
  go_wp2_with fail
  refine (copy_none Z4y.out).mono ?_
  rintro v w13x ⟨rfl, rfl⟩
  go_wp2_with fail
  refine (known_yes _).mono ?_
  rintro v w14y ⟨rfl, hB⟩
  have Z14y := hid (Z4y.out.below hB)
  have B14y := hid (bgo B4y.out hB)
  clear hB Z4y B4y
  go_wp2
  go_ret
  exact ⟨rfl, B14y.out⟩
end Go.Proofs.Ythiicngnhnglfaa
