/- What the turns of those who push and pop (count, opens, move, left), and a position's slot, return. Conditions: the ring is one that can be. -/
import Derived.Test.YtfnfbceblpaggaaS1
namespace Go.Proofs.Ytfnfbceblpaggaa
open Go.RowKit

theorem size51 : (Try.prog.info? 51).map (·.size) = some 4 := by kernel_rfl

set_option maxHeartbeats 400000 in
theorem slot_at (w : World) {ad sz ps : Int} (h : QOk ad sz) (h0 : 0 ≤ ps) (h1 : ps ≤ 18446744073709551615) :
    Calls Try.prog 45 #[.agg #[.int .i64 ad, .int .i64 sz], .int .u64 ps] w fun e w' => e = .returned (.int .i64 (slotA ad sz ps)) ∧ Below w.heap.size w w' := by
  obtain ⟨a0, a1, s0, s1⟩ := h
  have m0 := Int.emod_nonneg ps (show sz ≠ 0 by omega)
  have m1 := Int.emod_lt_of_pos ps (show 0 < sz by omega)
  unfold slotA
  have hz : (sz == 0) = false := beq_eq_false_iff_ne.2 (by omega)
  have hB := below_alloc w (.cells #[.int .i64 ad, .int .i64 sz] 35)
  have g0 := heap_alloc_new w (.cells #[.int .i64 ad, .int .i64 sz] 35 (0, 0))
  have c0 : (w.alloc (.cells #[.int .i64 ad, .int .i64 sz] 35)).cell? ⟨w.heap.size, 0, none⟩ = some (.int .i64 ad) := cell_of g0 rfl
  have c1 : (w.alloc (.cells #[.int .i64 ad, .int .i64 sz] 35)).cell? ⟨w.heap.size, 1, none⟩ = some (.int .i64 sz) := cell_of g0 rfl
  have HB := hid hB
  clear g0 hB
  go_enter Try.func45, Try.ntmps45
  go_wp2
  generalize w.alloc (.cells #[.int .i64 ad, .int .i64 sz] 35) = W at *
  go_quiet (fail)
  go_wp2
  go_ret
  trace_state
  exact ⟨rfl, below_drewN HB.out _⟩
set_option maxHeartbeats 400000 in
theorem countP_at (w : World) (v : Int) {ad sz : Int} (h : QOk ad sz) :
    Calls Try.prog 77 #[.agg #[.int .u64 v], .agg #[.int .i64 ad, .int .i64 sz]] w fun e w' => e = .returned (.int .i64 ad) ∧ Below w.heap.size w w' := by
  obtain ⟨a0, a1, s0, s1⟩ := h
  go_enter Try.func77, Try.ntmps77
  go_wp2
  go_ret
  exact ⟨rfl, bel_trans (below_alloc _ _) (below_alloc _ _)⟩
set_option maxHeartbeats 400000 in
theorem countG_at (w : World) {ad sz : Int} (h : QOk ad sz) :
    Calls Try.prog 81 #[.agg #[], .agg #[.int .i64 ad, .int .i64 sz]] w fun e w' => e = .returned (.int .i64 (ad + 1)) ∧ Below w.heap.size w w' := by
  obtain ⟨a0, a1, s0, s1⟩ := h
  go_enter Try.func81, Try.ntmps81
  go_wp2
  go_ret
  exact ⟨rfl, bel_trans (below_alloc _ _) (below_alloc _ _)⟩
set_option maxHeartbeats 400000 in
theorem leftP_at (w : World) (v ad sz ps : Int) :
    Calls Try.prog 78 #[.agg #[.int .u64 v], .agg #[.int .i64 ad, .int .i64 sz], .int .u64 ps] w fun e w' => e = .returned (.int .u64 (add64 ps 1)) ∧ Below w.heap.size w w' := by
  go_enter Try.func78, Try.ntmps78
  go_wp2
  go_ret
  exact ⟨rfl, bel_trans (below_alloc _ _) (below_alloc _ _)⟩
set_option maxHeartbeats 400000 in
theorem leftG_at (w : World) (ps : Int) {ad sz : Int} (h : QOk ad sz) :
    Calls Try.prog 82 #[.agg #[], .agg #[.int .i64 ad, .int .i64 sz], .int .u64 ps] w fun e w' => e = .returned (.int .u64 (add64 ps sz)) ∧ Below w.heap.size w w' := by
  obtain ⟨a0, a1, s0, s1⟩ := h
  go_enter Try.func82, Try.ntmps82
  go_wp2
  go_ret
  exact ⟨rfl, bel_trans (below_alloc _ _) (below_alloc _ _)⟩
set_option maxHeartbeats 400000 in
theorem opensP_at (w : World) (v ps : Int) :
    Calls Try.prog 80 #[.agg #[.int .u64 v], .int .u64 ps] w fun e w' => e = .returned (.int .u64 ps) ∧ Below w.heap.size w w' := by
  go_enter Try.func80, Try.ntmps80
  go_wp2
  go_ret
  exact ⟨rfl, below_alloc _ _⟩
set_option maxHeartbeats 400000 in
theorem opensG_at (w : World) (ps : Int) :
    Calls Try.prog 84 #[.agg #[], .int .u64 ps] w fun e w' => e = .returned (.int .u64 (add64 ps 1)) ∧ Below w.heap.size w w' := by
  go_enter Try.func84, Try.ntmps84
  go_wp2
  go_ret
  exact ⟨rfl, below_alloc _ _⟩
set_option maxHeartbeats 400000 in
theorem moveP_at (w : World) (v a : Int) :
    Calls Try.prog 79 #[.agg #[.int .u64 v], .int .i64 a] w fun e w' => e = .returned (acV ⟨2, a, v, 0⟩) ∧ Below w.heap.size w w' := by
  go_enter Try.func79, Try.ntmps79
  go_wp2
  trace_state
  (try simp only [Exit.inBlock, Exit.then])
  refine bodyPost_ret (results_cell_row rfl _ _ (w.heap.size + 1) 51 (acC ⟨2, a, v, 0⟩) (0, 0) _ rfl (by simpa using heap_alloc_new (w.alloc _) (.cells (acC ⟨2, a, v, 0⟩) 51 (0, 0))) Try.underlying51 rfl size51) rfl ?_
  exact ⟨rfl, bel_trans (below_alloc _ _) (below_alloc _ _)⟩
set_option maxHeartbeats 400000 in
theorem moveG_at (w : World) (a : Int) :
    Calls Try.prog 83 #[.agg #[], .int .i64 a] w fun e w' => e = .returned (acV ⟨1, a, 0, 0⟩) ∧ Below w.heap.size w w' := by
  go_enter Try.func83, Try.ntmps83
  go_wp2
  (try simp only [Exit.inBlock, Exit.then])
  refine bodyPost_ret (results_cell_row rfl _ _ (w.heap.size + 1) 51 (acC ⟨1, a, 0, 0⟩) (0, 0) _ rfl (by simpa using heap_alloc_new (w.alloc _) (.cells (acC ⟨1, a, 0, 0⟩) 51 (0, 0))) Try.underlying51 rfl size51) rfl ?_
  exact ⟨rfl, bel_trans (below_alloc _ _) (below_alloc _ _)⟩
end Go.Proofs.Ytfnfbceblpaggaa
