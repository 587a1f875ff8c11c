/- What top, bottom, slot, position, move, above and end return and leave. Conditions: the deque is one that can be. -/
import Derived.Test.YtmglacaikpcjhaaS1
namespace Go.Proofs.Ytmglacaikpcjhaa
open Go.RowKit

theorem size48 : (Try.prog.info? 48).map (·.size) = some 4 := by kernel_rfl

set_option maxHeartbeats 400000 in
theorem top_at (w : World) {ad sz : Int} (h : QOk ad sz) :
    Calls Try.prog 30 #[.agg #[.int .i64 ad, .int .i64 sz]] w fun e w' => e = .returned (.int .i64 ad) ∧ Below w.heap.size w w' := by
  obtain ⟨a0, a1, s0, s1⟩ := h
  go_enter Try.func30, Try.ntmps30
  go_wp2
  go_ret
  exact ⟨rfl, below_alloc _ _⟩
set_option maxHeartbeats 400000 in
theorem bottom_at (w : World) {ad sz : Int} (h : QOk ad sz) :
    Calls Try.prog 31 #[.agg #[.int .i64 ad, .int .i64 sz]] w fun e w' => e = .returned (.int .i64 (ad + 1)) ∧ Below w.heap.size w w' := by
  obtain ⟨a0, a1, s0, s1⟩ := h
  go_enter Try.func31, Try.ntmps31
  go_wp2
  go_ret
  exact ⟨rfl, below_alloc _ _⟩
set_option maxHeartbeats 400000 in
theorem slot_at (w : World) {ad sz ps : Int} (h : QOk ad sz) (h0 : 0 ≤ ps) (h1 : ps ≤ 18446744073709551615) :
    Calls Try.prog 32 #[.agg #[.int .i64 ad, .int .i64 sz], .int .u64 ps] w fun e w' => e = .returned (.int .i64 (slotA ad sz ps)) ∧ Below w.heap.size w w' := by
  obtain ⟨a0, a1, s0, s1⟩ := h
  have m0 := Int.emod_nonneg ps (show sz ≠ 0 by omega)
  have m1 := Int.emod_lt_of_pos ps (show 0 < sz by omega)
  unfold slotA
  have hz : (sz == 0) = false := beq_eq_false_iff_ne.2 (by omega)
  have hB := below_alloc w (.cells #[.int .i64 ad, .int .i64 sz] 34)
  have g0 := heap_alloc_new w (.cells #[.int .i64 ad, .int .i64 sz] 34 (0, 0))
  have c0 : (w.alloc (.cells #[.int .i64 ad, .int .i64 sz] 34)).cell? ⟨w.heap.size, 0, none⟩ = some (.int .i64 ad) := cell_of g0 rfl
  have c1 : (w.alloc (.cells #[.int .i64 ad, .int .i64 sz] 34)).cell? ⟨w.heap.size, 1, none⟩ = some (.int .i64 sz) := cell_of g0 rfl
  have HB := hid hB
  clear g0 hB
  go_enter Try.func32, Try.ntmps32
  go_wp2
  generalize w.alloc (.cells #[.int .i64 ad, .int .i64 sz] 34) = W at *
  go_quiet (fail)
  go_wp2
  go_ret
  exact ⟨rfl, below_drewN HB.out _⟩
set_option maxHeartbeats 400000 in
theorem posP_at (w : World) (v tp bt : Int) :
    Calls Try.prog 87 #[.agg #[.int .u64 v], .int .u64 tp, .int .u64 bt] w fun e w' => e = .returned (.int .u64 bt) ∧ Below w.heap.size w w' := by
  go_enter Try.func87, Try.ntmps87
  go_wp2
  go_ret
  exact ⟨rfl, below_alloc _ _⟩
set_option maxHeartbeats 400000 in
theorem posG_at (w : World) (tp bt : Int) :
    Calls Try.prog 89 #[.agg #[], .int .u64 tp, .int .u64 bt] w fun e w' => e = .returned (.int .u64 bt) ∧ Below w.heap.size w w' := by
  go_enter Try.func89, Try.ntmps89
  go_wp2
  go_ret
  exact ⟨rfl, below_alloc _ _⟩
set_option maxHeartbeats 400000 in
theorem posS_at (w : World) (tp bt : Int) :
    Calls Try.prog 91 #[.agg #[], .int .u64 tp, .int .u64 bt] w fun e w' => e = .returned (.int .u64 tp) ∧ Below w.heap.size w w' := by
  go_enter Try.func91, Try.ntmps91
  go_wp2
  go_ret
  exact ⟨rfl, below_alloc _ _⟩
set_option maxHeartbeats 400000 in
theorem moveP_at (w : World) (v a : Int) :
    Calls Try.prog 86 #[.agg #[.int .u64 v], .int .i64 a] w fun e w' => e = .returned (acV ⟨2, a, v, 0⟩) ∧ Below w.heap.size w w' := by
  go_enter Try.func86, Try.ntmps86
  go_wp2
  (try simp only [Exit.inBlock, Exit.then])
  refine bodyPost_ret (results_cell_row rfl _ _ (w.heap.size + 1) 48 (acC ⟨2, a, v, 0⟩) (0, 0) _ rfl (by simpa using heap_alloc_new (w.alloc _) (.cells (acC ⟨2, a, v, 0⟩) 48 (0, 0))) Try.underlying48 rfl size48) rfl ?_
  exact ⟨rfl, bel_trans (below_alloc _ _) (below_alloc _ _)⟩
set_option maxHeartbeats 400000 in
theorem moveG_at (w : World) (a : Int) :
    Calls Try.prog 88 #[.agg #[], .int .i64 a] w fun e w' => e = .returned (acV ⟨1, a, 0, 0⟩) ∧ Below w.heap.size w w' := by
  go_enter Try.func88, Try.ntmps88
  go_wp2
  (try simp only [Exit.inBlock, Exit.then])
  refine bodyPost_ret (results_cell_row rfl _ _ (w.heap.size + 1) 48 (acC ⟨1, a, 0, 0⟩) (0, 0) _ rfl (by simpa using heap_alloc_new (w.alloc _) (.cells (acC ⟨1, a, 0, 0⟩) 48 (0, 0))) Try.underlying48 rfl size48) rfl ?_
  exact ⟨rfl, bel_trans (below_alloc _ _) (below_alloc _ _)⟩
set_option maxHeartbeats 400000 in
theorem moveS_at (w : World) (a : Int) :
    Calls Try.prog 90 #[.agg #[], .int .i64 a] w fun e w' => e = .returned (acV ⟨1, a, 0, 0⟩) ∧ Below w.heap.size w w' := by
  go_enter Try.func90, Try.ntmps90
  go_wp2
  (try simp only [Exit.inBlock, Exit.then])
  refine bodyPost_ret (results_cell_row rfl _ _ (w.heap.size + 1) 48 (acC ⟨1, a, 0, 0⟩) (0, 0) _ rfl (by simpa using heap_alloc_new (w.alloc _) (.cells (acC ⟨1, a, 0, 0⟩) 48 (0, 0))) Try.underlying48 rfl size48) rfl ?_
  exact ⟨rfl, bel_trans (below_alloc _ _) (below_alloc _ _)⟩
/-- The difference of two positions, as a number with a sign. -/
def difA (r o : Int) : Int := IntKind.i64.wrap (IntKind.u64.wrap (r - o))
set_option maxHeartbeats 400000 in
theorem above_at (w : World) (r o : Int) :
    Calls Try.prog 60 #[.int .u64 r, .int .u64 o] w fun e w' => e = .returned (.int .i64 (difA r o)) ∧ w' = w := by
  rw [show difA r o = wrap64 (IntKind.u64.wrap (r - o)) by unfold difA wrap64; exact IntKind.wrap_i64 _]
  go_enter Try.func60, Try.ntmps60
  go_wp2
  go_ret
  exact ⟨rfl, rfl⟩
set_option maxHeartbeats 400000 in
theorem end_at {w : World} {g : Nat} {x : Tk} (h : IsTk w g x) (b : Bool) :
    Calls Try.prog 49 #[.pointer (some ⟨g, 0, none⟩), .bool b] w fun e w' => e = .returned (.tuple #[]) ∧ IsTk w' g { x with hs := b, tn := 6 } ∧ But g g w w' := by
  have H1 := hid h
  obtain ⟨c0, c1, c2, c3, c4, c5, c6, c7⟩ := h.tc
  have f3 := h.free 3
  have f7 := h.free 7
  clear h
  go_enter Try.func49, Try.ntmps49
  go_wp2
  go_end0
  exact ⟨rfl, (H1.out.setH b).setN 6, (but_set g 7 _ _).trans (but_set g 3 _ _)⟩
end Go.Proofs.Ytmglacaikpcjhaa
