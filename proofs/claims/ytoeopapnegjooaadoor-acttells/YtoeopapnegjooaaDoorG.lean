/- What Show of package act returns: an act's text. Condition: the tables stand in their variables. -/
import Derived.Test.YtoeopapnegjooaaDoorF
namespace Go.Proofs.YtoeopapnegjooaaDoor
open Go.RowKit

/-- Block g holds two numbers. -/
def IsTwo (w : World) (g : Nat) (a b : Int) : Prop := w.heap[g]? = some (.cells #[.int .u64 a, .int .u64 b] 33 (0, 0))
set_option maxRecDepth 100000 in
set_option maxHeartbeats 1000000 in
theorem shown_2 (kd : Int) (wd : ByteArray) (xk xd xa xb : Int) (w : World) :
    Calls Tryd.prog 38 #[.agg #[.int .i64 kd, .string wd, .int .i64 2], acV ⟨xk, xd, xa, xb⟩] w fun e w' => ∃ g, e = .returned (.tuple #[.slice (some ⟨g, 0, none⟩) 2 2, .bool true]) ∧ IsTwo w' g xa xb ∧ Below w.heap.size w w' := by
  go_enter Tryd.func38, Tryd.ntmps38
  go_wp2
  refine wp_loop_rounds 1 ?_
  rw [rounds_succ]
  go_wp2
  go_ret2
  exact ⟨w.heap.size + 2, rfl, by (have := heap_alloc_new ((w.alloc (.cells #[.int .i64 kd, .string wd, .int .i64 2] 74)).alloc (.cells #[.int .i64 xk, .int .i64 xd, .int .u64 xa, .int .u64 xb] 40)) (.cells #[.int .u64 xa, .int .u64 xb] 33 (0, 0)); simpa [IsTwo] using this), zkeep (zkeep (below_alloc _ _) _) _⟩
set_option maxRecDepth 100000 in
set_option maxHeartbeats 1000000 in
theorem shown_1 (kd : Int) (wd : ByteArray) (xk xd xa xb : Int) (hb : xb = 0) (w : World) :
    Calls Tryd.prog 38 #[.agg #[.int .i64 kd, .string wd, .int .i64 1], acV ⟨xk, xd, xa, xb⟩] w fun e w' => ∃ g, e = .returned (.tuple #[.slice (some ⟨g, 0, none⟩) 1 2, .bool true]) ∧ IsTwo w' g xa xb ∧ Below w.heap.size w w' := by
  subst hb
  go_enter Tryd.func38, Tryd.ntmps38
  go_wp2
  refine wp_loop_rounds 2 ?_
  rw [rounds_succ]
  go_wp2
  rw [rounds_succ]
  go_wp2
  go_ret2
  exact ⟨w.heap.size + 2, rfl, by (have := heap_alloc_new ((w.alloc (.cells #[.int .i64 kd, .string wd, .int .i64 1] 74)).alloc (.cells #[.int .i64 xk, .int .i64 xd, .int .u64 xa, .int .u64 0] 40)) (.cells #[.int .u64 xa, .int .u64 0] 33 (0, 0)); simpa [IsTwo] using this), zkeep (zkeep (below_alloc _ _) _) _⟩
set_option maxRecDepth 100000 in
set_option maxHeartbeats 1000000 in
theorem shown_1n (kd : Int) (wd : ByteArray) (xk xd xa xb : Int) (hb : xb ≠ 0) (w : World) :
    Calls Tryd.prog 38 #[.agg #[.int .i64 kd, .string wd, .int .i64 1], acV ⟨xk, xd, xa, xb⟩] w fun e w' => e = .returned (.tuple #[.slice none 0 0, .bool false]) ∧ Below w.heap.size w w' := by
  have b1 : (xb != 0) = true := by simpa using hb
  clear hb
  go_enter Tryd.func38, Tryd.ntmps38
  go_wp2
  refine wp_loop_rounds 1 ?_
  rw [rounds_succ]
  go_wp2
  go_ret2
  exact ⟨rfl, zkeep (zkeep (below_alloc _ _) _) _⟩
set_option maxRecDepth 100000 in
set_option maxHeartbeats 1000000 in
theorem shown_0 (kd : Int) (wd : ByteArray) (xk xd xa xb : Int) (ha : xa = 0) (hb : xb = 0) (w : World) :
    Calls Tryd.prog 38 #[.agg #[.int .i64 kd, .string wd, .int .i64 0], acV ⟨xk, xd, xa, xb⟩] w fun e w' => ∃ g, e = .returned (.tuple #[.slice (some ⟨g, 0, none⟩) 0 2, .bool true]) ∧ IsTwo w' g xa xb ∧ Below w.heap.size w w' := by
  subst ha hb
  go_enter Tryd.func38, Tryd.ntmps38
  go_wp2
  refine wp_loop_rounds 3 ?_
  rw [rounds_succ]
  go_wp2
  rw [rounds_succ]
  go_wp2
  rw [rounds_succ]
  go_wp2
  go_ret2
  exact ⟨w.heap.size + 2, rfl, by (have := heap_alloc_new ((w.alloc (.cells #[.int .i64 kd, .string wd, .int .i64 0] 74)).alloc (.cells #[.int .i64 xk, .int .i64 xd, .int .u64 0, .int .u64 0] 40)) (.cells #[.int .u64 0, .int .u64 0] 33 (0, 0)); simpa [IsTwo] using this), zkeep (zkeep (below_alloc _ _) _) _⟩
set_option maxRecDepth 100000 in
set_option maxHeartbeats 1000000 in
theorem shown_0n (kd : Int) (wd : ByteArray) (xk xd xa xb : Int) (hb : xa ≠ 0) (w : World) :
    Calls Tryd.prog 38 #[.agg #[.int .i64 kd, .string wd, .int .i64 0], acV ⟨xk, xd, xa, xb⟩] w fun e w' => e = .returned (.tuple #[.slice none 0 0, .bool false]) ∧ Below w.heap.size w w' := by
  have b1 : (xa != 0) = true := by simpa using hb
  clear hb
  go_enter Tryd.func38, Tryd.ntmps38
  go_wp2
  refine wp_loop_rounds 1 ?_
  rw [rounds_succ]
  go_wp2
  go_ret2
  exact ⟨rfl, zkeep (zkeep (below_alloc _ _) _) _⟩
set_option maxRecDepth 100000 in
set_option maxHeartbeats 1000000 in
theorem shown_0m (kd : Int) (wd : ByteArray) (xk xd xa xb : Int) (ha : xa = 0) (hb : xb ≠ 0) (w : World) :
    Calls Tryd.prog 38 #[.agg #[.int .i64 kd, .string wd, .int .i64 0], acV ⟨xk, xd, xa, xb⟩] w fun e w' => e = .returned (.tuple #[.slice none 0 0, .bool false]) ∧ Below w.heap.size w w' := by
  subst ha
  have b1 : (xb != 0) = true := by simpa using hb
  clear hb
  go_enter Tryd.func38, Tryd.ntmps38
  go_wp2
  refine wp_loop_rounds 2 ?_
  rw [rounds_succ]
  go_wp2
  rw [rounds_succ]
  go_wp2
  go_ret2
  exact ⟨rfl, zkeep (zkeep (below_alloc _ _) _) _⟩
end Go.Proofs.YtoeopapnegjooaaDoor
