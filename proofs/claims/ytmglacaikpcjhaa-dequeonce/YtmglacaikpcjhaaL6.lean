/- The walk of DequeNil: for every number the call returns true; nothing that lay before is changed. No conditions. -/
import Derived.Test.YtmglacaikpcjhaaK
namespace Go.Proofs.Ytmglacaikpcjhaa
open Go.RowKit

theorem new_I (i : Int) (n : Nat) (w : World) (hi : i = n) (h1 : 1 ≤ n) (h2 : n ≤ 65536) :
    Calls Try.prog 9 #[.int .i64 i] w fun e w' => e = .returned (.tuple #[.pointer (some ⟨w.heap.size + 1, 0, none⟩), .int .i64 0]) ∧ IsMem 78 w' (w.heap.size + 1) w.heap.size (List.replicate n 0) 0 0 ∧ Below w.heap.size w w' := by
  subst hi
  exact new_yes n w h1 h2

set_option maxRecDepth 100000 in
set_option maxHeartbeats 1000000 in
theorem nil_walk (k : Nat) (hk : k < 256) (w : World) :
    Calls Try.prog 6 #[.int .u8 k] w fun e w' => e = .returned (.bool true) ∧ Below w.heap.size w w' := by
  have hk0 : (0 : Int) ≤ (k : Int) := by omega
  have hk1 : (k : Int) < 256 := by omega
  go_enter Try.func6, Try.ntmps6
  go_wp2_with fail
  refine (new_I _ (1 + k) _ (by simp) (by omega) (by omega)).mono ?_
  rintro e w1 ⟨rfl, hM1, hB1⟩
  have HB1 := hid hB1
  clear hM1 hB1
  go_wp2_with fail
  refine (res_nil _).mono ?_
  rintro e w2 ⟨rfl, hw⟩
  rw [hw]; clear hw w2
  go_wp2_with fail
  refine (step_nil _ _).mono ?_
  rintro e w2 ⟨rfl, hw⟩
  rw [hw]; clear hw w2
  go_wp2_with fail
  refine (next_nil _).mono ?_
  rintro e w2 ⟨rfl, K⟩
  have HB2 := hid (bel_trans HB1.out K)
  clear K HB1
  go_wp2_with fail
  refine (known_yes _).mono ?_
  rintro e w4 ⟨rfl, K⟩
  have HB4 := hid (bel_trans HB2.out K)
  clear K HB2
  go_wp2
  go_ret
  exact ⟨rfl, HB4.out⟩
end Go.Proofs.Ytmglacaikpcjhaa
