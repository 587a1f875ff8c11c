/- The walk of WalkNil: it returns true; nothing that lay before is changed. No conditions. -/
import Derived.Test.YtfpekfpjoldinaaK
namespace Go.Proofs.Ytfpekfpjoldinaa
open Go.RowKit

set_option maxRecDepth 100000 in
set_option maxHeartbeats 1000000 in
theorem nil_walk (n : Nat) (en : IntKind.i64.wrap (n : Int) = n) (w : World) : Calls Try.prog 6 #[.int .u8 n] w fun e w' => e = .returned (.bool true) ∧ Below w.heap.size w w' := by
  have hn : 0 ≤ (n : Int) := by omega
  go_enter Try.func6, Try.ntmps6
  go_wp2_with fail
  refine (both_nil _ _ _).mono ?_
  rintro e w1 ⟨p, b, q, c, rfl, hB⟩
  have HK := hid (Kn.of_bo hB (Below.refl _ _) (bothS_cnt []))
  clear hB
  go_wp2_with fail
  refine (result_nil _).mono ?_
  rintro e v1 ⟨rfl, hB⟩
  have HKn := hid (HK.out.below hB)
  clear HK
  have HK := HKn
  clear HKn
  clear hB
  simp only [ftwo]
  (try simp only [])
  go_wp2_with fail
  refine (step_nil _ _).mono ?_
  rintro e u1 ⟨rfl, hw⟩
  rw [hw]
  clear hw u1
  go_wp2_with fail
  refine (next_nil _).mono ?_
  rintro e v2 ⟨rfl, hB⟩
  have nFp : v1.heap.size ≠ p := by have := HK.out.lt; omega
  have nFb : v1.heap.size ≠ b := by have := HK.out.lt; omega
  have aF := P.stay hB (heap_alloc_new v1 _)
  have HKn := hid ((HK.out.below (below_alloc _ _)).below hB)
  clear HK
  have HK := HKn
  clear HKn
  clear hB
  have lF := lt_of_block aF
  have dF0 := cell_of (i := 0) aF rfl
  have dF1 := cell_of (i := 1) aF rfl
  have dF2 := cell_of (i := 2) aF rfl
  have dF3 := cell_of (i := 3) aF rfl
  have AF := hid aF
  clear aF
  (try simp only [])
  go_wp2_with fail
  refine (path_nil _).mono ?_
  rintro e u1 ⟨rfl, hw⟩
  rw [hw]
  clear hw u1
  go_wp2_with fail
  refine (known_yes _).mono ?_
  rintro e v3 ⟨rfl, hB⟩
  have aF := P.stay hB AF.out
  have HKn := hid (HK.out.below hB)
  clear HK
  have HK := HKn
  clear HKn
  clear AF lF dF0 dF1 dF2 dF3
  clear hB
  have lF := lt_of_block aF
  have dF0 := cell_of (i := 0) aF rfl
  have dF1 := cell_of (i := 1) aF rfl
  have dF2 := cell_of (i := 2) aF rfl
  have dF3 := cell_of (i := 3) aF rfl
  have AF := hid aF
  clear aF
  (try simp only [])
  go_wp2
  go_ret
  exact ⟨rfl, HK.out.bel⟩

end Go.Proofs.Ytfpekfpjoldinaa
