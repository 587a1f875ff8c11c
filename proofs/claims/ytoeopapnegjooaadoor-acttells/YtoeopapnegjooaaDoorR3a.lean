/- What the document's answer tells of the text of an act of one kind. No conditions. -/
import Derived.Test.YtoeopapnegjooaaDoorR3
namespace Go.Proofs.YtoeopapnegjooaaDoor
open Go.RowKit

set_option maxRecDepth 100000 in
set_option maxHeartbeats 2000000 in
theorem rshow_1 (n : Nat) (hn : n ≤ 9223372036854775807) (w : World) :
    Calls Tryd.prog 24 #[acV ⟨1, n, 0, 0⟩] w fun e w' => e = .returned (.string (((⟨#[108, 111, 97, 100]⟩ : ByteArray) ++ ⟨#[32]⟩) ++ dg n)) ∧ Below w.heap.size w w' := by
  have zn := dg_size n (by omega)
  have y0 : ¬ 9223372036854775807 < 5 + (dg n).size := by omega
  have HN := Lib.hid (fun w => digits_at n (by omega) w)
  have dd : decide ((n : Int) < 0) = false := by simp
  have hwr : IntKind.u64.wrap (n : Int) = n := by rw [IntKind.wrap_u64]; omega
  go_enter Tryd.func24, Tryd.ntmps24
  go_wp2_with fail
  go_region_with (go_at_call 41; refine (HN.out _).mono ?_; rintro e w' ⟨rfl, hw'⟩; rw [hw']; clear hw' w')
  all_goals go_wp2
  all_goals go_ret
  all_goals exact ⟨rfl, ((zkeep (below_alloc _ _) _)).drew⟩
end Go.Proofs.YtoeopapnegjooaaDoor
