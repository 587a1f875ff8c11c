/- What the document's answer tells of the text of an act of one kind. No conditions. -/
import Derived.Test.YtoeopapnegjooaaDoorR3
namespace Go.Proofs.YtoeopapnegjooaaDoor
open Go.RowKit

set_option maxRecDepth 100000 in
set_option maxHeartbeats 2000000 in
theorem rshow_2 (n : Nat) (hn : n ≤ 9223372036854775807) (a : Nat) (ha : a < 18446744073709551616) (w : World) :
    Calls Tryd.prog 24 #[acV ⟨2, n, a, 0⟩] w fun e w' => e = .returned (.string ((((⟨#[115, 116, 111, 114, 101]⟩ : ByteArray) ++ ⟨#[32]⟩) ++ dg n) ++ ⟨#[32]⟩ ++ dg a)) ∧ Below w.heap.size w w' := by
  have zn := dg_size n (by omega)
  have y0 : ¬ 9223372036854775807 < 6 + (dg n).size := by omega
  have za := dg_size a ha
  have y1 : ¬ 9223372036854775807 < 6 + (dg n).size + 1 := by omega
  have y2 : ¬ 9223372036854775807 < 6 + (dg n).size + 1 + (dg a).size := by omega
  have HN := Lib.hid (fun w => digits_at n (by omega) w)
  have HA := Lib.hid (fun w => digits_at a ha w)
  have dd : decide ((n : Int) < 0) = false := by simp
  have hwr : IntKind.u64.wrap (n : Int) = n := by rw [IntKind.wrap_u64]; omega
  go_enter Tryd.func24, Tryd.ntmps24
  go_wp2_with fail
  go_region_with (go_at_call 41; refine (HN.out _).mono ?_; rintro e w' ⟨rfl, hw'⟩; rw [hw']; clear hw' w')
  all_goals go_wp2_with fail
  all_goals refine (HA.out _).mono ?_
  all_goals rintro e w' ⟨rfl, hw'⟩
  all_goals rw [hw']
  all_goals clear hw' w'
  all_goals go_wp2
  all_goals go_ret
  all_goals exact ⟨rfl, ((zkeep (below_alloc _ _) _)).drew⟩
end Go.Proofs.YtoeopapnegjooaaDoor
