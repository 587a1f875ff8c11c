/- What the document's answer's leads and Name return, for every argument; the world's old blocks are as they were. -/
import Derived.Test.YtpfmmlbakbhklaaGreatDoorOD3
namespace Go.Proofs.YtpfmmlbakbhklaaGreatDoor.O
open Go.RowKit

set_option maxRecDepth 100000 in
set_option maxHeartbeats 1000000 in
theorem leads_any (k b : Int) (w : World) (h : btw k 0 5 = true) :
    Calls Tryz.prog 156 #[.int .i64 k, .int .i64 b] w fun x w' => x = .returned (.bool (way k b)) ∧ w' = w := by
  have hk := btw_yes.1 h
  have HW := hid (way_iff k b hk)
  have ways : (k = 0 ∨ k = 1 ∨ k = 2 ∨ k = 3 ∨ k = 4 ∨ k = 5) := by omega
  clear hk h
  generalize way k b = u at *
  rcases ways with rfl | rfl | rfl | rfl | rfl | rfl
  all_goals
    have hw := HW.out
    simp at hw
    have HA := hid hw
    clear hw HW
    go_enter Tryz.func156, Tryz.ntmps156
    go_wp2
    all_goals
      go_ret
      refine ⟨ret_bool ?_, rfl⟩
      have hA := HA.out
      rw [Bool.eq_iff_iff, hA]
      clear hA HA
      first
        | (simp [*]; done)
        | (simp only [beq_iff_eq, Bool.false_eq_true, false_iff]; omega)
        | (simp; omega)

end Go.Proofs.YtpfmmlbakbhklaaGreatDoor.O
