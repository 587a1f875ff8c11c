/- What Load, Store, Cas, Add, Len and Count return, and what they leave, for words that New gave; and for none. Conditions: the counts are below 2^62. -/
import Derived.Test.YtpfmmlbakbhklaaGreatDoorW6
namespace Go.Proofs.YtpfmmlbakbhklaaGreatDoor
open Go.RowKit

set_option maxHeartbeats 400000 in
theorem len_at {w : World} {p b : Nat} {xs : List Int} {d l : Int} (h : IsMem 124 w p b xs d l) :
    Calls Tryz.prog 30 #[.pointer (some ⟨p, 0, none⟩)] w fun e w' => e = .returned (.int .i64 xs.length) ∧ w' = w := by
  have c0 := h.cells.1
  have HF : Hid (Calls Tryz.prog 64 #[.pointer (some ⟨p, 0, none⟩)] w fun e w' => e = .returned (.bool false) ∧ w' = w) := isNone_at h
  generalize xs.length = n at *
  clear h
  go_enter Tryz.func30, Tryz.ntmps30
  go_wp2_with (go_at_call 64; refine HF.out.mono ?_; rintro e w' ⟨rfl, hw'⟩; rw [hw']; clear hw' w')
  go_ret
  exact ⟨rfl, rfl⟩
set_option maxHeartbeats 400000 in
theorem len_none {w : World} {q : Option Addr} (h : Calls Tryz.prog 64 #[.pointer q] w fun e w' => e = .returned (.bool true) ∧ w' = w) :
    Calls Tryz.prog 30 #[.pointer q] w fun e w' => e = .returned (.int .i64 0) ∧ w' = w := by
  have HF : Hid (Calls Tryz.prog 64 #[.pointer q] w fun e w' => e = .returned (.bool true) ∧ w' = w) := h
  clear h
  go_enter Tryz.func30, Tryz.ntmps30
  go_wp2_with (go_at_call 64; refine HF.out.mono ?_; rintro e w' ⟨rfl, hw'⟩; rw [hw']; clear hw' w')
  go_ret
  exact ⟨rfl, rfl⟩

end Go.Proofs.YtpfmmlbakbhklaaGreatDoor
