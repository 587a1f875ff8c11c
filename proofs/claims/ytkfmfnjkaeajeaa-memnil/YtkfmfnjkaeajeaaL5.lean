/- The walk of MemNil: it returns true for every place and word; nothing that lay before is changed. -/
import Derived.Test.YtkfmfnjkaeajeaaW5
namespace Go.Proofs.Ytkfmfnjkaeajeaa
open Go.RowKit

set_option maxRecDepth 100000 in
set_option maxHeartbeats 1000000 in
theorem nil_walk (a v : Int) (w0 : World) :
    Calls Try.prog 5 #[.int .i64 a, .int .u64 v] w0 fun e w' => e = .returned (.bool true) ∧ Below w0.heap.size w0 w' := by
  have cz : (w0.alloc (.cells #[.slice none 0 0, .int .i64 0, .int .i64 0] 53)).cell? ⟨w0.heap.size, 0, none⟩ = some (.slice none 0 0) := by
    rw [World.cell?_alloc_at _ _ _ _ rfl]; rfl
  have hB : Below w0.heap.size w0 (w0.alloc (.cells #[.slice none 0 0, .int .i64 0, .int .i64 0] 53)) := (Below.refl _ _).alloc (Nat.le_refl _) _
  go_enter Try.func5, Try.ntmps5
  go_wp2_with fail
  generalize w0.alloc (.cells #[.slice none 0 0, .int .i64 0, .int .i64 0] 53) = W at *
  have n1 := isNone_nil W
  have n2 := isNone_zero W _ cz
  have HN : Hid (Calls Try.prog 29 #[.pointer none] W fun e w' => e = .returned (.bool true) ∧ w' = W) := n1
  have HZ : Hid (Calls Try.prog 29 #[.pointer (some ⟨w0.heap.size, 0, none⟩)] W fun e w' => e = .returned (.bool true) ∧ w' = W) := n2
  clear n1 n2 cz
  refine (load_out (by decide) (fault_none HN.out a)).mono ?_
  rintro e w' ⟨rfl, hw'⟩; rw [hw']; clear hw' w'
  go_wp2_with fail
  refine (load_out (by decide) (fault_none HZ.out a)).mono ?_
  rintro e w' ⟨rfl, hw'⟩; rw [hw']; clear hw' w'
  go_wp2_with fail
  refine (cas_out (by decide) (fault_none HN.out a)).mono ?_
  rintro e w' ⟨rfl, hw'⟩; rw [hw']; clear hw' w'
  go_wp2_with fail
  refine (add_out (by decide) (fault_none HN.out a)).mono ?_
  rintro e w' ⟨rfl, hw'⟩; rw [hw']; clear hw' w'
  go_wp2_with fail
  refine (count_none HN.out).mono ?_
  rintro e w' ⟨rfl, hw'⟩; rw [hw']; clear hw' w'
  go_wp2_with fail
  refine (store_out (by decide) (fault_none HN.out a)).mono ?_
  rintro e w' ⟨rfl, hw'⟩; rw [hw']; clear hw' w'
  go_wp2_with fail
  refine (store_out (by decide) (fault_none HZ.out a)).mono ?_
  rintro e w' ⟨rfl, hw'⟩; rw [hw']; clear hw' w'
  go_wp2_with fail
  refine (len_none HN.out).mono ?_
  rintro e w' ⟨rfl, hw'⟩; rw [hw']; clear hw' w'
  go_wp2_with fail
  refine (len_none HZ.out).mono ?_
  rintro e w' ⟨rfl, hw'⟩; rw [hw']; clear hw' w'
  go_wp2_with fail
  refine (words_none _ _ HN.out).mono ?_
  rintro e w' ⟨rfl, hw'⟩; rw [hw']; clear hw' w'
  go_wp2_with fail
  refine (copy_none HN.out).mono ?_
  rintro e w' ⟨rfl, hw'⟩; rw [hw']; clear hw' w'
  go_wp2_with fail
  refine (copy_none HZ.out).mono ?_
  rintro e w' ⟨rfl, hw'⟩; rw [hw']; clear hw' w'
  go_wp2_with fail
  refine (known_yes W).mono ?_
  rintro e w' ⟨rfl, hw'⟩
  go_wp2
  go_ret
  exact ⟨rfl, hB.trans (hw'.mono hB.size)⟩
end Go.Proofs.Ytkfmfnjkaeajeaa
