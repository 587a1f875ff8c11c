/- What New, and the parts of a row (hasAll, part, Words, Copy), return: new memory; nothing that lay before is changed. Conditions: none but that the words are those that New gave. -/
import Derived.Test.YtpfmmlbakbhklaaGreatDoorW2
import Derived.Deep.OwnRows
import Derived.Deep.RegionHeld3
namespace Go.Proofs.YtpfmmlbakbhklaaGreatDoor
open Go.RowKit

theorem info67 : (Tryz.prog.info? 67).map (fun i => (i.zero, i.size, i.bytes)) = some (some (.int .u64 0), 1, 8) := by kernel_rfl
theorem size67 : (Tryz.prog.info? 67).map (·.size) = some 1 := by kernel_rfl
theorem made_eq (n : Nat) : madeCells #[(.int .u64 0 : Value)] n = (wd (List.replicate n 0)).toArray := by
  apply Array.toList_inj.1
  rw [toList_madeCells_one]
  simp [wd]

set_option maxHeartbeats 400000 in
theorem new_yes (n : Nat) (w : World) (h1 : 1 ≤ n) (h2 : n ≤ 65536) :
    Calls Tryz.prog 34 #[.int .i64 n] w fun e w' => e = .returned (.tuple #[.pointer (some ⟨w.heap.size + 1, 0, none⟩), .int .i64 0]) ∧ IsMem 124 w' (w.heap.size + 1) w.heap.size (List.replicate n 0) 0 0 ∧ Below w.heap.size w w' := by
  have hmk := run_make_row' (P := Tryz.prog) 122 67 (.int .u64 0) 8 Tryz.underlying122 info67 rfl .i64 .i64 n (by omega) (by omega)
  go_enter Tryz.func34, Tryz.ntmps34
  go_wp2
  go_ret2
  refine ⟨rfl, ⟨?_, ?_, by omega, by simpa using h1, by simpa using h2⟩, ((Below.refl _ _).alloc (Nat.le_refl _) _).alloc (by simp) _⟩
  · have := heap_alloc_new (w.alloc (.cells (madeCells #[(.int .u64 0 : Value)] n) 67)) (.cells #[.slice (some ⟨w.heap.size, 0, none⟩) n n, .int .i64 0, .int .i64 0] 124)
    simpa using this
  · unfold IsRow
    rw [Below.heap_alloc _ _ _ (by simp), heap_alloc_new, made_eq]

set_option maxHeartbeats 400000 in
theorem new_no (n : Int) (w : World) (h : n < 1 ∨ 65536 < n) :
    Calls Tryz.prog 34 #[.int .i64 n] w fun e w' => e = .returned (.tuple #[.pointer none, .int .i64 1]) ∧ w' = w := by
  by_cases h1 : n < 1
  · go_enter Tryz.func34, Tryz.ntmps34
    go_wp2
    go_ret2
    exact ⟨rfl, rfl⟩
  · have h2 : 65536 < n := by omega
    clear h
    go_enter Tryz.func34, Tryz.ntmps34
    go_wp2
    go_ret2
    exact ⟨rfl, rfl⟩

end Go.Proofs.YtpfmmlbakbhklaaGreatDoor
