/- What the parts of a row (hasAll, part, Words) return: new memory; nothing that lay before is changed. Conditions: none but that the words are those that New gave. -/
import Derived.Test.YtmglacaikpcjhaaW4
import Derived.Deep.OwnRows
import Derived.Deep.RegionHeld3
namespace Go.Proofs.Ytmglacaikpcjhaa
open Go.RowKit

def allB (n : Nat) (a m : Int) : Bool := decide (1 ≤ m ∧ 0 ≤ a ∧ a + m ≤ n)
theorem allB_yes {n : Nat} {a m : Int} : allB n a m = true ↔ 1 ≤ m ∧ 0 ≤ a ∧ a + m ≤ n := by simp [allB]
theorem allB_no {n : Nat} {a m : Int} : allB n a m = false ↔ ¬ (1 ≤ m ∧ 0 ≤ a ∧ a + m ≤ n) := by rw [← allB_yes]; simp

set_option maxHeartbeats 400000 in
theorem hasAll_any (w : World) (q : Option Addr) (n c : Nat) (a m : Int) (hn : n ≤ 65536) (hm : m ≤ 9223372036854775807) :
    Calls Try.prog 58 #[.slice q n c, .int .i64 a, .int .i64 m] w fun e w' => e = .returned (.bool (allB n a m)) ∧ w' = w := by
  by_cases h0 : 1 ≤ m
  · by_cases h1 : 0 ≤ a
    · by_cases h2 : a ≤ n - m
      · rw [allB_yes.2 ⟨h0, h1, by omega⟩]
        go_enter Try.func58, Try.ntmps58
        go_wp2
        go_ret
        exact ⟨rfl, rfl⟩
      · rw [allB_no.2 (by omega)]
        go_enter Try.func58, Try.ntmps58
        go_wp2
        go_ret
        exact ⟨rfl, rfl⟩
    · rw [allB_no.2 (by omega)]
      go_enter Try.func58, Try.ntmps58
      go_wp2
      go_ret
      exact ⟨rfl, rfl⟩
  · rw [allB_no.2 (by omega)]
    go_enter Try.func58, Try.ntmps58
    go_wp2
    go_ret
    exact ⟨rfl, rfl⟩

set_option maxHeartbeats 800000 in
theorem part_yes {w : World} {b : Nat} {xs : List Int} (h : IsRow w b xs) (n a m : Nat) (hx : xs.length = n) (hn : n ≤ 65536) (hm : 1 ≤ m) (ha : a + m ≤ n) :
    Calls Try.prog 45 #[.slice (some ⟨b, 0, none⟩) n n, .int .i64 a, .int .i64 m] w fun e w' => e = .returned (.slice (some ⟨w.heap.size, 0, none⟩) m m) ∧ IsRow w' w.heap.size (cut xs a m) ∧ Below w.heap.size w w' := by
  have hmk := run_make_row' (P := Try.prog) 76 38 (.int .u64 0) 8 Try.underlying76 info38 rfl .i64 .i64 m (by omega) (by omega)
  obtain ⟨w2, hcp, hR, hB⟩ := copy_run h n a m hx ha
  have HA : Hid (allB n a m = true) := allB_yes.2 (by omega)
  have HR : Hid (IsRow w2 w.heap.size (cut xs a m)) := hR
  have HB : Hid (Below w.heap.size w w2) := hB
  clear hx h hR hB
  go_enter Try.func45, Try.ntmps45
  go_wp2_with (go_at_call 58; refine (hasAll_any _ _ _ _ _ _ hn (by omega)).mono ?_; rintro e w' ⟨rfl, hw'⟩; rw [hw', HA.out]; clear hw' w')
  go_ret
  exact ⟨rfl, HR.out, HB.out⟩

set_option maxHeartbeats 400000 in
theorem words_yes {w : World} {p b : Nat} {xs : List Int} {d l : Int} (h : IsMem 78 w p b xs d l) (a m : Nat) (hm : 1 ≤ m) (ha : a + m ≤ xs.length) :
    Calls Try.prog 22 #[.pointer (some ⟨p, 0, none⟩), .int .i64 a, .int .i64 m] w fun e w' => e = .returned (.slice (some ⟨w.heap.size, 0, none⟩) m m) ∧ IsRow w' w.heap.size (cut xs a m) ∧ Below w.heap.size w w' := by
  have c0 := h.cells.1
  have HF : Hid (Calls Try.prog 44 #[.pointer (some ⟨p, 0, none⟩)] w fun e w' => e = .returned (.bool false) ∧ w' = w) := isNone_at h
  have HP : Hid (Calls Try.prog 45 #[.slice (some ⟨b, 0, none⟩) xs.length xs.length, .int .i64 a, .int .i64 m] w fun e w' => e = .returned (.slice (some ⟨w.heap.size, 0, none⟩) m m) ∧ IsRow w' w.heap.size (cut xs a m) ∧ Below w.heap.size w w') := part_yes h.row xs.length a m rfl h.top hm ha
  generalize xs.length = n at *
  clear h
  go_enter Try.func22, Try.ntmps22
  go_wp2_with (first
    | (go_at_call 44; refine HF.out.mono ?_; rintro e w' ⟨rfl, hw'⟩; rw [hw']; clear hw' w')
    | (go_at_call 45; refine HP.out.mono ?_; rintro e w' ⟨rfl, hR, hB⟩))
  go_ret
  exact ⟨rfl, hR, hB⟩

end Go.Proofs.Ytmglacaikpcjhaa
