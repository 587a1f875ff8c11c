/- What the calls of package mem to one word return, and what they leave, for words that New gave. Conditions: the counts are below 2^62. -/
import Derived.Test.YtpfmmlbakbhklaaGreatDoorH
import Derived.BigQuiet
import Derived.Deep.QuietTactic
namespace Go.Proofs.YtpfmmlbakbhklaaGreatDoor
open Go.RowKit

set_option maxHeartbeats 400000 in
theorem isNone_at {w : World} {p b : Nat} {xs : List Int} {d l : Int} (h : IsMem 124 w p b xs d l) :
    Calls Tryz.prog 64 #[.pointer (some ⟨p, 0, none⟩)] w fun e w' => e = .returned (.bool false) ∧ w' = w := by
  have c0 := h.cells.1
  have h1 := h.pos
  have h2 := h.top
  generalize xs.length = n at *
  clear h
  have hn : ((n : Int) == 0) = false := by simp; omega
  go_enter Tryz.func64, Tryz.ntmps64
  go_wp2
  go_ret
  exact ⟨rfl, rfl⟩

set_option maxHeartbeats 400000 in
theorem isNone_nil (w : World) :
    Calls Tryz.prog 64 #[.pointer none] w fun e w' => e = .returned (.bool true) ∧ w' = w := by
  go_enter Tryz.func64, Tryz.ntmps64
  go_wp2
  go_ret
  exact ⟨rfl, rfl⟩

set_option maxHeartbeats 400000 in
theorem isNone_zero (w : World) (p : Nat) (c0 : w.cell? ⟨p, 0, none⟩ = some (.slice none 0 0)) :
    Calls Tryz.prog 64 #[.pointer (some ⟨p, 0, none⟩)] w fun e w' => e = .returned (.bool true) ∧ w' = w := by
  go_enter Tryz.func64, Tryz.ntmps64
  go_wp2
  go_ret
  exact ⟨rfl, rfl⟩

def inB (n : Nat) (a : Int) : Bool := decide (0 ≤ a ∧ a < n)
theorem inB_yes {n : Nat} {a : Int} : inB n a = true ↔ 0 ≤ a ∧ a < n := by simp [inB]
theorem inB_no {n : Nat} {a : Int} : inB n a = false ↔ ¬ (0 ≤ a ∧ a < n) := by rw [← inB_yes]; simp

set_option maxHeartbeats 400000 in
theorem has_any (w : World) (q : Option Addr) (n c : Nat) (a : Int) :
    Calls Tryz.prog 170 #[.slice q n c, .int .i64 a] w fun e w' => e = .returned (.bool (inB n a)) ∧ w' = w := by
  by_cases h0 : 0 ≤ a
  · by_cases h1 : a < n
    · rw [inB_yes.2 ⟨h0, h1⟩]
      go_enter Tryz.func170, Tryz.ntmps170
      go_wp2
      go_ret
      exact ⟨rfl, rfl⟩
    · rw [inB_no.2 (by omega)]
      go_enter Tryz.func170, Tryz.ntmps170
      go_wp2
      go_ret
      exact ⟨rfl, rfl⟩
  · rw [inB_no.2 (by omega)]
    go_enter Tryz.func170, Tryz.ntmps170
    go_wp2
    go_ret
    exact ⟨rfl, rfl⟩

set_option maxHeartbeats 400000 in
theorem fault_yes {w : World} {p b : Nat} {xs : List Int} {d l : Int} (h : IsMem 124 w p b xs d l) (a : Int) (ha : inB xs.length a = true) :
    Calls Tryz.prog 140 #[.pointer (some ⟨p, 0, none⟩), .int .i64 a] w fun e w' => e = .returned (.int .i64 0) ∧ w' = w := by
  have c0 := h.cells.1
  have HT : Hid (xs.length ≤ 65536) := h.top
  have HA : Hid (inB xs.length a = true) := ha
  clear ha
  have HM : Hid (IsMem 124 w p b xs d l) := h
  clear h
  go_enter Tryz.func140, Tryz.ntmps140
  go_wp2_with (first
    | (go_at_call 64; refine (isNone_at HM.out).mono ?_; rintro e w' ⟨rfl, hw'⟩; rw [hw']; clear hw' w')
    | (go_at_call 170; refine (has_any _ _ _ _ _).mono ?_; rintro e w' ⟨rfl, hw'⟩; rw [hw', HA.out]; clear hw' w'))
  go_ret
  exact ⟨rfl, rfl⟩

set_option maxHeartbeats 400000 in
theorem fault_no {w : World} {p b : Nat} {xs : List Int} {d l : Int} (h : IsMem 124 w p b xs d l) (a : Int) (ha : inB xs.length a = false) :
    Calls Tryz.prog 140 #[.pointer (some ⟨p, 0, none⟩), .int .i64 a] w fun e w' => e = .returned (.int .i64 2) ∧ w' = w := by
  have c0 := h.cells.1
  have HT : Hid (xs.length ≤ 65536) := h.top
  have HA : Hid (inB xs.length a = false) := ha
  clear ha
  have HM : Hid (IsMem 124 w p b xs d l) := h
  clear h
  go_enter Tryz.func140, Tryz.ntmps140
  go_wp2_with (first
    | (go_at_call 64; refine (isNone_at HM.out).mono ?_; rintro e w' ⟨rfl, hw'⟩; rw [hw']; clear hw' w')
    | (go_at_call 170; refine (has_any _ _ _ _ _).mono ?_; rintro e w' ⟨rfl, hw'⟩; rw [hw', HA.out]; clear hw' w'))
  go_ret
  exact ⟨rfl, rfl⟩

set_option maxHeartbeats 400000 in
theorem fault_none {w : World} {q : Option Addr} (h : Calls Tryz.prog 64 #[.pointer q] w fun e w' => e = .returned (.bool true) ∧ w' = w) (a : Int) :
    Calls Tryz.prog 140 #[.pointer q, .int .i64 a] w fun e w' => e = .returned (.int .i64 10) ∧ w' = w := by
  have HM : Hid (Calls Tryz.prog 64 #[.pointer q] w fun e w' => e = .returned (.bool true) ∧ w' = w) := h
  clear h
  go_enter Tryz.func140, Tryz.ntmps140
  go_wp2_with (go_at_call 64; refine HM.out.mono ?_; rintro e w' ⟨rfl, hw'⟩; rw [hw']; clear hw' w')
  go_ret
  exact ⟨rfl, rfl⟩

/-- A word is laid. -/
def laidW (w : World) (p b i : Nat) (v d l : Int) : World := ((w.setCell ⟨b, i, none⟩ (.int .u64 v)).setCell ⟨p, 1, none⟩ (.int .i64 (d + 1))).setCell ⟨p, 2, none⟩ (.int .i64 (l + 1))
theorem IsMem.laidW {t : TypeId} {w : World} {p b : Nat} {xs : List Int} {d l : Int} (h : IsMem t w p b xs d l) (i : Nat) (v : Int) : IsMem t (laidW w p b i v d l) p b (xs.set i v) (d + 1) (l + 1) :=
  ((h.word i v).done (d + 1)).laid (l + 1)
theorem But.laidW (w : World) (p b i : Nat) (v d l : Int) : But p b w (laidW w p b i v d l) :=
  ((But.setCell p b w ⟨b, i, none⟩ _ (Or.inr rfl)).trans (But.setCell p b _ ⟨p, 1, none⟩ _ (Or.inl rfl))).trans (But.setCell p b _ ⟨p, 2, none⟩ _ (Or.inl rfl))

set_option maxHeartbeats 800000 in
theorem lay_at {w : World} {p b : Nat} {xs : List Int} {d l : Int} (h : IsMem 124 w p b xs d l) (i : Nat) (v : Int) (hi : i < xs.length) (hd0 : 0 ≤ d) (hd : d ≤ 4611686018427387904) (hl0 : 0 ≤ l) (hl : l ≤ 4611686018427387904) :
    Calls Tryz.prog 141 #[.pointer (some ⟨p, 0, none⟩), .int .i64 i, .int .u64 v] w fun e w' => e = .returned (.tuple #[]) ∧ w' = laidW w p b i v d l := by
  obtain ⟨c0, c1, c2⟩ := h.cells
  have f1 := h.free 1
  have f2 := h.free 2
  have fb := h.row.free i
  have cb := h.row.cell i hi
  have hne := h.ne
  have hne' : b ≠ p := fun e => h.ne e.symm
  have ht := h.top
  generalize xs.length = n at *
  clear h
  go_enter Tryz.func141, Tryz.ntmps141
  go_wp2
  go_end0
  exact ⟨rfl, rfl⟩
end Go.Proofs.YtpfmmlbakbhklaaGreatDoor
