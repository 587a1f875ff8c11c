/- What each call of package field's small functions (isField, Mask, Get, Put) returns, for every argument: their contracts; the world is as it was. No conditions but that a word is one of 64 bits. -/
import Derived.Test.YtpfmmlbakbhklaaGreatDoorRows
import Derived.Test.YtpfmmlbakbhklaaGreatDoorOMath
import Derived.WalkKit
import Derived.WalkSpells
import Derived.WalkLawsBesides
import Derived.Laws.BitsAllLaws
import Derived.Laws.Bits128
import Derived.Laws.Bits64b
namespace Go.Proofs.YtpfmmlbakbhklaaGreatDoor.O
open Go.RowKit

def isF (low size : Int) : Bool := decide (1 ≤ size ∧ size ≤ 64 ∧ 0 ≤ low ∧ low + size ≤ 64)

theorem isF_iff (l s : Int) : isF l s = true ↔ 1 ≤ s ∧ s ≤ 64 ∧ 0 ≤ l ∧ l + s ≤ 64 := by simp [isF]

theorem isF_not (l s : Int) : isF l s = false ↔ ¬ (1 ≤ s ∧ s ≤ 64 ∧ 0 ≤ l ∧ l + s ≤ 64) := by
  rw [← isF_iff]; simp

theorem ret_int {k : IntKind} {a b : Int} (h : a = b) : Ending.returned (.int k a) = .returned (.int k b) := by rw [h]

set_option maxHeartbeats 400000 in
theorem isField_yes (l s : Int) (w : World) (h : isF l s = true) :
    Calls Tryz.prog 168 #[.int .i64 l, .int .i64 s] w fun e w' => e = .returned (.bool true) ∧ w' = w := by
  obtain ⟨h1, h2, h3, h4⟩ := (isF_iff l s).1 h
  have h5 : l ≤ 64 - s := by omega
  clear h h4
  go_enter Tryz.func168, Tryz.ntmps168
  go_wp2
  go_ret
  exact ⟨rfl, rfl⟩

set_option maxHeartbeats 400000 in
theorem isField_no (l s : Int) (w : World) (h : isF l s = false) :
    Calls Tryz.prog 168 #[.int .i64 l, .int .i64 s] w fun e w' => e = .returned (.bool false) ∧ w' = w := by
  have h' := (isF_not l s).1 h
  by_cases h1 : 1 ≤ s
  · by_cases h2 : s ≤ 64
    · by_cases h3 : 0 ≤ l
      · have h5 : ¬ l ≤ 64 - s := by omega
        clear h h'
        go_enter Tryz.func168, Tryz.ntmps168
        go_wp2
        go_ret
        exact ⟨rfl, rfl⟩
      · clear h h'
        go_enter Tryz.func168, Tryz.ntmps168
        go_wp2
        go_ret
        exact ⟨rfl, rfl⟩
    · clear h h'
      go_enter Tryz.func168, Tryz.ntmps168
      go_wp2
      go_ret
      exact ⟨rfl, rfl⟩
  · clear h h'
    go_enter Tryz.func168, Tryz.ntmps168
    go_wp2
    go_ret
    exact ⟨rfl, rfl⟩

theorem isField_any (l s : Int) (w : World) :
    Calls Tryz.prog 168 #[.int .i64 l, .int .i64 s] w fun e w' => e = .returned (.bool (isF l s)) ∧ w' = w := by
  cases h : isF l s
  · exact isField_no l s w h
  · exact isField_yes l s w h

set_option maxHeartbeats 400000 in
theorem mask_yes (l s : Nat) (w : World) (h1 : 1 ≤ s) (h2 : l + s ≤ 64) :
    Calls Tryz.prog 193 #[.int .i64 l, .int .i64 s] w fun e w' => e = .returned (.int .u64 (M.mk l s : Nat)) ∧ w' = w := by
  have HF : Hid (isF (l : Int) (s : Int) = true) := by show isF _ _ = true; rw [isF_iff]; omega
  go_enter Tryz.func193, Tryz.ntmps193
  go_wp2_with (go_at_call 168; refine (isField_yes _ _ _ HF.out).mono ?_; rintro e w' ⟨rfl, rfl⟩)
  go_ret
  exact ⟨ret_int (by rw [IntKind.wrap_u64]; exact M.mk_int l s h1 h2), rfl⟩

set_option maxHeartbeats 400000 in
theorem mask_no (l s : Int) (w : World) (h : isF l s = false) :
    Calls Tryz.prog 193 #[.int .i64 l, .int .i64 s] w fun e w' => e = .returned (.int .u64 0) ∧ w' = w := by
  have HF : Hid (isF l s = false) := h
  clear h
  go_enter Tryz.func193, Tryz.ntmps193
  go_wp2_with (go_at_call 168; refine (isField_no _ _ _ HF.out).mono ?_; rintro e w' ⟨rfl, rfl⟩)
  go_ret
  exact ⟨rfl, rfl⟩

def fMask (l s : Int) : Nat := if isF l s then M.mk l.toNat s.toNat else 0

theorem mask_any (l s : Int) (w : World) :
    Calls Tryz.prog 193 #[.int .i64 l, .int .i64 s] w fun e w' => e = .returned (.int .u64 (fMask l s : Nat)) ∧ w' = w := by
  cases h : isF l s
  · have e : fMask l s = 0 := by simp [fMask, h]
    rw [e]
    exact mask_no l s w h
  · have e : fMask l s = M.mk l.toNat s.toNat := by simp [fMask, h]
    have h' := (isF_iff l s).1 h
    rw [e]
    obtain ⟨l', rfl⟩ := Int.eq_ofNat_of_zero_le (show 0 ≤ l by omega)
    obtain ⟨s', rfl⟩ := Int.eq_ofNat_of_zero_le (show 0 ≤ s by omega)
    simp only [Int.toNat_natCast]
    exact mask_yes l' s' w (by omega) (by omega)

set_option maxHeartbeats 400000 in
theorem get_yes (x l s : Nat) (w : World) (hx : x < 18446744073709551616) (h1 : 1 ≤ s) (h2 : l + s ≤ 64) :
    Calls Tryz.prog 191 #[.int .u64 x, .int .i64 l, .int .i64 s] w fun e w' => e = .returned (.int .u64 (M.gt x l s : Nat)) ∧ w' = w := by
  have HF : Hid (isF (l : Int) (s : Int) = true) := by show isF _ _ = true; rw [isF_iff]; omega
  have HX : Hid (x < 18446744073709551616) := hx
  clear hx
  go_enter Tryz.func191, Tryz.ntmps191
  go_wp2_with (first | (go_at_call 168; refine (isField_yes _ _ _ HF.out).mono ?_; rintro e w' ⟨rfl, rfl⟩) | (go_at_call 193; refine (mask_yes _ _ _ h1 h2).mono ?_; rintro e w' ⟨rfl, rfl⟩))
  go_ret
  refine ⟨ret_int ?_, rfl⟩
  rw [u64_and_nat x _ HX.out (M.mk_lt l s h2), ← M.and_mk]
  simp

set_option maxHeartbeats 400000 in
theorem get_no (x l s : Int) (w : World) (h : isF l s = false) :
    Calls Tryz.prog 191 #[.int .u64 x, .int .i64 l, .int .i64 s] w fun e w' => e = .returned (.int .u64 0) ∧ w' = w := by
  have HF : Hid (isF l s = false) := h
  clear h
  go_enter Tryz.func191, Tryz.ntmps191
  go_wp2_with (go_at_call 168; refine (isField_no _ _ _ HF.out).mono ?_; rintro e w' ⟨rfl, rfl⟩)
  go_ret
  exact ⟨rfl, rfl⟩

def fGet (x : Nat) (l s : Int) : Nat := if isF l s then M.gt x l.toNat s.toNat else 0

theorem get_any (x l s : Int) (w : World) (h0 : 0 ≤ x) (hx : x < 18446744073709551616) :
    Calls Tryz.prog 191 #[.int .u64 x, .int .i64 l, .int .i64 s] w fun e w' => e = .returned (.int .u64 (fGet x.toNat l s : Nat)) ∧ w' = w := by
  cases h : isF l s
  · have e : fGet x.toNat l s = 0 := by simp [fGet, h]
    rw [e]
    exact get_no x l s w h
  · have e : fGet x.toNat l s = M.gt x.toNat l.toNat s.toNat := by simp [fGet, h]
    have h' := (isF_iff l s).1 h
    rw [e]
    obtain ⟨x', rfl⟩ := Int.eq_ofNat_of_zero_le h0
    obtain ⟨l', rfl⟩ := Int.eq_ofNat_of_zero_le (show 0 ≤ l by omega)
    obtain ⟨s', rfl⟩ := Int.eq_ofNat_of_zero_le (show 0 ≤ s by omega)
    simp only [Int.toNat_natCast]
    exact get_yes x' l' s' w (by omega) (by omega) (by omega)

theorem fMask_lt (l s : Int) : fMask l s < 18446744073709551616 := by
  unfold fMask
  split
  · rename_i h; have := (isF_iff l s).1 h; exact M.mk_lt _ _ (by omega)
  · decide

theorem fGet_lt (x : Nat) (l s : Int) (h : x < 18446744073709551616) : fGet x l s < 18446744073709551616 := by
  unfold fGet
  split
  · exact M.gt_lt _ _ _ h
  · decide

end Go.Proofs.YtpfmmlbakbhklaaGreatDoor.O
