/- What each call of package field's small functions (isField, Mask, Get, Put, Count) returns, for every argument: their contracts; the world is as it was. No conditions but that a word is one of 64 bits. -/
import Derived.Test.YthhilppeeffheaaDoorRows
import Derived.Test.YthhilppeeffheaaDoorMath
import Derived.WalkKit
import Derived.WalkSpells
import Derived.WalkLawsBesides
import Derived.Laws.BitsAllLaws
import Derived.Laws.Bits128
import Derived.Laws.Bits64b
namespace Go.Proofs.YthhilppeeffheaaDoor
open Go.RowKit

def isF (low size : Int) : Bool := decide (1 ≤ size ∧ size ≤ 64 ∧ 0 ≤ low ∧ low + size ≤ 64)
theorem isF_iff (l s : Int) : isF l s = true ↔ 1 ≤ s ∧ s ≤ 64 ∧ 0 ≤ l ∧ l + s ≤ 64 := by simp [isF]
theorem isF_not (l s : Int) : isF l s = false ↔ ¬ (1 ≤ s ∧ s ≤ 64 ∧ 0 ≤ l ∧ l + s ≤ 64) := by
  rw [← isF_iff]; simp

theorem ret_int {k : IntKind} {a b : Int} (h : a = b) : Ending.returned (.int k a) = .returned (.int k b) := by rw [h]

set_option maxHeartbeats 400000 in
theorem isField_yes (l s : Int) (w : World) (h : isF l s = true) :
    Calls Tryd.prog 28 #[.int .i64 l, .int .i64 s] w fun e w' => e = .returned (.bool true) ∧ w' = w := by
  obtain ⟨h1, h2, h3, h4⟩ := (isF_iff l s).1 h
  have h5 : l ≤ 64 - s := by omega
  clear h h4
  go_enter Tryd.func28, Tryd.ntmps28
  go_wp2
  go_ret
  exact ⟨rfl, rfl⟩

set_option maxHeartbeats 400000 in
theorem isField_no (l s : Int) (w : World) (h : isF l s = false) :
    Calls Tryd.prog 28 #[.int .i64 l, .int .i64 s] w fun e w' => e = .returned (.bool false) ∧ w' = w := by
  have h' := (isF_not l s).1 h
  by_cases h1 : 1 ≤ s
  · by_cases h2 : s ≤ 64
    · by_cases h3 : 0 ≤ l
      · have h5 : ¬ l ≤ 64 - s := by omega
        clear h h'
        go_enter Tryd.func28, Tryd.ntmps28
        go_wp2
        go_ret
        exact ⟨rfl, rfl⟩
      · clear h h'
        go_enter Tryd.func28, Tryd.ntmps28
        go_wp2
        go_ret
        exact ⟨rfl, rfl⟩
    · clear h h'
      go_enter Tryd.func28, Tryd.ntmps28
      go_wp2
      go_ret
      exact ⟨rfl, rfl⟩
  · clear h h'
    go_enter Tryd.func28, Tryd.ntmps28
    go_wp2
    go_ret
    exact ⟨rfl, rfl⟩

theorem isField_any (l s : Int) (w : World) :
    Calls Tryd.prog 28 #[.int .i64 l, .int .i64 s] w fun e w' => e = .returned (.bool (isF l s)) ∧ w' = w := by
  cases h : isF l s
  · exact isField_no l s w h
  · exact isField_yes l s w h

set_option maxHeartbeats 400000 in
theorem mask_yes (l s : Nat) (w : World) (h1 : 1 ≤ s) (h2 : l + s ≤ 64) :
    Calls Tryd.prog 15 #[.int .i64 l, .int .i64 s] w fun e w' => e = .returned (.int .u64 (M.mk l s : Nat)) ∧ w' = w := by
  have HF : Hid (isF (l : Int) (s : Int) = true) := by show isF _ _ = true; rw [isF_iff]; omega
  go_enter Tryd.func15, Tryd.ntmps15
  go_wp2_with (go_at_call 28; refine (isField_yes _ _ _ HF.out).mono ?_; rintro e w' ⟨rfl, rfl⟩)
  go_ret
  exact ⟨ret_int (by rw [IntKind.wrap_u64]; exact M.mk_int l s h1 h2), rfl⟩

set_option maxHeartbeats 400000 in
theorem mask_no (l s : Int) (w : World) (h : isF l s = false) :
    Calls Tryd.prog 15 #[.int .i64 l, .int .i64 s] w fun e w' => e = .returned (.int .u64 0) ∧ w' = w := by
  have HF : Hid (isF l s = false) := h
  clear h
  go_enter Tryd.func15, Tryd.ntmps15
  go_wp2_with (go_at_call 28; refine (isField_no _ _ _ HF.out).mono ?_; rintro e w' ⟨rfl, rfl⟩)
  go_ret
  exact ⟨rfl, rfl⟩

def fMask (l s : Int) : Nat := if isF l s then M.mk l.toNat s.toNat else 0
theorem mask_any (l s : Int) (w : World) :
    Calls Tryd.prog 15 #[.int .i64 l, .int .i64 s] w fun e w' => e = .returned (.int .u64 (fMask l s : Nat)) ∧ w' = w := by
  cases h : isF l s
  · have e : fMask l s = 0 := by simp [fMask, h]
    rw [e]
    exact mask_no l s w h
  · have e : fMask l s = M.mk l.toNat s.toNat := by simp [fMask, h]
    have h' := (isF_iff l s).1 h
    rw [e]
    obtain ⟨l', rfl⟩ := Int.eq_ofNat_of_zero_le (show 0 ≤ l by omega)
    obtain ⟨s', rfl⟩ := Int.eq_ofNat_of_zero_le (show 0 ≤ s by omega)
    simp only [Int.toNat_natCast]
    exact mask_yes l' s' w (by omega) (by omega)

set_option maxHeartbeats 400000 in
theorem get_yes (x l s : Nat) (w : World) (hx : x < 18446744073709551616) (h1 : 1 ≤ s) (h2 : l + s ≤ 64) :
    Calls Tryd.prog 11 #[.int .u64 x, .int .i64 l, .int .i64 s] w fun e w' => e = .returned (.int .u64 (M.gt x l s : Nat)) ∧ w' = w := by
  have HF : Hid (isF (l : Int) (s : Int) = true) := by show isF _ _ = true; rw [isF_iff]; omega
  have HX : Hid (x < 18446744073709551616) := hx
  clear hx
  go_enter Tryd.func11, Tryd.ntmps11
  go_wp2_with (first | (go_at_call 28; refine (isField_yes _ _ _ HF.out).mono ?_; rintro e w' ⟨rfl, rfl⟩) | (go_at_call 15; refine (mask_yes _ _ _ h1 h2).mono ?_; rintro e w' ⟨rfl, rfl⟩))
  go_ret
  refine ⟨ret_int ?_, rfl⟩
  rw [u64_and_nat x _ HX.out (M.mk_lt l s h2), ← M.and_mk]
  simp

set_option maxHeartbeats 400000 in
theorem get_no (x l s : Int) (w : World) (h : isF l s = false) :
    Calls Tryd.prog 11 #[.int .u64 x, .int .i64 l, .int .i64 s] w fun e w' => e = .returned (.int .u64 0) ∧ w' = w := by
  have HF : Hid (isF l s = false) := h
  clear h
  go_enter Tryd.func11, Tryd.ntmps11
  go_wp2_with (go_at_call 28; refine (isField_no _ _ _ HF.out).mono ?_; rintro e w' ⟨rfl, rfl⟩)
  go_ret
  exact ⟨rfl, rfl⟩

def fGet (x : Nat) (l s : Int) : Nat := if isF l s then M.gt x l.toNat s.toNat else 0
theorem get_any (x l s : Int) (w : World) (h0 : 0 ≤ x) (hx : x < 18446744073709551616) :
    Calls Tryd.prog 11 #[.int .u64 x, .int .i64 l, .int .i64 s] w fun e w' => e = .returned (.int .u64 (fGet x.toNat l s : Nat)) ∧ w' = w := by
  cases h : isF l s
  · have e : fGet x.toNat l s = 0 := by simp [fGet, h]
    rw [e]
    exact get_no x l s w h
  · have e : fGet x.toNat l s = M.gt x.toNat l.toNat s.toNat := by simp [fGet, h]
    have h' := (isF_iff l s).1 h
    rw [e]
    obtain ⟨x', rfl⟩ := Int.eq_ofNat_of_zero_le h0
    obtain ⟨l', rfl⟩ := Int.eq_ofNat_of_zero_le (show 0 ≤ l by omega)
    obtain ⟨s', rfl⟩ := Int.eq_ofNat_of_zero_le (show 0 ≤ s by omega)
    simp only [Int.toNat_natCast]
    exact get_yes x' l' s' w (by omega) (by omega) (by omega)

set_option maxHeartbeats 400000 in
theorem put_yes (x l s v : Nat) (w : World) (hx : x < 18446744073709551616) (h1 : 1 ≤ s) (h2 : l + s ≤ 64) :
    Calls Tryd.prog 13 #[.int .u64 x, .int .i64 l, .int .i64 s, .int .u64 v] w fun e w' => e = .returned (.int .u64 (M.pt x l s v : Nat)) ∧ w' = w := by
  have HF : Hid (isF (l : Int) (s : Int) = true) := by show isF _ _ = true; rw [isF_iff]; omega
  have HX : Hid (x < 18446744073709551616) := hx
  clear hx
  go_enter Tryd.func13, Tryd.ntmps13
  go_wp2_with (first | (go_at_call 28; refine (isField_yes _ _ _ HF.out).mono ?_; rintro e w' ⟨rfl, rfl⟩) | (go_at_call 15; refine (mask_yes _ _ _ h1 h2).mono ?_; rintro e w' ⟨rfl, rfl⟩))
  go_ret
  refine ⟨ret_int ?_, rfl⟩
  have hm := M.mk_lt l s h2
  have e1 : IntKind.u64.wrap ((v : Int) * 2 ^ l) = ((v * 2 ^ l % 18446744073709551616 : Nat) : Int) := by
    rw [IntKind.wrap_u64]; simp
  rw [e1, u64_andNot_nat x _ HX.out hm, u64_and_nat _ _ (Nat.mod_lt _ (by decide)) hm, u64_or_nat _ _ (Nat.lt_of_le_of_lt Nat.and_le_left HX.out) (Nat.lt_of_le_of_lt Nat.and_le_right hm), M.put_eq x l s v HX.out h2]

set_option maxHeartbeats 400000 in
theorem put_no (x l s v : Int) (w : World) (h : isF l s = false) :
    Calls Tryd.prog 13 #[.int .u64 x, .int .i64 l, .int .i64 s, .int .u64 v] w fun e w' => e = .returned (.int .u64 x) ∧ w' = w := by
  have HF : Hid (isF l s = false) := h
  clear h
  go_enter Tryd.func13, Tryd.ntmps13
  go_wp2_with (go_at_call 28; refine (isField_no _ _ _ HF.out).mono ?_; rintro e w' ⟨rfl, rfl⟩)
  go_ret
  exact ⟨rfl, rfl⟩

def fPut (x : Nat) (l s : Int) (v : Nat) : Nat := if isF l s then M.pt x l.toNat s.toNat v else x
theorem put_any (x l s v : Int) (w : World) (h0 : 0 ≤ x) (hx : x < 18446744073709551616) (hv : 0 ≤ v) :
    Calls Tryd.prog 13 #[.int .u64 x, .int .i64 l, .int .i64 s, .int .u64 v] w fun e w' => e = .returned (.int .u64 (fPut x.toNat l s v.toNat : Nat)) ∧ w' = w := by
  cases h : isF l s
  · have e : fPut x.toNat l s v.toNat = x.toNat := by simp [fPut, h]
    rw [e, Int.toNat_of_nonneg h0]
    exact put_no x l s v w h
  · have e : fPut x.toNat l s v.toNat = M.pt x.toNat l.toNat s.toNat v.toNat := by simp [fPut, h]
    have h' := (isF_iff l s).1 h
    rw [e]
    obtain ⟨x', rfl⟩ := Int.eq_ofNat_of_zero_le h0
    obtain ⟨v', rfl⟩ := Int.eq_ofNat_of_zero_le hv
    obtain ⟨l', rfl⟩ := Int.eq_ofNat_of_zero_le (show 0 ≤ l by omega)
    obtain ⟨s', rfl⟩ := Int.eq_ofNat_of_zero_le (show 0 ≤ s by omega)
    simp only [Int.toNat_natCast]
    exact put_yes x' l' s' v' w (by omega) (by omega) (by omega)

theorem fMask_lt (l s : Int) : fMask l s < 18446744073709551616 := by
  unfold fMask
  split
  · rename_i h; have := (isF_iff l s).1 h; exact M.mk_lt _ _ (by omega)
  · decide
theorem fGet_lt (x : Nat) (l s : Int) (h : x < 18446744073709551616) : fGet x l s < 18446744073709551616 := by
  unfold fGet
  split
  · exact M.gt_lt _ _ _ h
  · decide
theorem fPut_lt (x : Nat) (l s : Int) (v : Nat) (h : x < 18446744073709551616) : fPut x l s v < 18446744073709551616 := by
  unfold fPut
  split
  · rename_i h1; have := (isF_iff l s).1 h1; exact M.pt_lt _ _ _ _ h (by omega)
  · exact h

theorem cnt1 (x : Nat) (hx : x < 18446744073709551616) :
    IntKind.u64.wrap (bits BinOp.and IntKind.u64 ((x : Int) / 2) 6148914691236517205 + bits BinOp.and IntKind.u64 (x : Int) 6148914691236517205) = ((M.s1 8 x : Nat) : Int) := by
  have e1 := u64_and_nat (x / 2) 6148914691236517205 (by omega) (by decide)
  have e2 := u64_and_nat x 6148914691236517205 hx (by decide)
  have h1 : x / 2 &&& 6148914691236517205 ≤ 6148914691236517205 := Nat.and_le_right
  have h2 : x &&& 6148914691236517205 ≤ 6148914691236517205 := Nat.and_le_right
  rw [show ((x : Int) / 2) = ((x / 2 : Nat) : Int) by simp]
  rw [show ((6148914691236517205 : Nat) : Int) = 6148914691236517205 from rfl] at e1 e2
  rw [e1, e2, IntKind.wrap_u64]
  unfold M.s1
  rw [M.rep85]
  omega
theorem s1_le (x : Nat) : M.s1 8 x ≤ 12297829382473034410 := by
  have h1 : x / 2 &&& 6148914691236517205 ≤ 6148914691236517205 := Nat.and_le_right
  have h2 : x &&& 6148914691236517205 ≤ 6148914691236517205 := Nat.and_le_right
  unfold M.s1
  rw [M.rep85]
  omega
theorem s2_le (x : Nat) : M.s2 8 x ≤ 7378697629483820646 := by
  have h1 : x / 4 &&& 3689348814741910323 ≤ 3689348814741910323 := Nat.and_le_right
  have h2 : x &&& 3689348814741910323 ≤ 3689348814741910323 := Nat.and_le_right
  unfold M.s2
  rw [M.rep51]
  omega
theorem cnt2 (x : Nat) (hx : x ≤ 12297829382473034410) :
    IntKind.u64.wrap (bits BinOp.and IntKind.u64 ((x : Int) / 4) 3689348814741910323 + bits BinOp.and IntKind.u64 (x : Int) 3689348814741910323) = ((M.s2 8 x : Nat) : Int) := by
  have e1 := u64_and_nat (x / 4) 3689348814741910323 (by omega) (by decide)
  have e2 := u64_and_nat x 3689348814741910323 (by omega) (by decide)
  have h1 : x / 4 &&& 3689348814741910323 ≤ 3689348814741910323 := Nat.and_le_right
  have h2 : x &&& 3689348814741910323 ≤ 3689348814741910323 := Nat.and_le_right
  rw [show ((x : Int) / 4) = ((x / 4 : Nat) : Int) by simp]
  rw [show ((3689348814741910323 : Nat) : Int) = 3689348814741910323 from rfl] at e1 e2
  rw [e1, e2, IntKind.wrap_u64]
  unfold M.s2
  rw [M.rep51]
  omega
theorem cnt3 (x : Nat) (hx : x ≤ 7378697629483820646) :
    bits BinOp.and IntKind.u64 (IntKind.u64.wrap ((x : Int) / 16 + (x : Int))) 1085102592571150095 = ((M.s3 8 x : Nat) : Int) := by
  have e1 := u64_and_nat (x / 16 + x) 1085102592571150095 (by omega) (by decide)
  rw [show ((1085102592571150095 : Nat) : Int) = 1085102592571150095 from rfl] at e1
  rw [IntKind.wrap_u64, show ((x : Int) / 16 + (x : Int)) % 18446744073709551616 = ((x / 16 + x : Nat) : Int) by omega, e1]
  unfold M.s3
  rw [M.rep15]
theorem cnt4 (a : Nat) (h : a < 1157442765409226768) : IntKind.u64.wrap ((a : Int) + (a : Int) / 256) = ((a + a / 256 : Nat) : Int) := by
  rw [IntKind.wrap_u64]; omega
theorem cnt5 (a : Nat) (h : a < 1200000000000000000) : IntKind.u64.wrap ((a : Int) + (a : Int) / 65536) = ((a + a / 65536 : Nat) : Int) := by
  rw [IntKind.wrap_u64]; omega
theorem cnt6 (a : Nat) (h : a < 1300000000000000000) : IntKind.u64.wrap ((a : Int) + (a : Int) / 4294967296) = ((a + a / 4294967296 : Nat) : Int) := by
  rw [IntKind.wrap_u64]; omega

set_option maxHeartbeats 400000 in
theorem count_any (x : Nat) (w : World) (hx : x < 18446744073709551616) :
    Calls Tryd.prog 32 #[.int .u64 x] w fun e w' => e = .returned (.int .i64 (M.popN 64 x : Nat)) ∧ w' = w := by
  have HX : Hid (x < 18446744073709551616) := hx
  clear hx
  go_enter Tryd.func32, Tryd.ntmps32
  go_wp2
  go_ret
  refine ⟨ret_int ?_, rfl⟩
  have hb := M.bytes_fold x
  rw [← M.s123] at hb
  unfold M.fold at hb
  rw [cnt1 x HX.out, cnt2 _ (s1_le x), cnt3 _ (s2_le _), cnt4 _ hb.1, cnt5 _ (by omega), cnt6 _ (by omega)]
  rw [i64_and127]
  unfold wrap64
  omega

set_option maxHeartbeats 400000 in
theorem fcount_nat (x : Nat) (w : World) (hx : x < 18446744073709551616) :
    Calls Tryd.prog 19 #[.int .u64 x] w fun e w' => e = .returned (.int .i64 (M.popN 64 x : Nat)) ∧ w' = w := by
  have HX : Hid (x < 18446744073709551616) := hx
  clear hx
  go_enter Tryd.func19, Tryd.ntmps19
  go_wp2_with (go_at_call 32; refine (count_any _ _ HX.out).mono ?_; rintro e w' ⟨rfl, rfl⟩)
  go_ret
  exact ⟨rfl, rfl⟩
theorem fcount_any (x : Int) (w : World) (h0 : 0 ≤ x) (hx : x < 18446744073709551616) :
    Calls Tryd.prog 19 #[.int .u64 x] w fun e w' => e = .returned (.int .i64 (M.popN 64 x.toNat : Nat)) ∧ w' = w := by
  obtain ⟨x', rfl⟩ := Int.eq_ofNat_of_zero_le h0
  exact fcount_nat x' w (by omega)

set_option maxHeartbeats 400000 in
theorem tz_core (x k idx : Nat) (w : World) (hx0 : ((x : Int) == 0) = false)
    (key : IntKind.u64.wrap (bits BinOp.and IntKind.u64 (x : Int) (IntKind.u64.wrap (-(x : Int))) * 285870213051353865) / 288230376151711744 = (idx : Int))
    (hi : idx < 64) (hk : k < 64) (hcell : w.cell? ⟨0, idx, none⟩ = some (.int .u8 k)) :
    Calls Tryd.prog 34 #[.int .u64 x] w fun e w' => e = .returned (.int .i64 k) ∧ w' = w := by
  go_enter Tryd.func34, Tryd.ntmps34
  go_wp2_with (simp only [key])
  go_ret
  exact ⟨rfl, rfl⟩

theorem tz_key (x a : Nat) (hx : x < 18446744073709551616) (hx0 : x ≠ 0) (hlow : x &&& (18446744073709551616 - x) = a) :
    IntKind.u64.wrap (bits BinOp.and IntKind.u64 (x : Int) (IntKind.u64.wrap (-(x : Int))) * 285870213051353865) / 288230376151711744 = ((a * 285870213051353865 % 18446744073709551616 / 288230376151711744 : Nat) : Int) := by
  have e1 : IntKind.u64.wrap (-(x : Int)) = ((18446744073709551616 - x : Nat) : Int) := by rw [IntKind.wrap_u64]; omega
  rw [e1, bits_and_u64_nat x _ hx (by omega), hlow, IntKind.wrap_u64]
  omega

/-- The library's table, in its variable. -/
def Tab (w : World) : Prop := ∀ j, j < 64 → w.cell? ⟨0, j, none⟩ = some (.int .u8 (Lib.deBruijn64tab.getD j 0))

theorem tz_any (x : Nat) (hx : x < 18446744073709551616) (hx0 : x ≠ 0) (w : World) (hT : Tab w) :
    Calls Tryd.prog 34 #[.int .u64 x] w fun e w' => e = .returned (.int .i64 (Lib.ctz 64 x)) ∧ w' = w := by
  obtain ⟨hlow, hk⟩ := Lib.lowest_bit 64 x hx0 hx
  obtain ⟨hi, htab⟩ := Lib.deBruijn64_at _ hk
  have hcell := hT _ hi
  rw [htab] at hcell
  exact tz_core x _ _ w (by simp; omega) (tz_key x _ hx hx0 hlow) hi hk hcell
end Go.Proofs.YthhilppeeffheaaDoor
