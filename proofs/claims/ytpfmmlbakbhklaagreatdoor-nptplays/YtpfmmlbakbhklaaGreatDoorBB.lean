/- Plain arithmetic over words of 64 bits, of no program: a field's mask, a field that is got or put, a word's ones, and that the library's way of counting them counts them. No conditions but that a word is below 2^64. More plain arithmetic over words of 64 bits: the document's own way, bit by bit, of a mask, a field that is got, a field that is put, and a word's ones. What each call of package field's small functions (isField, Mask, Get, Put) returns, for every argument: their contracts; the world is as it was. No conditions but that a word is one of 64 bits. The contracts of Split and Pack, over lists that lie in memory. What each call of the document's answer of layer 1 (bit, one, is, Get) returns, for every argument; nothing that lay before is changed. -/
import Derived.Test.YtpfmmlbakbhklaaGreatDoorRows
import Derived.WalkKit
import Derived.WalkSpells
import Derived.WalkLawsBesides
import Derived.Laws.BitsAllLaws
import Derived.Laws.Bits128
import Derived.Laws.Bits64b
import Derived.Maps.AppendAt
import Derived.Deep.QuietTactic
import Derived.Deep.RegionHeld3
namespace Go.Proofs.YtpfmmlbakbhklaaGreatDoor.P
namespace M
def mk (l s : Nat) : Nat := (2 ^ s - 1) * 2 ^ l
def gt (w l s : Nat) : Nat := w / 2 ^ l % 2 ^ s
def pt (w l s v : Nat) : Nat := 2 ^ (l + s) * (w / 2 ^ (l + s)) + (2 ^ l * (v % 2 ^ s) + w % 2 ^ l)

theorem ones_div (s : Nat) (h : s ≤ 64) : 18446744073709551615 / 2 ^ (64 - s) = 2 ^ s - 1 := by
  have e : (18446744073709551616 : Nat) = 2 ^ (64 - s) * 2 ^ s := by
    rw [← Nat.pow_add, show 64 - s + s = 64 by omega]
  have hp : 0 < 2 ^ s := Nat.two_pow_pos s
  have hq : 0 < 2 ^ (64 - s) := Nat.two_pow_pos _
  have e2 : (18446744073709551615 : Nat) = 2 ^ (64 - s) * 2 ^ s - 1 := by omega
  rw [e2]
  apply Nat.div_eq_of_lt_le
  · rw [Nat.mul_comm, Nat.mul_sub]; omega
  · rw [Nat.sub_add_cancel hp, Nat.mul_comm (2 ^ s)]; omega

theorem tb_mk (l s i : Nat) : (mk l s).testBit i = decide (l ≤ i ∧ i < l + s) := by
  unfold mk
  rw [Nat.testBit_mul_two_pow, Nat.testBit_two_pow_sub_one]
  by_cases h1 : l ≤ i <;> by_cases h2 : i < l + s <;> simp [h1, h2] <;> omega

theorem mk_lt (l s : Nat) (h : l + s ≤ 64) : mk l s < 18446744073709551616 := by
  have h1 : (2 ^ s - 1) * 2 ^ l < 2 ^ s * 2 ^ l := Nat.mul_lt_mul_of_pos_right (by have := Nat.two_pow_pos s; omega) (Nat.two_pow_pos l)
  rw [← Nat.pow_add] at h1
  have h2 : 2 ^ (s + l) ≤ 2 ^ 64 := Nat.pow_le_pow_right (by decide) (by omega)
  unfold mk
  omega

theorem and_mk (w l s : Nat) : (w &&& mk l s) / 2 ^ l = gt w l s := by
  apply Nat.eq_of_testBit_eq
  intro i
  unfold gt
  rw [Nat.testBit_div_two_pow, Nat.testBit_and, tb_mk, Nat.testBit_mod_two_pow, Nat.testBit_div_two_pow]
  by_cases h : i < s <;> simp [h] <;> omega

theorem tb_pt (w l s v i : Nat) : (pt w l s v).testBit i = if l ≤ i ∧ i < l + s then v.testBit (i - l) else w.testBit i := by
  unfold pt
  have h1 : w % 2 ^ l < 2 ^ l := Nat.mod_lt _ (Nat.two_pow_pos l)
  have h2 : 2 ^ l * (v % 2 ^ s) + w % 2 ^ l < 2 ^ (l + s) := by
    have : v % 2 ^ s + 1 ≤ 2 ^ s := Nat.mod_lt _ (Nat.two_pow_pos s)
    have := Nat.mul_le_mul_left (2 ^ l) this
    rw [Nat.pow_add]
    rw [Nat.mul_add] at this
    omega
  rw [Nat.testBit_two_pow_mul_add _ h2, Nat.testBit_two_pow_mul_add _ h1, Nat.testBit_div_two_pow, Nat.testBit_mod_two_pow, Nat.testBit_mod_two_pow]
  by_cases a : i < l + s
  · by_cases b : i < l
    · have : ¬ l ≤ i := by omega
      simp [a, b, this]
    · have c : l ≤ i := by omega
      have d : i - l < s := by omega
      simp [a, b, c, d]
  · have c : ¬ (l ≤ i ∧ i < l + s) := by omega
    have d : l + s + (i - (l + s)) = i := by omega
    rw [if_neg a, if_neg c]
    congr 1
    omega

theorem lt_of_tb (x n : Nat) (h : ∀ i, n ≤ i → x.testBit i = false) : x < 2 ^ n := Nat.lt_pow_two_of_testBit x h

theorem tb_high (w i : Nat) (hw : w < 18446744073709551616) (h : 64 ≤ i) : w.testBit i = false :=
  Nat.testBit_lt_two_pow (Nat.lt_of_lt_of_le hw (show 2 ^ 64 ≤ 2 ^ i from Nat.pow_le_pow_right (by decide) h))

theorem pt_lt (w l s v : Nat) (hw : w < 18446744073709551616) (h : l + s ≤ 64) : pt w l s v < 18446744073709551616 := by
  refine lt_of_tb _ 64 fun i hi => ?_
  rw [tb_pt, if_neg (by omega)]
  exact tb_high w i hw hi

theorem gt_lt (w l s : Nat) (hw : w < 18446744073709551616) : gt w l s < 18446744073709551616 := by
  unfold gt
  have h1 : w / 2 ^ l ≤ w := Nat.div_le_self _ _
  have h2 : w / 2 ^ l % 2 ^ s ≤ w / 2 ^ l := Nat.mod_le _ _
  omega

/-- The code's Put, bit by bit. -/
theorem put_eq (w l s v : Nat) (hw : w < 18446744073709551616) (h : l + s ≤ 64) :
    (w &&& (18446744073709551615 - mk l s)) ||| (v * 2 ^ l % 18446744073709551616 &&& mk l s) = pt w l s v := by
  apply Nat.eq_of_testBit_eq
  intro i
  have hm := mk_lt l s h
  have e1 : 18446744073709551615 - mk l s = 2 ^ 64 - (mk l s + 1) := by omega
  rw [tb_pt, Nat.testBit_or, Nat.testBit_and, Nat.testBit_and, e1, Nat.testBit_two_pow_sub_succ hm, tb_mk, show (18446744073709551616 : Nat) = 2 ^ 64 from rfl, Nat.testBit_mod_two_pow, Nat.testBit_mul_two_pow]
  by_cases a : l ≤ i ∧ i < l + s
  · have b : i < 64 := by omega
    simp [a, b]
  · by_cases b : i < 64
    · simp [a, b]
    · have := tb_high w i hw (by omega)
      simp [a, this]

theorem mk_int (l s : Nat) (_h1 : 1 ≤ s) (h2 : l + s ≤ 64) :
    (18446744073709551615 : Int) / 2 ^ (64 - s) * 2 ^ l % 18446744073709551616 = ((mk l s : Nat) : Int) := by
  have hd := ones_div s (by omega)
  have hm := mk_lt l s h2
  have e : (18446744073709551615 : Int) / 2 ^ (64 - s) * 2 ^ l = ((18446744073709551615 / 2 ^ (64 - s) * 2 ^ l : Nat) : Int) := by
    simp
  rw [e, hd]
  unfold mk at hm ⊢
  omega

/-! ones -/
end M
end Go.Proofs.YtpfmmlbakbhklaaGreatDoor.P
namespace Go.Proofs.YtpfmmlbakbhklaaGreatDoor.P
namespace M
theorem tb_div (x i : Nat) : x.testBit i = decide (x / 2 ^ i % 2 = 1) := Nat.testBit_eq_decide_div_mod_eq

theorem mk_succ (l k : Nat) : mk l (k + 1) = mk l k + 2 ^ (l + k) := by
  unfold mk
  have hp := Nat.two_pow_pos k
  rw [Nat.pow_succ, Nat.pow_add, Nat.mul_comm (2 ^ l) (2 ^ k), ← Nat.add_mul]
  congr 1
  omega
theorem mk_zero (l : Nat) : mk l 0 = 0 := by simp [mk]

theorem mod_succ (v k : Nat) : v % 2 ^ (k + 1) = v % 2 ^ k + 2 ^ k * (v / 2 ^ k % 2) := by
  rw [Nat.pow_succ, Nat.mod_mul]

theorem gt_succ (x l k : Nat) : gt x l (k + 1) = gt x l k + 2 ^ k * (x / 2 ^ (l + k) % 2) := by
  unfold gt
  rw [mod_succ, Nat.div_div_eq_div_mul, ← Nat.pow_add]
theorem gt_zero (x l : Nat) : gt x l 0 = 0 := by simp [gt, Nat.mod_one]

theorem pt_zero (x l v : Nat) : pt x l 0 v = x := by
  unfold pt
  simp only [Nat.add_zero, Nat.pow_zero, Nat.mod_one, Nat.mul_zero, Nat.zero_add]
  exact Nat.div_add_mod x (2 ^ l)

theorem pt_succ (x l k v : Nat) : pt x l (k + 1) v + 2 ^ (l + k) * (x / 2 ^ (l + k) % 2) = pt x l k v + 2 ^ (l + k) * (v / 2 ^ k % 2) := by
  unfold pt
  rw [mod_succ, show l + (k + 1) = (l + k) + 1 by omega, Nat.pow_succ, ← Nat.div_div_eq_div_mul]
  generalize hX : x / 2 ^ (l + k) = X
  have hx : X = 2 * (X / 2) + X % 2 := by omega
  have e1 : 2 ^ l * (v % 2 ^ k + 2 ^ k * (v / 2 ^ k % 2)) = 2 ^ l * (v % 2 ^ k) + 2 ^ (l + k) * (v / 2 ^ k % 2) := by
    rw [Nat.mul_add, ← Nat.mul_assoc, ← Nat.pow_add]
  have e2 : 2 ^ (l + k) * X = 2 ^ (l + k) * 2 * (X / 2) + 2 ^ (l + k) * (X % 2) := by
    conv => lhs; rw [hx]
    rw [Nat.mul_add, Nat.mul_assoc]
  rw [e1, e2]
  omega

/-- The bit that stands before the next one is put. -/
theorem pt_bit (x l k v : Nat) : pt x l k v / 2 ^ (l + k) % 2 = x / 2 ^ (l + k) % 2 := by
  have h : pt x l k v / 2 ^ (l + k) = x / 2 ^ (l + k) := by
    unfold pt
    have h1 : 2 ^ l * (v % 2 ^ k) + x % 2 ^ l < 2 ^ (l + k) := by
      have a : v % 2 ^ k + 1 ≤ 2 ^ k := Nat.mod_lt _ (Nat.two_pow_pos k)
      have b := Nat.mul_le_mul_left (2 ^ l) a
      have c := Nat.mod_lt x (Nat.two_pow_pos l)
      rw [Nat.pow_add]
      rw [Nat.mul_add] at b
      omega
    rw [Nat.mul_add_div (Nat.two_pow_pos _), Nat.div_eq_of_lt h1, Nat.add_zero]
  rw [h]
theorem bit_le (x i : Nat) (h : x / 2 ^ i % 2 = 1) : 2 ^ i ≤ x := by
  apply Nat.le_of_not_lt
  intro hlt
  rw [Nat.div_eq_of_lt hlt] at h
  simp at h

end M
end Go.Proofs.YtpfmmlbakbhklaaGreatDoor.P
namespace Go.Proofs.YtpfmmlbakbhklaaGreatDoor.P
open Go.RowKit

def isF (low size : Int) : Bool := decide (1 ≤ size ∧ size ≤ 64 ∧ 0 ≤ low ∧ low + size ≤ 64)

theorem isF_iff (l s : Int) : isF l s = true ↔ 1 ≤ s ∧ s ≤ 64 ∧ 0 ≤ l ∧ l + s ≤ 64 := by simp [isF]

theorem isF_not (l s : Int) : isF l s = false ↔ ¬ (1 ≤ s ∧ s ≤ 64 ∧ 0 ≤ l ∧ l + s ≤ 64) := by
  rw [← isF_iff]; simp

theorem ret_int {k : IntKind} {a b : Int} (h : a = b) : Ending.returned (.int k a) = .returned (.int k b) := by rw [h]

set_option maxHeartbeats 400000 in
theorem isField_yes (l s : Int) (w : World) (h : isF l s = true) :
    Calls Tryz.prog 168 #[.int .i64 l, .int .i64 s] w fun e w' => e = .returned (.bool true) ∧ w' = w := by
  obtain ⟨h1, h2, h3, h4⟩ := (isF_iff l s).1 h
  have h5 : l ≤ 64 - s := by omega
  clear h h4
  go_enter Tryz.func168, Tryz.ntmps168
  go_wp2
  go_ret
  exact ⟨rfl, rfl⟩

set_option maxHeartbeats 400000 in
theorem isField_no (l s : Int) (w : World) (h : isF l s = false) :
    Calls Tryz.prog 168 #[.int .i64 l, .int .i64 s] w fun e w' => e = .returned (.bool false) ∧ w' = w := by
  have h' := (isF_not l s).1 h
  by_cases h1 : 1 ≤ s
  · by_cases h2 : s ≤ 64
    · by_cases h3 : 0 ≤ l
      · have h5 : ¬ l ≤ 64 - s := by omega
        clear h h'
        go_enter Tryz.func168, Tryz.ntmps168
        go_wp2
        go_ret
        exact ⟨rfl, rfl⟩
      · clear h h'
        go_enter Tryz.func168, Tryz.ntmps168
        go_wp2
        go_ret
        exact ⟨rfl, rfl⟩
    · clear h h'
      go_enter Tryz.func168, Tryz.ntmps168
      go_wp2
      go_ret
      exact ⟨rfl, rfl⟩
  · clear h h'
    go_enter Tryz.func168, Tryz.ntmps168
    go_wp2
    go_ret
    exact ⟨rfl, rfl⟩

theorem isField_any (l s : Int) (w : World) :
    Calls Tryz.prog 168 #[.int .i64 l, .int .i64 s] w fun e w' => e = .returned (.bool (isF l s)) ∧ w' = w := by
  cases h : isF l s
  · exact isField_no l s w h
  · exact isField_yes l s w h

set_option maxHeartbeats 400000 in
theorem mask_yes (l s : Nat) (w : World) (h1 : 1 ≤ s) (h2 : l + s ≤ 64) :
    Calls Tryz.prog 193 #[.int .i64 l, .int .i64 s] w fun e w' => e = .returned (.int .u64 (M.mk l s : Nat)) ∧ w' = w := by
  have HF : Hid (isF (l : Int) (s : Int) = true) := by show isF _ _ = true; rw [isF_iff]; omega
  go_enter Tryz.func193, Tryz.ntmps193
  go_wp2_with (go_at_call 168; refine (isField_yes _ _ _ HF.out).mono ?_; rintro e w' ⟨rfl, rfl⟩)
  go_ret
  exact ⟨ret_int (by rw [IntKind.wrap_u64]; exact M.mk_int l s h1 h2), rfl⟩

set_option maxHeartbeats 400000 in
theorem mask_no (l s : Int) (w : World) (h : isF l s = false) :
    Calls Tryz.prog 193 #[.int .i64 l, .int .i64 s] w fun e w' => e = .returned (.int .u64 0) ∧ w' = w := by
  have HF : Hid (isF l s = false) := h
  clear h
  go_enter Tryz.func193, Tryz.ntmps193
  go_wp2_with (go_at_call 168; refine (isField_no _ _ _ HF.out).mono ?_; rintro e w' ⟨rfl, rfl⟩)
  go_ret
  exact ⟨rfl, rfl⟩

def fMask (l s : Int) : Nat := if isF l s then M.mk l.toNat s.toNat else 0

theorem mask_any (l s : Int) (w : World) :
    Calls Tryz.prog 193 #[.int .i64 l, .int .i64 s] w fun e w' => e = .returned (.int .u64 (fMask l s : Nat)) ∧ w' = w := by
  cases h : isF l s
  · have e : fMask l s = 0 := by simp [fMask, h]
    rw [e]
    exact mask_no l s w h
  · have e : fMask l s = M.mk l.toNat s.toNat := by simp [fMask, h]
    have h' := (isF_iff l s).1 h
    rw [e]
    obtain ⟨l', rfl⟩ := Int.eq_ofNat_of_zero_le (show 0 ≤ l by omega)
    obtain ⟨s', rfl⟩ := Int.eq_ofNat_of_zero_le (show 0 ≤ s by omega)
    simp only [Int.toNat_natCast]
    exact mask_yes l' s' w (by omega) (by omega)

set_option maxHeartbeats 400000 in
theorem get_yes (x l s : Nat) (w : World) (hx : x < 18446744073709551616) (h1 : 1 ≤ s) (h2 : l + s ≤ 64) :
    Calls Tryz.prog 191 #[.int .u64 x, .int .i64 l, .int .i64 s] w fun e w' => e = .returned (.int .u64 (M.gt x l s : Nat)) ∧ w' = w := by
  have HF : Hid (isF (l : Int) (s : Int) = true) := by show isF _ _ = true; rw [isF_iff]; omega
  have HX : Hid (x < 18446744073709551616) := hx
  clear hx
  go_enter Tryz.func191, Tryz.ntmps191
  go_wp2_with (first | (go_at_call 168; refine (isField_yes _ _ _ HF.out).mono ?_; rintro e w' ⟨rfl, rfl⟩) | (go_at_call 193; refine (mask_yes _ _ _ h1 h2).mono ?_; rintro e w' ⟨rfl, rfl⟩))
  go_ret
  refine ⟨ret_int ?_, rfl⟩
  rw [u64_and_nat x _ HX.out (M.mk_lt l s h2), ← M.and_mk]
  simp

set_option maxHeartbeats 400000 in
theorem get_no (x l s : Int) (w : World) (h : isF l s = false) :
    Calls Tryz.prog 191 #[.int .u64 x, .int .i64 l, .int .i64 s] w fun e w' => e = .returned (.int .u64 0) ∧ w' = w := by
  have HF : Hid (isF l s = false) := h
  clear h
  go_enter Tryz.func191, Tryz.ntmps191
  go_wp2_with (go_at_call 168; refine (isField_no _ _ _ HF.out).mono ?_; rintro e w' ⟨rfl, rfl⟩)
  go_ret
  exact ⟨rfl, rfl⟩

def fGet (x : Nat) (l s : Int) : Nat := if isF l s then M.gt x l.toNat s.toNat else 0

theorem get_any (x l s : Int) (w : World) (h0 : 0 ≤ x) (hx : x < 18446744073709551616) :
    Calls Tryz.prog 191 #[.int .u64 x, .int .i64 l, .int .i64 s] w fun e w' => e = .returned (.int .u64 (fGet x.toNat l s : Nat)) ∧ w' = w := by
  cases h : isF l s
  · have e : fGet x.toNat l s = 0 := by simp [fGet, h]
    rw [e]
    exact get_no x l s w h
  · have e : fGet x.toNat l s = M.gt x.toNat l.toNat s.toNat := by simp [fGet, h]
    have h' := (isF_iff l s).1 h
    rw [e]
    obtain ⟨x', rfl⟩ := Int.eq_ofNat_of_zero_le h0
    obtain ⟨l', rfl⟩ := Int.eq_ofNat_of_zero_le (show 0 ≤ l by omega)
    obtain ⟨s', rfl⟩ := Int.eq_ofNat_of_zero_le (show 0 ≤ s by omega)
    simp only [Int.toNat_natCast]
    exact get_yes x' l' s' w (by omega) (by omega) (by omega)

set_option maxHeartbeats 400000 in
theorem put_yes (x l s v : Nat) (w : World) (hx : x < 18446744073709551616) (h1 : 1 ≤ s) (h2 : l + s ≤ 64) :
    Calls Tryz.prog 169 #[.int .u64 x, .int .i64 l, .int .i64 s, .int .u64 v] w fun e w' => e = .returned (.int .u64 (M.pt x l s v : Nat)) ∧ w' = w := by
  have HF : Hid (isF (l : Int) (s : Int) = true) := by show isF _ _ = true; rw [isF_iff]; omega
  have HX : Hid (x < 18446744073709551616) := hx
  clear hx
  go_enter Tryz.func169, Tryz.ntmps169
  go_wp2_with (first | (go_at_call 168; refine (isField_yes _ _ _ HF.out).mono ?_; rintro e w' ⟨rfl, rfl⟩) | (go_at_call 193; refine (mask_yes _ _ _ h1 h2).mono ?_; rintro e w' ⟨rfl, rfl⟩))
  go_ret
  refine ⟨ret_int ?_, rfl⟩
  have hm := M.mk_lt l s h2
  have e1 : IntKind.u64.wrap ((v : Int) * 2 ^ l) = ((v * 2 ^ l % 18446744073709551616 : Nat) : Int) := by
    rw [IntKind.wrap_u64]; simp
  rw [e1, u64_andNot_nat x _ HX.out hm, u64_and_nat _ _ (Nat.mod_lt _ (by decide)) hm, u64_or_nat _ _ (Nat.lt_of_le_of_lt Nat.and_le_left HX.out) (Nat.lt_of_le_of_lt Nat.and_le_right hm), M.put_eq x l s v HX.out h2]

set_option maxHeartbeats 400000 in
theorem put_no (x l s v : Int) (w : World) (h : isF l s = false) :
    Calls Tryz.prog 169 #[.int .u64 x, .int .i64 l, .int .i64 s, .int .u64 v] w fun e w' => e = .returned (.int .u64 x) ∧ w' = w := by
  have HF : Hid (isF l s = false) := h
  clear h
  go_enter Tryz.func169, Tryz.ntmps169
  go_wp2_with (go_at_call 168; refine (isField_no _ _ _ HF.out).mono ?_; rintro e w' ⟨rfl, rfl⟩)
  go_ret
  exact ⟨rfl, rfl⟩

def fPut (x : Nat) (l s : Int) (v : Nat) : Nat := if isF l s then M.pt x l.toNat s.toNat v else x

theorem put_any (x l s v : Int) (w : World) (h0 : 0 ≤ x) (hx : x < 18446744073709551616) (hv : 0 ≤ v) :
    Calls Tryz.prog 169 #[.int .u64 x, .int .i64 l, .int .i64 s, .int .u64 v] w fun e w' => e = .returned (.int .u64 (fPut x.toNat l s v.toNat : Nat)) ∧ w' = w := by
  cases h : isF l s
  · have e : fPut x.toNat l s v.toNat = x.toNat := by simp [fPut, h]
    rw [e, Int.toNat_of_nonneg h0]
    exact put_no x l s v w h
  · have e : fPut x.toNat l s v.toNat = M.pt x.toNat l.toNat s.toNat v.toNat := by simp [fPut, h]
    have h' := (isF_iff l s).1 h
    rw [e]
    obtain ⟨x', rfl⟩ := Int.eq_ofNat_of_zero_le h0
    obtain ⟨v', rfl⟩ := Int.eq_ofNat_of_zero_le hv
    obtain ⟨l', rfl⟩ := Int.eq_ofNat_of_zero_le (show 0 ≤ l by omega)
    obtain ⟨s', rfl⟩ := Int.eq_ofNat_of_zero_le (show 0 ≤ s by omega)
    simp only [Int.toNat_natCast]
    exact put_yes x' l' s' v' w (by omega) (by omega) (by omega)

theorem fMask_lt (l s : Int) : fMask l s < 18446744073709551616 := by
  unfold fMask
  split
  · rename_i h; have := (isF_iff l s).1 h; exact M.mk_lt _ _ (by omega)
  · decide

theorem fGet_lt (x : Nat) (l s : Int) (h : x < 18446744073709551616) : fGet x l s < 18446744073709551616 := by
  unfold fGet
  split
  · exact M.gt_lt _ _ _ h
  · decide

theorem fPut_lt (x : Nat) (l s : Int) (v : Nat) (h : x < 18446744073709551616) : fPut x l s v < 18446744073709551616 := by
  unfold fPut
  split
  · rename_i h1; have := (isF_iff l s).1 h1; exact M.pt_lt _ _ _ _ h (by omega)
  · exact h

theorem ret_bool {a b : Bool} (h : a = b) : Ending.returned (.bool a) = .returned (.bool b) := by rw [h]

end Go.Proofs.YtpfmmlbakbhklaaGreatDoor.P
namespace Go.Proofs.YtpfmmlbakbhklaaGreatDoor.P
open Go.RowKit

/-- A slice that reads as a list of numbers of a kind. -/
def Row (k : IntKind) (w : World) (v : Value) (xs : List Int) : Prop :=
  xs.length ≤ maxLen ∧ ∃ p cap, v = .slice p xs.length cap ∧ (xs ≠ [] → ∃ b off, p = some ⟨b, off, none⟩ ∧ b < w.heap.size ∧ ∀ i, i < xs.length → w.cell? ⟨b, off + i, none⟩ = some (.int k (xs[i]?.getD 0)))

theorem Row.below {k : IntKind} {w w' : World} {v : Value} {xs : List Int} (h : Row k w v xs) (hb : Below w.heap.size w w') : Row k w' v xs := by
  obtain ⟨hl, p, cap, rfl, hc⟩ := h
  refine ⟨hl, p, cap, rfl, fun hne => ?_⟩
  obtain ⟨b, off, rfl, hlt, hcell⟩ := hc hne
  exact ⟨b, off, rfl, Nat.lt_of_lt_of_le hlt hb.size, fun i hi => (hb.cell (p := ⟨b, off + i, none⟩) hlt).trans (hcell i hi)⟩

/-- What Split hands back: a word's fields, or none where they are no fields of one word. -/
def splitTo (x : Nat) : Int → List Int → Option (List Nat)
  | _, [] => some []
  | low, s :: r => if isF low s then (splitTo x (low + s) r).map (fGet x low s :: ·) else none

theorem splitTo_yes (x : Nat) (low s : Int) (r : List Int) (h : isF low s = true) : splitTo x low (s :: r) = (splitTo x (low + s) r).map (fGet x low s :: ·) := by
  simp [splitTo, h]

theorem splitTo_no (x : Nat) (low s : Int) (r : List Int) (h : isF low s = false) : splitTo x low (s :: r) = none := by
  simp [splitTo, h]

theorem info67 : (Tryz.prog.info? 67).map (fun i => (i.zero, i.size, i.bytes)) = some (some (.int .u64 0), 1, 8) := by kernel_rfl

def wrds (l : List Nat) : List Value := l.map fun x => Value.int .u64 (x : Nat)

set_option maxHeartbeats 400000 in
theorem split_nil (x : Int) (p : Option Addr) (c : Nat) (w : World) :
    Calls Tryz.prog 157 #[.int .u64 x, .slice p 0 c] w fun e w' => e = .returned (.slice none 0 0) ∧ w' = w := by
  go_enter Tryz.func157, Tryz.ntmps157
  go_wp2
  refine wp_loop_rounds 1 ?_
  rw [rounds_succ]
  go_wp2
  go_ret
  exact ⟨rfl, rfl⟩

set_option maxRecDepth 100000 in
set_option maxHeartbeats 1000000 in
theorem split_some (x : Nat) (hx : x < 18446744073709551616) (b off cap n : Nat) (xs : List Int) (w : World) (hxs : xs.length = n) (hn : n ≤ maxLen) (hb : b < w.heap.size)
    (h1 : ∀ i, i < n → w.cell? ⟨b, off + i, none⟩ = some (.int .i64 (xs[i]?.getD 0))) :
    Calls Tryz.prog 157 #[.int .u64 (x : Nat), .slice (some ⟨b, off, none⟩) n cap] w fun e w' =>
      ∃ v, e = .returned v ∧ w'.ownsRow w.heap.size 67 1 v ((splitTo x 0 xs).getD []).length (wrds ((splitTo x 0 xs).getD [])) ∧ Below w.heap.size w w' := by
  obtain ⟨i0, hi, hz0, hz1, hz2⟩ := info_parts info67
  have HX : Hid (x < 18446744073709551616) := hx
  have HX' : Hid ((x : Int) < 18446744073709551616) := by show (x : Int) < 18446744073709551616; omega
  have HXS : Hid (xs.length = n) := hxs
  clear hx hxs
  unfold maxLen at hn
  go_enter Tryz.func157, Tryz.ntmps157
  go_wp2
  go_loopw [5, 6, 11] (fun l low i wr => ∃ (k lo : Nat) (out : List Nat), k ≤ n ∧ i = .int .i64 k ∧ low = .int .i64 lo ∧ out.length ≤ lo ∧ lo ≤ 64 ∧ splitTo x 0 xs = (splitTo x lo (xs.drop k)).map (out ++ ·) ∧ wr.ownsRow w.heap.size 67 1 l out.length (wrds out) ∧ Below w.heap.size w wr)
    (fun _ _ i _ => n - (intOf i).toNat)
  case atStart => exact ⟨0, 0, [], Nat.zero_le _, rfl, rfl, by simp, by decide, by simp, World.ownsRow_nil _ _ _ _, Below.refl _ _⟩
  case round =>
    obtain ⟨k, lo, out, hk, rfl, rfl, hol, hlo, hsp, hown, hB⟩ := hrel
    have HSP : Hid (splitTo x 0 xs = (splitTo x lo (xs.drop k)).map (out ++ ·)) := hsp
    clear hsp
    by_cases hlt : k < n
    · have c1 : wr.cell? ⟨b, off + k, none⟩ = some (.int .i64 (xs[k]?.getD 0)) := (hB.cell (p := ⟨b, off + k, none⟩) hb).trans (h1 k hlt)
      have HD : Hid (xs.drop k = xs[k]?.getD 0 :: xs.drop (k + 1)) := by
        show xs.drop k = _
        have hk' : k < xs.length := by rw [HXS.out]; exact hlt
        rw [List.drop_eq_getElem_cons hk']
        simp [hk']
      generalize xs[k]?.getD 0 = z at c1 HD
      cases hf : isF (lo : Int) z
      · have HF : Hid (isF (lo : Int) z = false) := hf
        clear hf
        go_wp2_with (go_at_call 168; refine (isField_no _ _ _ HF.out).mono ?_; rintro e w' ⟨rfl, rfl⟩)
        go_ret
        refine ⟨_, rfl, ?_, hB⟩
        have e : splitTo x 0 xs = none := by rw [HSP.out, HD.out, splitTo_no _ _ _ _ HF.out]; rfl
        rw [e]
        exact World.ownsRow_nil _ _ _ _
      · have HF : Hid (isF (lo : Int) z = true) := hf
        obtain ⟨g1, g2, g3, g4⟩ := (isF_iff _ _).1 hf
        clear hf
        obtain ⟨g, hg⟩ : ∃ g, fGet x lo z = g := ⟨_, rfl⟩
        have HG : Hid (fGet x lo z = g) := hg
        clear hg
        go_wp2_with (first
          | (go_at_call 168; refine (isField_yes _ _ _ HF.out).mono ?_; rintro e w' ⟨rfl, hw'⟩; rw [hw']; clear hw' w')
          | (go_at_call 191; refine (get_any _ _ _ _ (Int.natCast_nonneg _) HX'.out).mono ?_; rintro e w' ⟨rfl, hw'⟩; rw [hw', Int.toNat_natCast, HG.out]; clear hw' w')
          | (at_builtin; (refine wpList_append_own _ rfl _ _ 60 rfl w.heap.size 67 i0 (.int .u64 0) 1 8 Tryz.underlying60 hi hz0 hz1 hz2 rfl (by decide) _ _ _ rfl (hown.alloc _) ⟨wr.heap.size, 0, none⟩ 1 1 [.int .u64 (g : Nat)] rfl rfl ?c1 ?c2 ?c3 ?c4 ?c5 ?_)))
        case c1 => exact cell_one_new _ _ _
        case c2 => simp [Value.oneCell']
        case c3 => unfold maxLen; omega
        case c4 => omega
        case c5 => have := hB.size; simp; omega
        intro v' w1 hown' hgrow _
        go_wp2
        obtain ⟨s, hs⟩ : ∃ s : Nat, z = s := ⟨z.toNat, by omega⟩
        subst hs
        refine ⟨⟨k + 1, lo + s, out ++ [g], by omega, by go_num, by go_num, by simp; omega, by omega, ?_, ?_, ?_⟩, by simp [intOf]; omega⟩
        · rw [HSP.out, HD.out, splitTo_yes _ _ _ _ HF.out, HG.out, Option.map_map, Int.natCast_add]
          congr 1
          funext y
          simp
        · simpa [wrds] using hown'
        · exact (hB.alloc hB.size _).grown hgrow (by have := hB.size; simp; omega) (fun k e => (hown.lt k e).1)
    · go_wp2
      go_ret
      refine ⟨_, rfl, ?_, hB⟩
      have e : splitTo x 0 xs = some out := by
        rw [HSP.out, List.drop_of_length_le (by rw [HXS.out]; omega)]; simp [splitTo]
      rw [e]
      exact hown

theorem Row.some' {k : IntKind} {w : World} {v : Value} {xs : List Int} (h : Row k w v xs) (hne : xs ≠ []) : ∃ b off cap, v = .slice (some ⟨b, off, none⟩) xs.length cap ∧ b < w.heap.size ∧ ∀ i, i < xs.length → w.cell? ⟨b, off + i, none⟩ = some (.int k (xs[i]?.getD 0)) := by
  obtain ⟨_, p, cap, rfl, hc⟩ := h
  obtain ⟨b, off, rfl, hb, hcell⟩ := hc hne
  exact ⟨b, off, cap, rfl, hb, hcell⟩

theorem split_any (x : Int) (h0 : 0 ≤ x) (hx : x < 18446744073709551616) (v : Value) (xs : List Int) (w : World) (h : Row .i64 w v xs) :
    Calls Tryz.prog 157 #[.int .u64 x, v] w fun e w' =>
      ∃ u, e = .returned u ∧ w'.ownsRow w.heap.size 67 1 u ((splitTo x.toNat 0 xs).getD []).length (wrds ((splitTo x.toNat 0 xs).getD [])) ∧ Below w.heap.size w w' := by
  by_cases hne : xs = []
  · subst hne
    obtain ⟨_, p, cap, rfl, _⟩ := h
    refine (split_nil x p cap w).mono ?_
    rintro e w' ⟨rfl, rfl⟩
    exact ⟨_, rfl, World.ownsRow_nil _ _ _ _, Below.refl _ _⟩
  · obtain ⟨b, off, cap, rfl, hb, hc⟩ := h.some' hne
    obtain ⟨y, rfl⟩ := Int.eq_ofNat_of_zero_le h0
    exact split_some y (by omega) b off cap xs.length xs w rfl h.1 hb hc

/-- An owned row reads as a list. -/
theorem Row.of_owns {k : IntKind} {w : World} {base : Nat} {e : TypeId} {v : Value} {xs : List Nat} (h : w.ownsRow base e 1 v xs.length (xs.map fun x => Value.int k (x : Nat))) (hl : xs.length ≤ maxLen) :
    Row k w v (xs.map fun x => ((x : Nat) : Int)) := by
  refine ⟨by simpa using hl, ?_⟩
  have hcs : ∀ {g : Nat}, v.ownBlock = some g → _ := fun {g} hg => h.cells (g := g) hg
  have hlt := h.lt
  obtain ⟨_, ⟨rfl, hn⟩ | ⟨g, cap, cur, rfl, _, _, _⟩⟩ := h
  · have : xs = [] := List.eq_nil_of_length_eq_zero hn
    subst this
    exact ⟨none, 0, rfl, fun h => absurd rfl h⟩
  · refine ⟨some ⟨g, 0, none⟩, cap, by simp, fun _ => ⟨g, 0, rfl, (hlt g rfl).2, fun i hi => ?_⟩⟩
    have hi' : i < xs.length := by simpa using hi
    have := hcs rfl i (.int k (xs[i] : Nat)) (by simp [hi'])
    have ha : ((⟨g, 0, none⟩ : Addr).add i) = ⟨g, i, none⟩ := by by_cases h : i = 0 <;> simp [Addr.add, h]
    rw [ha] at this
    simpa [hi'] using this

/-- A slice of parts in memory. -/
def PRow (w : World) (b off n : Nat) (l : List (Int × Int)) : Prop :=
  l.length = n ∧ b < w.heap.size ∧ ∀ i, i < n → w.cell? ⟨b, off + i * 2, none⟩ = some (.int .u64 (l[i]?.getD (0, 0)).1) ∧ w.cell? ⟨b, off + i * 2 + 1, none⟩ = some (.int .i64 (l[i]?.getD (0, 0)).2)

/-- What Pack hands back. -/
def packTo (x : Nat) : Int → List (Int × Int) → Nat
  | _, [] => x
  | low, p :: r => if isF low p.2 then packTo (fPut x low p.2 p.1.toNat) (low + p.2) r else 0

theorem packTo_yes (x : Nat) (low : Int) (p : Int × Int) (r : List (Int × Int)) (h : isF low p.2 = true) : packTo x low (p :: r) = packTo (fPut x low p.2 p.1.toNat) (low + p.2) r := by
  simp [packTo, h]

theorem packTo_no (x : Nat) (low : Int) (p : Int × Int) (r : List (Int × Int)) (h : isF low p.2 = false) : packTo x low (p :: r) = 0 := by
  simp [packTo, h]

set_option maxHeartbeats 400000 in
theorem pack_nil (p : Option Addr) (c : Nat) (w : World) :
    Calls Tryz.prog 138 #[.slice p 0 c] w fun e w' => e = .returned (.int .u64 0) ∧ w' = w := by
  go_enter Tryz.func138, Tryz.ntmps138
  go_wp2
  refine wp_loop_rounds 1 ?_
  rw [rounds_succ]
  go_wp2
  go_ret
  exact ⟨rfl, rfl⟩

set_option maxRecDepth 100000 in
set_option maxHeartbeats 1000000 in
theorem pack_some (b off cap n : Nat) (l : List (Int × Int)) (hV : ∀ p ∈ l, 0 ≤ p.1) (w : World) (hn : n ≤ maxLen) (hP : PRow w b off n l) :
    Calls Tryz.prog 138 #[.slice (some ⟨b, off, none⟩) n cap] w fun e w' => e = .returned (.int .u64 (packTo 0 0 l : Nat)) ∧ Below w.heap.size w w' := by
  obtain ⟨hl, hb, hc⟩ := hP
  have HXS : Hid (l.length = n) := hl
  clear hl
  unfold maxLen at hn
  go_enter Tryz.func138, Tryz.ntmps138
  go_wp2
  go_loopw [3, 4, 9] (fun x low i wr => ∃ (k lo y : Nat), k ≤ n ∧ i = .int .i64 k ∧ low = .int .i64 lo ∧ x = .int .u64 y ∧ y < 18446744073709551616 ∧ lo ≤ 64 ∧ packTo 0 0 l = packTo y lo (l.drop k) ∧ Below w.heap.size w wr)
    (fun _ _ i _ => n - (intOf i).toNat)
  case atStart => exact ⟨0, 0, 0, Nat.zero_le _, rfl, rfl, rfl, by decide, by decide, by simp, Below.refl _ _⟩
  case round =>
    obtain ⟨k, lo, y, hk, rfl, rfl, rfl, hy, hlo, hsp, hB⟩ := hrel
    have HY : Hid ((y : Int) < 18446744073709551616) := by show (y : Int) < 18446744073709551616; omega
    have HSP : Hid (packTo 0 0 l = packTo y lo (l.drop k)) := hsp
    clear hsp hy
    by_cases hlt : k < n
    · have c1 : wr.cell? ⟨b, off + k * 2, none⟩ = some (.int .u64 (l[k]?.getD (0, 0)).1) := (hB.cell (p := ⟨b, off + k * 2, none⟩) hb).trans (hc k hlt).1
      have c2 : wr.cell? ⟨b, off + k * 2 + 1, none⟩ = some (.int .i64 (l[k]?.getD (0, 0)).2) := (hB.cell (p := ⟨b, off + k * 2 + 1, none⟩) hb).trans (hc k hlt).2
      have HD : Hid (l.drop k = l[k]?.getD (0, 0) :: l.drop (k + 1)) := by
        show l.drop k = _
        have hk' : k < l.length := by rw [HXS.out]; exact hlt
        rw [List.drop_eq_getElem_cons hk']
        simp [hk']
      have HV : Hid (0 ≤ (l[k]?.getD (0, 0)).1) := by
        show 0 ≤ _
        have hk' : k < l.length := by rw [HXS.out]; exact hlt
        rw [List.getElem?_eq_getElem hk', Option.getD_some]
        exact hV _ (List.getElem_mem hk')
      generalize l[k]?.getD (0, 0) = q at c1 c2 HD HV
      obtain ⟨v, z⟩ := q
      simp only at c1 c2 HV
      cases hf : isF (lo : Int) z
      · have HF : Hid (isF (lo : Int) z = false) := hf
        clear hf
        go_wp2_with (go_at_call 168; refine (isField_no _ _ _ HF.out).mono ?_; rintro e w' ⟨rfl, hw'⟩; rw [hw']; clear hw' w')
        go_ret
        refine ⟨ret_int ?_, hB.alloc hB.size _⟩
        rw [HSP.out, HD.out, packTo_no _ _ _ _ HF.out]
        rfl
      · have HF : Hid (isF (lo : Int) z = true) := hf
        obtain ⟨g1, g2, g3, g4⟩ := (isF_iff _ _).1 hf
        clear hf
        obtain ⟨g, hg⟩ : ∃ g, fPut y lo z v.toNat = g := ⟨_, rfl⟩
        have hgl : g < 18446744073709551616 := by rw [← hg]; exact fPut_lt y lo z _ (by have := HY.out; omega)
        have HG : Hid (fPut y lo z v.toNat = g) := hg
        have HGL : Hid (g < 18446744073709551616) := hgl
        clear hg hgl
        go_wp2_with (first
          | (go_at_call 168; refine (isField_yes _ _ _ HF.out).mono ?_; rintro e w' ⟨rfl, hw'⟩; rw [hw']; clear hw' w')
          | (go_at_call 169; refine (put_any _ _ _ _ _ (Int.natCast_nonneg _) HY.out HV.out).mono ?_; rintro e w' ⟨rfl, hw'⟩; rw [hw', Int.toNat_natCast, HG.out]; clear hw' w'))
        obtain ⟨s, hs⟩ : ∃ s : Nat, z = s := ⟨z.toNat, by omega⟩
        subst hs
        refine ⟨⟨k + 1, lo + s, g, by omega, by go_num, by go_num, rfl, HGL.out, by omega, ?_, ?_⟩, by simp [intOf]; omega⟩
        · rw [HSP.out, HD.out, packTo_yes _ _ _ _ HF.out, HG.out, Int.natCast_add]
        · exact hB.alloc hB.size _
    · go_wp2
      go_ret
      refine ⟨ret_int ?_, hB⟩
      rw [HSP.out, List.drop_of_length_le (by rw [HXS.out]; omega)]
      rfl

theorem row_new2 (k : IntKind) (w : World) (t : TypeId) (a b : Int) : Row k (w.alloc (.cells #[.int k a, .int k b] t)) (.slice (some ⟨w.heap.size, 0, none⟩) 2 2) [a, b] := by
  refine ⟨by unfold maxLen; simp, _, _, rfl, fun _ => ⟨w.heap.size, 0, rfl, by simp, fun i hi => ?_⟩⟩
  rw [World.cell?_alloc_at _ _ _ _ rfl]
  match i, hi with
  | 0, _ => rfl
  | 1, _ => rfl

end Go.Proofs.YtpfmmlbakbhklaaGreatDoor.P
namespace Go.Proofs.YtpfmmlbakbhklaaGreatDoor.P
open Go.RowKit

set_option maxHeartbeats 400000 in
theorem bit_any (x i : Nat) (w : World) (hx : x < 18446744073709551616) (hi : i ≤ 64) :
    Calls Tryz.prog 165 #[.int .u64 x, .int .i64 i] w fun e w' => e = .returned (.bool (decide (x / 2 ^ i % 2 = 1))) ∧ w' = w := by
  have HX : Hid (x < 18446744073709551616) := hx
  clear hx
  go_enter Tryz.func165, Tryz.ntmps165
  go_wp2
  go_loop [0, 5] (fun y k => ∃ j : Nat, j ≤ i ∧ k = .int .i64 j ∧ y = .int .u64 (x / 2 ^ j : Nat)) (fun _ k => i - (intOf k).toNat)
  case atStart => exact ⟨0, Nat.zero_le _, rfl, by simp⟩
  case round =>
    obtain ⟨j, hj, rfl, rfl⟩ := hrel
    have HS : Hid (x / 2 ^ (j + 1) = x / 2 ^ j / 2) := by show x / 2 ^ (j + 1) = x / 2 ^ j / 2; rw [Nat.pow_succ, Nat.div_div_eq_div_mul]
    have hq0 : x / 2 ^ j ≤ x := Nat.div_le_self _ _
    have hqb : ((x / 2 ^ j : Nat) : Int) ≤ 18446744073709551615 := by have := HX.out; omega
    clear hq0
    by_cases hlt : j < i
    · obtain ⟨q, hq⟩ : ∃ q, x / 2 ^ j = q := ⟨_, rfl⟩
      rw [hq] at HS hqb ⊢
      clear hq
      go_wp2
      go_round
      case rel => exact ⟨j + 1, by omega, by go_num, by rw [HS.out]; go_num⟩
      case measure => simp [intOf]; omega
    · have hji : j = i := by omega
      subst hji
      obtain ⟨q, hq⟩ : ∃ q, x / 2 ^ j = q := ⟨_, rfl⟩
      rw [hq] at hqb ⊢
      have HQ : Hid (x / 2 ^ j = q) := hq
      clear hq
      go_wp2
      go_ret
      exact ⟨ret_bool (by rw [HQ.out, Bool.eq_iff_iff]; simp; omega), rfl⟩

set_option maxHeartbeats 400000 in
theorem one_any (i : Nat) (w : World) (hi : i ≤ 63) :
    Calls Tryz.prog 166 #[.int .i64 i] w fun e w' => e = .returned (.int .u64 (2 ^ i : Nat)) ∧ w' = w := by
  go_enter Tryz.func166, Tryz.ntmps166
  go_wp2
  go_loop [3, 4] (fun y k => ∃ j : Nat, j ≤ i ∧ k = .int .i64 j ∧ y = .int .u64 (2 ^ j : Nat)) (fun _ k => i - (intOf k).toNat)
  case atStart => exact ⟨0, Nat.zero_le _, rfl, rfl⟩
  case round =>
    obtain ⟨j, hj, rfl, rfl⟩ := hrel
    have HS : Hid (2 ^ (j + 1) = 2 ^ j * 2) := Nat.pow_succ 2 j
    have hle : 2 ^ j ≤ 2 ^ 63 := Nat.pow_le_pow_right (by decide) (by omega)
    by_cases hlt : j < i
    · have hle : 2 ^ j ≤ 2 ^ 62 := Nat.pow_le_pow_right (by decide) (by omega)
      generalize 2 ^ j = q at *
      have hq : (q : Int) ≤ 4611686018427387904 := by omega
      go_wp2
      go_round
      case rel => exact ⟨j + 1, by omega, by go_num, by rw [HS.out]; go_num⟩
      case measure => simp [intOf]; omega
    · have hji : j = i := by omega
      subst hji
      obtain ⟨q, hq⟩ : ∃ q, 2 ^ j = q := ⟨_, rfl⟩
      rw [hq] at hle ⊢
      have HQ : Hid (2 ^ j = q) := hq
      clear hq
      go_wp2
      go_ret
      exact ⟨ret_int (by rw [← HQ.out]; simp), rfl⟩

theorem is_any (l s : Int) (w : World) : Calls Tryz.prog 164 #[.int .i64 l, .int .i64 s] w fun e w' => e = .returned (.bool (isF l s)) ∧ w' = w := by
  by_cases h1 : 0 ≤ l
  · by_cases h2 : l < 64
    · by_cases h3 : 1 ≤ s
      · by_cases h4 : s ≤ 64
        · by_cases h5 : l + s ≤ 64
          · have e : isF l s = true := by rw [isF_iff]; omega
            rw [e]
            clear e
            go_enter Tryz.func164, Tryz.ntmps164
            go_wp2
            go_ret
            exact ⟨rfl, rfl⟩
          · have e : isF l s = false := by rw [isF_not]; omega
            rw [e]
            clear e
            go_enter Tryz.func164, Tryz.ntmps164
            go_wp2
            go_ret
            exact ⟨rfl, rfl⟩
        · have e : isF l s = false := by rw [isF_not]; omega
          rw [e]
          clear e
          go_enter Tryz.func164, Tryz.ntmps164
          go_wp2
          go_ret
          exact ⟨rfl, rfl⟩
      · have e : isF l s = false := by rw [isF_not]; omega
        rw [e]
        clear e
        go_enter Tryz.func164, Tryz.ntmps164
        go_wp2
        go_ret
        exact ⟨rfl, rfl⟩
    · have e : isF l s = false := by rw [isF_not]; omega
      rw [e]
      clear e
      go_enter Tryz.func164, Tryz.ntmps164
      go_wp2
      go_ret
      exact ⟨rfl, rfl⟩
  · have e : isF l s = false := by rw [isF_not]; omega
    rw [e]
    clear e
    go_enter Tryz.func164, Tryz.ntmps164
    go_wp2
    go_ret
    exact ⟨rfl, rfl⟩

theorem bit_yes (x i : Nat) (ii : Int) (w : World) (hii : ii = i) (hx : x < 18446744073709551616) (hi : i ≤ 64) (h : x / 2 ^ i % 2 = 1) :
    Calls Tryz.prog 165 #[.int .u64 x, .int .i64 ii] w fun e w' => e = .returned (.bool true) ∧ w' = w := by
  subst hii
  exact (bit_any x i w hx hi).mono fun _ _ ⟨a, b⟩ => ⟨a.trans (ret_bool (by simpa using h)), b⟩

theorem bit_no (x i : Nat) (ii : Int) (w : World) (hii : ii = i) (hx : x < 18446744073709551616) (hi : i ≤ 64) (h : ¬ x / 2 ^ i % 2 = 1) :
    Calls Tryz.prog 165 #[.int .u64 x, .int .i64 ii] w fun e w' => e = .returned (.bool false) ∧ w' = w := by
  subst hii
  exact (bit_any x i w hx hi).mono fun _ _ ⟨a, b⟩ => ⟨a.trans (ret_bool (by simpa using h)), b⟩

theorem one_I (i : Nat) (ii : Int) (w : World) (hii : ii = i) (hi : i ≤ 63) :
    Calls Tryz.prog 166 #[.int .i64 ii] w fun e w' => e = .returned (.int .u64 (2 ^ i : Nat)) ∧ w' = w := by
  subst hii
  exact one_any i w hi

theorem is_yes (l s : Int) (w : World) (h : isF l s = true) : Calls Tryz.prog 164 #[.int .i64 l, .int .i64 s] w fun e w' => e = .returned (.bool true) ∧ w' = w := by
  have := is_any l s w
  rwa [h] at this

theorem is_no (l s : Int) (w : World) (h : isF l s = false) : Calls Tryz.prog 164 #[.int .i64 l, .int .i64 s] w fun e w' => e = .returned (.bool false) ∧ w' = w := by
  have := is_any l s w
  rwa [h] at this

set_option maxHeartbeats 400000 in
theorem rget_yes (x l s : Nat) (w : World) (hx : x < 18446744073709551616) (h1 : 1 ≤ s) (h2 : l + s ≤ 64) :
    Calls Tryz.prog 132 #[.int .u64 x, .int .i64 l, .int .i64 s] w fun e w' => e = .returned (.int .u64 (M.gt x l s : Nat)) ∧ w' = w := by
  have HF : Hid (isF (l : Int) (s : Int) = true) := by show isF _ _ = true; rw [isF_iff]; omega
  have HX : Hid (x < 18446744073709551616) := hx
  clear hx
  go_enter Tryz.func132, Tryz.ntmps132
  go_wp2
  go_loop [7, 8] (fun y i => ∃ k : Nat, k ≤ s ∧ i = .int .i64 k ∧ y = .int .u64 (M.gt x l k : Nat)) (fun _ i => s - (intOf i).toNat)
  case atStart => exact ⟨0, Nat.zero_le _, rfl, by rw [M.gt_zero]; rfl⟩
  case round =>
    obtain ⟨k, hk, rfl, rfl⟩ := hrel
    by_cases hlt : k < s
    · have hm := M.gt_lt x l (k + 1) HX.out
      have HS : Hid (M.gt x l (k + 1) = M.gt x l k + 2 ^ k * (x / 2 ^ (l + k) % 2)) := M.gt_succ x l k
      rw [HS.out] at hm
      obtain ⟨q, hq⟩ : ∃ q, M.gt x l k = q := ⟨_, rfl⟩
      obtain ⟨p, hp⟩ : ∃ p, 2 ^ k = p := ⟨_, rfl⟩
      rw [hq, hp] at HS hm
      rw [hq]
      have HP : Hid (2 ^ k = p) := hp
      clear hq hp
      by_cases hbit : x / 2 ^ (l + k) % 2 = 1
      · rw [hbit, Nat.mul_one] at HS hm
        have HB : Hid (x / 2 ^ (l + k) % 2 = 1) := hbit
        clear hbit
        have hm' : (q : Int) + p ≤ 18446744073709551615 := by omega
        clear hm
        go_wp2_with (first
          | (go_at_call 164; refine (is_yes _ _ _ HF.out).mono ?_; rintro e w' ⟨rfl, hw'⟩; rw [hw']; clear hw' w')
          | (go_at_call 165; refine (bit_yes _ (l + k) _ _ ?_ HX.out ?_ HB.out).mono ?_; (· omega); (· omega); rintro e w' ⟨rfl, hw'⟩; rw [hw']; clear hw' w')
          | (go_at_call 166; refine (one_I k _ _ ?_ ?_).mono ?_; (· rfl); (· omega); rintro e w' ⟨rfl, hw'⟩; rw [hw', HP.out]; clear hw' w'))
        go_round
        case rel => exact ⟨k + 1, by omega, by go_num, by rw [HS.out]; go_num⟩
        case measure => simp [intOf]; omega
      · have h0 : x / 2 ^ (l + k) % 2 = 0 := by omega
        rw [h0, Nat.mul_zero, Nat.add_zero] at HS hm
        have HB : Hid (¬ x / 2 ^ (l + k) % 2 = 1) := hbit
        clear hbit h0 hm
        go_wp2_with (first
          | (go_at_call 164; refine (is_yes _ _ _ HF.out).mono ?_; rintro e w' ⟨rfl, hw'⟩; rw [hw']; clear hw' w')
          | (go_at_call 165; refine (bit_no _ (l + k) _ _ ?_ HX.out ?_ HB.out).mono ?_; (· omega); (· omega); rintro e w' ⟨rfl, hw'⟩; rw [hw']; clear hw' w'))
        go_round
        case rel => exact ⟨k + 1, by omega, by go_num, by rw [HS.out, Nat.add_zero]⟩
        case measure => simp [intOf]; omega
    · have hks : k = s := by omega
      subst hks
      go_wp2
      go_ret
      exact ⟨rfl, rfl⟩

set_option maxHeartbeats 400000 in
theorem rget_no (x l s : Int) (w : World) (h : isF l s = false) :
    Calls Tryz.prog 132 #[.int .u64 x, .int .i64 l, .int .i64 s] w fun e w' => e = .returned (.int .u64 0) ∧ w' = w := by
  have HF : Hid (isF l s = false) := h
  clear h
  by_cases hs : (0 : Int) < s
  all_goals
    go_enter Tryz.func132, Tryz.ntmps132
    go_wp2
    refine wp_loop_rounds 1 ?_
    rw [rounds_succ]
    go_wp2_with (go_at_call 164; refine (is_no _ _ _ HF.out).mono ?_; rintro e w' ⟨rfl, hw'⟩; rw [hw']; clear hw' w')
    go_ret
    exact ⟨rfl, rfl⟩

end Go.Proofs.YtpfmmlbakbhklaaGreatDoor.P
