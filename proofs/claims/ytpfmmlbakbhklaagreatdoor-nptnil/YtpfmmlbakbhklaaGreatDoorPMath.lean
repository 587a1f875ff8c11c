/- Plain arithmetic over words of 64 bits, of no program: a field's mask, a field that is got or put, a word's ones, and that the library's way of counting them counts them. No conditions but that a word is below 2^64. -/
import Derived.WalkKit
namespace Go.Proofs.YtpfmmlbakbhklaaGreatDoor.P
namespace M
def mk (l s : Nat) : Nat := (2 ^ s - 1) * 2 ^ l
def gt (w l s : Nat) : Nat := w / 2 ^ l % 2 ^ s
def pt (w l s v : Nat) : Nat := 2 ^ (l + s) * (w / 2 ^ (l + s)) + (2 ^ l * (v % 2 ^ s) + w % 2 ^ l)

theorem ones_div (s : Nat) (h : s ≤ 64) : 18446744073709551615 / 2 ^ (64 - s) = 2 ^ s - 1 := by
  have e : (18446744073709551616 : Nat) = 2 ^ (64 - s) * 2 ^ s := by
    rw [← Nat.pow_add, show 64 - s + s = 64 by omega]
  have hp : 0 < 2 ^ s := Nat.two_pow_pos s
  have hq : 0 < 2 ^ (64 - s) := Nat.two_pow_pos _
  have e2 : (18446744073709551615 : Nat) = 2 ^ (64 - s) * 2 ^ s - 1 := by omega
  rw [e2]
  apply Nat.div_eq_of_lt_le
  · rw [Nat.mul_comm, Nat.mul_sub]; omega
  · rw [Nat.sub_add_cancel hp, Nat.mul_comm (2 ^ s)]; omega

theorem tb_mk (l s i : Nat) : (mk l s).testBit i = decide (l ≤ i ∧ i < l + s) := by
  unfold mk
  rw [Nat.testBit_mul_two_pow, Nat.testBit_two_pow_sub_one]
  by_cases h1 : l ≤ i <;> by_cases h2 : i < l + s <;> simp [h1, h2] <;> omega

theorem mk_lt (l s : Nat) (h : l + s ≤ 64) : mk l s < 18446744073709551616 := by
  have h1 : (2 ^ s - 1) * 2 ^ l < 2 ^ s * 2 ^ l := Nat.mul_lt_mul_of_pos_right (by have := Nat.two_pow_pos s; omega) (Nat.two_pow_pos l)
  rw [← Nat.pow_add] at h1
  have h2 : 2 ^ (s + l) ≤ 2 ^ 64 := Nat.pow_le_pow_right (by decide) (by omega)
  unfold mk
  omega

theorem and_mk (w l s : Nat) : (w &&& mk l s) / 2 ^ l = gt w l s := by
  apply Nat.eq_of_testBit_eq
  intro i
  unfold gt
  rw [Nat.testBit_div_two_pow, Nat.testBit_and, tb_mk, Nat.testBit_mod_two_pow, Nat.testBit_div_two_pow]
  by_cases h : i < s <;> simp [h] <;> omega

theorem tb_pt (w l s v i : Nat) : (pt w l s v).testBit i = if l ≤ i ∧ i < l + s then v.testBit (i - l) else w.testBit i := by
  unfold pt
  have h1 : w % 2 ^ l < 2 ^ l := Nat.mod_lt _ (Nat.two_pow_pos l)
  have h2 : 2 ^ l * (v % 2 ^ s) + w % 2 ^ l < 2 ^ (l + s) := by
    have : v % 2 ^ s + 1 ≤ 2 ^ s := Nat.mod_lt _ (Nat.two_pow_pos s)
    have := Nat.mul_le_mul_left (2 ^ l) this
    rw [Nat.pow_add]
    rw [Nat.mul_add] at this
    omega
  rw [Nat.testBit_two_pow_mul_add _ h2, Nat.testBit_two_pow_mul_add _ h1, Nat.testBit_div_two_pow, Nat.testBit_mod_two_pow, Nat.testBit_mod_two_pow]
  by_cases a : i < l + s
  · by_cases b : i < l
    · have : ¬ l ≤ i := by omega
      simp [a, b, this]
    · have c : l ≤ i := by omega
      have d : i - l < s := by omega
      simp [a, b, c, d]
  · have c : ¬ (l ≤ i ∧ i < l + s) := by omega
    have d : l + s + (i - (l + s)) = i := by omega
    rw [if_neg a, if_neg c]
    congr 1
    omega

theorem lt_of_tb (x n : Nat) (h : ∀ i, n ≤ i → x.testBit i = false) : x < 2 ^ n := Nat.lt_pow_two_of_testBit x h

theorem tb_high (w i : Nat) (hw : w < 18446744073709551616) (h : 64 ≤ i) : w.testBit i = false :=
  Nat.testBit_lt_two_pow (Nat.lt_of_lt_of_le hw (show 2 ^ 64 ≤ 2 ^ i from Nat.pow_le_pow_right (by decide) h))

theorem pt_lt (w l s v : Nat) (hw : w < 18446744073709551616) (h : l + s ≤ 64) : pt w l s v < 18446744073709551616 := by
  refine lt_of_tb _ 64 fun i hi => ?_
  rw [tb_pt, if_neg (by omega)]
  exact tb_high w i hw hi

theorem gt_lt (w l s : Nat) (hw : w < 18446744073709551616) : gt w l s < 18446744073709551616 := by
  unfold gt
  have h1 : w / 2 ^ l ≤ w := Nat.div_le_self _ _
  have h2 : w / 2 ^ l % 2 ^ s ≤ w / 2 ^ l := Nat.mod_le _ _
  omega

/-- The code's Put, bit by bit. -/
theorem put_eq (w l s v : Nat) (hw : w < 18446744073709551616) (h : l + s ≤ 64) :
    (w &&& (18446744073709551615 - mk l s)) ||| (v * 2 ^ l % 18446744073709551616 &&& mk l s) = pt w l s v := by
  apply Nat.eq_of_testBit_eq
  intro i
  have hm := mk_lt l s h
  have e1 : 18446744073709551615 - mk l s = 2 ^ 64 - (mk l s + 1) := by omega
  rw [tb_pt, Nat.testBit_or, Nat.testBit_and, Nat.testBit_and, e1, Nat.testBit_two_pow_sub_succ hm, tb_mk, show (18446744073709551616 : Nat) = 2 ^ 64 from rfl, Nat.testBit_mod_two_pow, Nat.testBit_mul_two_pow]
  by_cases a : l ≤ i ∧ i < l + s
  · have b : i < 64 := by omega
    simp [a, b]
  · by_cases b : i < 64
    · simp [a, b]
    · have := tb_high w i hw (by omega)
      simp [a, this]

theorem mk_int (l s : Nat) (_h1 : 1 ≤ s) (h2 : l + s ≤ 64) :
    (18446744073709551615 : Int) / 2 ^ (64 - s) * 2 ^ l % 18446744073709551616 = ((mk l s : Nat) : Int) := by
  have hd := ones_div s (by omega)
  have hm := mk_lt l s h2
  have e : (18446744073709551615 : Int) / 2 ^ (64 - s) * 2 ^ l = ((18446744073709551615 / 2 ^ (64 - s) * 2 ^ l : Nat) : Int) := by
    simp
  rw [e, hd]
  unfold mk at hm ⊢
  omega

/-! ones -/
end M
end Go.Proofs.YtpfmmlbakbhklaaGreatDoor.P
