/- More plain arithmetic over words of 64 bits: what was put is got, and what was got can be put back. -/
import Derived.Test.YthhilppeeffheaaDoorMath
namespace Go.Proofs.YthhilppeeffheaaDoor
namespace M
theorem tb_gt (w l s i : Nat) : (gt w l s).testBit i = (decide (i < s) && w.testBit (i + l)) := by
  unfold gt; rw [Nat.testBit_mod_two_pow, Nat.testBit_div_two_pow]
theorem gt_pt (w l s v : Nat) : gt (pt w l s v) l s = v % 2 ^ s := by
  apply Nat.eq_of_testBit_eq
  intro i
  rw [tb_gt, tb_pt, Nat.testBit_mod_two_pow]
  by_cases h : i < s
  · have h1 : l ≤ i + l ∧ i + l < l + s := by omega
    rw [if_pos h1]
    simp [h]
  · simp [h]
theorem pt_back (w l s v : Nat) : pt (pt w l s v) l s (gt w l s) = w := by
  apply Nat.eq_of_testBit_eq
  intro i
  rw [tb_pt, tb_pt, tb_gt]
  by_cases h : l ≤ i ∧ i < l + s
  · have h2 : i - l < s := by omega
    have h3 : i - l + l = i := by omega
    simp [h, h2, h3]
  · simp [h]
theorem andNot_pt (w l s v : Nat) (h : l + s ≤ 64) : pt w l s v &&& (18446744073709551615 - mk l s) = w &&& (18446744073709551615 - mk l s) := by
  have hm := mk_lt l s h
  have e1 : 18446744073709551615 - mk l s = 2 ^ 64 - (mk l s + 1) := by omega
  apply Nat.eq_of_testBit_eq
  intro i
  rw [e1, Nat.testBit_and, Nat.testBit_and, Nat.testBit_two_pow_sub_succ hm, tb_mk, tb_pt]
  by_cases a : l ≤ i ∧ i < l + s <;> simp [a]
theorem shl_shr (v s : Nat) (h : s ≤ 64) : v * 2 ^ (64 - s) % 18446744073709551616 / 2 ^ (64 - s) = v % 2 ^ s := by
  have e : (18446744073709551616 : Nat) = 2 ^ s * 2 ^ (64 - s) := by
    rw [← Nat.pow_add, show s + (64 - s) = 64 by omega]
  rw [e, Nat.mul_mod_mul_right, Nat.mul_div_cancel _ (Nat.two_pow_pos _)]
end M
end Go.Proofs.YthhilppeeffheaaDoor
