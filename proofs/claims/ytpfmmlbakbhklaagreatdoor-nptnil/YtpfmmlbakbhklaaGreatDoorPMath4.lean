/- More plain arithmetic over words of 64 bits: the document's own way, bit by bit, of a mask, a field that is got, a field that is put, and a word's ones. -/
import Derived.Test.YtpfmmlbakbhklaaGreatDoorPMath
namespace Go.Proofs.YtpfmmlbakbhklaaGreatDoor.P
namespace M
theorem tb_div (x i : Nat) : x.testBit i = decide (x / 2 ^ i % 2 = 1) := Nat.testBit_eq_decide_div_mod_eq

theorem mk_succ (l k : Nat) : mk l (k + 1) = mk l k + 2 ^ (l + k) := by
  unfold mk
  have hp := Nat.two_pow_pos k
  rw [Nat.pow_succ, Nat.pow_add, Nat.mul_comm (2 ^ l) (2 ^ k), ← Nat.add_mul]
  congr 1
  omega
theorem mk_zero (l : Nat) : mk l 0 = 0 := by simp [mk]

theorem mod_succ (v k : Nat) : v % 2 ^ (k + 1) = v % 2 ^ k + 2 ^ k * (v / 2 ^ k % 2) := by
  rw [Nat.pow_succ, Nat.mod_mul]

theorem gt_succ (x l k : Nat) : gt x l (k + 1) = gt x l k + 2 ^ k * (x / 2 ^ (l + k) % 2) := by
  unfold gt
  rw [mod_succ, Nat.div_div_eq_div_mul, ← Nat.pow_add]
theorem gt_zero (x l : Nat) : gt x l 0 = 0 := by simp [gt, Nat.mod_one]

theorem pt_zero (x l v : Nat) : pt x l 0 v = x := by
  unfold pt
  simp only [Nat.add_zero, Nat.pow_zero, Nat.mod_one, Nat.mul_zero, Nat.zero_add]
  exact Nat.div_add_mod x (2 ^ l)

theorem pt_succ (x l k v : Nat) : pt x l (k + 1) v + 2 ^ (l + k) * (x / 2 ^ (l + k) % 2) = pt x l k v + 2 ^ (l + k) * (v / 2 ^ k % 2) := by
  unfold pt
  rw [mod_succ, show l + (k + 1) = (l + k) + 1 by omega, Nat.pow_succ, ← Nat.div_div_eq_div_mul]
  generalize hX : x / 2 ^ (l + k) = X
  have hx : X = 2 * (X / 2) + X % 2 := by omega
  have e1 : 2 ^ l * (v % 2 ^ k + 2 ^ k * (v / 2 ^ k % 2)) = 2 ^ l * (v % 2 ^ k) + 2 ^ (l + k) * (v / 2 ^ k % 2) := by
    rw [Nat.mul_add, ← Nat.mul_assoc, ← Nat.pow_add]
  have e2 : 2 ^ (l + k) * X = 2 ^ (l + k) * 2 * (X / 2) + 2 ^ (l + k) * (X % 2) := by
    conv => lhs; rw [hx]
    rw [Nat.mul_add, Nat.mul_assoc]
  rw [e1, e2]
  omega

/-- The bit that stands before the next one is put. -/
theorem pt_bit (x l k v : Nat) : pt x l k v / 2 ^ (l + k) % 2 = x / 2 ^ (l + k) % 2 := by
  have h : pt x l k v / 2 ^ (l + k) = x / 2 ^ (l + k) := by
    unfold pt
    have h1 : 2 ^ l * (v % 2 ^ k) + x % 2 ^ l < 2 ^ (l + k) := by
      have a : v % 2 ^ k + 1 ≤ 2 ^ k := Nat.mod_lt _ (Nat.two_pow_pos k)
      have b := Nat.mul_le_mul_left (2 ^ l) a
      have c := Nat.mod_lt x (Nat.two_pow_pos l)
      rw [Nat.pow_add]
      rw [Nat.mul_add] at b
      omega
    rw [Nat.mul_add_div (Nat.two_pow_pos _), Nat.div_eq_of_lt h1, Nat.add_zero]
  rw [h]
theorem bit_le (x i : Nat) (h : x / 2 ^ i % 2 = 1) : 2 ^ i ≤ x := by
  apply Nat.le_of_not_lt
  intro hlt
  rw [Nat.div_eq_of_lt hlt] at h
  simp at h

end M
end Go.Proofs.YtpfmmlbakbhklaaGreatDoor.P
