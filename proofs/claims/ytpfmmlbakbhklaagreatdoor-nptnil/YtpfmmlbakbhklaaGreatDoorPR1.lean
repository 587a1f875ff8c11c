/- What each call of the document's answer of layer 1 (bit, one, is, Get) returns, for every argument; nothing that lay before is changed. -/
import Derived.Test.YtpfmmlbakbhklaaGreatDoorPW1
import Derived.Test.YtpfmmlbakbhklaaGreatDoorPMath4
namespace Go.Proofs.YtpfmmlbakbhklaaGreatDoor.P
open Go.RowKit

set_option maxHeartbeats 400000 in
theorem bit_any (x i : Nat) (w : World) (hx : x < 18446744073709551616) (hi : i ≤ 64) :
    Calls Tryz.prog 165 #[.int .u64 x, .int .i64 i] w fun e w' => e = .returned (.bool (decide (x / 2 ^ i % 2 = 1))) ∧ w' = w := by
  have HX : Hid (x < 18446744073709551616) := hx
  clear hx
  go_enter Tryz.func165, Tryz.ntmps165
  go_wp2
  go_loop [0, 5] (fun y k => ∃ j : Nat, j ≤ i ∧ k = .int .i64 j ∧ y = .int .u64 (x / 2 ^ j : Nat)) (fun _ k => i - (intOf k).toNat)
  case atStart => exact ⟨0, Nat.zero_le _, rfl, by simp⟩
  case round =>
    obtain ⟨j, hj, rfl, rfl⟩ := hrel
    have HS : Hid (x / 2 ^ (j + 1) = x / 2 ^ j / 2) := by show x / 2 ^ (j + 1) = x / 2 ^ j / 2; rw [Nat.pow_succ, Nat.div_div_eq_div_mul]
    have hq0 : x / 2 ^ j ≤ x := Nat.div_le_self _ _
    have hqb : ((x / 2 ^ j : Nat) : Int) ≤ 18446744073709551615 := by have := HX.out; omega
    clear hq0
    by_cases hlt : j < i
    · obtain ⟨q, hq⟩ : ∃ q, x / 2 ^ j = q := ⟨_, rfl⟩
      rw [hq] at HS hqb ⊢
      clear hq
      go_wp2
      go_round
      case rel => exact ⟨j + 1, by omega, by go_num, by rw [HS.out]; go_num⟩
      case measure => simp [intOf]; omega
    · have hji : j = i := by omega
      subst hji
      obtain ⟨q, hq⟩ : ∃ q, x / 2 ^ j = q := ⟨_, rfl⟩
      rw [hq] at hqb ⊢
      have HQ : Hid (x / 2 ^ j = q) := hq
      clear hq
      go_wp2
      go_ret
      exact ⟨ret_bool (by rw [HQ.out, Bool.eq_iff_iff]; simp; omega), rfl⟩

set_option maxHeartbeats 400000 in
theorem one_any (i : Nat) (w : World) (hi : i ≤ 63) :
    Calls Tryz.prog 166 #[.int .i64 i] w fun e w' => e = .returned (.int .u64 (2 ^ i : Nat)) ∧ w' = w := by
  go_enter Tryz.func166, Tryz.ntmps166
  go_wp2
  go_loop [3, 4] (fun y k => ∃ j : Nat, j ≤ i ∧ k = .int .i64 j ∧ y = .int .u64 (2 ^ j : Nat)) (fun _ k => i - (intOf k).toNat)
  case atStart => exact ⟨0, Nat.zero_le _, rfl, rfl⟩
  case round =>
    obtain ⟨j, hj, rfl, rfl⟩ := hrel
    have HS : Hid (2 ^ (j + 1) = 2 ^ j * 2) := Nat.pow_succ 2 j
    have hle : 2 ^ j ≤ 2 ^ 63 := Nat.pow_le_pow_right (by decide) (by omega)
    by_cases hlt : j < i
    · have hle : 2 ^ j ≤ 2 ^ 62 := Nat.pow_le_pow_right (by decide) (by omega)
      generalize 2 ^ j = q at *
      have hq : (q : Int) ≤ 4611686018427387904 := by omega
      go_wp2
      go_round
      case rel => exact ⟨j + 1, by omega, by go_num, by rw [HS.out]; go_num⟩
      case measure => simp [intOf]; omega
    · have hji : j = i := by omega
      subst hji
      obtain ⟨q, hq⟩ : ∃ q, 2 ^ j = q := ⟨_, rfl⟩
      rw [hq] at hle ⊢
      have HQ : Hid (2 ^ j = q) := hq
      clear hq
      go_wp2
      go_ret
      exact ⟨ret_int (by rw [← HQ.out]; simp), rfl⟩

theorem is_any (l s : Int) (w : World) : Calls Tryz.prog 164 #[.int .i64 l, .int .i64 s] w fun e w' => e = .returned (.bool (isF l s)) ∧ w' = w := by
  by_cases h1 : 0 ≤ l
  · by_cases h2 : l < 64
    · by_cases h3 : 1 ≤ s
      · by_cases h4 : s ≤ 64
        · by_cases h5 : l + s ≤ 64
          · have e : isF l s = true := by rw [isF_iff]; omega
            rw [e]
            clear e
            go_enter Tryz.func164, Tryz.ntmps164
            go_wp2
            go_ret
            exact ⟨rfl, rfl⟩
          · have e : isF l s = false := by rw [isF_not]; omega
            rw [e]
            clear e
            go_enter Tryz.func164, Tryz.ntmps164
            go_wp2
            go_ret
            exact ⟨rfl, rfl⟩
        · have e : isF l s = false := by rw [isF_not]; omega
          rw [e]
          clear e
          go_enter Tryz.func164, Tryz.ntmps164
          go_wp2
          go_ret
          exact ⟨rfl, rfl⟩
      · have e : isF l s = false := by rw [isF_not]; omega
        rw [e]
        clear e
        go_enter Tryz.func164, Tryz.ntmps164
        go_wp2
        go_ret
        exact ⟨rfl, rfl⟩
    · have e : isF l s = false := by rw [isF_not]; omega
      rw [e]
      clear e
      go_enter Tryz.func164, Tryz.ntmps164
      go_wp2
      go_ret
      exact ⟨rfl, rfl⟩
  · have e : isF l s = false := by rw [isF_not]; omega
    rw [e]
    clear e
    go_enter Tryz.func164, Tryz.ntmps164
    go_wp2
    go_ret
    exact ⟨rfl, rfl⟩

theorem bit_yes (x i : Nat) (ii : Int) (w : World) (hii : ii = i) (hx : x < 18446744073709551616) (hi : i ≤ 64) (h : x / 2 ^ i % 2 = 1) :
    Calls Tryz.prog 165 #[.int .u64 x, .int .i64 ii] w fun e w' => e = .returned (.bool true) ∧ w' = w := by
  subst hii
  exact (bit_any x i w hx hi).mono fun _ _ ⟨a, b⟩ => ⟨a.trans (ret_bool (by simpa using h)), b⟩

theorem bit_no (x i : Nat) (ii : Int) (w : World) (hii : ii = i) (hx : x < 18446744073709551616) (hi : i ≤ 64) (h : ¬ x / 2 ^ i % 2 = 1) :
    Calls Tryz.prog 165 #[.int .u64 x, .int .i64 ii] w fun e w' => e = .returned (.bool false) ∧ w' = w := by
  subst hii
  exact (bit_any x i w hx hi).mono fun _ _ ⟨a, b⟩ => ⟨a.trans (ret_bool (by simpa using h)), b⟩

theorem one_I (i : Nat) (ii : Int) (w : World) (hii : ii = i) (hi : i ≤ 63) :
    Calls Tryz.prog 166 #[.int .i64 ii] w fun e w' => e = .returned (.int .u64 (2 ^ i : Nat)) ∧ w' = w := by
  subst hii
  exact one_any i w hi

theorem is_yes (l s : Int) (w : World) (h : isF l s = true) : Calls Tryz.prog 164 #[.int .i64 l, .int .i64 s] w fun e w' => e = .returned (.bool true) ∧ w' = w := by
  have := is_any l s w
  rwa [h] at this

theorem is_no (l s : Int) (w : World) (h : isF l s = false) : Calls Tryz.prog 164 #[.int .i64 l, .int .i64 s] w fun e w' => e = .returned (.bool false) ∧ w' = w := by
  have := is_any l s w
  rwa [h] at this

set_option maxHeartbeats 400000 in
theorem rget_yes (x l s : Nat) (w : World) (hx : x < 18446744073709551616) (h1 : 1 ≤ s) (h2 : l + s ≤ 64) :
    Calls Tryz.prog 132 #[.int .u64 x, .int .i64 l, .int .i64 s] w fun e w' => e = .returned (.int .u64 (M.gt x l s : Nat)) ∧ w' = w := by
  have HF : Hid (isF (l : Int) (s : Int) = true) := by show isF _ _ = true; rw [isF_iff]; omega
  have HX : Hid (x < 18446744073709551616) := hx
  clear hx
  go_enter Tryz.func132, Tryz.ntmps132
  go_wp2
  go_loop [7, 8] (fun y i => ∃ k : Nat, k ≤ s ∧ i = .int .i64 k ∧ y = .int .u64 (M.gt x l k : Nat)) (fun _ i => s - (intOf i).toNat)
  case atStart => exact ⟨0, Nat.zero_le _, rfl, by rw [M.gt_zero]; rfl⟩
  case round =>
    obtain ⟨k, hk, rfl, rfl⟩ := hrel
    by_cases hlt : k < s
    · have hm := M.gt_lt x l (k + 1) HX.out
      have HS : Hid (M.gt x l (k + 1) = M.gt x l k + 2 ^ k * (x / 2 ^ (l + k) % 2)) := M.gt_succ x l k
      rw [HS.out] at hm
      obtain ⟨q, hq⟩ : ∃ q, M.gt x l k = q := ⟨_, rfl⟩
      obtain ⟨p, hp⟩ : ∃ p, 2 ^ k = p := ⟨_, rfl⟩
      rw [hq, hp] at HS hm
      rw [hq]
      have HP : Hid (2 ^ k = p) := hp
      clear hq hp
      by_cases hbit : x / 2 ^ (l + k) % 2 = 1
      · rw [hbit, Nat.mul_one] at HS hm
        have HB : Hid (x / 2 ^ (l + k) % 2 = 1) := hbit
        clear hbit
        have hm' : (q : Int) + p ≤ 18446744073709551615 := by omega
        clear hm
        go_wp2_with (first
          | (go_at_call 164; refine (is_yes _ _ _ HF.out).mono ?_; rintro e w' ⟨rfl, hw'⟩; rw [hw']; clear hw' w')
          | (go_at_call 165; refine (bit_yes _ (l + k) _ _ ?_ HX.out ?_ HB.out).mono ?_; (· omega); (· omega); rintro e w' ⟨rfl, hw'⟩; rw [hw']; clear hw' w')
          | (go_at_call 166; refine (one_I k _ _ ?_ ?_).mono ?_; (· rfl); (· omega); rintro e w' ⟨rfl, hw'⟩; rw [hw', HP.out]; clear hw' w'))
        go_round
        case rel => exact ⟨k + 1, by omega, by go_num, by rw [HS.out]; go_num⟩
        case measure => simp [intOf]; omega
      · have h0 : x / 2 ^ (l + k) % 2 = 0 := by omega
        rw [h0, Nat.mul_zero, Nat.add_zero] at HS hm
        have HB : Hid (¬ x / 2 ^ (l + k) % 2 = 1) := hbit
        clear hbit h0 hm
        go_wp2_with (first
          | (go_at_call 164; refine (is_yes _ _ _ HF.out).mono ?_; rintro e w' ⟨rfl, hw'⟩; rw [hw']; clear hw' w')
          | (go_at_call 165; refine (bit_no _ (l + k) _ _ ?_ HX.out ?_ HB.out).mono ?_; (· omega); (· omega); rintro e w' ⟨rfl, hw'⟩; rw [hw']; clear hw' w'))
        go_round
        case rel => exact ⟨k + 1, by omega, by go_num, by rw [HS.out, Nat.add_zero]⟩
        case measure => simp [intOf]; omega
    · have hks : k = s := by omega
      subst hks
      go_wp2
      go_ret
      exact ⟨rfl, rfl⟩

set_option maxHeartbeats 400000 in
theorem rget_no (x l s : Int) (w : World) (h : isF l s = false) :
    Calls Tryz.prog 132 #[.int .u64 x, .int .i64 l, .int .i64 s] w fun e w' => e = .returned (.int .u64 0) ∧ w' = w := by
  have HF : Hid (isF l s = false) := h
  clear h
  by_cases hs : (0 : Int) < s
  all_goals
    go_enter Tryz.func132, Tryz.ntmps132
    go_wp2
    refine wp_loop_rounds 1 ?_
    rw [rounds_succ]
    go_wp2_with (go_at_call 164; refine (is_no _ _ _ HF.out).mono ?_; rintro e w' ⟨rfl, hw'⟩; rw [hw']; clear hw' w')
    go_ret
    exact ⟨rfl, rfl⟩

end Go.Proofs.YtpfmmlbakbhklaaGreatDoor.P
