/- What each call of the document's answer (Get, Put, Ones) returns, for every argument; nothing that lay before is changed. -/
import Derived.Test.YthhilppeeffheaaDoorR1
namespace Go.Proofs.YthhilppeeffheaaDoor
open Go.RowKit

set_option maxHeartbeats 400000 in
theorem rget_yes (x l s : Nat) (w : World) (hx : x < 18446744073709551616) (h1 : 1 ≤ s) (h2 : l + s ≤ 64) :
    Calls Tryd.prog 12 #[.int .u64 x, .int .i64 l, .int .i64 s] w fun e w' => e = .returned (.int .u64 (M.gt x l s : Nat)) ∧ w' = w := by
  have HF : Hid (isF (l : Int) (s : Int) = true) := by show isF _ _ = true; rw [isF_iff]; omega
  have HX : Hid (x < 18446744073709551616) := hx
  clear hx
  go_enter Tryd.func12, Tryd.ntmps12
  go_wp2
  go_loop [7, 8] (fun y i => ∃ k : Nat, k ≤ s ∧ i = .int .i64 k ∧ y = .int .u64 (M.gt x l k : Nat)) (fun _ i => s - (intOf i).toNat)
  case atStart => exact ⟨0, Nat.zero_le _, rfl, by rw [M.gt_zero]; rfl⟩
  case round =>
    obtain ⟨k, hk, rfl, rfl⟩ := hrel
    by_cases hlt : k < s
    · have hm := M.gt_lt x l (k + 1) HX.out
      have HS : Hid (M.gt x l (k + 1) = M.gt x l k + 2 ^ k * (x / 2 ^ (l + k) % 2)) := M.gt_succ x l k
      rw [HS.out] at hm
      obtain ⟨q, hq⟩ : ∃ q, M.gt x l k = q := ⟨_, rfl⟩
      obtain ⟨p, hp⟩ : ∃ p, 2 ^ k = p := ⟨_, rfl⟩
      rw [hq, hp] at HS hm
      rw [hq]
      have HP : Hid (2 ^ k = p) := hp
      clear hq hp
      by_cases hbit : x / 2 ^ (l + k) % 2 = 1
      · rw [hbit, Nat.mul_one] at HS hm
        have HB : Hid (x / 2 ^ (l + k) % 2 = 1) := hbit
        clear hbit
        have hm' : (q : Int) + p ≤ 18446744073709551615 := by omega
        clear hm
        go_wp2_with (first
          | (go_at_call 29; refine (is_yes _ _ _ HF.out).mono ?_; rintro e w' ⟨rfl, hw'⟩; rw [hw']; clear hw' w')
          | (go_at_call 27; refine (bit_yes _ (l + k) _ _ ?_ HX.out ?_ HB.out).mono ?_; (· omega); (· omega); rintro e w' ⟨rfl, hw'⟩; rw [hw']; clear hw' w')
          | (go_at_call 30; refine (one_I k _ _ ?_ ?_).mono ?_; (· rfl); (· omega); rintro e w' ⟨rfl, hw'⟩; rw [hw', HP.out]; clear hw' w'))
        go_round
        case rel => exact ⟨k + 1, by omega, by go_num, by rw [HS.out]; go_num⟩
        case measure => simp [intOf]; omega
      · have h0 : x / 2 ^ (l + k) % 2 = 0 := by omega
        rw [h0, Nat.mul_zero, Nat.add_zero] at HS hm
        have HB : Hid (¬ x / 2 ^ (l + k) % 2 = 1) := hbit
        clear hbit h0 hm
        go_wp2_with (first
          | (go_at_call 29; refine (is_yes _ _ _ HF.out).mono ?_; rintro e w' ⟨rfl, hw'⟩; rw [hw']; clear hw' w')
          | (go_at_call 27; refine (bit_no _ (l + k) _ _ ?_ HX.out ?_ HB.out).mono ?_; (· omega); (· omega); rintro e w' ⟨rfl, hw'⟩; rw [hw']; clear hw' w'))
        go_round
        case rel => exact ⟨k + 1, by omega, by go_num, by rw [HS.out, Nat.add_zero]⟩
        case measure => simp [intOf]; omega
    · have hks : k = s := by omega
      subst hks
      go_wp2
      go_ret
      exact ⟨rfl, rfl⟩

set_option maxHeartbeats 400000 in
theorem rget_no (x l s : Int) (w : World) (h : isF l s = false) :
    Calls Tryd.prog 12 #[.int .u64 x, .int .i64 l, .int .i64 s] w fun e w' => e = .returned (.int .u64 0) ∧ w' = w := by
  have HF : Hid (isF l s = false) := h
  clear h
  by_cases hs : (0 : Int) < s
  all_goals
    go_enter Tryd.func12, Tryd.ntmps12
    go_wp2
    refine wp_loop_rounds 1 ?_
    rw [rounds_succ]
    go_wp2_with (go_at_call 29; refine (is_no _ _ _ HF.out).mono ?_; rintro e w' ⟨rfl, hw'⟩; rw [hw']; clear hw' w')
    go_ret
    exact ⟨rfl, rfl⟩

set_option maxHeartbeats 1000000 in
theorem rput_yes (x l s v : Nat) (w : World) (hx : x < 18446744073709551616) (hv : v < 18446744073709551616) (h1 : 1 ≤ s) (h2 : l + s ≤ 64) :
    Calls Tryd.prog 14 #[.int .u64 x, .int .i64 l, .int .i64 s, .int .u64 v] w fun e w' => e = .returned (.int .u64 (M.pt x l s v : Nat)) ∧ w' = w := by
  have HF : Hid (isF (l : Int) (s : Int) = true) := by show isF _ _ = true; rw [isF_iff]; omega
  have HX : Hid (x < 18446744073709551616) := hx
  have HV : Hid (v < 18446744073709551616) := hv
  clear hx hv
  go_enter Tryd.func14, Tryd.ntmps14
  go_wp2
  go_loop [0, 9] (fun y i => ∃ k : Nat, k ≤ s ∧ i = .int .i64 k ∧ y = .int .u64 (M.pt x l k v : Nat)) (fun _ i => s - (intOf i).toNat)
  case atStart => exact ⟨0, Nat.zero_le _, rfl, by rw [M.pt_zero]⟩
  case round =>
    obtain ⟨k, hk, rfl, rfl⟩ := hrel
    by_cases hlt : k < s
    · have HS : Hid (M.pt x l (k + 1) v + 2 ^ (l + k) * (x / 2 ^ (l + k) % 2) = M.pt x l k v + 2 ^ (l + k) * (v / 2 ^ k % 2)) := M.pt_succ x l k v
      have hq1 := M.pt_lt x l k v HX.out (by omega)
      have hq2 := M.pt_lt x l (k + 1) v HX.out (by omega)
      have hpb := M.pt_bit x l k v
      have hle : x / 2 ^ (l + k) % 2 = 1 → 2 ^ (l + k) ≤ M.pt x l k v := fun h => M.bit_le _ _ (by rw [hpb]; exact h)
      obtain ⟨q, hq⟩ : ∃ q, M.pt x l k v = q := ⟨_, rfl⟩
      obtain ⟨q2, hqq⟩ : ∃ q, M.pt x l (k + 1) v = q := ⟨_, rfl⟩
      rw [hq] at HS hq1 hpb hle ⊢
      rw [hqq] at HS hq2
      have HQ2 : Hid (M.pt x l (k + 1) v = q2) := hqq
      have HQB : Hid (q / 2 ^ (l + k) % 2 = x / 2 ^ (l + k) % 2) := hpb
      have HQ1 : Hid (q < 18446744073709551616) := hq1
      clear hq hqq hpb hq1
      obtain ⟨p, hp⟩ : ∃ p, 2 ^ (l + k) = p := ⟨_, rfl⟩
      have HP : Hid (2 ^ (l + k) = p) := hp
      by_cases hbx : x / 2 ^ (l + k) % 2 = 1
      · have HB : Hid (q / 2 ^ (l + k) % 2 = 1) := by show _ = _; rw [HQB.out, hbx]
        have hle' := hle hbx
        rw [hbx, hp, Nat.mul_one] at HS
        rw [hp] at hle'
        by_cases hbv : v / 2 ^ k % 2 = 1
        · have HBV : Hid (v / 2 ^ k % 2 = 1) := hbv
          rw [hbv, Nat.mul_one] at HS
          have hs := HS.out
          have hle2 : (p : Int) ≤ q := by omega
          have hqb : (q : Int) ≤ 18446744073709551615 := by have := HQ1.out; omega
          have HE : Hid (q2 = q) := by show _ = _; omega
          clear HS hs hle hle' hbx hbv hp hq2
          go_wp2_with (first
            | (go_at_call 29; refine (is_yes _ _ _ HF.out).mono ?_; rintro e w' ⟨rfl, hw'⟩; rw [hw']; clear hw' w')
            | (go_at_call 27; first | (refine (bit_yes _ (l + k) _ _ ?_ ?_ ?_ ?_).mono ?_; (· omega); (· exact HQ1.out); (· omega); (· exact HB.out); rintro e w' ⟨rfl, hw'⟩; rw [hw']; clear hw' w') | (refine (bit_yes _ k _ _ ?_ ?_ ?_ ?_).mono ?_; (· rfl); (· exact HV.out); (· omega); (· exact HBV.out); rintro e w' ⟨rfl, hw'⟩; rw [hw']; clear hw' w'))
            | (go_at_call 30; refine (one_I (l + k) _ _ ?_ ?_).mono ?_; (· omega); (· omega); rintro e w' ⟨rfl, hw'⟩; rw [hw', HP.out]; clear hw' w'))
          go_round
          case rel => exact ⟨k + 1, by omega, by go_num, by rw [HQ2.out, HE.out]⟩
          case measure => simp [intOf]; omega
        · have HBV : Hid (¬ v / 2 ^ k % 2 = 1) := hbv
          have hb0 : v / 2 ^ k % 2 = 0 := by omega
          rw [hb0, Nat.mul_zero] at HS
          have hs := HS.out
          have hle2 : (p : Int) ≤ q := by omega
          have hqb : (q : Int) ≤ 18446744073709551615 := by have := HQ1.out; omega
          have HE : Hid ((q2 : Int) = (q : Int) - p) := by show _ = _; omega
          clear HS hs hle hle' hbx hbv hp hq2 hb0
          go_wp2_with (first
            | (go_at_call 29; refine (is_yes _ _ _ HF.out).mono ?_; rintro e w' ⟨rfl, hw'⟩; rw [hw']; clear hw' w')
            | (go_at_call 27; first | (refine (bit_yes _ (l + k) _ _ ?_ ?_ ?_ ?_).mono ?_; (· omega); (· exact HQ1.out); (· omega); (· exact HB.out); rintro e w' ⟨rfl, hw'⟩; rw [hw']; clear hw' w') | (refine (bit_no _ k _ _ ?_ ?_ ?_ ?_).mono ?_; (· rfl); (· exact HV.out); (· omega); (· exact HBV.out); rintro e w' ⟨rfl, hw'⟩; rw [hw']; clear hw' w'))
            | (go_at_call 30; refine (one_I (l + k) _ _ ?_ ?_).mono ?_; (· omega); (· omega); rintro e w' ⟨rfl, hw'⟩; rw [hw', HP.out]; clear hw' w'))
          go_round
          case rel => exact ⟨k + 1, by omega, by go_num, by rw [HQ2.out, HE.out]⟩
          case measure => simp [intOf]; omega
      · have HB : Hid (¬ q / 2 ^ (l + k) % 2 = 1) := by show ¬ _; rw [HQB.out]; exact hbx
        have hx0 : x / 2 ^ (l + k) % 2 = 0 := by omega
        rw [hx0, hp, Nat.mul_zero] at HS
        by_cases hbv : v / 2 ^ k % 2 = 1
        · have HBV : Hid (v / 2 ^ k % 2 = 1) := hbv
          rw [hbv, Nat.mul_one] at HS
          have hs := HS.out
          have hqb : (q : Int) + p ≤ 18446744073709551615 := by omega
          have HE : Hid ((q2 : Int) = (q : Int) + p) := by show _ = _; omega
          clear HS hs hle hbx hbv hp hq2 hx0
          go_wp2_with (first
            | (go_at_call 29; refine (is_yes _ _ _ HF.out).mono ?_; rintro e w' ⟨rfl, hw'⟩; rw [hw']; clear hw' w')
            | (go_at_call 27; first | (refine (bit_no _ (l + k) _ _ ?_ ?_ ?_ ?_).mono ?_; (· omega); (· exact HQ1.out); (· omega); (· exact HB.out); rintro e w' ⟨rfl, hw'⟩; rw [hw']; clear hw' w') | (refine (bit_yes _ k _ _ ?_ ?_ ?_ ?_).mono ?_; (· rfl); (· exact HV.out); (· omega); (· exact HBV.out); rintro e w' ⟨rfl, hw'⟩; rw [hw']; clear hw' w'))
            | (go_at_call 30; refine (one_I (l + k) _ _ ?_ ?_).mono ?_; (· omega); (· omega); rintro e w' ⟨rfl, hw'⟩; rw [hw', HP.out]; clear hw' w'))
          go_round
          case rel => exact ⟨k + 1, by omega, by go_num, by rw [HQ2.out, HE.out]⟩
          case measure => simp [intOf]; omega
        · have HBV : Hid (¬ v / 2 ^ k % 2 = 1) := hbv
          have hb0 : v / 2 ^ k % 2 = 0 := by omega
          rw [hb0, Nat.mul_zero] at HS
          have hs := HS.out
          have HE : Hid (q2 = q) := by show _ = _; omega
          clear HS hs hle hbx hbv hp hq2 hx0 hb0
          go_wp2_with (first
            | (go_at_call 29; refine (is_yes _ _ _ HF.out).mono ?_; rintro e w' ⟨rfl, hw'⟩; rw [hw']; clear hw' w')
            | (go_at_call 27; first | (refine (bit_no _ (l + k) _ _ ?_ ?_ ?_ ?_).mono ?_; (· omega); (· exact HQ1.out); (· omega); (· exact HB.out); rintro e w' ⟨rfl, hw'⟩; rw [hw']; clear hw' w') | (refine (bit_no _ k _ _ ?_ ?_ ?_ ?_).mono ?_; (· rfl); (· exact HV.out); (· omega); (· exact HBV.out); rintro e w' ⟨rfl, hw'⟩; rw [hw']; clear hw' w')))
          go_round
          case rel => exact ⟨k + 1, by omega, by go_num, by rw [HQ2.out, HE.out]⟩
          case measure => simp [intOf]; omega
    · have hks : k = s := by omega
      subst hks
      go_wp2
      go_ret
      exact ⟨rfl, rfl⟩

set_option maxHeartbeats 400000 in
theorem rput_no (x l s v : Int) (w : World) (h : isF l s = false) :
    Calls Tryd.prog 14 #[.int .u64 x, .int .i64 l, .int .i64 s, .int .u64 v] w fun e w' => e = .returned (.int .u64 x) ∧ w' = w := by
  have HF : Hid (isF l s = false) := h
  clear h
  by_cases hs : (0 : Int) < s
  all_goals
    go_enter Tryd.func14, Tryd.ntmps14
    go_wp2
    refine wp_loop_rounds 1 ?_
    rw [rounds_succ]
    go_wp2_with (go_at_call 29; refine (is_no _ _ _ HF.out).mono ?_; rintro e w' ⟨rfl, hw'⟩; rw [hw']; clear hw' w')
    go_ret
    exact ⟨rfl, rfl⟩

theorem rmask_any (l s : Int) (w : World) :
    Calls Tryd.prog 16 #[.int .i64 l, .int .i64 s] w fun e w' => e = .returned (.int .u64 (fMask l s : Nat)) ∧ w' = w := by
  cases h : isF l s
  · have e : fMask l s = 0 := by simp [fMask, h]
    rw [e]
    exact rmask_no l s w h
  · have e : fMask l s = M.mk l.toNat s.toNat := by simp [fMask, h]
    have h' := (isF_iff l s).1 h
    rw [e]
    obtain ⟨l', rfl⟩ := Int.eq_ofNat_of_zero_le (show 0 ≤ l by omega)
    obtain ⟨s', rfl⟩ := Int.eq_ofNat_of_zero_le (show 0 ≤ s by omega)
    simp only [Int.toNat_natCast]
    exact rmask_yes l' s' w (by omega) (by omega)
theorem rget_any (x l s : Int) (w : World) (h0 : 0 ≤ x) (hx : x < 18446744073709551616) :
    Calls Tryd.prog 12 #[.int .u64 x, .int .i64 l, .int .i64 s] w fun e w' => e = .returned (.int .u64 (fGet x.toNat l s : Nat)) ∧ w' = w := by
  cases h : isF l s
  · have e : fGet x.toNat l s = 0 := by simp [fGet, h]
    rw [e]
    exact rget_no x l s w h
  · have e : fGet x.toNat l s = M.gt x.toNat l.toNat s.toNat := by simp [fGet, h]
    have h' := (isF_iff l s).1 h
    rw [e]
    obtain ⟨x', rfl⟩ := Int.eq_ofNat_of_zero_le h0
    obtain ⟨l', rfl⟩ := Int.eq_ofNat_of_zero_le (show 0 ≤ l by omega)
    obtain ⟨s', rfl⟩ := Int.eq_ofNat_of_zero_le (show 0 ≤ s by omega)
    simp only [Int.toNat_natCast]
    exact rget_yes x' l' s' w (by omega) (by omega) (by omega)
theorem rput_any (x l s v : Int) (w : World) (h0 : 0 ≤ x) (hx : x < 18446744073709551616) (hv : 0 ≤ v) (hv' : v < 18446744073709551616) :
    Calls Tryd.prog 14 #[.int .u64 x, .int .i64 l, .int .i64 s, .int .u64 v] w fun e w' => e = .returned (.int .u64 (fPut x.toNat l s v.toNat : Nat)) ∧ w' = w := by
  cases h : isF l s
  · have e : fPut x.toNat l s v.toNat = x.toNat := by simp [fPut, h]
    rw [e, Int.toNat_of_nonneg h0]
    exact rput_no x l s v w h
  · have e : fPut x.toNat l s v.toNat = M.pt x.toNat l.toNat s.toNat v.toNat := by simp [fPut, h]
    have h' := (isF_iff l s).1 h
    rw [e]
    obtain ⟨x', rfl⟩ := Int.eq_ofNat_of_zero_le h0
    obtain ⟨v', rfl⟩ := Int.eq_ofNat_of_zero_le hv
    obtain ⟨l', rfl⟩ := Int.eq_ofNat_of_zero_le (show 0 ≤ l by omega)
    obtain ⟨s', rfl⟩ := Int.eq_ofNat_of_zero_le (show 0 ≤ s by omega)
    simp only [Int.toNat_natCast]
    exact rput_yes x' l' s' v' w (by omega) (by omega) (by omega) (by omega)

set_option maxRecDepth 100000 in
set_option maxHeartbeats 1000000 in
theorem rones_nat (x : Nat) (hx : x < 18446744073709551616) (w : World) :
    Calls Tryd.prog 10 #[.int .u64 x] w fun e W' => ∃ v, e = .returned v ∧ W'.ownsRow w.heap.size 3 1 v (M.onesL x).length (ints (M.onesL x)) ∧ Below w.heap.size w W' := by
  obtain ⟨i0, hi, hz0, hz1, hz2⟩ := info_parts info3
  have HX : Hid (x < 18446744073709551616) := hx
  clear hx
  go_enter Tryd.func10, Tryd.ntmps10
  go_wp2
  go_loopw [3, 4] (fun l i wr => ∃ k : Nat, k ≤ 64 ∧ i = .int .i64 k ∧ wr.ownsRow w.heap.size 3 1 l (M.onesTo x k).length (ints (M.onesTo x k)) ∧ Below w.heap.size w wr) (fun _ i _ => 64 - (intOf i).toNat)
  case atStart => exact ⟨0, by decide, rfl, World.ownsRow_nil _ _ _ _, Below.refl _ _⟩
  case round =>
    obtain ⟨k, hk, rfl, hown, hB⟩ := hrel
    by_cases hlt : k < 64
    · by_cases hbit : x / 2 ^ k % 2 = 1
      · have HB : Hid (x / 2 ^ k % 2 = 1) := hbit
        have HN : Hid (M.onesTo x (k + 1) = M.onesTo x k ++ [k]) := M.onesTo_yes x k hbit
        have hlen := M.onesTo_len x k
        clear hbit
        generalize M.onesTo x k = out at hown HN hlen
        go_wp2_with (first
          | (go_at_call 27; refine (bit_yes _ k _ _ ?_ HX.out ?_ HB.out).mono ?_; (· rfl); (· omega); rintro e w' ⟨rfl, hw'⟩; rw [hw']; clear hw' w')
          | (at_builtin; refine wpList_append_own _ rfl _ _ 24 rfl w.heap.size 3 i0 (.int .i64 0) 1 8 Tryd.underlying24 hi hz0 hz1 hz2 rfl (by decide) _ _ _ rfl (hown.alloc _) ⟨wr.heap.size, 0, none⟩ 1 1 [.int .i64 (k : Nat)] rfl rfl ?c1 ?c2 ?c3 ?c4 ?c5 ?_))
        case c1 => exact cell_one_new _ _ _
        case c2 => simp [Value.oneCell']
        case c3 => unfold maxLen; omega
        case c4 => omega
        case c5 => have := hB.size; simp; omega
        intro v' w1 hown' hgrow _
        go_wp2
        refine ⟨⟨k + 1, by omega, by go_num, ?_, ?_⟩, by simp [intOf]; omega⟩
        · rw [HN.out]; simpa [ints] using hown'
        · exact (hB.alloc hB.size _).grown hgrow (by have := hB.size; simp; omega) (fun k e => (hown.lt k e).1)
      · have HB : Hid (¬ x / 2 ^ k % 2 = 1) := hbit
        have HN : Hid (M.onesTo x (k + 1) = M.onesTo x k) := M.onesTo_no x k hbit
        clear hbit
        generalize M.onesTo x k = out at hown HN
        go_wp2_with (go_at_call 27; refine (bit_no _ k _ _ ?_ HX.out ?_ HB.out).mono ?_; (· rfl); (· omega); rintro e w' ⟨rfl, hw'⟩; rw [hw']; clear hw' w')
        refine ⟨⟨k + 1, by omega, by go_num, ?_, hB⟩, by simp [intOf]; omega⟩
        rw [HN.out]; exact hown
    · have hk64 : k = 64 := by omega
      subst hk64
      go_wp2
      go_ret
      exact ⟨_, rfl, hown, hB⟩
end Go.Proofs.YthhilppeeffheaaDoor
