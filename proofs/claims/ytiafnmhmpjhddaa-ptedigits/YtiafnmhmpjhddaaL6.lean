/- The walk of PteDigits: for every two pages it returns true; nothing that lay before is changed. No conditions but the pages' sizes. -/
import Derived.Test.YtiafnmhmpjhddaaK
import Derived.Test.YtiafnmhmpjhddaaQ
namespace Go.Proofs.Ytiafnmhmpjhddaa
open Go.RowKit

set_option maxRecDepth 100000 in
set_option maxHeartbeats 1000000 in
theorem digits_walk (a b : Int) (a0 : 0 ≤ a) (a1 : a ≤ 65535) (b0 : 0 ≤ b) (b1 : b ≤ 65535) (w : World) :
    Calls Try.prog 6 #[.int .u16 a, .int .u16 b] w fun v w' => v = .returned (.bool true) ∧ Below w.heap.size w w' := by
  have ea : IntKind.i64.wrap a = a := by rw [IntKind.wrap_i64]; omega
  have eb : IntKind.i64.wrap b = b := by rw [IntKind.wrap_i64]; omega
  have HA0 := hid a0
  have HA1 := hid a1
  have HB0 := hid b0
  have HB1 := hid b1
  go_enter Try.func6, Try.ntmps6
  go_wp2
  go_loop [7, 8, 9] (fun x s l => ∃ j : Nat, j ≤ 4 ∧ l = .int .i64 (3 - (j : Int)) ∧ x = .int .i64 (sumN a j) ∧ s = .bool (sm a b j)) (fun _ _ l => (intOf l + 1).toNat)
  case atStart => exact ⟨0, by decide, rfl, rfl, rfl⟩
  case round =>
    obtain ⟨j, hj, rfl, rfl, rfl⟩ := hrel
    by_cases hlt : j < 4
    · obtain ⟨v, hv⟩ : ∃ v : Int, 3 - (j : Int) = v := ⟨_, rfl⟩
      have v0 : 0 ≤ v := by omega
      have v3 : v ≤ 3 := by omega
      obtain ⟨k1, k2, k3, k4, k5⟩ := lev_in HA0.out HA1.out v0 v3
      obtain ⟨m1, m2⟩ := mul_in k1 k2 k3 k4
      obtain ⟨n1, n2⟩ := sumN_in HA0.out HA1.out j hj
      have HN := hid (sumN_s a j)
      have HS := hid (sm_s a b j)
      rw [hv] at HN HS ⊢
      have Ui := hid (fun w => index_at a v w)
      have Uq := hid (fun w => index_at b v w)
      have Us := hid (fun w => span_at v w)
      have Up := hid (fun w => n_at (place_at 7 a v w) k5)
      have HV := hid hv
      have HL := hid hlt
      have n3 : sumN a j ≤ 245760 := by omega
      clear k5 hv n2 hlt hj
      generalize ix a v = i at *
      generalize ix b v = q at *
      generalize sp v = s at *
      generalize sumN a j = n at *
      have em : IntKind.i64.wrap (i * s) = i * s := by rw [IntKind.wrap_i64]; omega
      have en : IntKind.i64.wrap (n + i * s) = n + i * s := by rw [IntKind.wrap_i64]; omega
      have ep : ((112 + i : Int) != 112 + i) = false := by simp
      have ei : IntKind.i64.wrap (112 + i) = 112 + i := by rw [IntKind.wrap_i64]; omega
      cases hs : sm a b j
      · rw [hs] at HS
        clear hs
        go_wp2_with fail
        refine (Ui.out _).mono ?_
        rintro v1 w1 ⟨rfl, hw⟩
        rw [hw]
        clear hw w1
        (try simp only [])
        go_wp2_with fail
        refine (Us.out _).mono ?_
        rintro v1 w1 ⟨rfl, hw⟩
        rw [hw]
        clear hw w1
        (try simp only [])
        go_wp2_with fail
        refine (Up.out _).mono ?_
        rintro v1 w1 ⟨rfl, hw⟩
        rw [hw]
        clear hw w1
        (try simp only [])
        go_wp2_with fail
        refine (Ui.out _).mono ?_
        rintro v1 w1 ⟨rfl, hw⟩
        rw [hw]
        clear hw w1
        (try simp only [])
        go_wp2
        go_round
        case rel => exact ⟨j + 1, by have := HL.out; omega, by have := HV.out; go_num, by rw [HN.out], by rw [HS.out]; rfl⟩
        case measure => simp [intOf]; omega
      · rw [hs] at HS
        clear hs
        go_wp2_with fail
        refine (Ui.out _).mono ?_
        rintro v1 w1 ⟨rfl, hw⟩
        rw [hw]
        clear hw w1
        (try simp only [])
        go_wp2_with fail
        refine (Us.out _).mono ?_
        rintro v1 w1 ⟨rfl, hw⟩
        rw [hw]
        clear hw w1
        (try simp only [])
        go_wp2_with fail
        refine (Ui.out _).mono ?_
        rintro v1 w1 ⟨rfl, hw⟩
        rw [hw]
        clear hw w1
        (try simp only [])
        go_wp2_with fail
        refine (Uq.out _).mono ?_
        rintro v1 w1 ⟨rfl, hw⟩
        rw [hw]
        clear hw w1
        (try simp only [])
        go_wp2_with fail
        refine (Up.out _).mono ?_
        rintro v1 w1 ⟨rfl, hw⟩
        rw [hw]
        clear hw w1
        (try simp only [])
        go_wp2_with fail
        refine (Ui.out _).mono ?_
        rintro v1 w1 ⟨rfl, hw⟩
        rw [hw]
        clear hw w1
        (try simp only [])
        go_wp2
        go_round
        case rel => exact ⟨j + 1, by have := HL.out; omega, by have := HV.out; go_num, by rw [HN.out], by rw [HS.out]; rfl⟩
        case measure => simp [intOf]; omega
    · have hj4 : j = 4 := by omega
      have e4 : 3 - (j : Int) = -1 := by omega
      have e5 : sumN a j = a := by rw [hj4]; exact sumN_all HA0.out HA1.out
      have e6 : sm a b j = (a == b) := by rw [hj4]; exact row4 HA0.out HA1.out HB0.out HB1.out
      rw [e4, e5, e6]
      clear e4 e5 e6 hj hj4 hlt
      have eaa : (a == a) = true := by simp
      cases hab : (a == b)
      · go_wp2_with fail
        refine (known_yes _).mono ?_
        rintro v1 w1 ⟨rfl, hB⟩
        have HB := hid hB
        clear hB
        go_wp2
        go_ret
        exact ⟨rfl, HB.out⟩
      · go_wp2_with fail
        refine (known_yes _).mono ?_
        rintro v1 w1 ⟨rfl, hB⟩
        have HB := hid hB
        clear hB
        go_wp2
        go_ret
        exact ⟨rfl, HB.out⟩
end Go.Proofs.Ytiafnmhmpjhddaa
