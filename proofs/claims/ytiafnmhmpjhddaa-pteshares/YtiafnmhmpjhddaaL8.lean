/- The walk of PteShares: for every two pages and every number it returns true; nothing that lay before is changed. No conditions but the pages' and the number's sizes. -/
import Derived.Test.YtiafnmhmpjhddaaK
import Derived.Test.YtiafnmhmpjhddaaQ
namespace Go.Proofs.Ytiafnmhmpjhddaa
open Go.RowKit

set_option maxRecDepth 100000 in
set_option maxHeartbeats 1000000 in
theorem shares_0 (a b : Int) (n : Nat) (a0 : 0 ≤ a) (a1 : a ≤ 65535) (b0 : 0 ≤ b) (b1 : b ≤ 65535) (l1 : (n : Int) ≤ 255) (hn : (n : Int) % 4 = 0) (w : World) :
    Calls Try.prog 8 #[.int .u16 a, .int .u16 b, .int .u8 n] w fun v w' => v = .returned (.bool true) ∧ Below w.heap.size w w' := by
  have ea : IntKind.i64.wrap a = a := by rw [IntKind.wrap_i64]; omega
  have eb : IntKind.i64.wrap b = b := by rw [IntKind.wrap_i64]; omega
  have en : IntKind.i64.wrap (n : Int) = n := by rw [IntKind.wrap_i64]; omega
  have HA0 := hid a0
  have HA1 := hid a1
  have HB0 := hid b0
  have HB1 := hid b1
  have HK := hid (show Calls Try.prog 20 #[] w.drew (fun v w' => v = .returned (.bool true) ∧ Hid (Below w.heap.size w w')) from (known_yes w.drew).mono fun _ _ ⟨h1, h2⟩ => ⟨h1, hid (bgo (Below.refl _ _).drew h2)⟩)
  go_enter Try.func8, Try.ntmps8
  go_wp2
  rw [hn]
  go_loop [8, 9] (fun s l => ∃ j : Nat, j ≤ 4 ∧ l = .int .i64 (3 - (j : Int)) ∧ s = .bool (sm a b j)) (fun _ l => (intOf l + 1).toNat)
  case atStart => exact ⟨0, by decide, rfl, rfl⟩
  case round =>
    obtain ⟨j, hj, rfl, rfl⟩ := hrel
    by_cases hlt : j < 4
    · obtain ⟨v, hv⟩ : ∃ v : Int, 3 - (j : Int) = v := ⟨_, rfl⟩
      have v0 : 0 ≤ v := by omega
      have v3 : v ≤ 3 := by omega
      have HS := hid (sm_s a b j)
      rw [hv] at HS ⊢
      have Ui := hid (fun w => index_at a v w)
      have Uq := hid (fun w => index_at b v w)
      have HV := hid hv
      have HL := hid hlt
      clear hv hlt hj
      generalize ix a v = i at *
      generalize ix b v = q at *
      cases hs : sm a b j
      · rw [hs] at HS
        clear hs
        go_wp2
        go_round
        case rel => exact ⟨j + 1, by have := HL.out; omega, by have := HV.out; go_num, by rw [HS.out]; rfl⟩
        case measure => simp [intOf]; omega
      · rw [hs] at HS
        clear hs
        go_wp2_with fail
        refine (Ui.out _).mono ?_
        rintro v1 w1 ⟨rfl, hw⟩
        rw [hw]
        clear hw w1
        (try simp only [])
        go_wp2_with fail
        refine (Uq.out _).mono ?_
        rintro v1 w1 ⟨rfl, hw⟩
        rw [hw]
        clear hw w1
        (try simp only [])
        go_wp2
        go_round
        case rel => exact ⟨j + 1, by have := HL.out; omega, by have := HV.out; go_num, by rw [HS.out]; rfl⟩
        case measure => simp [intOf]; omega
    · have hj4 : j = 4 := by omega
      have e4 : 3 - (j : Int) = -1 := by omega
      have e6 : sm a b j = (a / 1 == b / 1) := by rw [hj4]; rw [Int.ediv_one, Int.ediv_one]; exact row4 HA0.out HA1.out HB0.out HB1.out
      rw [e4, e6]
      clear e4 e6 hj hj4 hlt
      cases hab : (a / 1 == b / 1)
      · rw [Int.ediv_one, Int.ediv_one] at hab
        go_wp2_with fail
        refine (n_at (c := 1) (span_at 0 _) (by rfl)).mono ?_
        rintro v1 w1 ⟨rfl, hw⟩
        rw [hw]
        clear hw w1
        (try simp only [])
        go_wp2_with fail
        have t1 : a.tdiv 1 = a / 1 := Int.tdiv_eq_ediv_of_nonneg HA0.out
        have t2 : b.tdiv 1 = b / 1 := Int.tdiv_eq_ediv_of_nonneg HB0.out
        have t3 : IntKind.i64.wrap (a / 1) = a / 1 := by rw [IntKind.wrap_i64]; have := HA0.out; have := HA1.out; omega
        have t4 : IntKind.i64.wrap (b / 1) = b / 1 := by rw [IntKind.wrap_i64]; have := HB0.out; have := HB1.out; omega
        go_region_held3 (fun _ => True) (trivial) (first | (go_at_call 20; refine HK.out.mono ?_; rintro e v' ⟨rfl, hm'⟩))
        go_wp2
        go_ret
        exact ⟨rfl, hm'.out⟩
      · rw [Int.ediv_one, Int.ediv_one] at hab
        go_wp2_with fail
        refine (n_at (c := 1) (span_at 0 _) (by rfl)).mono ?_
        rintro v1 w1 ⟨rfl, hw⟩
        rw [hw]
        clear hw w1
        (try simp only [])
        go_wp2_with fail
        have t1 : a.tdiv 1 = a / 1 := Int.tdiv_eq_ediv_of_nonneg HA0.out
        have t2 : b.tdiv 1 = b / 1 := Int.tdiv_eq_ediv_of_nonneg HB0.out
        have t3 : IntKind.i64.wrap (a / 1) = a / 1 := by rw [IntKind.wrap_i64]; have := HA0.out; have := HA1.out; omega
        have t4 : IntKind.i64.wrap (b / 1) = b / 1 := by rw [IntKind.wrap_i64]; have := HB0.out; have := HB1.out; omega
        go_region_held3 (fun _ => True) (trivial) (first | (go_at_call 20; refine HK.out.mono ?_; rintro e v' ⟨rfl, hm'⟩))
        go_wp2
        go_ret
        exact ⟨rfl, hm'.out⟩
set_option maxRecDepth 100000 in
set_option maxHeartbeats 1000000 in
theorem shares_1 (a b : Int) (n : Nat) (a0 : 0 ≤ a) (a1 : a ≤ 65535) (b0 : 0 ≤ b) (b1 : b ≤ 65535) (l1 : (n : Int) ≤ 255) (hn : (n : Int) % 4 = 1) (w : World) :
    Calls Try.prog 8 #[.int .u16 a, .int .u16 b, .int .u8 n] w fun v w' => v = .returned (.bool true) ∧ Below w.heap.size w w' := by
  have ea : IntKind.i64.wrap a = a := by rw [IntKind.wrap_i64]; omega
  have eb : IntKind.i64.wrap b = b := by rw [IntKind.wrap_i64]; omega
  have en : IntKind.i64.wrap (n : Int) = n := by rw [IntKind.wrap_i64]; omega
  have HA0 := hid a0
  have HA1 := hid a1
  have HB0 := hid b0
  have HB1 := hid b1
  have HK := hid (show Calls Try.prog 20 #[] w.drew (fun v w' => v = .returned (.bool true) ∧ Hid (Below w.heap.size w w')) from (known_yes w.drew).mono fun _ _ ⟨h1, h2⟩ => ⟨h1, hid (bgo (Below.refl _ _).drew h2)⟩)
  go_enter Try.func8, Try.ntmps8
  go_wp2
  rw [hn]
  go_loop [8, 9] (fun s l => ∃ j : Nat, j ≤ 3 ∧ l = .int .i64 (3 - (j : Int)) ∧ s = .bool (sm a b j)) (fun _ l => (intOf l + 1).toNat)
  case atStart => exact ⟨0, by decide, rfl, rfl⟩
  case round =>
    obtain ⟨j, hj, rfl, rfl⟩ := hrel
    by_cases hlt : j < 3
    · obtain ⟨v, hv⟩ : ∃ v : Int, 3 - (j : Int) = v := ⟨_, rfl⟩
      have v0 : 1 ≤ v := by omega
      have v3 : v ≤ 3 := by omega
      have HS := hid (sm_s a b j)
      rw [hv] at HS ⊢
      have Ui := hid (fun w => index_at a v w)
      have Uq := hid (fun w => index_at b v w)
      have HV := hid hv
      have HL := hid hlt
      clear hv hlt hj
      generalize ix a v = i at *
      generalize ix b v = q at *
      cases hs : sm a b j
      · rw [hs] at HS
        clear hs
        go_wp2
        go_round
        case rel => exact ⟨j + 1, by have := HL.out; omega, by have := HV.out; go_num, by rw [HS.out]; rfl⟩
        case measure => simp [intOf]; omega
      · rw [hs] at HS
        clear hs
        go_wp2_with fail
        refine (Ui.out _).mono ?_
        rintro v1 w1 ⟨rfl, hw⟩
        rw [hw]
        clear hw w1
        (try simp only [])
        go_wp2_with fail
        refine (Uq.out _).mono ?_
        rintro v1 w1 ⟨rfl, hw⟩
        rw [hw]
        clear hw w1
        (try simp only [])
        go_wp2
        go_round
        case rel => exact ⟨j + 1, by have := HL.out; omega, by have := HV.out; go_num, by rw [HS.out]; rfl⟩
        case measure => simp [intOf]; omega
    · have hj4 : j = 3 := by omega
      have e4 : 3 - (j : Int) = 0 := by omega
      have e6 : sm a b j = (a / 16 == b / 16) := by rw [hj4]; exact row3 HA0.out HA1.out HB0.out HB1.out
      rw [e4, e6]
      clear e4 e6 hj hj4 hlt
      cases hab : (a / 16 == b / 16)
      · skip
        go_wp2_with fail
        refine (n_at (c := 16) (span_at 1 _) (by rfl)).mono ?_
        rintro v1 w1 ⟨rfl, hw⟩
        rw [hw]
        clear hw w1
        (try simp only [])
        go_wp2_with fail
        have t1 : a.tdiv 16 = a / 16 := Int.tdiv_eq_ediv_of_nonneg HA0.out
        have t2 : b.tdiv 16 = b / 16 := Int.tdiv_eq_ediv_of_nonneg HB0.out
        have t3 : IntKind.i64.wrap (a / 16) = a / 16 := by rw [IntKind.wrap_i64]; have := HA0.out; have := HA1.out; omega
        have t4 : IntKind.i64.wrap (b / 16) = b / 16 := by rw [IntKind.wrap_i64]; have := HB0.out; have := HB1.out; omega
        go_region_held3 (fun _ => True) (trivial) (first | (go_at_call 20; refine HK.out.mono ?_; rintro e v' ⟨rfl, hm'⟩))
        go_wp2
        go_ret
        exact ⟨rfl, hm'.out⟩
      · skip
        go_wp2_with fail
        refine (n_at (c := 16) (span_at 1 _) (by rfl)).mono ?_
        rintro v1 w1 ⟨rfl, hw⟩
        rw [hw]
        clear hw w1
        (try simp only [])
        go_wp2_with fail
        have t1 : a.tdiv 16 = a / 16 := Int.tdiv_eq_ediv_of_nonneg HA0.out
        have t2 : b.tdiv 16 = b / 16 := Int.tdiv_eq_ediv_of_nonneg HB0.out
        have t3 : IntKind.i64.wrap (a / 16) = a / 16 := by rw [IntKind.wrap_i64]; have := HA0.out; have := HA1.out; omega
        have t4 : IntKind.i64.wrap (b / 16) = b / 16 := by rw [IntKind.wrap_i64]; have := HB0.out; have := HB1.out; omega
        go_region_held3 (fun _ => True) (trivial) (first | (go_at_call 20; refine HK.out.mono ?_; rintro e v' ⟨rfl, hm'⟩))
        go_wp2
        go_ret
        exact ⟨rfl, hm'.out⟩
set_option maxRecDepth 100000 in
set_option maxHeartbeats 1000000 in
theorem shares_2 (a b : Int) (n : Nat) (a0 : 0 ≤ a) (a1 : a ≤ 65535) (b0 : 0 ≤ b) (b1 : b ≤ 65535) (l1 : (n : Int) ≤ 255) (hn : (n : Int) % 4 = 2) (w : World) :
    Calls Try.prog 8 #[.int .u16 a, .int .u16 b, .int .u8 n] w fun v w' => v = .returned (.bool true) ∧ Below w.heap.size w w' := by
  have ea : IntKind.i64.wrap a = a := by rw [IntKind.wrap_i64]; omega
  have eb : IntKind.i64.wrap b = b := by rw [IntKind.wrap_i64]; omega
  have en : IntKind.i64.wrap (n : Int) = n := by rw [IntKind.wrap_i64]; omega
  have HA0 := hid a0
  have HA1 := hid a1
  have HB0 := hid b0
  have HB1 := hid b1
  have HK := hid (show Calls Try.prog 20 #[] w.drew (fun v w' => v = .returned (.bool true) ∧ Hid (Below w.heap.size w w')) from (known_yes w.drew).mono fun _ _ ⟨h1, h2⟩ => ⟨h1, hid (bgo (Below.refl _ _).drew h2)⟩)
  go_enter Try.func8, Try.ntmps8
  go_wp2
  rw [hn]
  go_loop [8, 9] (fun s l => ∃ j : Nat, j ≤ 2 ∧ l = .int .i64 (3 - (j : Int)) ∧ s = .bool (sm a b j)) (fun _ l => (intOf l + 1).toNat)
  case atStart => exact ⟨0, by decide, rfl, rfl⟩
  case round =>
    obtain ⟨j, hj, rfl, rfl⟩ := hrel
    by_cases hlt : j < 2
    · obtain ⟨v, hv⟩ : ∃ v : Int, 3 - (j : Int) = v := ⟨_, rfl⟩
      have v0 : 2 ≤ v := by omega
      have v3 : v ≤ 3 := by omega
      have HS := hid (sm_s a b j)
      rw [hv] at HS ⊢
      have Ui := hid (fun w => index_at a v w)
      have Uq := hid (fun w => index_at b v w)
      have HV := hid hv
      have HL := hid hlt
      clear hv hlt hj
      generalize ix a v = i at *
      generalize ix b v = q at *
      cases hs : sm a b j
      · rw [hs] at HS
        clear hs
        go_wp2
        go_round
        case rel => exact ⟨j + 1, by have := HL.out; omega, by have := HV.out; go_num, by rw [HS.out]; rfl⟩
        case measure => simp [intOf]; omega
      · rw [hs] at HS
        clear hs
        go_wp2_with fail
        refine (Ui.out _).mono ?_
        rintro v1 w1 ⟨rfl, hw⟩
        rw [hw]
        clear hw w1
        (try simp only [])
        go_wp2_with fail
        refine (Uq.out _).mono ?_
        rintro v1 w1 ⟨rfl, hw⟩
        rw [hw]
        clear hw w1
        (try simp only [])
        go_wp2
        go_round
        case rel => exact ⟨j + 1, by have := HL.out; omega, by have := HV.out; go_num, by rw [HS.out]; rfl⟩
        case measure => simp [intOf]; omega
    · have hj4 : j = 2 := by omega
      have e4 : 3 - (j : Int) = 1 := by omega
      have e6 : sm a b j = (a / 256 == b / 256) := by rw [hj4]; exact row2 HA0.out HA1.out HB0.out HB1.out
      rw [e4, e6]
      clear e4 e6 hj hj4 hlt
      cases hab : (a / 256 == b / 256)
      · skip
        go_wp2_with fail
        refine (n_at (c := 256) (span_at 2 _) (by rfl)).mono ?_
        rintro v1 w1 ⟨rfl, hw⟩
        rw [hw]
        clear hw w1
        (try simp only [])
        go_wp2_with fail
        have t1 : a.tdiv 256 = a / 256 := Int.tdiv_eq_ediv_of_nonneg HA0.out
        have t2 : b.tdiv 256 = b / 256 := Int.tdiv_eq_ediv_of_nonneg HB0.out
        have t3 : IntKind.i64.wrap (a / 256) = a / 256 := by rw [IntKind.wrap_i64]; have := HA0.out; have := HA1.out; omega
        have t4 : IntKind.i64.wrap (b / 256) = b / 256 := by rw [IntKind.wrap_i64]; have := HB0.out; have := HB1.out; omega
        go_region_held3 (fun _ => True) (trivial) (first | (go_at_call 20; refine HK.out.mono ?_; rintro e v' ⟨rfl, hm'⟩))
        go_wp2
        go_ret
        exact ⟨rfl, hm'.out⟩
      · skip
        go_wp2_with fail
        refine (n_at (c := 256) (span_at 2 _) (by rfl)).mono ?_
        rintro v1 w1 ⟨rfl, hw⟩
        rw [hw]
        clear hw w1
        (try simp only [])
        go_wp2_with fail
        have t1 : a.tdiv 256 = a / 256 := Int.tdiv_eq_ediv_of_nonneg HA0.out
        have t2 : b.tdiv 256 = b / 256 := Int.tdiv_eq_ediv_of_nonneg HB0.out
        have t3 : IntKind.i64.wrap (a / 256) = a / 256 := by rw [IntKind.wrap_i64]; have := HA0.out; have := HA1.out; omega
        have t4 : IntKind.i64.wrap (b / 256) = b / 256 := by rw [IntKind.wrap_i64]; have := HB0.out; have := HB1.out; omega
        go_region_held3 (fun _ => True) (trivial) (first | (go_at_call 20; refine HK.out.mono ?_; rintro e v' ⟨rfl, hm'⟩))
        go_wp2
        go_ret
        exact ⟨rfl, hm'.out⟩
set_option maxRecDepth 100000 in
set_option maxHeartbeats 1000000 in
theorem shares_3 (a b : Int) (n : Nat) (a0 : 0 ≤ a) (a1 : a ≤ 65535) (b0 : 0 ≤ b) (b1 : b ≤ 65535) (l1 : (n : Int) ≤ 255) (hn : (n : Int) % 4 = 3) (w : World) :
    Calls Try.prog 8 #[.int .u16 a, .int .u16 b, .int .u8 n] w fun v w' => v = .returned (.bool true) ∧ Below w.heap.size w w' := by
  have ea : IntKind.i64.wrap a = a := by rw [IntKind.wrap_i64]; omega
  have eb : IntKind.i64.wrap b = b := by rw [IntKind.wrap_i64]; omega
  have en : IntKind.i64.wrap (n : Int) = n := by rw [IntKind.wrap_i64]; omega
  have HA0 := hid a0
  have HA1 := hid a1
  have HB0 := hid b0
  have HB1 := hid b1
  have HK := hid (show Calls Try.prog 20 #[] w.drew (fun v w' => v = .returned (.bool true) ∧ Hid (Below w.heap.size w w')) from (known_yes w.drew).mono fun _ _ ⟨h1, h2⟩ => ⟨h1, hid (bgo (Below.refl _ _).drew h2)⟩)
  go_enter Try.func8, Try.ntmps8
  go_wp2
  rw [hn]
  go_loop [8, 9] (fun s l => ∃ j : Nat, j ≤ 1 ∧ l = .int .i64 (3 - (j : Int)) ∧ s = .bool (sm a b j)) (fun _ l => (intOf l + 1).toNat)
  case atStart => exact ⟨0, by decide, rfl, rfl⟩
  case round =>
    obtain ⟨j, hj, rfl, rfl⟩ := hrel
    by_cases hlt : j < 1
    · obtain ⟨v, hv⟩ : ∃ v : Int, 3 - (j : Int) = v := ⟨_, rfl⟩
      have v0 : 3 ≤ v := by omega
      have v3 : v ≤ 3 := by omega
      have HS := hid (sm_s a b j)
      rw [hv] at HS ⊢
      have Ui := hid (fun w => index_at a v w)
      have Uq := hid (fun w => index_at b v w)
      have HV := hid hv
      have HL := hid hlt
      clear hv hlt hj
      generalize ix a v = i at *
      generalize ix b v = q at *
      cases hs : sm a b j
      · rw [hs] at HS
        clear hs
        go_wp2
        go_round
        case rel => exact ⟨j + 1, by have := HL.out; omega, by have := HV.out; go_num, by rw [HS.out]; rfl⟩
        case measure => simp [intOf]; omega
      · rw [hs] at HS
        clear hs
        go_wp2_with fail
        refine (Ui.out _).mono ?_
        rintro v1 w1 ⟨rfl, hw⟩
        rw [hw]
        clear hw w1
        (try simp only [])
        go_wp2_with fail
        refine (Uq.out _).mono ?_
        rintro v1 w1 ⟨rfl, hw⟩
        rw [hw]
        clear hw w1
        (try simp only [])
        go_wp2
        go_round
        case rel => exact ⟨j + 1, by have := HL.out; omega, by have := HV.out; go_num, by rw [HS.out]; rfl⟩
        case measure => simp [intOf]; omega
    · have hj4 : j = 1 := by omega
      have e4 : 3 - (j : Int) = 2 := by omega
      have e6 : sm a b j = (a / 4096 == b / 4096) := by rw [hj4]; exact row1 HA0.out HA1.out HB0.out HB1.out
      rw [e4, e6]
      clear e4 e6 hj hj4 hlt
      cases hab : (a / 4096 == b / 4096)
      · skip
        go_wp2_with fail
        refine (n_at (c := 4096) (span_at 3 _) (by rfl)).mono ?_
        rintro v1 w1 ⟨rfl, hw⟩
        rw [hw]
        clear hw w1
        (try simp only [])
        go_wp2_with fail
        have t1 : a.tdiv 4096 = a / 4096 := Int.tdiv_eq_ediv_of_nonneg HA0.out
        have t2 : b.tdiv 4096 = b / 4096 := Int.tdiv_eq_ediv_of_nonneg HB0.out
        have t3 : IntKind.i64.wrap (a / 4096) = a / 4096 := by rw [IntKind.wrap_i64]; have := HA0.out; have := HA1.out; omega
        have t4 : IntKind.i64.wrap (b / 4096) = b / 4096 := by rw [IntKind.wrap_i64]; have := HB0.out; have := HB1.out; omega
        go_region_held3 (fun _ => True) (trivial) (first | (go_at_call 20; refine HK.out.mono ?_; rintro e v' ⟨rfl, hm'⟩))
        go_wp2
        go_ret
        exact ⟨rfl, hm'.out⟩
      · skip
        go_wp2_with fail
        refine (n_at (c := 4096) (span_at 3 _) (by rfl)).mono ?_
        rintro v1 w1 ⟨rfl, hw⟩
        rw [hw]
        clear hw w1
        (try simp only [])
        go_wp2_with fail
        have t1 : a.tdiv 4096 = a / 4096 := Int.tdiv_eq_ediv_of_nonneg HA0.out
        have t2 : b.tdiv 4096 = b / 4096 := Int.tdiv_eq_ediv_of_nonneg HB0.out
        have t3 : IntKind.i64.wrap (a / 4096) = a / 4096 := by rw [IntKind.wrap_i64]; have := HA0.out; have := HA1.out; omega
        have t4 : IntKind.i64.wrap (b / 4096) = b / 4096 := by rw [IntKind.wrap_i64]; have := HB0.out; have := HB1.out; omega
        go_region_held3 (fun _ => True) (trivial) (first | (go_at_call 20; refine HK.out.mono ?_; rintro e v' ⟨rfl, hm'⟩))
        go_wp2
        go_ret
        exact ⟨rfl, hm'.out⟩

theorem shares_walk (a b : Int) (n : Nat) (a0 : 0 ≤ a) (a1 : a ≤ 65535) (b0 : 0 ≤ b) (b1 : b ≤ 65535) (l1 : n ≤ 255) (w : World) :
    Calls Try.prog 8 #[.int .u16 a, .int .u16 b, .int .u8 n] w fun v w' => v = .returned (.bool true) ∧ Below w.heap.size w w' := by
  have l2 : (n : Int) ≤ 255 := by omega
  have h : (n : Int) % 4 = 0 ∨ (n : Int) % 4 = 1 ∨ (n : Int) % 4 = 2 ∨ (n : Int) % 4 = 3 := by omega
  rcases h with h | h | h | h
  · exact shares_0 a b n a0 a1 b0 b1 l2 h w
  · exact shares_1 a b n a0 a1 b0 b1 l2 h w
  · exact shares_2 a b n a0 a1 b0 b1 l2 h w
  · exact shares_3 a b n a0 a1 b0 b1 l2 h w
end Go.Proofs.Ytiafnmhmpjhddaa
