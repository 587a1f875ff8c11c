/- What the document's Next returns, each way of five. -/
import Derived.Test.YtpfmmlbakbhklaaGreatDoorOD4
namespace Go.Proofs.YtpfmmlbakbhklaaGreatDoor.O
open Go.RowKit

set_option maxRecDepth 100000 in
set_option maxHeartbeats 1000000 in
theorem rnext_form (k0 o0 r0 e0 k o : Int) (w : World) (h1 : rt ⟨k0, o0, r0, e0⟩ = false) :
    Calls Tryz.prog 116 #[.agg #[.int .i64 k0, .int .i64 o0, .int .i64 r0, .int .i64 e0], .int .i64 k, .int .i64 o] w fun x w' => x = .returned (two zd 11) ∧ Below w.heap.size w w' := by
  have H1 := hid h1
  clear h1
  go_enter Tryz.func116, Tryz.ntmps116
  go_wp2_with fail
  refine (rright_no ⟨k0, o0, r0, e0⟩ _ H1.out).mono ?_
  rintro x w1 ⟨rfl, hB⟩
  have a0 := stay hB (two_new w _ _).1
  have a1 := stay hB (two_new w _ _).2
  have HB := hid (bgo (btwo w _ _) hB)
  clear hB
  obtain ⟨p00, p01, p02, p03, q00, q01, q02, q03⟩ := four a0
  have A0 := hid a0
  clear a0
  obtain ⟨p10, p11, p12, p13, q10, q11, q12, q13⟩ := four a1
  have A1 := hid a1
  clear a1
  (try simp only [])
  go_wp2
  (try simp only [Exit.inBlock, Exit.then])
  refine bodyPost_ret (results_row_tmp rfl _ _ (w.heap.size + 1) _ rfl (run_loadVar_row _ _ 91 91 _ (0, 0) _ (put4 A1.out _ _ _ _) Tryz.underlying91 rfl size91)) rfl ?_
  exact ⟨rfl, bput HB.out (by omega) _ _ _ _⟩


set_option maxRecDepth 100000 in
set_option maxHeartbeats 1000000 in
theorem rnext_busy (k0 o0 r0 e0 k o : Int) (w : World) (h1 : rt ⟨k0, o0, r0, e0⟩ = true) (h2 : 0 < r0) :
    Calls Tryz.prog 116 #[.agg #[.int .i64 k0, .int .i64 o0, .int .i64 r0, .int .i64 e0], .int .i64 k, .int .i64 o] w fun x w' => x = .returned (two zd 9) ∧ Below w.heap.size w w' := by
  have H1 := hid h1
  clear h1
  go_enter Tryz.func116, Tryz.ntmps116
  go_wp2_with fail
  refine (rright_yes ⟨k0, o0, r0, e0⟩ _ H1.out).mono ?_
  rintro x w1 ⟨rfl, hB⟩
  have a0 := stay hB (two_new w _ _).1
  have a1 := stay hB (two_new w _ _).2
  have HB := hid (bgo (btwo w _ _) hB)
  clear hB
  obtain ⟨p00, p01, p02, p03, q00, q01, q02, q03⟩ := four a0
  have A0 := hid a0
  clear a0
  obtain ⟨p10, p11, p12, p13, q10, q11, q12, q13⟩ := four a1
  have A1 := hid a1
  clear a1
  (try simp only [])
  go_wp2
  (try simp only [Exit.inBlock, Exit.then])
  refine bodyPost_ret (results_row_tmp rfl _ _ (w.heap.size + 1) _ rfl (run_loadVar_row _ _ 91 91 _ (0, 0) _ (put4 A1.out _ _ _ _) Tryz.underlying91 rfl size91)) rfl ?_
  exact ⟨rfl, bput HB.out (by omega) _ _ _ _⟩


set_option maxRecDepth 100000 in
set_option maxHeartbeats 1000000 in
theorem rnext_state (k0 o0 r0 e0 k o : Int) (w : World) (h1 : rt ⟨k0, o0, r0, e0⟩ = true) (h2 : ¬ 0 < r0) (h3 : way k0 k = false) (hk : btw k0 0 5 = true) :
    Calls Tryz.prog 116 #[.agg #[.int .i64 k0, .int .i64 o0, .int .i64 r0, .int .i64 e0], .int .i64 k, .int .i64 o] w fun x w' => x = .returned (two zd 6) ∧ Below w.heap.size w w' := by
  have H1 := hid h1
  clear h1
  have H3 := hid h3
  have HK := hid hk
  clear h3 hk
  go_enter Tryz.func116, Tryz.ntmps116
  go_wp2_with fail
  refine (rright_yes ⟨k0, o0, r0, e0⟩ _ H1.out).mono ?_
  rintro x w1 ⟨rfl, hB⟩
  have a0 := stay hB (two_new w _ _).1
  have a1 := stay hB (two_new w _ _).2
  have HB := hid (bgo (btwo w _ _) hB)
  clear hB
  obtain ⟨p00, p01, p02, p03, q00, q01, q02, q03⟩ := four a0
  have A0 := hid a0
  clear a0
  obtain ⟨p10, p11, p12, p13, q10, q11, q12, q13⟩ := four a1
  have A1 := hid a1
  clear a1
  (try simp only [])
  go_wp2_with fail
  refine (leads_any _ _ _ HK.out).mono ?_
  rintro x w2 ⟨rfl, rfl⟩
  rw [H3.out]
  go_wp2
  (try simp only [Exit.inBlock, Exit.then])
  refine bodyPost_ret (results_row_tmp rfl _ _ (w.heap.size + 1) _ rfl (run_loadVar_row _ _ 91 91 _ (0, 0) _ (put4 A1.out _ _ _ _) Tryz.underlying91 rfl size91)) rfl ?_
  exact ⟨rfl, bput HB.out (by omega) _ _ _ _⟩


set_option maxRecDepth 100000 in
set_option maxHeartbeats 1000000 in
theorem rnext_arg (k0 o0 r0 e0 k o n : Int) (w : World) (hno : k = 5 ∧ o0 = n ∨ (k == 5) = false ∧ o = n) (h1 : rt ⟨k0, o0, r0, e0⟩ = true) (h2 : ¬ 0 < r0) (h3 : way k0 k = true) (h4 : rt ⟨k, n, 0, 0⟩ = false) (hk : btw k0 0 5 = true) :
    Calls Tryz.prog 116 #[.agg #[.int .i64 k0, .int .i64 o0, .int .i64 r0, .int .i64 e0], .int .i64 k, .int .i64 o] w fun x w' => x = .returned (two zd 1) ∧ Below w.heap.size w w' := by
  have H1 := hid h1
  clear h1
  have H3 := hid h3
  have HK := hid hk
  clear h3 hk
  have H4 := hid h4
  clear h4
  rcases hno with ⟨rfl, rfl⟩ | ⟨hk5, rfl⟩
  all_goals
    go_enter Tryz.func116, Tryz.ntmps116
    go_wp2_with fail
    refine (rright_yes ⟨k0, o0, r0, e0⟩ _ H1.out).mono ?_
    rintro x w1 ⟨rfl, hB⟩
    have a0 := stay hB (two_new w _ _).1
    have a1 := stay hB (two_new w _ _).2
    have HB := hid (bgo (btwo w _ _) hB)
    clear hB
    obtain ⟨p00, p01, p02, p03, q00, q01, q02, q03⟩ := four a0
    have A0 := hid a0
    clear a0
    obtain ⟨p10, p11, p12, p13, q10, q11, q12, q13⟩ := four a1
    have A1 := hid a1
    clear a1
    (try simp only [])
    go_wp2_with fail
    refine (leads_any _ _ _ HK.out).mono ?_
    rintro x w2 ⟨rfl, rfl⟩
    rw [H3.out]
    have l0 := lt_of_block A0.out
    have l1 := lt_of_block A1.out
    go_wp2_with fail
    refine (rright_no ⟨_, _, 0, 0⟩ _ H4.out).mono ?_
    rintro x w3 ⟨rfl, hB⟩
    have a0 := stay hB (hkeep A0.out _)
    have a1 := stay hB (hkeep A1.out _)
    have a2 := stay hB (heap_alloc_new _ _)
    have HB2 := hid (bgo (HB.out.alloc HB.out.size _) hB)
    clear HB
    have HB := HB2
    clear HB2 hB A0 A1 p00 p01 p02 p03 p10 p11 p12 p13 q00 q01 q02 q03 q10 q11 q12 q13
    obtain ⟨p00, p01, p02, p03, q00, q01, q02, q03⟩ := four a0
    have A0 := hid a0
    clear a0
    obtain ⟨p10, p11, p12, p13, q10, q11, q12, q13⟩ := four a1
    have A1 := hid a1
    clear a1
    obtain ⟨p20, p21, p22, p23, q20, q21, q22, q23⟩ := four a2
    have A2 := hid a2
    clear a2
    (try simp only [])
    go_wp2
    (try simp only [Exit.inBlock, Exit.then])
    refine bodyPost_ret (results_row_tmp rfl _ _ (w.heap.size + 1) _ rfl (run_loadVar_row _ _ 91 91 _ (0, 0) _ (put4 A1.out _ _ _ _) Tryz.underlying91 rfl size91)) rfl ?_
    exact ⟨rfl, bput HB.out (by omega) _ _ _ _⟩


set_option maxRecDepth 100000 in
set_option maxHeartbeats 1000000 in
theorem rnext_ok (k0 o0 r0 e0 k o n : Int) (w : World) (hno : k = 5 ∧ o0 = n ∨ (k == 5) = false ∧ o = n) (h1 : rt ⟨k0, o0, r0, e0⟩ = true) (h2 : ¬ 0 < r0) (h3 : way k0 k = true) (h4 : rt ⟨k, n, 0, 0⟩ = true) (hk : btw k0 0 5 = true) :
    Calls Tryz.prog 116 #[.agg #[.int .i64 k0, .int .i64 o0, .int .i64 r0, .int .i64 e0], .int .i64 k, .int .i64 o] w fun x w' => x = .returned (two ⟨k, n, 0, 0⟩ 0) ∧ Below w.heap.size w w' := by
  have H1 := hid h1
  clear h1
  have H3 := hid h3
  have HK := hid hk
  clear h3 hk
  have H4 := hid h4
  clear h4
  rcases hno with ⟨rfl, rfl⟩ | ⟨hk5, rfl⟩
  all_goals
    go_enter Tryz.func116, Tryz.ntmps116
    go_wp2_with fail
    refine (rright_yes ⟨k0, o0, r0, e0⟩ _ H1.out).mono ?_
    rintro x w1 ⟨rfl, hB⟩
    have a0 := stay hB (two_new w _ _).1
    have a1 := stay hB (two_new w _ _).2
    have HB := hid (bgo (btwo w _ _) hB)
    clear hB
    obtain ⟨p00, p01, p02, p03, q00, q01, q02, q03⟩ := four a0
    have A0 := hid a0
    clear a0
    obtain ⟨p10, p11, p12, p13, q10, q11, q12, q13⟩ := four a1
    have A1 := hid a1
    clear a1
    (try simp only [])
    go_wp2_with fail
    refine (leads_any _ _ _ HK.out).mono ?_
    rintro x w2 ⟨rfl, rfl⟩
    rw [H3.out]
    have l0 := lt_of_block A0.out
    have l1 := lt_of_block A1.out
    go_wp2_with fail
    refine (rright_yes ⟨_, _, 0, 0⟩ _ H4.out).mono ?_
    rintro x w3 ⟨rfl, hB⟩
    have a0 := stay hB (hkeep A0.out _)
    have a1 := stay hB (hkeep A1.out _)
    have a2 := stay hB (heap_alloc_new _ _)
    have HB2 := hid (bgo (HB.out.alloc HB.out.size _) hB)
    clear HB
    have HB := HB2
    clear HB2 hB A0 A1 p00 p01 p02 p03 p10 p11 p12 p13 q00 q01 q02 q03 q10 q11 q12 q13
    obtain ⟨p00, p01, p02, p03, q00, q01, q02, q03⟩ := four a0
    have A0 := hid a0
    clear a0
    obtain ⟨p10, p11, p12, p13, q10, q11, q12, q13⟩ := four a1
    have A1 := hid a1
    clear a1
    obtain ⟨p20, p21, p22, p23, q20, q21, q22, q23⟩ := four a2
    have A2 := hid a2
    clear a2
    (try simp only [])
    go_wp2
    (try simp only [Exit.inBlock, Exit.then])
    refine bodyPost_ret (results_row_tmp rfl _ _ (w.heap.size + 1) _ rfl (run_loadVar_row _ _ 91 91 _ (0, 0) _ (put4 A1.out _ _ _ _) Tryz.underlying91 rfl size91)) rfl ?_
    exact ⟨rfl, bput HB.out (by omega) _ _ _ _⟩

end Go.Proofs.YtpfmmlbakbhklaaGreatDoor.O
