/- What Ref returns, the program's and the document's, each way. Condition: the package's two tables lie in their variables (for the program's). -/
import Derived.Test.YtgajjaibljmikaaDoorD4
namespace Go.Proofs.YtgajjaibljmikaaDoor
open Go.RowKit

set_option maxRecDepth 100000 in
set_option maxHeartbeats 1000000 in
theorem ref_form (k0 o0 r0 e0 b : Int) (w : World) (hT : Tab w) (h1 : rt ⟨k0, o0, r0, e0⟩ = false) :
    Calls Tryd.prog 36 #[.agg #[.int .i64 k0, .int .i64 o0, .int .i64 r0, .int .i64 e0], .int .i64 b] w fun x w' => x = .returned (two zd 11) ∧ Below w.heap.size w w' := by
  have H1 := hid h1
  have HTw0 := hid hT
  clear h1 hT
  go_enter Tryd.func36, Tryd.ntmps36
  go_wp2_with fail
  refine (right_no ⟨k0, o0, r0, e0⟩ _ ((HTw0.out.alloc _).alloc _) H1.out).mono ?_
  rintro x w1 ⟨rfl, hB⟩
  have a0 := stay hB (two_new w _ _).1
  have a1 := stay hB (two_new w _ _).2
  have HB := hid (bgo (btwo w _ _) hB)
  have HTw := hid (HTw0.out.go HB.out)
  clear hB
  obtain ⟨p00, p01, p02, p03, q00, q01, q02, q03⟩ := four a0
  have A0 := hid a0
  clear a0
  obtain ⟨p10, p11, p12, p13, q10, q11, q12, q13⟩ := four a1
  have A1 := hid a1
  clear a1
  (try simp only [])
  go_wp2
  (try simp only [Exit.inBlock, Exit.then])
  refine bodyPost_ret (results_row_tmp rfl _ _ (w.heap.size + 1) _ rfl (run_loadVar_row _ _ 40 40 _ (0, 0) _ (put4 A1.out _ _ _ _) Tryd.underlying40 rfl size40)) rfl ?_
  exact ⟨rfl, bput HB.out (by omega) _ _ _ _⟩


set_option maxRecDepth 100000 in
set_option maxHeartbeats 1000000 in
theorem ref_state (k0 : Nat) (o0 r0 e0 b : Int) (w : World) (hT : Tab w) (h1 : rt ⟨k0, o0, r0, e0⟩ = true) (h2 : (hiR k0 == 0) = true) (hk : k0 < 6) :
    Calls Tryd.prog 36 #[.agg #[.int .i64 k0, .int .i64 o0, .int .i64 r0, .int .i64 e0], .int .i64 b] w fun x w' => x = .returned (two zd 6) ∧ Below w.heap.size w w' := by
  have H1 := hid h1
  have HTw0 := hid hT
  clear h1 hT
  go_enter Tryd.func36, Tryd.ntmps36
  go_wp2_with fail
  refine (right_yes ⟨k0, o0, r0, e0⟩ _ ((HTw0.out.alloc _).alloc _) H1.out).mono ?_
  rintro x w1 ⟨rfl, hB⟩
  have a0 := stay hB (two_new w _ _).1
  have a1 := stay hB (two_new w _ _).2
  have HB := hid (bgo (btwo w _ _) hB)
  have HTw := hid (HTw0.out.go HB.out)
  clear hB
  obtain ⟨p00, p01, p02, p03, q00, q01, q02, q03⟩ := four a0
  have A0 := hid a0
  clear a0
  obtain ⟨p10, p11, p12, p13, q10, q11, q12, q13⟩ := four a1
  have A1 := hid a1
  clear a1
  have c := HTw.out.mr k0 hk
  generalize hiR k0 = m at c h2
  (try simp only [])
  go_wp2
  (try simp only [Exit.inBlock, Exit.then])
  refine bodyPost_ret (results_row_tmp rfl _ _ (w.heap.size + 1) _ rfl (run_loadVar_row _ _ 40 40 _ (0, 0) _ (put4 A1.out _ _ _ _) Tryd.underlying40 rfl size40)) rfl ?_
  exact ⟨rfl, bput HB.out (by omega) _ _ _ _⟩


set_option maxRecDepth 100000 in
set_option maxHeartbeats 1000000 in
theorem ref_range (k0 : Nat) (o0 r0 e0 b : Int) (w : World) (hT : Tab w) (h1 : rt ⟨k0, o0, r0, e0⟩ = true) (h2 : (hiR k0 == 0) = false) (h3 : btw b (-r0) (65535 - r0) = false) (hk : k0 < 6) (hr : 0 ≤ r0 ∧ r0 ≤ 65535) :
    Calls Tryd.prog 36 #[.agg #[.int .i64 k0, .int .i64 o0, .int .i64 r0, .int .i64 e0], .int .i64 b] w fun x w' => x = .returned (two zd 2) ∧ Below w.heap.size w w' := by
  have H1 := hid h1
  have HTw0 := hid hT
  clear h1 hT
  have H3 := hid h3
  clear h3
  go_enter Tryd.func36, Tryd.ntmps36
  go_wp2_with fail
  refine (right_yes ⟨k0, o0, r0, e0⟩ _ ((HTw0.out.alloc _).alloc _) H1.out).mono ?_
  rintro x w1 ⟨rfl, hB⟩
  have a0 := stay hB (two_new w _ _).1
  have a1 := stay hB (two_new w _ _).2
  have HB := hid (bgo (btwo w _ _) hB)
  have HTw := hid (HTw0.out.go HB.out)
  clear hB
  obtain ⟨p00, p01, p02, p03, q00, q01, q02, q03⟩ := four a0
  have A0 := hid a0
  clear a0
  obtain ⟨p10, p11, p12, p13, q10, q11, q12, q13⟩ := four a1
  have A1 := hid a1
  clear a1
  have c := HTw.out.mr k0 hk
  generalize hiR k0 = m at c h2
  (try simp only [])
  go_wp2_with fail
  refine (between_any _ _ _ _).mono ?_
  rintro x w2 ⟨rfl, rfl⟩
  rw [H3.out]
  go_wp2
  (try simp only [Exit.inBlock, Exit.then])
  refine bodyPost_ret (results_row_tmp rfl _ _ (w.heap.size + 1) _ rfl (run_loadVar_row _ _ 40 40 _ (0, 0) _ (put4 A1.out _ _ _ _) Tryd.underlying40 rfl size40)) rfl ?_
  exact ⟨rfl, bput HB.out (by omega) _ _ _ _⟩


set_option maxRecDepth 100000 in
set_option maxHeartbeats 1000000 in
theorem ref_ok (k0 : Nat) (o0 r0 e0 b : Int) (w : World) (hT : Tab w) (h1 : rt ⟨k0, o0, r0, e0⟩ = true) (h2 : (hiR k0 == 0) = false) (h3 : btw b (-r0) (65535 - r0) = true) (hk : k0 < 6) (hr : 0 ≤ r0 ∧ r0 ≤ 65535) :
    Calls Tryd.prog 36 #[.agg #[.int .i64 k0, .int .i64 o0, .int .i64 r0, .int .i64 e0], .int .i64 b] w fun x w' => x = .returned (two ⟨k0, o0, r0 + b, e0⟩ 0) ∧ Below w.heap.size w w' := by
  have H1 := hid h1
  have HTw0 := hid hT
  clear h1 hT
  have H3 := hid h3
  have h4 := btw_yes.1 h3
  clear h3
  go_enter Tryd.func36, Tryd.ntmps36
  go_wp2_with fail
  refine (right_yes ⟨k0, o0, r0, e0⟩ _ ((HTw0.out.alloc _).alloc _) H1.out).mono ?_
  rintro x w1 ⟨rfl, hB⟩
  have a0 := stay hB (two_new w _ _).1
  have a1 := stay hB (two_new w _ _).2
  have HB := hid (bgo (btwo w _ _) hB)
  have HTw := hid (HTw0.out.go HB.out)
  clear hB
  obtain ⟨p00, p01, p02, p03, q00, q01, q02, q03⟩ := four a0
  have A0 := hid a0
  clear a0
  obtain ⟨p10, p11, p12, p13, q10, q11, q12, q13⟩ := four a1
  have A1 := hid a1
  clear a1
  have c := HTw.out.mr k0 hk
  generalize hiR k0 = m at c h2
  (try simp only [])
  go_wp2_with fail
  refine (between_any _ _ _ _).mono ?_
  rintro x w2 ⟨rfl, rfl⟩
  rw [H3.out]
  go_wp2
  (try simp only [Exit.inBlock, Exit.then])
  refine bodyPost_ret (results_row_tmp rfl _ _ (w.heap.size + 1) _ rfl (run_loadVar_row _ _ 40 40 _ (0, 0) _ (put4 ((Below.heap_setCell _ _ _ _ (by simp)).trans A1.out) _ _ _ _) Tryd.underlying40 rfl size40)) rfl ?_
  exact ⟨rfl, bput (HB.out.setCell (Nat.le_refl _) _) (by omega) _ _ _ _⟩


set_option maxRecDepth 100000 in
set_option maxHeartbeats 1000000 in
theorem rref_form (k0 o0 r0 e0 b : Int) (w : World) (h1 : rt ⟨k0, o0, r0, e0⟩ = false) :
    Calls Tryd.prog 37 #[.agg #[.int .i64 k0, .int .i64 o0, .int .i64 r0, .int .i64 e0], .int .i64 b] w fun x w' => x = .returned (two zd 11) ∧ Below w.heap.size w w' := by
  have H1 := hid h1
  clear h1
  go_enter Tryd.func37, Tryd.ntmps37
  go_wp2_with fail
  refine (rright_no ⟨k0, o0, r0, e0⟩ _ H1.out).mono ?_
  rintro x w1 ⟨rfl, hB⟩
  have a0 := stay hB (two_new w _ _).1
  have a1 := stay hB (two_new w _ _).2
  have HB := hid (bgo (btwo w _ _) hB)
  clear hB
  obtain ⟨p00, p01, p02, p03, q00, q01, q02, q03⟩ := four a0
  have A0 := hid a0
  clear a0
  obtain ⟨p10, p11, p12, p13, q10, q11, q12, q13⟩ := four a1
  have A1 := hid a1
  clear a1
  (try simp only [])
  go_wp2
  (try simp only [Exit.inBlock, Exit.then])
  refine bodyPost_ret (results_row_tmp rfl _ _ (w.heap.size + 1) _ rfl (run_loadVar_row _ _ 43 43 _ (0, 0) _ (put4 A1.out _ _ _ _) Tryd.underlying43 rfl size43)) rfl ?_
  exact ⟨rfl, bput HB.out (by omega) _ _ _ _⟩


set_option maxRecDepth 100000 in
set_option maxHeartbeats 1000000 in
theorem rref_low (k0 o0 r0 e0 b : Int) (w : World) (h1 : rt ⟨k0, o0, r0, e0⟩ = true) (h2 : k0 < 2) :
    Calls Tryd.prog 37 #[.agg #[.int .i64 k0, .int .i64 o0, .int .i64 r0, .int .i64 e0], .int .i64 b] w fun x w' => x = .returned (two zd 6) ∧ Below w.heap.size w w' := by
  have H1 := hid h1
  clear h1
  go_enter Tryd.func37, Tryd.ntmps37
  go_wp2_with fail
  refine (rright_yes ⟨k0, o0, r0, e0⟩ _ H1.out).mono ?_
  rintro x w1 ⟨rfl, hB⟩
  have a0 := stay hB (two_new w _ _).1
  have a1 := stay hB (two_new w _ _).2
  have HB := hid (bgo (btwo w _ _) hB)
  clear hB
  obtain ⟨p00, p01, p02, p03, q00, q01, q02, q03⟩ := four a0
  have A0 := hid a0
  clear a0
  obtain ⟨p10, p11, p12, p13, q10, q11, q12, q13⟩ := four a1
  have A1 := hid a1
  clear a1
  (try simp only [])
  go_wp2
  (try simp only [Exit.inBlock, Exit.then])
  refine bodyPost_ret (results_row_tmp rfl _ _ (w.heap.size + 1) _ rfl (run_loadVar_row _ _ 43 43 _ (0, 0) _ (put4 A1.out _ _ _ _) Tryd.underlying43 rfl size43)) rfl ?_
  exact ⟨rfl, bput HB.out (by omega) _ _ _ _⟩


set_option maxRecDepth 100000 in
set_option maxHeartbeats 1000000 in
theorem rref_high (k0 o0 r0 e0 b : Int) (w : World) (h1 : rt ⟨k0, o0, r0, e0⟩ = true) (h2 : ¬ k0 < 2) (h3 : 4 < k0) :
    Calls Tryd.prog 37 #[.agg #[.int .i64 k0, .int .i64 o0, .int .i64 r0, .int .i64 e0], .int .i64 b] w fun x w' => x = .returned (two zd 6) ∧ Below w.heap.size w w' := by
  have H1 := hid h1
  clear h1
  go_enter Tryd.func37, Tryd.ntmps37
  go_wp2_with fail
  refine (rright_yes ⟨k0, o0, r0, e0⟩ _ H1.out).mono ?_
  rintro x w1 ⟨rfl, hB⟩
  have a0 := stay hB (two_new w _ _).1
  have a1 := stay hB (two_new w _ _).2
  have HB := hid (bgo (btwo w _ _) hB)
  clear hB
  obtain ⟨p00, p01, p02, p03, q00, q01, q02, q03⟩ := four a0
  have A0 := hid a0
  clear a0
  obtain ⟨p10, p11, p12, p13, q10, q11, q12, q13⟩ := four a1
  have A1 := hid a1
  clear a1
  (try simp only [])
  go_wp2
  (try simp only [Exit.inBlock, Exit.then])
  refine bodyPost_ret (results_row_tmp rfl _ _ (w.heap.size + 1) _ rfl (run_loadVar_row _ _ 43 43 _ (0, 0) _ (put4 A1.out _ _ _ _) Tryd.underlying43 rfl size43)) rfl ?_
  exact ⟨rfl, bput HB.out (by omega) _ _ _ _⟩


set_option maxRecDepth 100000 in
set_option maxHeartbeats 1000000 in
theorem rref_great (k0 o0 r0 e0 b : Int) (w : World) (h1 : rt ⟨k0, o0, r0, e0⟩ = true) (h2 : ¬ k0 < 2) (h3 : ¬ 4 < k0) (h4 : 65535 < b) :
    Calls Tryd.prog 37 #[.agg #[.int .i64 k0, .int .i64 o0, .int .i64 r0, .int .i64 e0], .int .i64 b] w fun x w' => x = .returned (two zd 2) ∧ Below w.heap.size w w' := by
  have H1 := hid h1
  clear h1
  go_enter Tryd.func37, Tryd.ntmps37
  go_wp2_with fail
  refine (rright_yes ⟨k0, o0, r0, e0⟩ _ H1.out).mono ?_
  rintro x w1 ⟨rfl, hB⟩
  have a0 := stay hB (two_new w _ _).1
  have a1 := stay hB (two_new w _ _).2
  have HB := hid (bgo (btwo w _ _) hB)
  clear hB
  obtain ⟨p00, p01, p02, p03, q00, q01, q02, q03⟩ := four a0
  have A0 := hid a0
  clear a0
  obtain ⟨p10, p11, p12, p13, q10, q11, q12, q13⟩ := four a1
  have A1 := hid a1
  clear a1
  (try simp only [])
  go_wp2
  (try simp only [Exit.inBlock, Exit.then])
  refine bodyPost_ret (results_row_tmp rfl _ _ (w.heap.size + 1) _ rfl (run_loadVar_row _ _ 43 43 _ (0, 0) _ (put4 A1.out _ _ _ _) Tryd.underlying43 rfl size43)) rfl ?_
  exact ⟨rfl, bput HB.out (by omega) _ _ _ _⟩


set_option maxRecDepth 100000 in
set_option maxHeartbeats 1000000 in
theorem rref_small (k0 o0 r0 e0 b : Int) (w : World) (h1 : rt ⟨k0, o0, r0, e0⟩ = true) (h2 : ¬ k0 < 2) (h3 : ¬ 4 < k0) (h4 : ¬ 65535 < b) (h5 : b < -65535) :
    Calls Tryd.prog 37 #[.agg #[.int .i64 k0, .int .i64 o0, .int .i64 r0, .int .i64 e0], .int .i64 b] w fun x w' => x = .returned (two zd 2) ∧ Below w.heap.size w w' := by
  have H1 := hid h1
  clear h1
  go_enter Tryd.func37, Tryd.ntmps37
  go_wp2_with fail
  refine (rright_yes ⟨k0, o0, r0, e0⟩ _ H1.out).mono ?_
  rintro x w1 ⟨rfl, hB⟩
  have a0 := stay hB (two_new w _ _).1
  have a1 := stay hB (two_new w _ _).2
  have HB := hid (bgo (btwo w _ _) hB)
  clear hB
  obtain ⟨p00, p01, p02, p03, q00, q01, q02, q03⟩ := four a0
  have A0 := hid a0
  clear a0
  obtain ⟨p10, p11, p12, p13, q10, q11, q12, q13⟩ := four a1
  have A1 := hid a1
  clear a1
  (try simp only [])
  go_wp2
  (try simp only [Exit.inBlock, Exit.then])
  refine bodyPost_ret (results_row_tmp rfl _ _ (w.heap.size + 1) _ rfl (run_loadVar_row _ _ 43 43 _ (0, 0) _ (put4 A1.out _ _ _ _) Tryd.underlying43 rfl size43)) rfl ?_
  exact ⟨rfl, bput HB.out (by omega) _ _ _ _⟩


set_option maxRecDepth 100000 in
set_option maxHeartbeats 1000000 in
theorem rref_range (k0 o0 r0 e0 b : Int) (w : World) (h1 : rt ⟨k0, o0, r0, e0⟩ = true) (h2 : ¬ k0 < 2) (h3 : ¬ 4 < k0) (h4 : ¬ 65535 < b) (h5 : ¬ b < -65535) (hr : 0 ≤ r0 ∧ r0 ≤ 65535) (h6 : btw (r0 + b) 0 65535 = false) :
    Calls Tryd.prog 37 #[.agg #[.int .i64 k0, .int .i64 o0, .int .i64 r0, .int .i64 e0], .int .i64 b] w fun x w' => x = .returned (two zd 2) ∧ Below w.heap.size w w' := by
  have H1 := hid h1
  clear h1
  have H6 := hid h6
  clear h6
  go_enter Tryd.func37, Tryd.ntmps37
  go_wp2_with fail
  refine (rright_yes ⟨k0, o0, r0, e0⟩ _ H1.out).mono ?_
  rintro x w1 ⟨rfl, hB⟩
  have a0 := stay hB (two_new w _ _).1
  have a1 := stay hB (two_new w _ _).2
  have HB := hid (bgo (btwo w _ _) hB)
  clear hB
  obtain ⟨p00, p01, p02, p03, q00, q01, q02, q03⟩ := four a0
  have A0 := hid a0
  clear a0
  obtain ⟨p10, p11, p12, p13, q10, q11, q12, q13⟩ := four a1
  have A1 := hid a1
  clear a1
  (try simp only [])
  go_wp2_with fail
  refine (within_any _ _ _).mono ?_
  rintro x w2 ⟨rfl, rfl⟩
  rw [H6.out]
  go_wp2
  (try simp only [Exit.inBlock, Exit.then])
  refine bodyPost_ret (results_row_tmp rfl _ _ (w.heap.size + 1) _ rfl (run_loadVar_row _ _ 43 43 _ (0, 0) _ (put4 A1.out _ _ _ _) Tryd.underlying43 rfl size43)) rfl ?_
  exact ⟨rfl, bput HB.out (by omega) _ _ _ _⟩


set_option maxRecDepth 100000 in
set_option maxHeartbeats 1000000 in
theorem rref_ok (k0 o0 r0 e0 b : Int) (w : World) (h1 : rt ⟨k0, o0, r0, e0⟩ = true) (h2 : ¬ k0 < 2) (h3 : ¬ 4 < k0) (h4 : ¬ 65535 < b) (h5 : ¬ b < -65535) (hr : 0 ≤ r0 ∧ r0 ≤ 65535) (h6 : btw (r0 + b) 0 65535 = true) :
    Calls Tryd.prog 37 #[.agg #[.int .i64 k0, .int .i64 o0, .int .i64 r0, .int .i64 e0], .int .i64 b] w fun x w' => x = .returned (two ⟨k0, o0, r0 + b, e0⟩ 0) ∧ Below w.heap.size w w' := by
  have H1 := hid h1
  clear h1
  have H6 := hid h6
  clear h6
  go_enter Tryd.func37, Tryd.ntmps37
  go_wp2_with fail
  refine (rright_yes ⟨k0, o0, r0, e0⟩ _ H1.out).mono ?_
  rintro x w1 ⟨rfl, hB⟩
  have a0 := stay hB (two_new w _ _).1
  have a1 := stay hB (two_new w _ _).2
  have HB := hid (bgo (btwo w _ _) hB)
  clear hB
  obtain ⟨p00, p01, p02, p03, q00, q01, q02, q03⟩ := four a0
  have A0 := hid a0
  clear a0
  obtain ⟨p10, p11, p12, p13, q10, q11, q12, q13⟩ := four a1
  have A1 := hid a1
  clear a1
  (try simp only [])
  go_wp2_with fail
  refine (within_any _ _ _).mono ?_
  rintro x w2 ⟨rfl, rfl⟩
  rw [H6.out]
  go_wp2
  (try simp only [Exit.inBlock, Exit.then])
  refine bodyPost_ret (results_row_tmp rfl _ _ (w.heap.size + 1) _ rfl (run_loadVar_row _ _ 43 43 _ (0, 0) _ (put4 ((Below.heap_setCell _ _ _ _ (by simp)).trans A1.out) _ _ _ _) Tryd.underlying43 rfl size43)) rfl ?_
  exact ⟨rfl, bput (HB.out.setCell (Nat.le_refl _) _) (by omega) _ _ _ _⟩

end Go.Proofs.YtgajjaibljmikaaDoor
