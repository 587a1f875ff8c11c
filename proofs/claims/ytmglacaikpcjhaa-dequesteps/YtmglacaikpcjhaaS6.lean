/- What Push, Pop, Steal, Next, Step and Result return and leave. Conditions: tasks are such as Push, Pop or Steal gave, or none. -/
import Derived.Test.YtmglacaikpcjhaaS4
namespace Go.Proofs.Ytmglacaikpcjhaa
open Go.RowKit

set_option maxHeartbeats 400000 in
theorem step_nil (w : World) (q : Option Addr) :
    Calls Try.prog 18 #[.pointer none, .pointer q] w fun e w' => e = .returned (.bool false) ∧ w' = w := by
  go_enter Try.func18, Try.ntmps18
  go_wp2_with fail
  refine (tNone_nil _).mono ?_
  rintro e w1 ⟨rfl, hw1⟩
  rw [hw1]
  clear hw1 w1
  go_wp2
  go_ret
  exact ⟨rfl, rfl⟩
set_option maxHeartbeats 400000 in
theorem next_nil (w : World) :
    Calls Try.prog 16 #[.pointer none] w fun e w' => e = .returned (acV ⟨0, 0, 0, 0⟩) ∧ Below w.heap.size w w' := by
  go_enter Try.func16, Try.ntmps16
  go_wp2_with fail
  refine (tNone_nil _).mono ?_
  rintro e w1 ⟨rfl, hw1⟩
  rw [hw1]
  clear hw1 w1
  go_wp2
  (try simp only [Exit.inBlock, Exit.then])
  refine bodyPost_ret (results_cell_row rfl _ _ w.heap.size 48 (acC ⟨0, 0, 0, 0⟩) (0, 0) _ rfl (heap_alloc_new _ _) Try.underlying48 rfl size48) rfl ?_
  exact ⟨rfl, below_alloc _ _⟩
/-- Whether it is done with its value, and the value. -/
def resB (x : Tk) : Bool := (x.tn == 6) && x.hs
def resV (x : Tk) : Int := if resB x = true then x.vl else 0
set_option maxHeartbeats 400000 in
theorem res_at {w : World} {g : Nat} {x : Tk} (h : IsTk w g x) :
    Calls Try.prog 20 #[.pointer (some ⟨g, 0, none⟩)] w fun e w' => e = .returned (.tuple #[.int .u64 (resV x), .bool (resB x), .bool (x.tn == 6)]) ∧ w' = w := by
  have HN := hid (tNone_at h)
  have HD := hid (tDone_at h)
  obtain ⟨c0, c1, c2, c3, c4, c5, c6, c7⟩ := h.tc
  clear h c0 c1 c2 c3 c4 c5
  obtain ⟨ad, sz, kd, tn, tp, bt, vl, hs⟩ := x
  simp only [] at *
  by_cases ht : tn = 6
  · have hb : (tn == 6) = true := by simp [ht]
    rw [hb] at HD
    cases hs
    · rw [show resV ⟨ad, sz, kd, tn, tp, bt, vl, false⟩ = 0 by simp [resV, resB], show resB ⟨ad, sz, kd, tn, tp, bt, vl, false⟩ = false by simp [resB], hb]
      clear ht hb
      go_enter Try.func20, Try.ntmps20
      go_wp2_with fail
      refine HN.out.mono ?_
      rintro e w1 ⟨rfl, hw1⟩
      rw [hw1]
      clear hw1 w1
      go_wp2_with fail
      refine HD.out.mono ?_
      rintro e w1 ⟨rfl, hw1⟩
      rw [hw1]
      clear hw1 w1
      go_wp2_with fail
      refine HD.out.mono ?_
      rintro e w1 ⟨rfl, hw1⟩
      rw [hw1]
      clear hw1 w1
      go_wp2
      (try simp only [Exit.inBlock, Exit.then])
      refine bodyPost_ret (results_tmp3 rfl _ _ _) rfl ?_
      exact ⟨rfl, rfl⟩
    · rw [show resV ⟨ad, sz, kd, tn, tp, bt, vl, true⟩ = vl by simp [resV, resB, hb], show resB ⟨ad, sz, kd, tn, tp, bt, vl, true⟩ = true by simp [resB, hb], hb]
      clear ht hb
      go_enter Try.func20, Try.ntmps20
      go_wp2_with fail
      refine HN.out.mono ?_
      rintro e w1 ⟨rfl, hw1⟩
      rw [hw1]
      clear hw1 w1
      go_wp2_with fail
      refine HD.out.mono ?_
      rintro e w1 ⟨rfl, hw1⟩
      rw [hw1]
      clear hw1 w1
      go_wp2
      (try simp only [Exit.inBlock, Exit.then])
      refine bodyPost_ret (results_tmp3 rfl _ _ _) rfl ?_
      exact ⟨rfl, rfl⟩
  · have hb : (tn == 6) = false := beq_eq_false_iff_ne.2 ht
    rw [hb] at HD
    rw [show resV ⟨ad, sz, kd, tn, tp, bt, vl, hs⟩ = 0 by simp [resV, resB, hb], show resB ⟨ad, sz, kd, tn, tp, bt, vl, hs⟩ = false by simp [resB, hb], hb]
    clear ht hb
    go_enter Try.func20, Try.ntmps20
    go_wp2_with fail
    refine HN.out.mono ?_
    rintro e w1 ⟨rfl, hw1⟩
    rw [hw1]
    clear hw1 w1
    go_wp2_with fail
    refine HD.out.mono ?_
    rintro e w1 ⟨rfl, hw1⟩
    rw [hw1]
    clear hw1 w1
    go_wp2_with fail
    refine HD.out.mono ?_
    rintro e w1 ⟨rfl, hw1⟩
    rw [hw1]
    clear hw1 w1
    go_wp2
    (try simp only [Exit.inBlock, Exit.then])
    refine bodyPost_ret (results_tmp3 rfl _ _ _) rfl ?_
    exact ⟨rfl, rfl⟩
set_option maxHeartbeats 400000 in
theorem res_nil (w : World) :
    Calls Try.prog 20 #[.pointer none] w fun e w' => e = .returned (.tuple #[.int .u64 0, .bool false, .bool false]) ∧ w' = w := by
  go_enter Try.func20, Try.ntmps20
  go_wp2_with fail
  refine (tNone_nil _).mono ?_
  rintro e w1 ⟨rfl, hw1⟩
  rw [hw1]
  clear hw1 w1
  go_wp2
  (try simp only [Exit.inBlock, Exit.then])
  refine bodyPost_ret (results_tmp3 rfl _ _ _) rfl ?_
  exact ⟨rfl, rfl⟩
set_option maxHeartbeats 400000 in
theorem task_at (w : World) (kd : Kd) (f : Int) {ad sz : Int} (h : QOk ad sz) :
    Calls Try.prog 28 #[.agg #[.int .i64 ad, .int .i64 sz], ownV kd, .int .i64 f] w fun e w' => ∃ g, e = .returned (.pointer (some ⟨g, 0, none⟩)) ∧ IsTk w' g ⟨ad, sz, kd, f, 0, 0, 0, false⟩ ∧ w.heap.size ≤ g ∧ Below w.heap.size w w' := by
  have HC := hid (canBe_any (w.alloc (.cells #[.int .i64 ad, .int .i64 sz] 34)) ad sz)
  rw [h.can] at HC
  clear h
  have hg := heap_alloc_new w (.cells #[.int .i64 ad, .int .i64 sz] 34 (0, 0))
  have HG := hid hg
  clear hg
  rcases kd with v | _ | _
  all_goals
    simp only [ownV]
    go_enter Try.func28, Try.ntmps28
    go_wp2_with fail
    refine HC.out.mono ?_
    rintro e w1 ⟨rfl, K⟩
    have hg1 := (K.block _ (lt_of_block HG.out)).trans HG.out
    have c0 : w1.cell? ⟨w.heap.size, 0, none⟩ = some (.int .i64 ad) := cell_of hg1 rfl
    have c1 : w1.cell? ⟨w.heap.size, 1, none⟩ = some (.int .i64 sz) := cell_of hg1 rfl
    have HB := hid (bel_trans (below_alloc w (.cells #[.int .i64 ad, .int .i64 sz] 34)) K)
    clear K hg1 HG HC
    go_wp2
    go_ret
    refine ⟨w1.heap.size, rfl, ?_, HB.out.size, bel_trans HB.out (below_alloc _ _)⟩
    exact heap_alloc_new _ _
set_option maxHeartbeats 400000 in
theorem task_no (w : World) (kd : Kd) (f : Int) {ad sz : Int} (h : canB ad sz = false) :
    Calls Try.prog 28 #[.agg #[.int .i64 ad, .int .i64 sz], ownV kd, .int .i64 f] w fun e w' => e = .returned (.pointer none) ∧ Below w.heap.size w w' := by
  have HC := hid (canBe_any (w.alloc (.cells #[.int .i64 ad, .int .i64 sz] 34)) ad sz)
  rw [h] at HC
  clear h
  generalize ownV kd = o at *
  go_enter Try.func28, Try.ntmps28
  go_wp2_with fail
  refine HC.out.mono ?_
  rintro e w1 ⟨rfl, K⟩
  have HB := hid (bel_trans (below_alloc w (.cells #[.int .i64 ad, .int .i64 sz] 34)) K)
  clear K HC
  go_wp2
  go_ret
  exact ⟨rfl, HB.out⟩
set_option maxHeartbeats 400000 in
theorem push_at (w : World) (v : Int) {ad sz : Int} (h : QOk ad sz) :
    Calls Try.prog 12 #[.agg #[.int .i64 ad, .int .i64 sz], .int .u64 v] w fun e w' => ∃ g, e = .returned (.pointer (some ⟨g, 0, none⟩)) ∧ IsTk w' g ⟨ad, sz, .push v, 1, 0, 0, 0, false⟩ ∧ w.heap.size ≤ g ∧ Below w.heap.size w w' := by
  have HC := hid (task_at (w.alloc (.cells #[.int .i64 ad, .int .i64 sz] 34)) (.push v) 1 h)
  simp only [ownV] at HC
  clear h
  go_enter Try.func12, Try.ntmps12
  go_wp2_with fail
  refine HC.out.mono ?_
  rintro e w1 ⟨g, rfl, h1, hg, K⟩
  have H1 := hid h1
  have HG : Hid (w.heap.size ≤ g) := hid (Nat.le_trans (below_alloc w (.cells #[.int .i64 ad, .int .i64 sz] 34)).size hg)
  have HB := hid (bel_trans (below_alloc w (.cells #[.int .i64 ad, .int .i64 sz] 34)) K)
  clear h1 hg K HC
  go_wp2
  go_ret
  exact ⟨g, rfl, H1.out, HG.out, HB.out⟩
set_option maxHeartbeats 400000 in
theorem push_no (w : World) (v : Int) {ad sz : Int} (h : canB ad sz = false) :
    Calls Try.prog 12 #[.agg #[.int .i64 ad, .int .i64 sz], .int .u64 v] w fun e w' => e = .returned (.pointer none) ∧ Below w.heap.size w w' := by
  have HC := hid (task_no (w.alloc (.cells #[.int .i64 ad, .int .i64 sz] 34)) (.push v) 1 h)
  simp only [ownV] at HC
  clear h
  go_enter Try.func12, Try.ntmps12
  go_wp2_with fail
  refine HC.out.mono ?_
  rintro e w1 ⟨rfl, K⟩
  have HB := hid (bel_trans (below_alloc w (.cells #[.int .i64 ad, .int .i64 sz] 34)) K)
  clear K HC
  go_wp2
  go_ret
  exact ⟨rfl, HB.out⟩
set_option maxHeartbeats 400000 in
theorem pop_at (w : World) {ad sz : Int} (h : QOk ad sz) :
    Calls Try.prog 13 #[.agg #[.int .i64 ad, .int .i64 sz]] w fun e w' => ∃ g, e = .returned (.pointer (some ⟨g, 0, none⟩)) ∧ IsTk w' g ⟨ad, sz, .pop, 1, 0, 0, 0, false⟩ ∧ w.heap.size ≤ g ∧ Below w.heap.size w w' := by
  have HC := hid (task_at (w.alloc (.cells #[.int .i64 ad, .int .i64 sz] 34)) (.pop) 1 h)
  simp only [ownV] at HC
  clear h
  go_enter Try.func13, Try.ntmps13
  go_wp2_with fail
  refine HC.out.mono ?_
  rintro e w1 ⟨g, rfl, h1, hg, K⟩
  have H1 := hid h1
  have HG : Hid (w.heap.size ≤ g) := hid (Nat.le_trans (below_alloc w (.cells #[.int .i64 ad, .int .i64 sz] 34)).size hg)
  have HB := hid (bel_trans (below_alloc w (.cells #[.int .i64 ad, .int .i64 sz] 34)) K)
  clear h1 hg K HC
  go_wp2
  go_ret
  exact ⟨g, rfl, H1.out, HG.out, HB.out⟩
set_option maxHeartbeats 400000 in
theorem pop_no (w : World) {ad sz : Int} (h : canB ad sz = false) :
    Calls Try.prog 13 #[.agg #[.int .i64 ad, .int .i64 sz]] w fun e w' => e = .returned (.pointer none) ∧ Below w.heap.size w w' := by
  have HC := hid (task_no (w.alloc (.cells #[.int .i64 ad, .int .i64 sz] 34)) (.pop) 1 h)
  simp only [ownV] at HC
  clear h
  go_enter Try.func13, Try.ntmps13
  go_wp2_with fail
  refine HC.out.mono ?_
  rintro e w1 ⟨rfl, K⟩
  have HB := hid (bel_trans (below_alloc w (.cells #[.int .i64 ad, .int .i64 sz] 34)) K)
  clear K HC
  go_wp2
  go_ret
  exact ⟨rfl, HB.out⟩
set_option maxHeartbeats 400000 in
theorem steal_at (w : World) {ad sz : Int} (h : QOk ad sz) :
    Calls Try.prog 14 #[.agg #[.int .i64 ad, .int .i64 sz]] w fun e w' => ∃ g, e = .returned (.pointer (some ⟨g, 0, none⟩)) ∧ IsTk w' g ⟨ad, sz, .steal, 0, 0, 0, 0, false⟩ ∧ w.heap.size ≤ g ∧ Below w.heap.size w w' := by
  have HC := hid (task_at (w.alloc (.cells #[.int .i64 ad, .int .i64 sz] 34)) (.steal) 0 h)
  simp only [ownV] at HC
  clear h
  go_enter Try.func14, Try.ntmps14
  go_wp2_with fail
  refine HC.out.mono ?_
  rintro e w1 ⟨g, rfl, h1, hg, K⟩
  have H1 := hid h1
  have HG : Hid (w.heap.size ≤ g) := hid (Nat.le_trans (below_alloc w (.cells #[.int .i64 ad, .int .i64 sz] 34)).size hg)
  have HB := hid (bel_trans (below_alloc w (.cells #[.int .i64 ad, .int .i64 sz] 34)) K)
  clear h1 hg K HC
  go_wp2
  go_ret
  exact ⟨g, rfl, H1.out, HG.out, HB.out⟩
set_option maxHeartbeats 400000 in
theorem steal_no (w : World) {ad sz : Int} (h : canB ad sz = false) :
    Calls Try.prog 14 #[.agg #[.int .i64 ad, .int .i64 sz]] w fun e w' => e = .returned (.pointer none) ∧ Below w.heap.size w w' := by
  have HC := hid (task_no (w.alloc (.cells #[.int .i64 ad, .int .i64 sz] 34)) (.steal) 0 h)
  simp only [ownV] at HC
  clear h
  go_enter Try.func14, Try.ntmps14
  go_wp2_with fail
  refine HC.out.mono ?_
  rintro e w1 ⟨rfl, K⟩
  have HB := hid (bel_trans (below_alloc w (.cells #[.int .i64 ad, .int .i64 sz] 34)) K)
  clear K HC
  go_wp2
  go_ret
  exact ⟨rfl, HB.out⟩
end Go.Proofs.Ytmglacaikpcjhaa
