/- What Push, Pop, Step, Next and Result return and leave. Conditions: those who push and pop are such as Push or Pop gave, or none; the counts are below 2^62. -/
import Derived.Test.YtfnfbceblpaggaaS5
namespace Go.Proofs.Ytfnfbceblpaggaa
open Go.RowKit

set_option maxHeartbeats 400000 in
theorem stepP {w : World} {p b g : Nat} {s : St} {x : Pr} {k : Nat} (h : Hs 87 w p b g s x) (ok : XOk x) (c : Cnt s k) (hk : k ≤ bnd) :
    Calls Try.prog 19 #[.pointer (some ⟨g, 0, none⟩), .pointer (some ⟨p, 0, none⟩)] w fun e w' => e = .returned (.bool ((pX s x).tn == 5)) ∧ Hs 87 w' p b g (pT s x) (pX s x) ∧ But3 g p b w w' := by
  have HS := hid (pstep_at h ok c hk)
  clear h ok c hk
  generalize pT s x = s' at *
  generalize pX s x = x' at *
  go_enter Try.func19, Try.ntmps19
  go_wp2_with fail
  refine HS.out.mono ?_
  rintro e w1 ⟨rfl, h1⟩
  have H1 := hid h1
  clear h1
  go_wp2
  go_ret
  exact ⟨rfl, H1.out⟩
set_option maxHeartbeats 400000 in
theorem stepP_nil (w : World) (q : Option Addr) :
    Calls Try.prog 19 #[.pointer none, .pointer q] w fun e w' => e = .returned (.bool false) ∧ w' = w := by
  go_enter Try.func19, Try.ntmps19
  go_wp2
  go_ret
  exact ⟨rfl, rfl⟩
set_option maxHeartbeats 400000 in
theorem nextP {w : World} {g : Nat} {x : Pr} (h : IsPr 87 w g x) (ok : XOk x) :
    Calls Try.prog 17 #[.pointer (some ⟨g, 0, none⟩)] w fun e w' => e = .returned (acV (pNext x)) ∧ Below w.heap.size w w' := by
  have HN := hid (pnext_at (h.below (below_alloc w (.cells z4 51))) ok)
  clear h ok
  generalize pNext x = a at *
  obtain ⟨ak, ad, aa, ab⟩ := a
  go_enter Try.func17, Try.ntmps17
  go_wp2_with fail
  refine HN.out.mono ?_
  rintro e w1 ⟨rfl, K⟩
  have hg : w1.heap[w.heap.size]? = some (.cells z4 51 (0, 0)) := (K.block _ (by simp)).trans (heap_alloc_new w (.cells z4 51 (0, 0)))
  have hB := bel_trans (below_alloc w (.cells z4 51)) K
  obtain ⟨d0, d1, d2, d3, f0, f1, f2, f3⟩ := there4_of hg
  have HG := hid hg
  have HB := hid hB
  clear hg hB K HN
  go_wp2
  (try simp only [Exit.inBlock, Exit.then])
  refine bodyPost_ret (results_cell_row rfl _ _ w.heap.size 51 _ (0, 0) _ rfl (put4 HG.out _ _ _ _) Try.underlying51 rfl size51) rfl ?_
  exact ⟨rfl, below_put4 HB.out _ _ _ _⟩
set_option maxHeartbeats 400000 in
theorem nextP_nil (w : World) :
    Calls Try.prog 17 #[.pointer none] w fun e w' => e = .returned (acV ⟨0, 0, 0, 0⟩) ∧ Below w.heap.size w w' := by
  go_enter Try.func17, Try.ntmps17
  go_wp2
  (try simp only [Exit.inBlock, Exit.then])
  refine bodyPost_ret (results_cell_row rfl _ _ w.heap.size 51 (acC ⟨0, 0, 0, 0⟩) (0, 0) _ rfl (heap_alloc_new _ _) Try.underlying51 rfl size51) rfl ?_
  exact ⟨rfl, below_alloc _ _⟩
set_option maxHeartbeats 400000 in
theorem stepG {w : World} {p b g : Nat} {s : St} {x : Pr} {k : Nat} (h : Hs 90 w p b g s x) (ok : XOk x) (c : Cnt s k) (hk : k ≤ bnd) :
    Calls Try.prog 23 #[.pointer (some ⟨g, 0, none⟩), .pointer (some ⟨p, 0, none⟩)] w fun e w' => e = .returned (.bool ((pX s x).tn == 5)) ∧ Hs 90 w' p b g (pT s x) (pX s x) ∧ But3 g p b w w' := by
  have HS := hid (pstep_at h ok c hk)
  clear h ok c hk
  generalize pT s x = s' at *
  generalize pX s x = x' at *
  go_enter Try.func23, Try.ntmps23
  go_wp2_with fail
  refine HS.out.mono ?_
  rintro e w1 ⟨rfl, h1⟩
  have H1 := hid h1
  clear h1
  go_wp2
  go_ret
  exact ⟨rfl, H1.out⟩
set_option maxHeartbeats 400000 in
theorem stepG_nil (w : World) (q : Option Addr) :
    Calls Try.prog 23 #[.pointer none, .pointer q] w fun e w' => e = .returned (.bool false) ∧ w' = w := by
  go_enter Try.func23, Try.ntmps23
  go_wp2
  go_ret
  exact ⟨rfl, rfl⟩
set_option maxHeartbeats 400000 in
theorem nextG {w : World} {g : Nat} {x : Pr} (h : IsPr 90 w g x) (ok : XOk x) :
    Calls Try.prog 22 #[.pointer (some ⟨g, 0, none⟩)] w fun e w' => e = .returned (acV (pNext x)) ∧ Below w.heap.size w w' := by
  have HN := hid (pnext_at (h.below (below_alloc w (.cells z4 51))) ok)
  clear h ok
  generalize pNext x = a at *
  obtain ⟨ak, ad, aa, ab⟩ := a
  go_enter Try.func22, Try.ntmps22
  go_wp2_with fail
  refine HN.out.mono ?_
  rintro e w1 ⟨rfl, K⟩
  have hg : w1.heap[w.heap.size]? = some (.cells z4 51 (0, 0)) := (K.block _ (by simp)).trans (heap_alloc_new w (.cells z4 51 (0, 0)))
  have hB := bel_trans (below_alloc w (.cells z4 51)) K
  obtain ⟨d0, d1, d2, d3, f0, f1, f2, f3⟩ := there4_of hg
  have HG := hid hg
  have HB := hid hB
  clear hg hB K HN
  go_wp2
  (try simp only [Exit.inBlock, Exit.then])
  refine bodyPost_ret (results_cell_row rfl _ _ w.heap.size 51 _ (0, 0) _ rfl (put4 HG.out _ _ _ _) Try.underlying51 rfl size51) rfl ?_
  exact ⟨rfl, below_put4 HB.out _ _ _ _⟩
set_option maxHeartbeats 400000 in
theorem nextG_nil (w : World) :
    Calls Try.prog 22 #[.pointer none] w fun e w' => e = .returned (acV ⟨0, 0, 0, 0⟩) ∧ Below w.heap.size w w' := by
  go_enter Try.func22, Try.ntmps22
  go_wp2
  (try simp only [Exit.inBlock, Exit.then])
  refine bodyPost_ret (results_cell_row rfl _ _ w.heap.size 51 (acC ⟨0, 0, 0, 0⟩) (0, 0) _ rfl (heap_alloc_new _ _) Try.underlying51 rfl size51) rfl ?_
  exact ⟨rfl, below_alloc _ _⟩
set_option maxHeartbeats 400000 in
theorem resP {w : World} {g : Nat} {x : Pr} (h : IsPr 87 w g x) :
    Calls Try.prog 21 #[.pointer (some ⟨g, 0, none⟩)] w fun e w' => e = .returned (.tuple #[.bool x.wh, .bool (x.tn == 5)]) ∧ ∃ m, w' = w.drewN m := by
  obtain ⟨c0, c1, c2, c3, c4, c5, c6⟩ := h.pc
  have HP : Hid (IsPr 87 w g x) := hid h
  clear h
  go_enter Try.func21, Try.ntmps21
  go_wp2_with fail
  go_quiet ((go_at_call 38; exact Calls.quiet_of_same (pDone_at HP.out)))
  go_wp2
  go_ret2
  exact ⟨rfl, _, rfl⟩
set_option maxHeartbeats 400000 in
theorem resP_nil (w : World) :
    Calls Try.prog 21 #[.pointer none] w fun e w' => e = .returned (.tuple #[.bool false, .bool false]) ∧ w' = w := by
  go_enter Try.func21, Try.ntmps21
  go_wp2
  go_ret2
  exact ⟨rfl, rfl⟩
/-- The value of one who pops. -/
def gotV (x : Pr) : Int := if x.wh = true then x.mv else 0
def gotD (x : Pr) : Bool := x.wh || (x.tn == 5)
set_option maxHeartbeats 400000 in
theorem resG {w : World} {g : Nat} {x : Pr} (h : IsPr 90 w g x) :
    Calls Try.prog 24 #[.pointer (some ⟨g, 0, none⟩)] w fun e w' => e = .returned (.tuple #[.int .u64 (gotV x), .bool x.wh, .bool (gotD x)]) ∧ w' = w := by
  have HD := hid (pDone_at h)
  obtain ⟨c0, c1, c2, c3, c4, c5, c6⟩ := h.pc
  clear h
  obtain ⟨ad, sz, pv, tn, ps, mv, wh⟩ := x
  simp only [] at *
  cases wh
  · rw [show gotV ⟨ad, sz, pv, tn, ps, mv, false⟩ = 0 from rfl, show gotD ⟨ad, sz, pv, tn, ps, mv, false⟩ = (tn == 5) from rfl]
    go_enter Try.func24, Try.ntmps24
    go_wp2_with fail
    refine HD.out.mono ?_
    rintro e w1 ⟨rfl, hw1⟩
    rw [hw1]
    clear hw1 w1
    go_wp2
    (try simp only [Exit.inBlock, Exit.then])
    refine bodyPost_ret (results_tmp3 rfl _ _ _) rfl ?_
    exact ⟨rfl, rfl⟩
  · rw [show gotV ⟨ad, sz, pv, tn, ps, mv, true⟩ = mv from rfl, show gotD ⟨ad, sz, pv, tn, ps, mv, true⟩ = true from rfl]
    go_enter Try.func24, Try.ntmps24
    go_wp2
    refine bodyPost_ret (results_tmp3 rfl _ _ _) rfl ?_
    exact ⟨rfl, rfl⟩
set_option maxHeartbeats 400000 in
theorem resG_nil (w : World) :
    Calls Try.prog 24 #[.pointer none] w fun e w' => e = .returned (.tuple #[.int .u64 0, .bool false, .bool false]) ∧ w' = w := by
  go_enter Try.func24, Try.ntmps24
  go_wp2
  refine bodyPost_ret (results_tmp3 rfl _ _ _) rfl ?_
  exact ⟨rfl, rfl⟩
set_option maxHeartbeats 400000 in
theorem push_at (w : World) (v : Int) {ad sz : Int} (h : QOk ad sz) :
    Calls Try.prog 15 #[.agg #[.int .i64 ad, .int .i64 sz], .int .u64 v] w fun e w' => ∃ g, e = .returned (.pointer (some ⟨g, 0, none⟩)) ∧ IsPr 87 w' g ⟨ad, sz, some v, 0, 0, 0, false⟩ ∧ w.heap.size ≤ g ∧ Below w.heap.size w w' := by
  have HC := hid (canBe_any (w.alloc (.cells #[.int .i64 ad, .int .i64 sz] 35)) ad sz)
  rw [h.can] at HC
  clear h
  have hg := heap_alloc_new w (.cells #[.int .i64 ad, .int .i64 sz] 35 (0, 0))
  have HG := hid hg
  clear hg
  go_enter Try.func15, Try.ntmps15
  go_wp2_with fail
  refine HC.out.mono ?_
  rintro e w1 ⟨rfl, K⟩
  have hg1 := (K.block _ (lt_of_block HG.out)).trans HG.out
  have c0 : w1.cell? ⟨w.heap.size, 0, none⟩ = some (.int .i64 ad) := cell_of hg1 rfl
  have c1 : w1.cell? ⟨w.heap.size, 1, none⟩ = some (.int .i64 sz) := cell_of hg1 rfl
  have HB := hid (bel_trans (below_alloc w (.cells #[.int .i64 ad, .int .i64 sz] 35)) K)
  clear K hg1 HG HC
  go_wp2
  go_ret
  refine ⟨w1.heap.size, rfl, ?_, HB.out.size, bel_trans HB.out (below_alloc _ _)⟩
  exact heap_alloc_new _ _
set_option maxHeartbeats 400000 in
theorem push_no (w : World) (v : Int) {ad sz : Int} (h : canB ad sz = false) :
    Calls Try.prog 15 #[.agg #[.int .i64 ad, .int .i64 sz], .int .u64 v] w fun e w' => e = .returned (.pointer none) ∧ Below w.heap.size w w' := by
  have HC := hid (canBe_any (w.alloc (.cells #[.int .i64 ad, .int .i64 sz] 35)) ad sz)
  rw [h] at HC
  clear h
  go_enter Try.func15, Try.ntmps15
  go_wp2_with fail
  refine HC.out.mono ?_
  rintro e w1 ⟨rfl, K⟩
  have HB := hid (bel_trans (below_alloc w (.cells #[.int .i64 ad, .int .i64 sz] 35)) K)
  clear K HC
  go_wp2
  go_ret
  exact ⟨rfl, HB.out⟩
set_option maxHeartbeats 400000 in
theorem pop_at (w : World) {ad sz : Int} (h : QOk ad sz) :
    Calls Try.prog 16 #[.agg #[.int .i64 ad, .int .i64 sz]] w fun e w' => ∃ g, e = .returned (.pointer (some ⟨g, 0, none⟩)) ∧ IsPr 90 w' g ⟨ad, sz, none, 0, 0, 0, false⟩ ∧ w.heap.size ≤ g ∧ Below w.heap.size w w' := by
  have HC := hid (canBe_any (w.alloc (.cells #[.int .i64 ad, .int .i64 sz] 35)) ad sz)
  rw [h.can] at HC
  clear h
  have hg := heap_alloc_new w (.cells #[.int .i64 ad, .int .i64 sz] 35 (0, 0))
  have HG := hid hg
  clear hg
  go_enter Try.func16, Try.ntmps16
  go_wp2_with fail
  refine HC.out.mono ?_
  rintro e w1 ⟨rfl, K⟩
  have hg1 := (K.block _ (lt_of_block HG.out)).trans HG.out
  have c0 : w1.cell? ⟨w.heap.size, 0, none⟩ = some (.int .i64 ad) := cell_of hg1 rfl
  have c1 : w1.cell? ⟨w.heap.size, 1, none⟩ = some (.int .i64 sz) := cell_of hg1 rfl
  have HB := hid (bel_trans (below_alloc w (.cells #[.int .i64 ad, .int .i64 sz] 35)) K)
  clear K hg1 HG HC
  go_wp2
  go_ret
  refine ⟨w1.heap.size, rfl, ?_, HB.out.size, bel_trans HB.out (below_alloc _ _)⟩
  exact heap_alloc_new _ _
set_option maxHeartbeats 400000 in
theorem pop_no (w : World) {ad sz : Int} (h : canB ad sz = false) :
    Calls Try.prog 16 #[.agg #[.int .i64 ad, .int .i64 sz]] w fun e w' => e = .returned (.pointer none) ∧ Below w.heap.size w w' := by
  have HC := hid (canBe_any (w.alloc (.cells #[.int .i64 ad, .int .i64 sz] 35)) ad sz)
  rw [h] at HC
  clear h
  go_enter Try.func16, Try.ntmps16
  go_wp2_with fail
  refine HC.out.mono ?_
  rintro e w1 ⟨rfl, K⟩
  have HB := hid (bel_trans (below_alloc w (.cells #[.int .i64 ad, .int .i64 sz] 35)) K)
  clear K HC
  go_wp2
  go_ret
  exact ⟨rfl, HB.out⟩
end Go.Proofs.Ytfnfbceblpaggaa
