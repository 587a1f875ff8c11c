/- What goOn leaves of a task. Conditions: it is one that Push, Pop or Steal gave. -/
import Derived.Test.YtmglacaikpcjhaaS4
import Derived.BigQuiet
namespace Go.Proofs.Ytmglacaikpcjhaa
open Go.RowKit

set_option maxRecDepth 100000 in
set_option maxHeartbeats 600000 in
theorem gt_0 {w : World} {g : Nat} {ad sz tp bt vl : Int} {hs : Bool} (h : IsTk w g ⟨ad, sz, .steal, 0, tp, bt, vl, hs⟩) (rv : Int) (ro : Bool) (re : Int) :
    Calls Try.prog 52 #[.pointer (some ⟨g, 0, none⟩), .agg #[.int .u64 rv, .bool ro, .int .i64 re]] w fun e w' => e = .returned (.tuple #[]) ∧ IsTk w' g ⟨ad, sz, .steal, 1, rv, bt, vl, hs⟩ ∧ But g g w w' := by
  have HH := hid h
  have hlt := h.lt
  have hne : g ≠ w.heap.size := by omega
  obtain ⟨c0, c1, c2, c3, c4, c5, c6, c7⟩ := h.tc
  have f3 := h.free 3
  have f4 := h.free 4
  have f5 := h.free 5
  have f6 := h.free 6
  have f7 := h.free 7
  clear h c0 c1 c2
  simp only [] at *
  go_enter Try.func52, Try.ntmps52
  go_wp2_with fail
  go_wp2
  first | go_end0 | (refine bodyPost_ret (results_none rfl _ _ _) rfl ?_)
  exact ⟨rfl, ((HH.out.setT rv).setN 1).below (below_alloc _ _), ((but_set g 4 _ _).trans (but_set g 3 _ _)).trans (But.of_below (below_alloc _ _))⟩
set_option maxRecDepth 100000 in
set_option maxHeartbeats 600000 in
theorem gt_1y {w : World} {g : Nat} {ad sz tp bt vl : Int} {hs : Bool} (h : IsTk w g ⟨ad, sz, .steal, 1, tp, bt, vl, hs⟩) (rv : Int) (ro : Bool) (re : Int) (hc : 0 ≤ difA tp rv) :
    Calls Try.prog 52 #[.pointer (some ⟨g, 0, none⟩), .agg #[.int .u64 rv, .bool ro, .int .i64 re]] w fun e w' => e = .returned (.tuple #[]) ∧ IsTk w' g ⟨ad, sz, .steal, 6, tp, bt, vl, false⟩ ∧ But g g w w' := by
  have HH := hid h
  have hlt := h.lt
  have hne : g ≠ w.heap.size := by omega
  have hx : IsTk ((w.setCell ⟨g, 3, none⟩ (.int .i64 3)).alloc (.cells #[.int .u64 rv, .bool ro, .int .i64 re] 95)) g ⟨ad, sz, .steal, 3, tp, bt, vl, hs⟩ := (h.setN 3).below (below_alloc _ _)
  have hd : ((w.setCell ⟨g, 3, none⟩ (.int .i64 3)).alloc (.cells #[.int .u64 rv, .bool ro, .int .i64 re] 95)).heap[w.heap.size]? = some (.cells (reC ⟨rv, ro, re⟩) 95 (0, 0)) := re_new ⟨rv, ro, re⟩ _ (by simp [World.setCell])
  have HB := hid ((but_set g 3 _ _).trans (But.of_below (below_alloc (w.setCell ⟨g, 3, none⟩ (.int .i64 3)) (.cells #[.int .u64 rv, .bool ro, .int .i64 re] 95))))
  have HX := hid hx
  obtain ⟨c0, c1, c2, c3, c4, c5, c6, c7⟩ := h.tc
  have f3 := h.free 3
  have f4 := h.free 4
  have f5 := h.free 5
  have f6 := h.free 6
  have f7 := h.free 7
  have HXc := hid hx.tc
  have d0 := hid (cell_of (i := 0) hd rfl)
  simp only [] at *
  clear h hx hd c0 c1 c2
  go_enter Try.func52, Try.ntmps52
  go_wp2_with fail
  clear c3 c4 c5 c6 c7 f3 f4 f5 f6 f7
  generalize ((w.setCell ⟨g, 3, none⟩ (.int .i64 3)).alloc (.cells #[.int .u64 rv, .bool ro, .int .i64 re] 95)) = W at *
  have d0 := d0.out
  obtain ⟨c0, c1, c2, c3, c4, c5, c6, c7⟩ := HXc.out
  simp only [] at d0 c0 c1 c2 c3 c4 c5 c6 c7
  clear c0 c2 c3 c6 c7 HXc
  go_quiet ((go_at_call 60; exact Calls.quiet_of_same (above_at _ _ _)))
  have HX := hid (HX.out.drewN nq)
  have HB := hid (HB.out.drewN nq)
  generalize W.drewN nq = W1 at *
  clear c1 c4 c5 d0
  go_wp2_with fail
  refine (end_at HX.out false).mono ?_
  rintro e w3 ⟨rfl, h3, B3⟩
  have H3 := hid h3
  have HB3 := hid B3
  clear h3 B3
  go_wp2
  first | go_end0 | (refine bodyPost_ret (results_none rfl _ _ _) rfl ?_)
  exact ⟨rfl, H3.out, HB.out.trans HB3.out⟩
set_option maxRecDepth 100000 in
set_option maxHeartbeats 600000 in
theorem gt_1n {w : World} {g : Nat} {ad sz tp bt vl : Int} {hs : Bool} (h : IsTk w g ⟨ad, sz, .steal, 1, tp, bt, vl, hs⟩) (rv : Int) (ro : Bool) (re : Int) (hc : ¬ 0 ≤ difA tp rv) :
    Calls Try.prog 52 #[.pointer (some ⟨g, 0, none⟩), .agg #[.int .u64 rv, .bool ro, .int .i64 re]] w fun e w' => e = .returned (.tuple #[]) ∧ IsTk w' g ⟨ad, sz, .steal, 3, tp, bt, vl, hs⟩ ∧ But g g w w' := by
  have HH := hid h
  have hlt := h.lt
  have hne : g ≠ w.heap.size := by omega
  have hx : IsTk ((w.setCell ⟨g, 3, none⟩ (.int .i64 3)).alloc (.cells #[.int .u64 rv, .bool ro, .int .i64 re] 95)) g ⟨ad, sz, .steal, 3, tp, bt, vl, hs⟩ := (h.setN 3).below (below_alloc _ _)
  have hd : ((w.setCell ⟨g, 3, none⟩ (.int .i64 3)).alloc (.cells #[.int .u64 rv, .bool ro, .int .i64 re] 95)).heap[w.heap.size]? = some (.cells (reC ⟨rv, ro, re⟩) 95 (0, 0)) := re_new ⟨rv, ro, re⟩ _ (by simp [World.setCell])
  have HB := hid ((but_set g 3 _ _).trans (But.of_below (below_alloc (w.setCell ⟨g, 3, none⟩ (.int .i64 3)) (.cells #[.int .u64 rv, .bool ro, .int .i64 re] 95))))
  have HX := hid hx
  obtain ⟨c0, c1, c2, c3, c4, c5, c6, c7⟩ := h.tc
  have f3 := h.free 3
  have f4 := h.free 4
  have f5 := h.free 5
  have f6 := h.free 6
  have f7 := h.free 7
  have HXc := hid hx.tc
  have d0 := hid (cell_of (i := 0) hd rfl)
  simp only [] at *
  clear h hx hd c0 c1 c2
  go_enter Try.func52, Try.ntmps52
  go_wp2_with fail
  clear c3 c4 c5 c6 c7 f3 f4 f5 f6 f7
  generalize ((w.setCell ⟨g, 3, none⟩ (.int .i64 3)).alloc (.cells #[.int .u64 rv, .bool ro, .int .i64 re] 95)) = W at *
  have d0 := d0.out
  obtain ⟨c0, c1, c2, c3, c4, c5, c6, c7⟩ := HXc.out
  simp only [] at d0 c0 c1 c2 c3 c4 c5 c6 c7
  clear c0 c2 c3 c6 c7 HXc
  go_quiet ((go_at_call 60; exact Calls.quiet_of_same (above_at _ _ _)))
  have HX := hid (HX.out.drewN nq)
  have HB := hid (HB.out.drewN nq)
  generalize W.drewN nq = W1 at *
  clear c1 c4 c5 d0
  go_wp2
  first | go_end0 | (refine bodyPost_ret (results_none rfl _ _ _) rfl ?_)
  exact ⟨rfl, HX.out, HB.out⟩
set_option maxRecDepth 100000 in
set_option maxHeartbeats 600000 in
theorem gt_3 {w : World} {g : Nat} {ad sz tp bt vl : Int} {hs : Bool} (h : IsTk w g ⟨ad, sz, .steal, 3, tp, bt, vl, hs⟩) (rv : Int) (ro : Bool) (re : Int) :
    Calls Try.prog 52 #[.pointer (some ⟨g, 0, none⟩), .agg #[.int .u64 rv, .bool ro, .int .i64 re]] w fun e w' => e = .returned (.tuple #[]) ∧ IsTk w' g ⟨ad, sz, .steal, 4, tp, bt, rv, hs⟩ ∧ But g g w w' := by
  have HH := hid h
  have hlt := h.lt
  have hne : g ≠ w.heap.size := by omega
  obtain ⟨c0, c1, c2, c3, c4, c5, c6, c7⟩ := h.tc
  have f3 := h.free 3
  have f4 := h.free 4
  have f5 := h.free 5
  have f6 := h.free 6
  have f7 := h.free 7
  clear h c0 c1 c2
  simp only [] at *
  go_enter Try.func52, Try.ntmps52
  go_wp2_with fail
  go_wp2
  first | go_end0 | (refine bodyPost_ret (results_none rfl _ _ _) rfl ?_)
  exact ⟨rfl, ((HH.out.setV rv).setN 4).below (below_alloc _ _), ((but_set g 6 _ _).trans (but_set g 3 _ _)).trans (But.of_below (below_alloc _ _))⟩
set_option maxRecDepth 100000 in
set_option maxHeartbeats 600000 in
theorem gt_4 {w : World} {g : Nat} {ad sz tp bt vl : Int} {hs : Bool} (h : IsTk w g ⟨ad, sz, .steal, 4, tp, bt, vl, hs⟩) (rv : Int) (ro : Bool) (re : Int) :
    Calls Try.prog 52 #[.pointer (some ⟨g, 0, none⟩), .agg #[.int .u64 rv, .bool ro, .int .i64 re]] w fun e w' => e = .returned (.tuple #[]) ∧ IsTk w' g ⟨ad, sz, .steal, 6, tp, bt, vl, ro⟩ ∧ But g g w w' := by
  have HH := hid h
  have hlt := h.lt
  have hne : g ≠ w.heap.size := by omega
  have HX := hid (h.below (below_alloc w (.cells #[.int .u64 rv, .bool ro, .int .i64 re] 95)))
  have HB : Hid (But g g w (w.alloc (.cells #[.int .u64 rv, .bool ro, .int .i64 re] 95))) := hid (But.of_below (below_alloc _ _))
  obtain ⟨c0, c1, c2, c3, c4, c5, c6, c7⟩ := h.tc
  have f3 := h.free 3
  have f4 := h.free 4
  have f5 := h.free 5
  have f6 := h.free 6
  have f7 := h.free 7
  clear h c0 c1 c2
  simp only [] at *
  go_enter Try.func52, Try.ntmps52
  go_wp2_with fail
  refine (end_at HX.out ro).mono ?_
  rintro e w3 ⟨rfl, h3, B3⟩
  have H3 := hid h3
  have HB3 := hid B3
  clear h3 B3
  go_wp2
  first | go_end0 | (refine bodyPost_ret (results_none rfl _ _ _) rfl ?_)
  exact ⟨rfl, H3.out, HB.out.trans HB3.out⟩
end Go.Proofs.Ytmglacaikpcjhaa
