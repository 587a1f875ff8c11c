/- What a writer's goOn leaves. Conditions: it is one that Write gave. -/
import Derived.Test.YtkdgjgbmbdmmfaaS5
namespace Go.Proofs.Ytkdgjgbmbdmmfaa
open Go.RowKit

def wGo (x : Wr) (r : Re) : Wr :=
  if x.t = 0 then { x with m := r.v, t := beginT 0 r.v }
  else if x.t = 1 ∧ r.ok = false then { x with t := 0 }
  else { x with t := x.t + 1 }

theorem but_box {g : Nat} {w : World} (o : Obj) {w' : World} (h : But g g (w.alloc o) w') : But g g w w' := (But.of_below (below_alloc w o)).trans h
theorem but_set (g i : Nat) (w : World) (u : Value) : But g g w (w.setCell ⟨g, i, none⟩ u) := But.setCell g g w _ _ (Or.inl rfl)
theorem IsWr.beginW {w : World} {g : Nat} {x : Wr} (h : IsWr w g x) (hz : x.t = 0) (v : Int) :
    IsWr (if v % 2 = 0 then (w.setCell ⟨g, 4, none⟩ (.int .u64 v)).setCell ⟨g, 2, none⟩ (.int .i64 (x.t + 1)) else w.setCell ⟨g, 4, none⟩ (.int .u64 v)) g { x with m := v, t := beginT 0 v } ∧
    But g g w (if v % 2 = 0 then (w.setCell ⟨g, 4, none⟩ (.int .u64 v)).setCell ⟨g, 2, none⟩ (.int .i64 (x.t + 1)) else w.setCell ⟨g, 4, none⟩ (.int .u64 v)) := by
  unfold beginT
  by_cases hv : v % 2 = 0
  · simp only [if_pos hv]
    refine ⟨?_, (but_set g 4 w _).trans (but_set g 2 _ _)⟩
    have := (h.setM v).setT (x.t + 1)
    rw [hz] at this ⊢
    exact this
  · simp only [if_neg hv]
    refine ⟨?_, but_set g 4 w _⟩
    have := h.setM v
    rw [← hz]
    exact this
theorem begin_in {w : World} {g : Nat} {x : Wr} {r : Re} (h : IsWr w g x) (hz : x.t = 0) (hv0 : 0 ≤ r.v) (hv1 : r.v ≤ 18446744073709551615) :
    Calls Try.prog 34 #[.pointer (some ⟨g, 0, none⟩), .int .u64 r.v] (w.alloc (.cells (reC r) 66)).drew fun e w' => e = .returned (.tuple #[]) ∧ w'.cell? ⟨w.heap.size, 0, none⟩ = some (.int .u64 r.v) ∧ Hid (IsWr w' g { x with m := r.v, t := beginT 0 r.v } ∧ But g g w w') := by
  have hB : Below w.heap.size w (w.alloc (.cells (reC r) 66)).drew := (below_alloc w (.cells (reC r) 66)).drew
  have h2 := h.below hB
  have hlt := h.lt
  refine (pBegin_at _ g x.t x.m r.v h2.pc.c2 (h2.free 2) h2.pc.c4 (h2.free 4) (by omega) (by omega) hv0 hv1).mono ?_
  rintro e w' ⟨rfl, hw'⟩
  obtain ⟨k1, k2⟩ := h2.beginW hz r.v
  rw [← hw'] at k1 k2
  have hb : (w.alloc (.cells (reC r) 66)).drew.heap[w.heap.size]? = some (.cells (reC r) 66 (0, 0)) := heap_alloc_new w (.cells (reC r) 66 (0, 0))
  refine ⟨rfl, cell_of ((k2.block _ (lt_of_block hb) (by omega) (by omega)).trans hb) rfl, k1, (But.of_below hB).trans k2⟩

set_option maxRecDepth 100000 in
set_option maxHeartbeats 600000 in
theorem wgo_0 {w : World} {g : Nat} {x : Wr} (h : IsWr w g x) (r : Re) (hz : x.t = 0) (hv0 : 0 ≤ r.v) (hv1 : r.v ≤ 18446744073709551615) :
    Calls Try.prog 27 #[.pointer (some ⟨g, 0, none⟩), reV r] w fun e w' => e = .returned (.tuple #[]) ∧ IsWr w' g { x with m := r.v, t := beginT 0 r.v } ∧ But g g w w' := by
  have HS := hid (begin_in h hz hv0 hv1)
  have hlt := h.lt
  have c2 := h.pc.c2
  rw [hz] at c2
  generalize ({ x with m := r.v, t := beginT 0 r.v } : Wr) = x' at HS ⊢
  obtain ⟨rv, ro, re⟩ := r
  have hS0 : (w.alloc (.cells #[.int .u64 rv, .bool ro, .int .i64 re] 66)).drew.cell? ⟨w.heap.size, 0, none⟩ = some (.int .u64 rv) := cell_of (heap_alloc_new w (.cells #[.int .u64 rv, .bool ro, .int .i64 re] 66 (0, 0))) rfl
  simp only [] at hv0 hv1
  clear h hz
  go_enter Try.func27, Try.ntmps27
  go_wp2_with fail
  go_region_held3 (fun w' => w'.cell? ⟨w.heap.size, 0, none⟩ = some (.int .u64 rv)) (first | with_reducible exact hS0 | with_reducible assumption)
    (first
      | (go_at_call 34; refine HS.out.mono ?_; rintro e3 w3 ⟨rfl, hw', HX⟩))
  go_wp2
  go_end0
  exact ⟨rfl, HX.out⟩

set_option maxRecDepth 100000 in
set_option maxHeartbeats 600000 in
theorem wgo_no {w : World} {g : Nat} {x : Wr} (h : IsWr w g x) (rv re : Int) (hz : x.t = 1) :
    Calls Try.prog 27 #[.pointer (some ⟨g, 0, none⟩), reV ⟨rv, false, re⟩] w fun e w' => e = .returned (.tuple #[]) ∧ IsWr w' g { x with t := 0 } ∧ But g g w w' := by
  have HW := hid h
  have hlt := h.lt
  have c2 := h.pc.c2
  rw [hz] at c2
  clear h hz
  go_enter Try.func27, Try.ntmps27
  go_wp2_with fail
  have h2 := HW.out.below (below_alloc w (.cells #[.int .u64 rv, .bool false, .int .i64 re] 66))
  refine (pAnew_at _ g x.t h2.pc.c2 (h2.free 2)).mono ?_
  rintro e w2 ⟨rfl, hw2⟩
  have HX : Hid (IsWr w2 g { x with t := 0 } ∧ But g g w w2) := by
    rw [hw2]
    exact ⟨h2.setT 0, but_box (.cells #[.int .u64 rv, .bool false, .int .i64 re] 66) (but_set g 2 _ _)⟩
  clear hw2 h2
  go_wp2
  go_end0
  exact ⟨rfl, HX.out⟩

set_option maxRecDepth 100000 in
set_option maxHeartbeats 600000 in
theorem wgo_on {w : World} {g : Nat} {x : Wr} (h : IsWr w g x) (rv re : Int) (ro : Bool) (hz : (x.t == 0) = false) (hy : ((x.t == 1) && !ro) = false) (h0 : 0 ≤ x.t) (h1 : x.t ≤ 100) :
    Calls Try.prog 27 #[.pointer (some ⟨g, 0, none⟩), reV ⟨rv, ro, re⟩] w fun e w' => e = .returned (.tuple #[]) ∧ IsWr w' g { x with t := x.t + 1 } ∧ But g g w w' := by
  have HW := hid h
  have hlt := h.lt
  have c2 := h.pc.c2
  have f2 := h.free 2
  have hfin : ∀ o, IsWr ((w.setCell ⟨g, 2, none⟩ (.int .i64 (x.t + 1))).alloc o) g { x with t := x.t + 1 } ∧ But g g w ((w.setCell ⟨g, 2, none⟩ (.int .i64 (x.t + 1))).alloc o) := fun o =>
    ⟨(h.setT _).below (below_alloc _ _), (but_set g 2 _ _).trans (But.of_below (below_alloc _ _))⟩
  have HF := hid hfin
  generalize ({ x with t := x.t + 1 } : Wr) = x' at HF ⊢
  clear h hfin HW
  generalize x.t = t at *
  cases ht1 : (t == 1)
  · go_enter Try.func27, Try.ntmps27
    go_wp2
    go_end0
    exact ⟨rfl, HF.out _⟩
  · cases ro
    · simp [ht1] at hy
    · go_enter Try.func27, Try.ntmps27
      go_wp2
      go_end0
      exact ⟨rfl, HF.out _⟩

theorem wgo_at {w : World} {g : Nat} {x : Wr} (h : IsWr w g x) (r : Re) (h0 : 0 ≤ x.t) (h1 : x.t ≤ 100) (hv0 : 0 ≤ r.v) (hv1 : r.v ≤ 18446744073709551615) :
    Calls Try.prog 27 #[.pointer (some ⟨g, 0, none⟩), reV r] w fun e w' => e = .returned (.tuple #[]) ∧ IsWr w' g (wGo x r) ∧ But g g w w' := by
  unfold wGo
  by_cases hz : x.t = 0
  · rw [if_pos hz]
    exact wgo_0 h r hz hv0 hv1
  · rw [if_neg hz]
    obtain ⟨rv, ro, re⟩ := r
    by_cases hy : x.t = 1 ∧ ro = false
    · rw [if_pos hy]
      obtain ⟨hy, rfl⟩ := hy
      exact wgo_no h rv re hy
    · rw [if_neg hy]
      exact wgo_on h rv re ro (beq_eq_false_iff_ne.2 hz) (by cases ro <;> simp_all) h0 h1
end Go.Proofs.Ytkdgjgbmbdmmfaa
