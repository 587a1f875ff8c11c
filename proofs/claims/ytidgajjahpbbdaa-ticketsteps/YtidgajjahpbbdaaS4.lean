/- What a holder's goOn leaves. Conditions: a holder is one that Lock.Holder gave. -/
import Derived.Test.YtidgajjahpbbdaaS2
namespace Go.Proofs.Ytidgajjahpbbdaa
open Go.RowKit

def hGo (x : Ho) (r : Re) : Ho :=
  if r.e = 0 then
    if x.st = 0 then { x with tk := r.v, st := 1 }
    else if x.st = 1 then (if r.v = x.tk then { x with st := 2 } else { x with st := 1 })
    else { x with st := 3 }
  else { x with st := 3 }

theorem go_frame {w : World} {g : Nat} {x : Ho} (h : IsHo w g x) (r : Re) :
    IsHo (w.alloc (.cells (reC r) 68)) g x ∧ (w.alloc (.cells (reC r) 68)).heap[w.heap.size]? = some (.cells (reC r) 68 (0, 0)) ∧ But g g w (w.alloc (.cells (reC r) 68)) :=
  ⟨h.below (below_alloc _ _), heap_alloc_new _ _, But.of_below (below_alloc _ _)⟩

set_option maxRecDepth 100000 in
set_option maxHeartbeats 600000 in
theorem hgo_err {w : World} {g : Nat} {x : Ho} (h : IsHo w g x) (r : Re) (he : (r.e == 0) = false) :
    Calls Try.prog 25 #[.pointer (some ⟨g, 0, none⟩), reV r] w fun e w' => e = .returned (.tuple #[]) ∧ IsHo w' g { x with st := 3 } ∧ But g g w w' := by
  obtain ⟨h1, h2, h3⟩ := go_frame h r
  have H1 := hid h1
  have H3 := hid h3
  obtain ⟨c0, c1, c2, c3, c4⟩ := h1.hc
  have f3 := h1.free 3
  have f4 := h1.free 4
  have hlt := h.lt
  have hlt1 := h1.lt
  have d0 := cell_of (i := 0) h2 rfl
  have d2 := cell_of (i := 2) h2 rfl
  obtain ⟨rv, ro, re⟩ := r
  obtain ⟨ad, lv, st, tk⟩ := x
  simp only [] at *
  clear h h1 h2 h3
  have hb : (re != 0) = true := by simpa using he
  have hne : g ≠ w.heap.size := by omega
  go_enter Try.func25, Try.ntmps25
  go_wp2
  generalize w.alloc (.cells #[.int .u64 rv, .bool ro, .int .i64 re] 68) = W at *
  refine scope_once 0 rfl ?_
  go_wp2
  go_step3
  (try simp only [Exit.inBlock])
  refine And.intro rfl ?_
  (try simp only [])
  go_wp2
  (try simp only [Exit.noGoto_normal])
  go_end0
  exact ⟨rfl, H1.out.setS 3, H3.out.trans (but_set g 3 _ _)⟩
set_option maxRecDepth 100000 in
set_option maxHeartbeats 600000 in
theorem hgo_0 {w : World} {g : Nat} {x : Ho} (h : IsHo w g x) (r : Re) (he : r.e = 0) (hz : x.st = 0) :
    Calls Try.prog 25 #[.pointer (some ⟨g, 0, none⟩), reV r] w fun e w' => e = .returned (.tuple #[]) ∧ IsHo w' g { x with tk := r.v, st := 1 } ∧ But g g w w' := by
  obtain ⟨h1, h2, h3⟩ := go_frame h r
  have H1 := hid h1
  have H3 := hid h3
  obtain ⟨c0, c1, c2, c3, c4⟩ := h1.hc
  have f3 := h1.free 3
  have f4 := h1.free 4
  have hlt := h.lt
  have hlt1 := h1.lt
  have d0 := cell_of (i := 0) h2 rfl
  have d2 := cell_of (i := 2) h2 rfl
  obtain ⟨rv, ro, re⟩ := r
  obtain ⟨ad, lv, st, tk⟩ := x
  simp only [] at *
  clear h h1 h2 h3
  subst he
  subst hz
  have hne : g ≠ w.heap.size := by omega
  go_enter Try.func25, Try.ntmps25
  go_wp2
  generalize w.alloc (.cells #[.int .u64 rv, .bool ro, .int .i64 0] 68) = W at *
  refine scope_once 1 rfl ?_
  go_wp2
  go_step3
  (try simp only [Exit.inBlock])
  refine And.intro rfl ?_
  (try simp only [])
  go_wp2
  (try rw [Exit.noGoto_ret])
  refine bodyPost_ret (results_none rfl _ _ _) rfl ?_
  exact ⟨rfl, (H1.out.setK rv).setS 1, H3.out.trans ((but_set g 4 _ _).trans (but_set g 3 _ _))⟩
set_option maxRecDepth 100000 in
set_option maxHeartbeats 600000 in
theorem hgo_1n {w : World} {g : Nat} {x : Ho} (h : IsHo w g x) (r : Re) (he : r.e = 0) (hz : x.st = 1) (hv : (r.v == x.tk) = false) :
    Calls Try.prog 25 #[.pointer (some ⟨g, 0, none⟩), reV r] w fun e w' => e = .returned (.tuple #[]) ∧ IsHo w' g { x with st := 1 } ∧ But g g w w' := by
  obtain ⟨h1, h2, h3⟩ := go_frame h r
  have H1 := hid h1
  have H3 := hid h3
  obtain ⟨c0, c1, c2, c3, c4⟩ := h1.hc
  have f3 := h1.free 3
  have f4 := h1.free 4
  have hlt := h.lt
  have hlt1 := h1.lt
  have d0 := cell_of (i := 0) h2 rfl
  have d2 := cell_of (i := 2) h2 rfl
  obtain ⟨rv, ro, re⟩ := r
  obtain ⟨ad, lv, st, tk⟩ := x
  simp only [] at *
  clear h h1 h2 h3
  subst he
  subst hz
  have hb : (rv != tk) = true := by simpa using hv
  have hne : g ≠ w.heap.size := by omega
  go_enter Try.func25, Try.ntmps25
  go_wp2
  generalize w.alloc (.cells #[.int .u64 rv, .bool ro, .int .i64 0] 68) = W at *
  refine scope_once 1 rfl ?_
  go_wp2
  go_quiet (fail)
  have HQ1 : Hid (IsHo (W.drewN nq) g ⟨ad, lv, 1, tk⟩) := hid (H1.out.below (below_drewN (Below.refl _ _) nq))
  have HQ3 : Hid (But g g w (W.drewN nq)) := hid (H3.out.trans (But.of_below (below_drewN (Below.refl _ _) nq)))
  have C3 : (W.drewN nq).cell? ⟨g, 3, none⟩ = some (.int .i64 1) := by simpa using c3
  have F3 : (W.drewN nq).frozen? ⟨g, 3, none⟩ = false := by simpa using f3
  clear H1 H3 c0 c1 c2 c3 c4 f3 f4 d0 d2
  generalize W.drewN nq = W2 at *
  go_wp2
  go_step3
  (try simp only [Exit.inBlock])
  refine And.intro rfl ?_
  (try simp only [])
  go_wp2
  (try rw [Exit.noGoto_ret])
  refine bodyPost_ret (results_none rfl _ _ _) rfl ?_
  exact ⟨rfl, HQ1.out.setS 1, HQ3.out.trans (but_set g 3 _ _)⟩
set_option maxRecDepth 100000 in
set_option maxHeartbeats 600000 in
theorem hgo_1y {w : World} {g : Nat} {x : Ho} (h : IsHo w g x) (r : Re) (he : r.e = 0) (hz : x.st = 1) (hv : r.v = x.tk) :
    Calls Try.prog 25 #[.pointer (some ⟨g, 0, none⟩), reV r] w fun e w' => e = .returned (.tuple #[]) ∧ IsHo w' g { x with st := 2 } ∧ But g g w w' := by
  obtain ⟨h1, h2, h3⟩ := go_frame h r
  have H1 := hid h1
  have H3 := hid h3
  obtain ⟨c0, c1, c2, c3, c4⟩ := h1.hc
  have f3 := h1.free 3
  have f4 := h1.free 4
  have hlt := h.lt
  have hlt1 := h1.lt
  have d0 := cell_of (i := 0) h2 rfl
  have d2 := cell_of (i := 2) h2 rfl
  obtain ⟨rv, ro, re⟩ := r
  obtain ⟨ad, lv, st, tk⟩ := x
  simp only [] at *
  clear h h1 h2 h3
  subst he
  subst hz
  subst hv
  have hb : (rv != rv) = false := by simp
  have hne : g ≠ w.heap.size := by omega
  go_enter Try.func25, Try.ntmps25
  go_wp2
  generalize w.alloc (.cells #[.int .u64 rv, .bool ro, .int .i64 0] 68) = W at *
  refine scope_once 2 rfl ?_
  go_wp2
  go_quiet (fail)
  have HQ1 : Hid (IsHo (W.drewN nq) g ⟨ad, lv, 1, rv⟩) := hid (H1.out.below (below_drewN (Below.refl _ _) nq))
  have HQ3 : Hid (But g g w (W.drewN nq)) := hid (H3.out.trans (But.of_below (below_drewN (Below.refl _ _) nq)))
  have C3 : (W.drewN nq).cell? ⟨g, 3, none⟩ = some (.int .i64 1) := by simpa using c3
  have F3 : (W.drewN nq).frozen? ⟨g, 3, none⟩ = false := by simpa using f3
  clear H1 H3 c0 c1 c2 c3 c4 f3 f4 d0 d2
  generalize W.drewN nq = W2 at *
  go_wp2
  go_step3
  (try simp only [Exit.inBlock])
  refine And.intro rfl ?_
  (try simp only [])
  go_wp2
  (try rw [Exit.noGoto_ret])
  refine bodyPost_ret (results_none rfl _ _ _) rfl ?_
  exact ⟨rfl, HQ1.out.setS 2, HQ3.out.trans (but_set g 3 _ _)⟩
set_option maxRecDepth 100000 in
set_option maxHeartbeats 600000 in
theorem hgo_2 {w : World} {g : Nat} {x : Ho} (h : IsHo w g x) (r : Re) (he : r.e = 0) (h0 : (x.st == 0) = false) (h1 : (x.st == 1) = false) :
    Calls Try.prog 25 #[.pointer (some ⟨g, 0, none⟩), reV r] w fun e w' => e = .returned (.tuple #[]) ∧ IsHo w' g { x with st := 3 } ∧ But g g w w' := by
  obtain ⟨k1, h2, h3⟩ := go_frame h r
  have H1 := hid k1
  have H3 := hid h3
  obtain ⟨c0, c1, c2, c3, c4⟩ := k1.hc
  have f3 := k1.free 3
  have f4 := k1.free 4
  have hlt := h.lt
  have hlt1 := k1.lt
  have d0 := cell_of (i := 0) h2 rfl
  have d2 := cell_of (i := 2) h2 rfl
  obtain ⟨rv, ro, re⟩ := r
  obtain ⟨ad, lv, st, tk⟩ := x
  simp only [] at *
  clear h k1 h2 h3
  subst he
  have hne : g ≠ w.heap.size := by omega
  go_enter Try.func25, Try.ntmps25
  go_wp2
  generalize w.alloc (.cells #[.int .u64 rv, .bool ro, .int .i64 0] 68) = W at *
  refine scope_once 0 rfl ?_
  go_wp2
  go_step3
  (try simp only [Exit.inBlock])
  refine And.intro rfl ?_
  (try simp only [])
  go_wp2
  (try simp only [Exit.noGoto_normal])
  go_end0
  exact ⟨rfl, H1.out.setS 3, H3.out.trans (but_set g 3 _ _)⟩

theorem hgo_at {w : World} {g : Nat} {x : Ho} (h : IsHo w g x) (r : Re) :
    Calls Try.prog 25 #[.pointer (some ⟨g, 0, none⟩), reV r] w fun e w' => e = .returned (.tuple #[]) ∧ IsHo w' g (hGo x r) ∧ But g g w w' := by
  unfold hGo
  by_cases he : r.e = 0
  · rw [if_pos he]
    by_cases h0 : x.st = 0
    · rw [if_pos h0]; exact hgo_0 h r he h0
    · rw [if_neg h0]
      by_cases h1 : x.st = 1
      · rw [if_pos h1]
        by_cases hv : r.v = x.tk
        · rw [if_pos hv]; exact hgo_1y h r he h1 hv
        · rw [if_neg hv]; exact hgo_1n h r he h1 (beq_eq_false_iff_ne.2 hv)
      · rw [if_neg h1]
        exact hgo_2 h r he (beq_eq_false_iff_ne.2 h0) (beq_eq_false_iff_ne.2 h1)
  · rw [if_neg he]; exact hgo_err h r (beq_eq_false_iff_ne.2 he)
end Go.Proofs.Ytidgajjahpbbdaa
