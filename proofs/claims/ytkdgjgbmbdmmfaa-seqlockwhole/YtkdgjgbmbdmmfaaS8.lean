/- What a reader's goOn leaves. Conditions: it is one that Read gave. -/
import Derived.Test.YtkdgjgbmbdmmfaaS6
import Derived.Test.YtkdgjgbmbdmmfaaS7
namespace Go.Proofs.Ytkdgjgbmbdmmfaa
open Go.RowKit

def rGo (r : Rd) (v : Int) : Rd :=
  if r.x.t = 0 then { r with x := { r.x with m := v, t := beginT 0 v } }
  else if r.x.t < 1 + r.x.n then { r with x := { r.x with vs := r.x.vs.set (r.x.t - 1).toNat v, t := r.x.t + 1 } }
  else if v = r.x.m then { r with d := true, x := { r.x with t := r.x.t + 1 } }
  else { r with x := { r.x with t := 0 } }

theorem IsRd.beginW {w : World} {g : Nat} {r : Rd} (h : IsRd w g r) (hz : r.x.t = 0) (v : Int) :
    IsRd (if v % 2 = 0 then (w.setCell ⟨g, 4, none⟩ (.int .u64 v)).setCell ⟨g, 2, none⟩ (.int .i64 (r.x.t + 1)) else w.setCell ⟨g, 4, none⟩ (.int .u64 v)) g { r with x := { r.x with m := v, t := beginT 0 v } } ∧
    But g g w (if v % 2 = 0 then (w.setCell ⟨g, 4, none⟩ (.int .u64 v)).setCell ⟨g, 2, none⟩ (.int .i64 (r.x.t + 1)) else w.setCell ⟨g, 4, none⟩ (.int .u64 v)) := by
  unfold beginT
  by_cases hv : v % 2 = 0
  · simp only [if_pos hv]
    refine ⟨?_, (but_set g 4 w _).trans (but_set g 2 _ _)⟩
    have := (h.setM v).setT (r.x.t + 1)
    rw [hz] at this ⊢
    exact this
  · simp only [if_neg hv]
    refine ⟨?_, but_set g 4 w _⟩
    have := h.setM v
    rw [← hz]
    exact this

set_option maxRecDepth 100000 in
set_option maxHeartbeats 600000 in
theorem rgo_0 {w : World} {g : Nat} {r : Rd} (h : IsRd w g r) (v : Int) (hz : r.x.t = 0) (hv0 : 0 ≤ v) (hv1 : v ≤ 18446744073709551615) :
    Calls Try.prog 28 #[.pointer (some ⟨g, 0, none⟩), .int .u64 v] w fun e w' => e = .returned (.tuple #[]) ∧ IsRd w' g { r with x := { r.x with m := v, t := beginT 0 v } } ∧ But g g w w' := by
  have HR := hid h
  have HZ := hid hz
  have HX := hid (h.beginW hz v)
  have hlt := h.lt
  have c2 := h.pc.c2
  rw [hz] at c2
  generalize ({ r with x := { r.x with m := v, t := beginT 0 v } } : Rd) = r' at HX ⊢
  clear h hz
  go_enter Try.func28, Try.ntmps28
  go_wp2_with fail
  refine (pBegin_at _ g r.x.t r.x.m v HR.out.pc.c2 (HR.out.free 2) HR.out.pc.c4 (HR.out.free 4) (by rw [HZ.out]; decide) (by rw [HZ.out]; decide) hv0 hv1).mono ?_
  rintro e w2 ⟨rfl, hw2⟩
  rw [← hw2] at HX
  clear hw2
  go_wp2
  go_end0
  exact ⟨rfl, HX.out⟩

set_option maxRecDepth 100000 in
set_option maxHeartbeats 600000 in
theorem rgo_val {w : World} {g : Nat} {r : Rd} (h : IsRd w g r) (v : Int) (i : Nat) (hz : r.x.t = 1 + (i : Int)) (hn : (i : Int) < r.x.n) (hn1 : r.x.n ≤ 16) :
    Calls Try.prog 28 #[.pointer (some ⟨g, 0, none⟩), .int .u64 v] w fun e w' => e = .returned (.tuple #[]) ∧ IsRd w' g { r with x := { r.x with vs := r.x.vs.set i v, t := 1 + (i : Int) + 1 } } ∧ But g g w w' := by
  have HR := hid h
  have hlt := h.lt
  have c2 := h.pc.c2
  have c1 := h.pc.c1
  have cv := h.val i (by omega)
  have f2 := h.free 2
  have fv := h.free (5 + i)
  rw [hz] at c2
  generalize r.x.n = n at *
  generalize r.x.vs.getD i 0 = v0 at cv
  clear h hz
  have hi0 : (0 : Int) ≤ (i : Int) := by omega
  have hi16 : (i : Int) < 16 := by omega
  have hw1 : IntKind.i64.wrap (1 + n) = 1 + n := i64w (by omega) (by omega)
  have hw2 : 1 + (i : Int) - 1 = (i : Int) := by omega
  have hw3 : IntKind.i64.wrap (i : Int) = (i : Int) := i64w (by omega) (by omega)
  have hw4 : IntKind.i64.wrap (1 + (i : Int)) = 1 + (i : Int) := i64w (by omega) (by omega)
  have hb : decide (1 + (i : Int) < 1 + n) = true := by simp; omega
  have hb0 : (1 + (i : Int) == 0) = false := beq_eq_false_iff_ne.2 (by omega)
  go_enter Try.func28, Try.ntmps28
  go_wp2
  go_quiet (fail)
  have HR2 : Hid (IsRd (w.drewN nq) g r) := hid (HR.out.keep (by simp))
  have HB2 : Hid (Below w.heap.size w (w.drewN nq)) := hid (below_drewN (Below.refl _ _) nq)
  have hlt2 := HR2.out.lt
  have C2 : (w.drewN nq).cell? ⟨g, 2, none⟩ = some (.int .i64 (1 + (i : Int))) := by simpa using c2
  have CV : (w.drewN nq).cell? ⟨g, 5 + i, none⟩ = some (.int .u64 v0) := by simpa using cv
  have F2 : (w.drewN nq).frozen? ⟨g, 2, none⟩ = false := by simpa using f2
  have FV : (w.drewN nq).frozen? ⟨g, 5 + i, none⟩ = false := by simpa using fv
  clear c1 c2 cv f2 fv
  generalize w.drewN nq = w2 at *
  go_wp2
  go_region
  have hr3 : IsRd (w2.setCell ⟨g, 5 + i, none⟩ (.int .u64 v)).drew g { r with x := { r.x with vs := r.x.vs.set i v } } := HR2.out.setV i (by omega) v
  have HR3 := hid hr3
  have HB3 : Hid (But g g w (w2.setCell ⟨g, 5 + i, none⟩ (.int .u64 v)).drew) := hid (((But.of_below HB2.out).trans (but_set g (5 + i) w2 (.int .u64 v))).trans (But.of_below (Below.refl _ _).drew))
  have c2 := hr3.pc.c2
  have f2 := hr3.free 2
  have D2 : (w2.setCell ⟨g, 5 + i, none⟩ (.int .u64 v)).drew.cell? ⟨g, 2, none⟩ = some (.int .i64 (1 + (i : Int))) := by
    have : (w2.setCell ⟨g, 5 + i, none⟩ (.int .u64 v)).drew.cell? ⟨g, 2, none⟩ = w2.cell? ⟨g, 2, none⟩ := by
      rw [hr3.pc.c2, HR2.out.pc.c2]
    rw [this]; exact C2
  clear C2 CV F2 FV hr3 c2
  generalize (w2.setCell ⟨g, 5 + i, none⟩ (.int .u64 v)).drew = w3 at *
  go_wp2
  go_end0
  refine ⟨rfl, ?_, HB3.out.trans (but_set g 2 _ _)⟩
  exact HR3.out.setT _

set_option maxRecDepth 100000 in
set_option maxHeartbeats 600000 in
theorem rgo_same {w : World} {g : Nat} {r : Rd} (h : IsRd w g r) (hz : r.x.t = 1 + r.x.n) (hn : 1 ≤ r.x.n) (hn1 : r.x.n ≤ 16) :
    Calls Try.prog 28 #[.pointer (some ⟨g, 0, none⟩), .int .u64 r.x.m] w fun e w' => e = .returned (.tuple #[]) ∧ IsRd w' g { r with d := true, x := { r.x with t := 1 + r.x.n + 1 } } ∧ But g g w w' := by
  have HR := hid h
  have hlt := h.lt
  have c2 := h.pc.c2
  have c1 := h.pc.c1
  have c4 := h.pc.c4
  have cd := h.whole
  have f2 := h.free 2
  have fd := h.free 22
  rw [hz] at c2
  have hfin : ∀ (m : Nat) (a : Int), IsRd (((w.drewN m).setCell ⟨g, 22, none⟩ (.bool true)).setCell ⟨g, 2, none⟩ (.int .i64 a)) g { r with d := true, x := { r.x with t := a } } ∧ But g g w (((w.drewN m).setCell ⟨g, 22, none⟩ (.bool true)).setCell ⟨g, 2, none⟩ (.int .i64 a)) := fun m a =>
    ⟨((h.keep (w' := w.drewN m) (by simp)).setD true).setT a, (But.of_below (below_drewN (Below.refl _ _) m)).trans ((but_set g 22 _ _).trans (but_set g 2 _ _))⟩
  have HF := hid hfin
  clear hfin
  generalize r.x.m = m at *
  generalize r.x.n = n at *
  clear h hz HR
  have hw1 : IntKind.i64.wrap (1 + n) = 1 + n := i64w (by omega) (by omega)
  have hb : decide (1 + n < 1 + n) = false := by simp
  have hb0 : (1 + n == 0) = false := beq_eq_false_iff_ne.2 (by omega)
  have hm : (m == m) = true := by simp
  go_enter Try.func28, Try.ntmps28
  go_wp2
  go_quiet (fail)
  go_wp2
  go_end0
  exact ⟨rfl, HF.out _ _⟩

set_option maxRecDepth 100000 in
set_option maxHeartbeats 600000 in
theorem rgo_anew {w : World} {g : Nat} {r : Rd} (h : IsRd w g r) (v : Int) (hz : r.x.t = 1 + r.x.n) (hm : (v == r.x.m) = false) (hn : 1 ≤ r.x.n) (hn1 : r.x.n ≤ 16) :
    Calls Try.prog 28 #[.pointer (some ⟨g, 0, none⟩), .int .u64 v] w fun e w' => e = .returned (.tuple #[]) ∧ IsRd w' g { r with x := { r.x with t := 0 } } ∧ But g g w w' := by
  have HR := hid h
  have hlt := h.lt
  have c2 := h.pc.c2
  have c1 := h.pc.c1
  have c4 := h.pc.c4
  have f2 := h.free 2
  rw [hz] at c2
  generalize r.x.m = m at *
  generalize r.x.n = n at *
  clear h hz
  have hw1 : IntKind.i64.wrap (1 + n) = 1 + n := i64w (by omega) (by omega)
  have hb : decide (1 + n < 1 + n) = false := by simp
  have hb0 : (1 + n == 0) = false := beq_eq_false_iff_ne.2 (by omega)
  go_enter Try.func28, Try.ntmps28
  go_wp2
  go_quiet (fail)
  have HR2 : Hid (IsRd (w.drewN nq) g r) := hid (HR.out.keep (by simp))
  have HB2 : Hid (But g g w (w.drewN nq)) := hid (But.of_below (below_drewN (Below.refl _ _) nq))
  have C4 : (w.drewN nq).cell? ⟨g, 4, none⟩ = some (.int .u64 m) := by simpa using c4
  have hlt2 := HR2.out.lt
  clear c1 c2 c4 f2
  generalize w.drewN nq = w2 at *
  go_wp2_with fail
  refine (pAnew_at _ g r.x.t HR2.out.pc.c2 (HR2.out.free 2)).mono ?_
  rintro e w3 ⟨rfl, hw3⟩
  have HX : Hid (IsRd w3 g { r with x := { r.x with t := 0 } } ∧ But g g w w3) := by
    rw [hw3]
    exact ⟨HR2.out.setT 0, HB2.out.trans (but_set g 2 _ _)⟩
  clear hw3
  go_wp2
  go_end0
  exact ⟨rfl, HX.out⟩

theorem rgo_at {w : World} {g : Nat} {r : Rd} (h : IsRd w g r) (v : Int) (ok : ROk r.x) (hd : r.x.t ≠ r.x.e) (hv0 : 0 ≤ v) (hv1 : v ≤ 18446744073709551615) :
    Calls Try.prog 28 #[.pointer (some ⟨g, 0, none⟩), .int .u64 v] w fun e w' => e = .returned (.tuple #[]) ∧ IsRd w' g (rGo r v) ∧ But g g w w' := by
  obtain ⟨a0, a1, n0, n1, t0, t1, he⟩ := ok
  unfold rGo
  by_cases hz : r.x.t = 0
  · rw [if_pos hz]
    exact rgo_0 h v hz hv0 hv1
  · rw [if_neg hz]
    by_cases hl : r.x.t < 1 + r.x.n
    · rw [if_pos hl]
      obtain ⟨i, hi⟩ := Int.eq_ofNat_of_zero_le (show 0 ≤ r.x.t - 1 by omega)
      have := rgo_val h v i (by omega) (by omega) n1
      have e1 : (r.x.t - 1).toNat = i := by omega
      have e2 : r.x.t + 1 = 1 + (i : Int) + 1 := by omega
      rw [e1, e2]
      exact this
    · rw [if_neg hl]
      have ht : r.x.t = 1 + r.x.n := by omega
      by_cases hm : v = r.x.m
      · rw [if_pos hm, hm, ht]
        exact rgo_same h ht n0 n1
      · rw [if_neg hm]
        exact rgo_anew h v ht (beq_eq_false_iff_ne.2 hm) n0 n1
end Go.Proofs.Ytkdgjgbmbdmmfaa
