/- What the document's answer for layer 7 leaves of a push behind an act. No conditions. -/
import Derived.Test.YtmglacaikpcjhaaR4
namespace Go.Proofs.Ytmglacaikpcjhaa
open Go.RowKit

set_option maxRecDepth 100000 in
set_option maxHeartbeats 1000000 in
theorem pu0 {w : World} {g : Nat} {ad sz v tp bt rv : Int} {got hs : Bool} (h : IsUs w g ⟨ad, sz, 0, v, 0, tp, bt, got, false, hs⟩) :
    Calls Try.prog 41 #[.pointer (some ⟨g, 0, none⟩), .int .u64 rv] w fun e w' => e = .returned (.tuple #[]) ∧ IsUs w' g ⟨ad, sz, 0, v, 1, tp, rv, got, false, hs⟩ ∧ But g g w w' := by
  have HH := hid h
  have HB := hid (But.refl g g w)
  obtain ⟨c0, c1, c2, c3, c4, c5, c6, c7, c8, c9⟩ := h.uc
  have f3 := h.free 3
  have f4 := h.free 4
  have f5 := h.free 5
  have f6 := h.free 6
  have f7 := h.free 7
  simp only [] at c0 c1 c2 c3 c4 c5 c6 c7 c8 c9
  clear h
  go_enter Try.func41, Try.ntmps41
  go_wp2_with fail
  go_quiet (fail)
  have HH2 := hid ((HH.out.setB rv).below (below_drewN (Below.refl _ _) nq))
  have HB2 := hid ((HB.out.trans (but_set g 6 _ (.int .u64 rv))).trans (but_drewN g _ nq))
  clear HH HB c0 c1 c2 c3 c4 c5 c6 c7 c8 c9 f3 f4 f5 f6 f7
  generalize World.drewN _ nq = W0 at *
  have HH := hid HH2.out
  have HB := hid HB2.out
  clear HH2 HB2
  obtain ⟨c0, c1, c2, c3, c4, c5, c6, c7, c8, c9⟩ := HH.out.uc
  have f3 := HH.out.free 3
  have f4 := HH.out.free 4
  have f5 := HH.out.free 5
  have f6 := HH.out.free 6
  have f7 := HH.out.free 7
  simp only [] at c0 c1 c2 c3 c4 c5 c6 c7 c8 c9
  go_wp2
  first | go_end0 | (refine bodyPost_ret (results_none rfl _ _ _) rfl ?_)
  exact ⟨rfl, (HH.out.setT 1), (HB.out.trans (but_set g 4 _ (.int .i64 1)))⟩
set_option maxRecDepth 100000 in
set_option maxHeartbeats 1000000 in
theorem pu1y {w : World} {g : Nat} {ad sz v tp bt rv : Int} {got hs : Bool} (h : IsUs w g ⟨ad, sz, 0, v, 1, tp, bt, got, false, hs⟩) (hq : sz ≤ difA bt rv) :
    Calls Try.prog 41 #[.pointer (some ⟨g, 0, none⟩), .int .u64 rv] w fun e w' => e = .returned (.tuple #[]) ∧ IsUs w' g ⟨ad, sz, 0, v, 1, tp, bt, got, true, false⟩ ∧ But g g w w' := by
  have HH := hid h
  have HB := hid (But.refl g g w)
  obtain ⟨c0, c1, c2, c3, c4, c5, c6, c7, c8, c9⟩ := h.uc
  have f3 := h.free 3
  have f4 := h.free 4
  have f5 := h.free 5
  have f6 := h.free 6
  have f7 := h.free 7
  simp only [] at c0 c1 c2 c3 c4 c5 c6 c7 c8 c9
  clear h
  have hq1 : sz ≤ wrap64 (IntKind.u64.wrap (bt - rv)) := by rw [dif_w]; exact hq
  clear hq
  have hq2 : decide (sz ≤ wrap64 (IntKind.u64.wrap (bt - rv))) = true := by simpa using hq1
  go_enter Try.func41, Try.ntmps41
  go_wp2_with fail
  go_quiet (fail)
  have HH2 := hid (HH.out.below (below_drewN (Below.refl _ _) nq))
  have HB2 := hid (HB.out.trans (but_drewN g _ nq))
  clear HH HB c0 c1 c2 c3 c4 c5 c6 c7 c8 c9 f3 f4 f5 f6 f7
  generalize World.drewN _ nq = W0 at *
  have HH := hid HH2.out
  have HB := hid HB2.out
  clear HH2 HB2
  obtain ⟨c0, c1, c2, c3, c4, c5, c6, c7, c8, c9⟩ := HH.out.uc
  have f3 := HH.out.free 3
  have f4 := HH.out.free 4
  have f5 := HH.out.free 5
  have f6 := HH.out.free 6
  have f7 := HH.out.free 7
  simp only [] at c0 c1 c2 c3 c4 c5 c6 c7 c8 c9
  go_wp2_with fail
  refine (uend_at HH.out false).mono ?_
  rintro e w21 ⟨rfl, q1, q2⟩
  have HH2 := hid q1
  have HB2 := hid (HB.out.trans q2)
  clear HH HB q1 q2 c0 c1 c2 c3 c4 c5 c6 c7 c8 c9 f3 f4 f5 f6 f7
  have HH := hid HH2.out
  have HB := hid HB2.out
  clear HH2 HB2
  obtain ⟨c0, c1, c2, c3, c4, c5, c6, c7, c8, c9⟩ := HH.out.uc
  have f3 := HH.out.free 3
  have f4 := HH.out.free 4
  have f5 := HH.out.free 5
  have f6 := HH.out.free 6
  have f7 := HH.out.free 7
  simp only [] at c0 c1 c2 c3 c4 c5 c6 c7 c8 c9
  go_wp2
  first | go_end0 | (refine bodyPost_ret (results_none rfl _ _ _) rfl ?_)
  exact ⟨rfl, HH.out, HB.out⟩
set_option maxRecDepth 100000 in
set_option maxHeartbeats 1000000 in
theorem pu1n {w : World} {g : Nat} {ad sz v tp bt rv : Int} {got hs : Bool} (h : IsUs w g ⟨ad, sz, 0, v, 1, tp, bt, got, false, hs⟩) (hq : ¬ sz ≤ difA bt rv) :
    Calls Try.prog 41 #[.pointer (some ⟨g, 0, none⟩), .int .u64 rv] w fun e w' => e = .returned (.tuple #[]) ∧ IsUs w' g ⟨ad, sz, 0, v, 2, tp, bt, got, false, hs⟩ ∧ But g g w w' := by
  have HH := hid h
  have HB := hid (But.refl g g w)
  obtain ⟨c0, c1, c2, c3, c4, c5, c6, c7, c8, c9⟩ := h.uc
  have f3 := h.free 3
  have f4 := h.free 4
  have f5 := h.free 5
  have f6 := h.free 6
  have f7 := h.free 7
  simp only [] at c0 c1 c2 c3 c4 c5 c6 c7 c8 c9
  clear h
  have hq1 : wrap64 (IntKind.u64.wrap (bt - rv)) < sz := by rw [dif_w]; omega
  clear hq
  have hq2 : decide (sz ≤ wrap64 (IntKind.u64.wrap (bt - rv))) = false := by simpa using hq1
  go_enter Try.func41, Try.ntmps41
  go_wp2_with fail
  go_quiet (fail)
  have HH2 := hid (HH.out.below (below_drewN (Below.refl _ _) nq))
  have HB2 := hid (HB.out.trans (but_drewN g _ nq))
  clear HH HB c0 c1 c2 c3 c4 c5 c6 c7 c8 c9 f3 f4 f5 f6 f7
  generalize World.drewN _ nq = W0 at *
  have HH := hid HH2.out
  have HB := hid HB2.out
  clear HH2 HB2
  obtain ⟨c0, c1, c2, c3, c4, c5, c6, c7, c8, c9⟩ := HH.out.uc
  have f3 := HH.out.free 3
  have f4 := HH.out.free 4
  have f5 := HH.out.free 5
  have f6 := HH.out.free 6
  have f7 := HH.out.free 7
  simp only [] at c0 c1 c2 c3 c4 c5 c6 c7 c8 c9
  go_wp2
  first | go_end0 | (refine bodyPost_ret (results_none rfl _ _ _) rfl ?_)
  exact ⟨rfl, (HH.out.setT 2), (HB.out.trans (but_set g 4 _ (.int .i64 2)))⟩
set_option maxRecDepth 100000 in
set_option maxHeartbeats 1000000 in
theorem pu2 {w : World} {g : Nat} {ad sz v tp bt rv : Int} {got hs : Bool} (h : IsUs w g ⟨ad, sz, 0, v, 2, tp, bt, got, false, hs⟩) :
    Calls Try.prog 41 #[.pointer (some ⟨g, 0, none⟩), .int .u64 rv] w fun e w' => e = .returned (.tuple #[]) ∧ IsUs w' g ⟨ad, sz, 0, v, 3, tp, bt, got, false, hs⟩ ∧ But g g w w' := by
  have HH := hid h
  have HB := hid (But.refl g g w)
  obtain ⟨c0, c1, c2, c3, c4, c5, c6, c7, c8, c9⟩ := h.uc
  have f3 := h.free 3
  have f4 := h.free 4
  have f5 := h.free 5
  have f6 := h.free 6
  have f7 := h.free 7
  simp only [] at c0 c1 c2 c3 c4 c5 c6 c7 c8 c9
  clear h
  go_enter Try.func41, Try.ntmps41
  go_wp2_with fail
  go_quiet (fail)
  have HH2 := hid (HH.out.below (below_drewN (Below.refl _ _) nq))
  have HB2 := hid (HB.out.trans (but_drewN g _ nq))
  clear HH HB c0 c1 c2 c3 c4 c5 c6 c7 c8 c9 f3 f4 f5 f6 f7
  generalize World.drewN _ nq = W0 at *
  have HH := hid HH2.out
  have HB := hid HB2.out
  clear HH2 HB2
  obtain ⟨c0, c1, c2, c3, c4, c5, c6, c7, c8, c9⟩ := HH.out.uc
  have f3 := HH.out.free 3
  have f4 := HH.out.free 4
  have f5 := HH.out.free 5
  have f6 := HH.out.free 6
  have f7 := HH.out.free 7
  simp only [] at c0 c1 c2 c3 c4 c5 c6 c7 c8 c9
  go_wp2
  first | go_end0 | (refine bodyPost_ret (results_none rfl _ _ _) rfl ?_)
  exact ⟨rfl, (HH.out.setT 3), (HB.out.trans (but_set g 4 _ (.int .i64 3)))⟩
set_option maxRecDepth 100000 in
set_option maxHeartbeats 1000000 in
theorem pu3 {w : World} {g : Nat} {ad sz v tp bt rv : Int} {got hs : Bool} (h : IsUs w g ⟨ad, sz, 0, v, 3, tp, bt, got, false, hs⟩) :
    Calls Try.prog 41 #[.pointer (some ⟨g, 0, none⟩), .int .u64 rv] w fun e w' => e = .returned (.tuple #[]) ∧ IsUs w' g ⟨ad, sz, 0, v, 4, tp, bt, got, true, true⟩ ∧ But g g w w' := by
  have HH := hid h
  have HB := hid (But.refl g g w)
  obtain ⟨c0, c1, c2, c3, c4, c5, c6, c7, c8, c9⟩ := h.uc
  have f3 := h.free 3
  have f4 := h.free 4
  have f5 := h.free 5
  have f6 := h.free 6
  have f7 := h.free 7
  simp only [] at c0 c1 c2 c3 c4 c5 c6 c7 c8 c9
  clear h
  go_enter Try.func41, Try.ntmps41
  go_wp2_with fail
  go_quiet (fail)
  have HH2 := hid (HH.out.below (below_drewN (Below.refl _ _) nq))
  have HB2 := hid (HB.out.trans (but_drewN g _ nq))
  clear HH HB c0 c1 c2 c3 c4 c5 c6 c7 c8 c9 f3 f4 f5 f6 f7
  generalize World.drewN _ nq = W0 at *
  have HH := hid HH2.out
  have HB := hid HB2.out
  clear HH2 HB2
  obtain ⟨c0, c1, c2, c3, c4, c5, c6, c7, c8, c9⟩ := HH.out.uc
  have f3 := HH.out.free 3
  have f4 := HH.out.free 4
  have f5 := HH.out.free 5
  have f6 := HH.out.free 6
  have f7 := HH.out.free 7
  simp only [] at c0 c1 c2 c3 c4 c5 c6 c7 c8 c9
  go_wp2_with fail
  refine (uend_at (HH.out.setT 4) true).mono ?_
  rintro e w21 ⟨rfl, q1, q2⟩
  have HH2 := hid q1
  have HB2 := hid ((HB.out.trans (but_set g 4 _ (.int .i64 4))).trans q2)
  clear HH HB q1 q2 c0 c1 c2 c3 c4 c5 c6 c7 c8 c9 f3 f4 f5 f6 f7
  have HH := hid HH2.out
  have HB := hid HB2.out
  clear HH2 HB2
  obtain ⟨c0, c1, c2, c3, c4, c5, c6, c7, c8, c9⟩ := HH.out.uc
  have f3 := HH.out.free 3
  have f4 := HH.out.free 4
  have f5 := HH.out.free 5
  have f6 := HH.out.free 6
  have f7 := HH.out.free 7
  simp only [] at c0 c1 c2 c3 c4 c5 c6 c7 c8 c9
  go_wp2
  first | go_end0 | (refine bodyPost_ret (results_none rfl _ _ _) rfl ?_)
  exact ⟨rfl, HH.out, HB.out⟩
end Go.Proofs.Ytmglacaikpcjhaa
