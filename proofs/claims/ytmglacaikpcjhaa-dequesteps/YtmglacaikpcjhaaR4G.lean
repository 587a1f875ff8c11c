/- What the document's answer for layer 7 leaves of a pop behind an act. No conditions. -/
import Derived.Test.YtmglacaikpcjhaaR4
namespace Go.Proofs.Ytmglacaikpcjhaa
open Go.RowKit

set_option maxRecDepth 100000 in
set_option maxHeartbeats 1000000 in
theorem po0 {w : World} {g : Nat} {ad sz v tp bt rv : Int} {got hs ro : Bool} (h : IsUs w g ⟨ad, sz, 1, v, 0, tp, bt, got, false, hs⟩) :
    Calls Try.prog 42 #[.pointer (some ⟨g, 0, none⟩), .int .u64 rv, .bool ro] w fun e w' => e = .returned (.tuple #[]) ∧ IsUs w' g ⟨ad, sz, 1, v, 1, tp, dec64 rv, got, false, hs⟩ ∧ But g g w w' := by
  have HH := hid h
  have HB := hid (But.refl g g w)
  obtain ⟨c0, c1, c2, c3, c4, c5, c6, c7, c8, c9⟩ := h.uc
  have f3 := h.free 3
  have f4 := h.free 4
  have f5 := h.free 5
  have f6 := h.free 6
  have f7 := h.free 7
  simp only [] at c0 c1 c2 c3 c4 c5 c6 c7 c8 c9
  clear h
  go_enter Try.func42, Try.ntmps42
  go_wp2
  first | go_end0 | (refine bodyPost_ret (results_none rfl _ _ _) rfl ?_)
  exact ⟨rfl, ((HH.out.setB (dec64 rv)).setT 1), ((HB.out.trans (but_set g 6 _ (.int .u64 (dec64 rv)))).trans (but_set g 4 _ (.int .i64 1)))⟩
set_option maxRecDepth 100000 in
set_option maxHeartbeats 1000000 in
theorem po1 {w : World} {g : Nat} {ad sz v tp bt rv : Int} {got hs ro : Bool} (h : IsUs w g ⟨ad, sz, 1, v, 1, tp, bt, got, false, hs⟩) :
    Calls Try.prog 42 #[.pointer (some ⟨g, 0, none⟩), .int .u64 rv, .bool ro] w fun e w' => e = .returned (.tuple #[]) ∧ IsUs w' g ⟨ad, sz, 1, v, 2, tp, bt, got, false, hs⟩ ∧ But g g w w' := by
  have HH := hid h
  have HB := hid (But.refl g g w)
  obtain ⟨c0, c1, c2, c3, c4, c5, c6, c7, c8, c9⟩ := h.uc
  have f3 := h.free 3
  have f4 := h.free 4
  have f5 := h.free 5
  have f6 := h.free 6
  have f7 := h.free 7
  simp only [] at c0 c1 c2 c3 c4 c5 c6 c7 c8 c9
  clear h
  go_enter Try.func42, Try.ntmps42
  go_wp2
  first | go_end0 | (refine bodyPost_ret (results_none rfl _ _ _) rfl ?_)
  exact ⟨rfl, (HH.out.setT 2), (HB.out.trans (but_set g 4 _ (.int .i64 2)))⟩
set_option maxRecDepth 100000 in
set_option maxHeartbeats 1000000 in
theorem po2y {w : World} {g : Nat} {ad sz v tp bt rv : Int} {got hs ro : Bool} (h : IsUs w g ⟨ad, sz, 1, v, 2, tp, bt, got, false, hs⟩) (hq : 0 < difA rv bt) :
    Calls Try.prog 42 #[.pointer (some ⟨g, 0, none⟩), .int .u64 rv, .bool ro] w fun e w' => e = .returned (.tuple #[]) ∧ IsUs w' g ⟨ad, sz, 1, v, 5, rv, bt, got, false, hs⟩ ∧ But g g w w' := by
  have HH := hid h
  have HB := hid (But.refl g g w)
  obtain ⟨c0, c1, c2, c3, c4, c5, c6, c7, c8, c9⟩ := h.uc
  have f3 := h.free 3
  have f4 := h.free 4
  have f5 := h.free 5
  have f6 := h.free 6
  have f7 := h.free 7
  simp only [] at c0 c1 c2 c3 c4 c5 c6 c7 c8 c9
  clear h
  have hq1 : 0 < wrap64 (IntKind.u64.wrap (rv - bt)) := by rw [dif_w]; exact hq
  clear hq
  go_enter Try.func42, Try.ntmps42
  go_wp2
  first | go_end0 | (refine bodyPost_ret (results_none rfl _ _ _) rfl ?_)
  exact ⟨rfl, (((HH.out.setP rv).setT 3).setT 5), (((HB.out.trans (but_set g 5 _ (.int .u64 rv))).trans (but_set g 4 _ (.int .i64 3))).trans (but_set g 4 _ (.int .i64 5)))⟩
set_option maxRecDepth 100000 in
set_option maxHeartbeats 1000000 in
theorem po2n {w : World} {g : Nat} {ad sz v tp bt rv : Int} {got hs ro : Bool} (h : IsUs w g ⟨ad, sz, 1, v, 2, tp, bt, got, false, hs⟩) (hq : ¬ 0 < difA rv bt) :
    Calls Try.prog 42 #[.pointer (some ⟨g, 0, none⟩), .int .u64 rv, .bool ro] w fun e w' => e = .returned (.tuple #[]) ∧ IsUs w' g ⟨ad, sz, 1, v, 3, rv, bt, got, false, hs⟩ ∧ But g g w w' := by
  have HH := hid h
  have HB := hid (But.refl g g w)
  obtain ⟨c0, c1, c2, c3, c4, c5, c6, c7, c8, c9⟩ := h.uc
  have f3 := h.free 3
  have f4 := h.free 4
  have f5 := h.free 5
  have f6 := h.free 6
  have f7 := h.free 7
  simp only [] at c0 c1 c2 c3 c4 c5 c6 c7 c8 c9
  clear h
  have hq1 : wrap64 (IntKind.u64.wrap (rv - bt)) ≤ 0 := by rw [dif_w]; omega
  clear hq
  go_enter Try.func42, Try.ntmps42
  go_wp2
  first | go_end0 | (refine bodyPost_ret (results_none rfl _ _ _) rfl ?_)
  exact ⟨rfl, ((HH.out.setP rv).setT 3), ((HB.out.trans (but_set g 5 _ (.int .u64 rv))).trans (but_set g 4 _ (.int .i64 3)))⟩
set_option maxRecDepth 100000 in
set_option maxHeartbeats 1000000 in
theorem po3y {w : World} {g : Nat} {ad sz v tp bt rv : Int} {got hs ro : Bool} (h : IsUs w g ⟨ad, sz, 1, v, 3, tp, bt, got, false, hs⟩) (hq : difA tp bt < 0) :
    Calls Try.prog 42 #[.pointer (some ⟨g, 0, none⟩), .int .u64 rv, .bool ro] w fun e w' => e = .returned (.tuple #[]) ∧ IsUs w' g ⟨ad, sz, 1, rv, 4, tp, bt, got, true, true⟩ ∧ But g g w w' := by
  have HH := hid h
  have HB := hid (But.refl g g w)
  obtain ⟨c0, c1, c2, c3, c4, c5, c6, c7, c8, c9⟩ := h.uc
  have f3 := h.free 3
  have f4 := h.free 4
  have f5 := h.free 5
  have f6 := h.free 6
  have f7 := h.free 7
  simp only [] at c0 c1 c2 c3 c4 c5 c6 c7 c8 c9
  clear h
  have hq1 : wrap64 (IntKind.u64.wrap (tp - bt)) < 0 := by rw [dif_w]; exact hq
  clear hq
  go_enter Try.func42, Try.ntmps42
  go_wp2_with fail
  go_quiet (fail)
  have HH2 := hid (((HH.out.setV rv).setT 4).below (below_drewN (Below.refl _ _) nq))
  have HB2 := hid (((HB.out.trans (but_set g 3 _ (.int .u64 rv))).trans (but_set g 4 _ (.int .i64 4))).trans (but_drewN g _ nq))
  clear HH HB c0 c1 c2 c3 c4 c5 c6 c7 c8 c9 f3 f4 f5 f6 f7
  generalize World.drewN _ nq = W0 at *
  have HH := hid HH2.out
  have HB := hid HB2.out
  clear HH2 HB2
  obtain ⟨c0, c1, c2, c3, c4, c5, c6, c7, c8, c9⟩ := HH.out.uc
  have f3 := HH.out.free 3
  have f4 := HH.out.free 4
  have f5 := HH.out.free 5
  have f6 := HH.out.free 6
  have f7 := HH.out.free 7
  simp only [] at c0 c1 c2 c3 c4 c5 c6 c7 c8 c9
  go_wp2_with fail
  refine (uend_at HH.out true).mono ?_
  rintro e w21 ⟨rfl, q1, q2⟩
  have HH2 := hid q1
  have HB2 := hid (HB.out.trans q2)
  clear HH HB q1 q2 c0 c1 c2 c3 c4 c5 c6 c7 c8 c9 f3 f4 f5 f6 f7
  have HH := hid HH2.out
  have HB := hid HB2.out
  clear HH2 HB2
  obtain ⟨c0, c1, c2, c3, c4, c5, c6, c7, c8, c9⟩ := HH.out.uc
  have f3 := HH.out.free 3
  have f4 := HH.out.free 4
  have f5 := HH.out.free 5
  have f6 := HH.out.free 6
  have f7 := HH.out.free 7
  simp only [] at c0 c1 c2 c3 c4 c5 c6 c7 c8 c9
  go_wp2
  first | go_end0 | (refine bodyPost_ret (results_none rfl _ _ _) rfl ?_)
  exact ⟨rfl, HH.out, HB.out⟩
set_option maxRecDepth 100000 in
set_option maxHeartbeats 1000000 in
theorem po3n {w : World} {g : Nat} {ad sz v tp bt rv : Int} {got hs ro : Bool} (h : IsUs w g ⟨ad, sz, 1, v, 3, tp, bt, got, false, hs⟩) (hq : ¬ difA tp bt < 0) :
    Calls Try.prog 42 #[.pointer (some ⟨g, 0, none⟩), .int .u64 rv, .bool ro] w fun e w' => e = .returned (.tuple #[]) ∧ IsUs w' g ⟨ad, sz, 1, rv, 4, tp, bt, got, false, hs⟩ ∧ But g g w w' := by
  have HH := hid h
  have HB := hid (But.refl g g w)
  obtain ⟨c0, c1, c2, c3, c4, c5, c6, c7, c8, c9⟩ := h.uc
  have f3 := h.free 3
  have f4 := h.free 4
  have f5 := h.free 5
  have f6 := h.free 6
  have f7 := h.free 7
  simp only [] at c0 c1 c2 c3 c4 c5 c6 c7 c8 c9
  clear h
  have hq1 : 0 ≤ wrap64 (IntKind.u64.wrap (tp - bt)) := by rw [dif_w]; omega
  clear hq
  go_enter Try.func42, Try.ntmps42
  go_wp2_with fail
  go_quiet (fail)
  have HH2 := hid (((HH.out.setV rv).setT 4).below (below_drewN (Below.refl _ _) nq))
  have HB2 := hid (((HB.out.trans (but_set g 3 _ (.int .u64 rv))).trans (but_set g 4 _ (.int .i64 4))).trans (but_drewN g _ nq))
  clear HH HB c0 c1 c2 c3 c4 c5 c6 c7 c8 c9 f3 f4 f5 f6 f7
  generalize World.drewN _ nq = W0 at *
  have HH := hid HH2.out
  have HB := hid HB2.out
  clear HH2 HB2
  obtain ⟨c0, c1, c2, c3, c4, c5, c6, c7, c8, c9⟩ := HH.out.uc
  have f3 := HH.out.free 3
  have f4 := HH.out.free 4
  have f5 := HH.out.free 5
  have f6 := HH.out.free 6
  have f7 := HH.out.free 7
  simp only [] at c0 c1 c2 c3 c4 c5 c6 c7 c8 c9
  go_wp2
  first | go_end0 | (refine bodyPost_ret (results_none rfl _ _ _) rfl ?_)
  exact ⟨rfl, HH.out, HB.out⟩
set_option maxRecDepth 100000 in
set_option maxHeartbeats 1000000 in
theorem po4 {w : World} {g : Nat} {ad sz v tp bt rv : Int} {got hs ro : Bool} (h : IsUs w g ⟨ad, sz, 1, v, 4, tp, bt, got, false, hs⟩) :
    Calls Try.prog 42 #[.pointer (some ⟨g, 0, none⟩), .int .u64 rv, .bool ro] w fun e w' => e = .returned (.tuple #[]) ∧ IsUs w' g ⟨ad, sz, 1, v, 5, tp, bt, ro, false, hs⟩ ∧ But g g w w' := by
  have HH := hid h
  have HB := hid (But.refl g g w)
  obtain ⟨c0, c1, c2, c3, c4, c5, c6, c7, c8, c9⟩ := h.uc
  have f3 := h.free 3
  have f4 := h.free 4
  have f5 := h.free 5
  have f6 := h.free 6
  have f7 := h.free 7
  simp only [] at c0 c1 c2 c3 c4 c5 c6 c7 c8 c9
  clear h
  go_enter Try.func42, Try.ntmps42
  go_wp2
  first | go_end0 | (refine bodyPost_ret (results_none rfl _ _ _) rfl ?_)
  exact ⟨rfl, ((HH.out.setG ro).setT 5), ((HB.out.trans (but_set g 7 _ (.bool ro))).trans (but_set g 4 _ (.int .i64 5)))⟩
set_option maxRecDepth 100000 in
set_option maxHeartbeats 1000000 in
theorem po5 {w : World} {g : Nat} {ad sz v tp bt rv : Int} {got hs ro : Bool} (h : IsUs w g ⟨ad, sz, 1, v, 5, tp, bt, got, false, hs⟩) :
    Calls Try.prog 42 #[.pointer (some ⟨g, 0, none⟩), .int .u64 rv, .bool ro] w fun e w' => e = .returned (.tuple #[]) ∧ IsUs w' g ⟨ad, sz, 1, v, 5, tp, bt, got, true, got⟩ ∧ But g g w w' := by
  have HH := hid h
  have HB := hid (But.refl g g w)
  obtain ⟨c0, c1, c2, c3, c4, c5, c6, c7, c8, c9⟩ := h.uc
  have f3 := h.free 3
  have f4 := h.free 4
  have f5 := h.free 5
  have f6 := h.free 6
  have f7 := h.free 7
  simp only [] at c0 c1 c2 c3 c4 c5 c6 c7 c8 c9
  clear h
  go_enter Try.func42, Try.ntmps42
  go_wp2_with fail
  refine (uend_at HH.out got).mono ?_
  rintro e w20 ⟨rfl, q1, q2⟩
  have HH2 := hid q1
  have HB2 := hid (HB.out.trans q2)
  clear HH HB q1 q2 c0 c1 c2 c3 c4 c5 c6 c7 c8 c9 f3 f4 f5 f6 f7
  have HH := hid HH2.out
  have HB := hid HB2.out
  clear HH2 HB2
  obtain ⟨c0, c1, c2, c3, c4, c5, c6, c7, c8, c9⟩ := HH.out.uc
  have f3 := HH.out.free 3
  have f4 := HH.out.free 4
  have f5 := HH.out.free 5
  have f6 := HH.out.free 6
  have f7 := HH.out.free 7
  simp only [] at c0 c1 c2 c3 c4 c5 c6 c7 c8 c9
  go_wp2
  first | go_end0 | (refine bodyPost_ret (results_none rfl _ _ _) rfl ?_)
  exact ⟨rfl, HH.out, HB.out⟩
end Go.Proofs.Ytmglacaikpcjhaa
