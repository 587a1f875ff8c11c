/- What the document's answer for layer 7 tells of a task's next act: a steal. Conditions: the deque is one that can be. -/
import Derived.Test.YtmglacaikpcjhaaR3
namespace Go.Proofs.Ytmglacaikpcjhaa
open Go.RowKit

set_option maxRecDepth 100000 in
set_option maxHeartbeats 1000000 in
theorem un_s0 {w : World} {g : Nat} {ad sz v tp bt : Int} {got hs : Bool} (h : IsUs w g ⟨ad, sz, 2, v, 0, tp, bt, got, false, hs⟩) (ok : UOk ⟨ad, sz, 2, v, 0, tp, bt, got, false, hs⟩) :
    Calls Try.prog 35 #[.pointer (some ⟨g, 0, none⟩)] w fun e w' => e = .returned (acV ⟨1, ad, 0, 0⟩) ∧ Below w.heap.size w w' := by
  have H0 := hid (UL.first h)
  have hlt := h.lt
  obtain ⟨sb0, sb1⟩ := slot_bounds tp ok.q
  obtain ⟨⟨qa0, qa1, qs0, qs1⟩, p0, p1, b0, b1, _⟩ := ok
  simp only [] at qa0 qa1 qs0 qs1 sb0 sb1 p0 p1 b0 b1
  clear h
  obtain ⟨c0, c1, c2, c3, c4, c5, c6, c7, c8, c9⟩ := H0.out.us.uc
  obtain ⟨ra, rb, rc, rd, hr4⟩ := H0.out.r4
  obtain ⟨d0, d1, d2, d3, f0, f1, f2, f3⟩ := there4_of hr4
  clear hr4
  simp only [] at c0 c1 c2 c3 c4 c5 c6 c7 c8 c9
  generalize slotA ad sz tp = sl at *
  have hne : g ≠ w.heap.size := by omega
  go_enter Try.func35, Try.ntmps35
  go_upto_region 1 with fail
  generalize w.alloc (.cells z4 48) = W at *
  have hB4 := H0.out.bel
  obtain ⟨_, _, _, _, hg4⟩ := H0.out.r4
  have HG4 := hid hg4
  have HB4 := hid hB4
  clear hB4 hg4
  go_wp2
  (try simp only [Exit.inBlock, Exit.then])
  refine bodyPost_ret (results_cell_row rfl _ _ w.heap.size 48 _ (0, 0) _ rfl (put4 HG4.out _ _ _ _) Try.underlying48 rfl size48) rfl ?_
  exact ⟨rfl, below_put4 HB4.out _ _ _ _⟩
set_option maxRecDepth 100000 in
set_option maxHeartbeats 1000000 in
theorem un_s1 {w : World} {g : Nat} {ad sz v tp bt : Int} {got hs : Bool} (h : IsUs w g ⟨ad, sz, 2, v, 1, tp, bt, got, false, hs⟩) (ok : UOk ⟨ad, sz, 2, v, 1, tp, bt, got, false, hs⟩) :
    Calls Try.prog 35 #[.pointer (some ⟨g, 0, none⟩)] w fun e w' => e = .returned (acV ⟨1, ad + 1, 0, 0⟩) ∧ Below w.heap.size w w' := by
  have H0 := hid (UL.first h)
  have hlt := h.lt
  obtain ⟨sb0, sb1⟩ := slot_bounds tp ok.q
  obtain ⟨⟨qa0, qa1, qs0, qs1⟩, p0, p1, b0, b1, _⟩ := ok
  simp only [] at qa0 qa1 qs0 qs1 sb0 sb1 p0 p1 b0 b1
  clear h
  obtain ⟨c0, c1, c2, c3, c4, c5, c6, c7, c8, c9⟩ := H0.out.us.uc
  obtain ⟨ra, rb, rc, rd, hr4⟩ := H0.out.r4
  obtain ⟨d0, d1, d2, d3, f0, f1, f2, f3⟩ := there4_of hr4
  clear hr4
  simp only [] at c0 c1 c2 c3 c4 c5 c6 c7 c8 c9
  generalize slotA ad sz tp = sl at *
  have hne : g ≠ w.heap.size := by omega
  go_enter Try.func35, Try.ntmps35
  go_upto_region 1 with fail
  generalize w.alloc (.cells z4 48) = W at *
  have hB4 := H0.out.bel
  obtain ⟨_, _, _, _, hg4⟩ := H0.out.r4
  have HG4 := hid hg4
  have HB4 := hid hB4
  clear hB4 hg4
  go_wp2
  (try simp only [Exit.inBlock, Exit.then])
  refine bodyPost_ret (results_cell_row rfl _ _ w.heap.size 48 _ (0, 0) _ rfl (put4 HG4.out _ _ _ _) Try.underlying48 rfl size48) rfl ?_
  exact ⟨rfl, below_put4 HB4.out _ _ _ _⟩
set_option maxRecDepth 100000 in
set_option maxHeartbeats 1000000 in
theorem un_s2 {w : World} {g : Nat} {ad sz v tp bt : Int} {got hs : Bool} (h : IsUs w g ⟨ad, sz, 2, v, 2, tp, bt, got, false, hs⟩) (ok : UOk ⟨ad, sz, 2, v, 2, tp, bt, got, false, hs⟩) :
    Calls Try.prog 35 #[.pointer (some ⟨g, 0, none⟩)] w fun e w' => e = .returned (acV ⟨1, slotA ad sz tp, 0, 0⟩) ∧ Below w.heap.size w w' := by
  have H0 := hid (UL.first h)
  have HU : Hid (∀ {w' : World}, Below w.heap.size w w' → Calls Try.prog 48 #[.pointer (some ⟨g, 0, none⟩), .int .u64 tp] w' fun e w'' => e = .returned (.int .i64 (slotA ad sz tp)) ∧ ∃ m, w'' = w'.drewN m) := hid (fun K => uslot_at (h.below K) ok.q ok.p0 ok.p1)
  have hlt := h.lt
  obtain ⟨sb0, sb1⟩ := slot_bounds tp ok.q
  obtain ⟨⟨qa0, qa1, qs0, qs1⟩, p0, p1, b0, b1, _⟩ := ok
  simp only [] at qa0 qa1 qs0 qs1 sb0 sb1 p0 p1 b0 b1
  clear h
  obtain ⟨c0, c1, c2, c3, c4, c5, c6, c7, c8, c9⟩ := H0.out.us.uc
  obtain ⟨ra, rb, rc, rd, hr4⟩ := H0.out.r4
  obtain ⟨d0, d1, d2, d3, f0, f1, f2, f3⟩ := there4_of hr4
  clear hr4
  simp only [] at c0 c1 c2 c3 c4 c5 c6 c7 c8 c9
  generalize slotA ad sz tp = sl at *
  have hne : g ≠ w.heap.size := by omega
  go_enter Try.func35, Try.ntmps35
  go_upto_region 1 with fail
  generalize w.alloc (.cells z4 48) = W at *
  go_wp2_with fail
  refine (HU.out H0.out.bel).mono ?_
  rintro e3 w3 ⟨rfl, m3, hm3⟩
  have H3 := hid (H0.out.below (by rw [hm3]; exact below_drewN (Below.refl _ _) m3 : Below W.heap.size W w3))
  clear hm3 c0 c1 c2 c3 c4 c5 c6 c7 c8 c9 d0 d1 d2 d3 f0 f1 f2 f3 H0
  obtain ⟨c0, c1, c2, c3, c4, c5, c6, c7, c8, c9⟩ := H3.out.us.uc
  obtain ⟨ra, rb, rc, rd, hr4⟩ := H3.out.r4
  obtain ⟨d0, d1, d2, d3, f0, f1, f2, f3⟩ := there4_of hr4
  clear hr4
  simp only [] at c0 c1 c2 c3 c4 c5 c6 c7 c8 c9
  have hB4 := H3.out.bel
  obtain ⟨_, _, _, _, hg4⟩ := H3.out.r4
  have HG4 := hid hg4
  have HB4 := hid hB4
  clear hB4 hg4
  go_wp2
  (try simp only [Exit.inBlock, Exit.then])
  refine bodyPost_ret (results_cell_row rfl _ _ w.heap.size 48 _ (0, 0) _ rfl (put4 HG4.out _ _ _ _) Try.underlying48 rfl size48) rfl ?_
  exact ⟨rfl, below_put4 HB4.out _ _ _ _⟩
set_option maxRecDepth 100000 in
set_option maxHeartbeats 1000000 in
theorem un_s3 {w : World} {g : Nat} {ad sz v tp bt : Int} {got hs : Bool} (h : IsUs w g ⟨ad, sz, 2, v, 3, tp, bt, got, false, hs⟩) (ok : UOk ⟨ad, sz, 2, v, 3, tp, bt, got, false, hs⟩) :
    Calls Try.prog 35 #[.pointer (some ⟨g, 0, none⟩)] w fun e w' => e = .returned (acV ⟨3, ad, tp, add64 tp 1⟩) ∧ Below w.heap.size w w' := by
  have H0 := hid (UL.first h)
  have hlt := h.lt
  obtain ⟨sb0, sb1⟩ := slot_bounds tp ok.q
  obtain ⟨⟨qa0, qa1, qs0, qs1⟩, p0, p1, b0, b1, _⟩ := ok
  simp only [] at qa0 qa1 qs0 qs1 sb0 sb1 p0 p1 b0 b1
  clear h
  obtain ⟨c0, c1, c2, c3, c4, c5, c6, c7, c8, c9⟩ := H0.out.us.uc
  obtain ⟨ra, rb, rc, rd, hr4⟩ := H0.out.r4
  obtain ⟨d0, d1, d2, d3, f0, f1, f2, f3⟩ := there4_of hr4
  clear hr4
  simp only [] at c0 c1 c2 c3 c4 c5 c6 c7 c8 c9
  generalize slotA ad sz tp = sl at *
  have hne : g ≠ w.heap.size := by omega
  go_enter Try.func35, Try.ntmps35
  go_upto_region 1 with fail
  generalize w.alloc (.cells z4 48) = W at *
  have hS1 : US w g ad sz v tp bt W.drew := H0.out.u5.below hlt (Below.refl _ _).drew
  have HSW := hid H0.out.u5
  simp only [] at HSW
  go_wp2_with fail
  go_region_held3 (fun w' => (w'.cell? ⟨g, 0, none⟩ = some (.int .i64 ad) ∧ w'.cell? ⟨g, 1, none⟩ = some (.int .i64 sz) ∧ w'.cell? ⟨g, 3, none⟩ = some (.int .u64 v) ∧ w'.cell? ⟨g, 5, none⟩ = some (.int .u64 tp) ∧ w'.cell? ⟨g, 6, none⟩ = some (.int .u64 bt)) ∧ (Below w.heap.size w w' ∧ R4 w' w.heap.size)) (first | with_reducible exact hS1 | with_reducible exact US.putD hlt HSW.out _ _ _ _ | with_reducible assumption)
      (fail)
  have hB4 := H0.out.bel
  obtain ⟨_, _, _, _, hg4⟩ := H0.out.r4
  have HG4 := hid hg4
  have HB4 := hid hB4
  clear hB4 hg4
  have hwr := i64w (x := ad + 1) (by omega) (by omega)
  go_wp2
  (try simp only [Exit.inBlock, Exit.then])
  refine bodyPost_ret (results_cell_row rfl _ _ w.heap.size 48 _ (0, 0) _ rfl (put4 HG4.out _ _ _ _) Try.underlying48 rfl size48) rfl ?_
  exact ⟨by first | rfl | (rw [hwr]; done) | (rw [hwr]; rfl), (below_put4 HB4.out _ _ _ _).drew⟩
set_option maxRecDepth 100000 in
set_option maxHeartbeats 1000000 in
theorem unx2 {w : World} {g : Nat} {u : Us} {a : Ac} (h : IsUs w g u) (hd : u.dn = false) (hk : u.kd = 2)
    (hC : ∀ {w' : World}, IsUs w' g u → Calls Try.prog 35 #[.pointer (some ⟨g, 0, none⟩)] w' fun e w'' => e = .returned (acV a) ∧ Below w'.heap.size w' w'') :
    Calls Try.prog 17 #[.pointer (some ⟨g, 0, none⟩)] w fun e w' => e = .returned (acV a) ∧ Below w.heap.size w w' := by
  have H0 := hid (UL.first h)
  have HC : Hid (∀ {w' : World}, IsUs w' g u → Calls Try.prog 35 #[.pointer (some ⟨g, 0, none⟩)] w' fun e w'' => e = .returned (acV a) ∧ Below w'.heap.size w' w'') := hid (fun h' => hC h')
  have hlt := h.lt
  clear h hC
  obtain ⟨ad, sz, kd, v, tn, tp, bt, got, dn, hs⟩ := u
  simp only [] at hd hk
  subst hd hk
  obtain ⟨ak, aad, aa, ab⟩ := a
  obtain ⟨c0, c1, c2, c3, c4, c5, c6, c7, c8, c9⟩ := H0.out.us.uc
  simp only [] at c2 c8
  clear c0 c1 c3 c4 c5 c6 c7 c9
  go_enter Try.func17, Try.ntmps17
  go_upto_region 1 with fail
  generalize w.alloc (.cells z4 48) = W at *
  go_wp2_with fail
  refine (HC.out H0.out.us).mono ?_
  rintro e3 w3 ⟨rfl, K3⟩
  have H3 := hid (H0.out.below K3)
  clear K3 c2 c8 H0 HC
  obtain ⟨ra, rb, rc, rd, hr4⟩ := H3.out.r4
  obtain ⟨d0, d1, d2, d3, f0, f1, f2, f3⟩ := there4_of hr4
  clear hr4
  have hB4 := H3.out.bel
  obtain ⟨_, _, _, _, hg4⟩ := H3.out.r4
  have HG4 := hid hg4
  have HB4 := hid hB4
  clear hB4 hg4
  go_wp2
  (try simp only [Exit.inBlock, Exit.then])
  refine bodyPost_ret (results_cell_row rfl _ _ w.heap.size 48 _ (0, 0) _ rfl (put4 HG4.out _ _ _ _) Try.underlying48 rfl size48) rfl ?_
  exact ⟨rfl, below_put4 HB4.out _ _ _ _⟩
set_option maxRecDepth 100000 in
set_option maxHeartbeats 1000000 in
theorem un_done {w : World} {g : Nat} {u : Us} (h : IsUs w g u) (hd : u.dn = true) :
    Calls Try.prog 17 #[.pointer (some ⟨g, 0, none⟩)] w fun e w' => e = .returned (acV ⟨0, 0, 0, 0⟩) ∧ Below w.heap.size w w' := by
  have c8 := h.uc.c8
  rw [hd] at c8
  have hlt := h.lt
  clear h
  go_enter Try.func17, Try.ntmps17
  go_wp2
  (try simp only [Exit.inBlock, Exit.then])
  refine bodyPost_ret (results_cell_row rfl _ _ w.heap.size 48 (acC ⟨0, 0, 0, 0⟩) (0, 0) _ rfl (heap_alloc_new _ _) Try.underlying48 rfl size48) rfl ?_
  exact ⟨rfl, below_alloc _ _⟩
end Go.Proofs.Ytmglacaikpcjhaa
