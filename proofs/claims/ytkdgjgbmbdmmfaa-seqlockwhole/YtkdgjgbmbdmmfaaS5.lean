/- What a writer's Next returns in its last two ways. Conditions: it is one that Write gave. -/
import Derived.Test.YtkdgjgbmbdmmfaaS4
import Derived.Deep.RegionHeld3
namespace Go.Proofs.Ytkdgjgbmbdmmfaa
open Go.RowKit

theorem i64w {x : Int} (h0 : -9223372036854775808 ≤ x) (h1 : x ≤ 9223372036854775807) : IntKind.i64.wrap x = x := by
  simp [IntKind.wrap, IntKind.signed, IntKind.bits]; omega
set_option maxRecDepth 100000 in
set_option maxHeartbeats 600000 in
theorem wn_last (w : World) (g : Nat) (x : Wr) (h : Pc w g x) (he : (x.t == x.e) = false) (hz : x.t = 2 + x.n) (h0 : 0 ≤ x.ad) (h1 : x.ad ≤ 65000) (hn : 1 ≤ x.n) (hn1 : x.n ≤ 16) :
    Calls Try.prog 18 #[.pointer (some ⟨g, 0, none⟩)] w fun e w' => e = .returned (acV ⟨2, x.ad, add64 x.m 2, 0⟩) ∧ Below w.heap.size w w' := by
  have HP := hid h
  obtain ⟨ad, n, t, e, m, vs⟩ := x
  simp only [] at he hz h0 h1 hn hn1 ⊢
  go_enter Try.func18, Try.ntmps18
  go_wp2_with fail
  refine (pDone_at _ g t e (HP.out.below (below_alloc w _)).c2 (HP.out.below (below_alloc w _)).c3).mono ?_
  rintro e2 w2 ⟨rfl, m2, hm2⟩
  obtain ⟨hg, hB, hP⟩ := next_frame HP.out (w2 := w2) (by rw [hm2]; exact below_drewN (Below.refl _ _) m2)
  clear hm2 m2
  obtain ⟨d0, d1, d2, d3, f0, f1, f2, f3⟩ := z4_of hg
  obtain ⟨c0, c1, c2, c3, c4⟩ := hP
  simp only [] at c0 c1 c2 c3 c4
  have hlt := World.block_lt_of_cell? w2 ⟨g, 0, none⟩ c0
  have hlt2 := HP.out.lt
  simp only [] at hlt
  have HG := hid hg
  have HB := hid hB
  clear hg hB h
  rw [he]
  subst hz
  have hS0 : StS w g 4 ad m w2.drew := ⟨⟨c0, c4⟩, HB.out.drew, _, _, _, _, HG.out⟩
  have HS : Hid (∀ {w' : World}, StS w g 4 ad m w' → ∀ u : Int, Calls Try.prog 30 #[.pointer (some ⟨g, 0, none⟩), .int .i64 0, .int .u64 u] w' fun e w'' => e = .returned (acV ⟨2, ad + 0, u, 0⟩) ∧ (∃ a b c d, There4 w'' w.heap.size a b c d) ∧ StS w g 4 ad m w'') := hid (fun h u => StS.store hlt2 h0 h1 (by decide) (by decide) h u)
  go_wp2_with fail
  clear d0 d1 d2 d3 f0 f1 f2 f3
  go_region_held3 (fun w' => (w'.cell? ⟨g, 0, none⟩ = some (.int .i64 ad) ∧ w'.cell? ⟨g, 4, none⟩ = some (.int .u64 m)) ∧ (Below w.heap.size w w' ∧ R4 w' w.heap.size)) (first | with_reducible exact StS.put hlt2 (by assumption) _ _ _ _ | with_reducible exact hS0 | with_reducible assumption)
    (first
      | (go_at_call 30; refine (HS.out (by assumption) _).mono ?_; rintro e3 w3 ⟨rfl, ⟨a, b, c, d, d0, d1, d2, d3, f0, f1, f2, f3⟩, hw'⟩))
  obtain ⟨_, hB3, _, _, _, _, hg3⟩ := hw'
  have HG3 := hid hg3
  have HB3 := hid hB3
  clear hB3 hg3
  (try rw [Int.add_zero])
  go_wp2
  (try simp only [Exit.inBlock, Exit.then])
  refine bodyPost_ret (results_cell_row rfl _ _ w.heap.size 50 _ (0, 0) _ rfl (put4 HG3.out _ _ _ _) Try.underlying50 rfl size50) rfl ?_
  exact ⟨rfl, below_put4 HB3.out _ _ _ _⟩
set_option maxRecDepth 100000 in
set_option maxHeartbeats 600000 in
theorem wn_val (w : World) (g : Nat) (x : Wr) (h : Pc w g x) (i : Nat) (v : Int) (hv : w.cell? ⟨g, 5 + i, none⟩ = some (.int .u64 v)) (he : (x.t == x.e) = false) (hz : x.t = 2 + (i : Int)) (h0 : 0 ≤ x.ad) (h1 : x.ad ≤ 65000) (hn : (i : Int) < x.n) (hn1 : x.n ≤ 16) :
    Calls Try.prog 18 #[.pointer (some ⟨g, 0, none⟩)] w fun e w' => e = .returned (acV ⟨2, x.ad + (1 + (i : Int)), v, 0⟩) ∧ Below w.heap.size w w' := by
  have HP := hid h
  obtain ⟨ad, n, t, e, m, vs⟩ := x
  simp only [] at he hz h0 h1 hn hn1 ⊢
  go_enter Try.func18, Try.ntmps18
  go_wp2_with fail
  refine (pDone_at _ g t e (HP.out.below (below_alloc w _)).c2 (HP.out.below (below_alloc w _)).c3).mono ?_
  rintro e2 w2 ⟨rfl, m2, hm2⟩
  obtain ⟨hg, hB, hP⟩ := next_frame HP.out (w2 := w2) (by rw [hm2]; exact below_drewN (Below.refl _ _) m2)
  clear hm2 m2
  obtain ⟨d0, d1, d2, d3, f0, f1, f2, f3⟩ := z4_of hg
  obtain ⟨c0, c1, c2, c3, c4⟩ := hP
  simp only [] at c0 c1 c2 c3 c4
  have hlt := World.block_lt_of_cell? w2 ⟨g, 0, none⟩ c0
  have hlt2 := HP.out.lt
  simp only [] at hlt
  have HG := hid hg
  have HB := hid hB
  clear hg hB h
  rw [he]
  subst hz
  have c5 : w2.cell? ⟨g, 5 + i, none⟩ = some (.int .u64 v) := (HB.out.cell (p := ⟨g, 5 + i, none⟩) hlt2).trans hv
  have hS0 : StS w g (5 + i) ad v w2.drew := ⟨⟨c0, c5⟩, HB.out.drew, _, _, _, _, HG.out⟩
  have HS : Hid (∀ {w' : World}, StS w g (5 + i) ad v w' → ∀ u : Int, Calls Try.prog 30 #[.pointer (some ⟨g, 0, none⟩), .int .i64 (1 + (i : Int)), .int .u64 u] w' fun e w'' => e = .returned (acV ⟨2, ad + (1 + (i : Int)), u, 0⟩) ∧ (∃ a b c d, There4 w'' w.heap.size a b c d) ∧ StS w g (5 + i) ad v w'') := hid (fun h u => StS.store hlt2 h0 h1 (by omega) (by omega) h u)
  have hi0 : (0 : Int) ≤ (i : Int) := by omega
  have hi16 : (i : Int) < 16 := by omega
  have hw1 : IntKind.i64.wrap (1 + (i : Int)) = 1 + (i : Int) := i64w (by omega) (by omega)
  have e22 : 2 + (i : Int) - 2 = (i : Int) := by omega
  clear hv
  go_wp2_with fail
  clear d0 d1 d2 d3 f0 f1 f2 f3
  go_region_held3 (fun w' => (w'.cell? ⟨g, 0, none⟩ = some (.int .i64 ad) ∧ w'.cell? ⟨g, 5 + i, none⟩ = some (.int .u64 v)) ∧ (Below w.heap.size w w' ∧ R4 w' w.heap.size)) (first | with_reducible exact StS.put hlt2 (by assumption) _ _ _ _ | with_reducible exact hS0 | with_reducible assumption)
    (first
      | (go_at_call 30; refine (HS.out (by assumption) _).mono ?_; rintro e3 w3 ⟨rfl, ⟨a, b, c, d, d0, d1, d2, d3, f0, f1, f2, f3⟩, hw'⟩))
  obtain ⟨_, hB3, _, _, _, _, hg3⟩ := hw'
  have HG3 := hid hg3
  have HB3 := hid hB3
  clear hB3 hg3
  (try rw [Int.add_zero])
  go_wp2
  (try simp only [Exit.inBlock, Exit.then])
  refine bodyPost_ret (results_cell_row rfl _ _ w.heap.size 50 _ (0, 0) _ rfl (put4 HG3.out _ _ _ _) Try.underlying50 rfl size50) rfl ?_
  exact ⟨rfl, below_put4 HB3.out _ _ _ _⟩

theorem wnext_at {w : World} {g : Nat} {x : Wr} (h : IsWr w g x) (ok : WOk x) :
    Calls Try.prog 18 #[.pointer (some ⟨g, 0, none⟩)] w fun e w' => e = .returned (acV (wNext x)) ∧ Below w.heap.size w w' := by
  obtain ⟨a0, a1, n0, n1, t0, t1, he, m0, m1⟩ := ok
  unfold wNext
  by_cases h1 : x.t = x.e
  · rw [if_pos h1]
    exact wn_done w g x h.pc (by simp [h1])
  · have hb : (x.t == x.e) = false := beq_eq_false_iff_ne.2 h1
    rw [if_neg h1]
    by_cases h2 : x.t = 0
    · rw [if_pos h2]
      exact wn_load w g x h.pc hb h2 a0 a1
    · rw [if_neg h2]
      by_cases h3 : x.t = 1
      · rw [if_pos h3]
        exact wn_cas w g x h.pc hb h3 m0 m1
      · rw [if_neg h3]
        by_cases h4 : x.t = 2 + x.n
        · rw [if_pos h4]
          exact wn_last w g x h.pc hb h4 a0 a1 n0 n1
        · rw [if_neg h4]
          obtain ⟨i, hi⟩ := Int.eq_ofNat_of_zero_le (show 0 ≤ x.t - 2 by omega)
          have := wn_val w g x h.pc i _ (h.val i (by omega)) hb (by omega) a0 a1 (by omega) n1
          have e1 : (x.t - 2).toNat = i := by omega
          have e2 : x.t - 1 = 1 + (i : Int) := by omega
          rw [e1, e2]
          exact this
end Go.Proofs.Ytkdgjgbmbdmmfaa
