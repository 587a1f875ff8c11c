/- What a reader's Next returns. Conditions: it is one that Read gave. -/
import Derived.Test.YtkdgjgbmbdmmfaaS5
namespace Go.Proofs.Ytkdgjgbmbdmmfaa
open Go.RowKit

structure ROk (x : Wr) : Prop where
  a0 : 0 ≤ x.ad
  a1 : x.ad ≤ 65000
  n0 : 1 ≤ x.n
  n1 : x.n ≤ 16
  t0 : 0 ≤ x.t
  t1 : x.t ≤ x.n + 2
  e : x.e = x.n + 2

def rNext (x : Wr) : Ac :=
  if x.t = x.e then ⟨0, 0, 0, 0⟩
  else if x.t = 0 ∨ x.t = 1 + x.n then ⟨1, x.ad, 0, 0⟩
  else ⟨1, x.ad + x.t, 0, 0⟩

abbrev RtS (w : World) (g o : Nat) (ad v : Int) (w' : World) : Prop :=
  (w'.cell? ⟨g, 0, none⟩ = some (.int .i64 ad) ∧ w'.cell? ⟨g, o, none⟩ = some (.int .i64 v)) ∧ (Below w.heap.size w w' ∧ R4 w' w.heap.size)
theorem RtS.put {w : World} {g o : Nat} {ad v : Int} (hlt : g < w.heap.size) {w' : World} (h : RtS w g o ad v w') (a b c d : Value) : RtS w g o ad v ((((w'.setCell ⟨w.heap.size, 0, none⟩ a).setCell ⟨w.heap.size, 1, none⟩ b).setCell ⟨w.heap.size, 2, none⟩ c).setCell ⟨w.heap.size, 3, none⟩ d) := by
  obtain ⟨⟨h1, h2⟩, h3, x, y, z, u, h4⟩ := h
  exact ⟨⟨(cell_put4 (by omega) _ _ _ _).trans h1, (cell_put4 (by omega) _ _ _ _).trans h2⟩, below_put4 h3 _ _ _ _, a, b, c, d, put4 h4 _ _ _ _⟩
theorem RtS.load {w : World} {g o : Nat} {ad v k : Int} (hlt : g < w.heap.size) (h0 : 0 ≤ ad) (h1 : ad ≤ 65000) (h2 : 0 ≤ k) (h3 : k ≤ 100) {w' : World} (h : RtS w g o ad v w') :
    Calls Try.prog 29 #[.pointer (some ⟨g, 0, none⟩), .int .i64 k] w' fun e w'' => e = .returned (acV ⟨1, ad + k, 0, 0⟩) ∧ (∃ a b c d, There4 w'' w.heap.size a b c d) ∧ RtS w g o ad v w'' := by
  obtain ⟨⟨i1, i2⟩, i3, a, b, c, d, i4⟩ := h
  refine (pLoad_at w' g ad k i1 h0 h1 h2 h3).mono ?_
  rintro e w'' ⟨rfl, K⟩
  have hs := i3.size
  have j4 := (K.block _ (lt_of_block i4)).trans i4
  refine ⟨rfl, ⟨a, b, c, d, cell_of j4 rfl, cell_of j4 rfl, cell_of j4 rfl, cell_of j4 rfl, free_of j4, free_of j4, free_of j4, free_of j4⟩, ⟨?_, ?_⟩, bel_trans i3 K, a, b, c, d, j4⟩
  · exact (K.cell (p := ⟨g, 0, none⟩) (by simp; omega)).trans i1
  · exact (K.cell (p := ⟨g, o, none⟩) (by simp; omega)).trans i2

set_option maxRecDepth 100000 in
set_option maxHeartbeats 600000 in
theorem rn_done (w : World) (g : Nat) (x : Wr) (h : Pc w g x) (he : (x.t == x.e) = true) :
    Calls Try.prog 20 #[.pointer (some ⟨g, 0, none⟩)] w fun e w' => e = .returned (acV ⟨0, 0, 0, 0⟩) ∧ Below w.heap.size w w' := by
  have HP := hid h
  obtain ⟨ad, n, t, e, m, vs⟩ := x
  simp only [] at he
  go_enter Try.func20, Try.ntmps20
  go_wp2_with fail
  refine (pDone_at _ g t e (HP.out.below (below_alloc w _)).c2 (HP.out.below (below_alloc w _)).c3).mono ?_
  rintro e2 w2 ⟨rfl, m2, hm2⟩
  obtain ⟨hg, hB, hP⟩ := next_frame HP.out (w2 := w2) (by rw [hm2]; exact below_drewN (Below.refl _ _) m2)
  clear hm2 m2
  obtain ⟨d0, d1, d2, d3, f0, f1, f2, f3⟩ := z4_of hg
  obtain ⟨c0, c1, c2, c3, c4⟩ := hP
  simp only [] at c0 c1 c2 c3 c4
  have hlt := World.block_lt_of_cell? w2 ⟨g, 0, none⟩ c0
  have hlt2 := HP.out.lt
  simp only [] at hlt
  have HG := hid hg
  have HB := hid hB
  clear hg hB h
  rw [he]
  go_wp2
  (try simp only [Exit.inBlock, Exit.then])
  refine bodyPost_ret (results_cell_row rfl _ _ w.heap.size 50 _ (0, 0) _ rfl (put4 HG.out _ _ _ _) Try.underlying50 rfl size50) rfl ?_
  exact ⟨rfl, below_put4 HB.out _ _ _ _⟩
set_option maxRecDepth 100000 in
set_option maxHeartbeats 600000 in
theorem rn_0 (w : World) (g : Nat) (x : Wr) (h : Pc w g x) (he : (x.t == x.e) = false) (hz : x.t = 0) (h0 : 0 ≤ x.ad) (h1 : x.ad ≤ 65000) :
    Calls Try.prog 20 #[.pointer (some ⟨g, 0, none⟩)] w fun e w' => e = .returned (acV ⟨1, x.ad, 0, 0⟩) ∧ Below w.heap.size w w' := by
  have HP := hid h
  obtain ⟨ad, n, t, e, m, vs⟩ := x
  simp only [] at he hz h0 h1 ⊢
  go_enter Try.func20, Try.ntmps20
  go_wp2_with fail
  refine (pDone_at _ g t e (HP.out.below (below_alloc w _)).c2 (HP.out.below (below_alloc w _)).c3).mono ?_
  rintro e2 w2 ⟨rfl, m2, hm2⟩
  obtain ⟨hg, hB, hP⟩ := next_frame HP.out (w2 := w2) (by rw [hm2]; exact below_drewN (Below.refl _ _) m2)
  clear hm2 m2
  obtain ⟨d0, d1, d2, d3, f0, f1, f2, f3⟩ := z4_of hg
  obtain ⟨c0, c1, c2, c3, c4⟩ := hP
  simp only [] at c0 c1 c2 c3 c4
  have hlt := World.block_lt_of_cell? w2 ⟨g, 0, none⟩ c0
  have hlt2 := HP.out.lt
  simp only [] at hlt
  have HG := hid hg
  have HB := hid hB
  clear hg hB h
  rw [he]
  subst hz
  go_wp2
  go_quiet (fail)
  have HG2 : Hid ((w2.drewN nq).heap[w.heap.size]? = some (.cells z4 50 (0, 0))) := hid (by simpa using HG.out)
  have HB2 := hid (below_drewN HB.out nq)
  have C0 : (w2.drewN nq).cell? ⟨g, 0, none⟩ = some (.int .i64 ad) := by simpa using c0
  have C2 : (w2.drewN nq).cell? ⟨g, 2, none⟩ = some (.int .i64 0) := by simpa using c2
  clear HG HB c0 c1 c2 c3 c4 d0 d1 d2 d3 f0 f1 f2 f3 hlt
  generalize w2.drewN nq = w4 at HG2 HB2 C0 C2 ⊢
  obtain ⟨d0, d1, d2, d3, f0, f1, f2, f3⟩ := z4_of HG2.out
  go_wp2_with fail
  refine (pLoad_at _ g ad 0 C0 h0 h1 (by decide) (by decide)).mono ?_
  rintro e3 w3 ⟨rfl, K⟩
  have hg := (K.block _ (lt_of_block HG2.out)).trans HG2.out
  have hB := bel_trans HB2.out K
  clear HG2 HB2 K C0 C2 d0 d1 d2 d3 f0 f1 f2 f3
  obtain ⟨d0, d1, d2, d3, f0, f1, f2, f3⟩ := z4_of hg
  have HG := hid hg
  have HB := hid hB
  clear hg hB
  rw [Int.add_zero]
  go_wp2
  (try simp only [Exit.inBlock, Exit.then])
  refine bodyPost_ret (results_cell_row rfl _ _ w.heap.size 50 _ (0, 0) _ rfl (put4 HG.out _ _ _ _) Try.underlying50 rfl size50) rfl ?_
  exact ⟨rfl, below_put4 HB.out _ _ _ _⟩
set_option maxRecDepth 100000 in
set_option maxHeartbeats 600000 in
theorem rn_last (w : World) (g : Nat) (x : Wr) (h : Pc w g x) (he : (x.t == x.e) = false) (hz : x.t = 1 + x.n) (h0 : 0 ≤ x.ad) (h1 : x.ad ≤ 65000) (hn : 1 ≤ x.n) (hn1 : x.n ≤ 16) :
    Calls Try.prog 20 #[.pointer (some ⟨g, 0, none⟩)] w fun e w' => e = .returned (acV ⟨1, x.ad, 0, 0⟩) ∧ Below w.heap.size w w' := by
  have HP := hid h
  obtain ⟨ad, n, t, e, m, vs⟩ := x
  simp only [] at he hz h0 h1 hn hn1 ⊢
  go_enter Try.func20, Try.ntmps20
  go_wp2_with fail
  refine (pDone_at _ g t e (HP.out.below (below_alloc w _)).c2 (HP.out.below (below_alloc w _)).c3).mono ?_
  rintro e2 w2 ⟨rfl, m2, hm2⟩
  obtain ⟨hg, hB, hP⟩ := next_frame HP.out (w2 := w2) (by rw [hm2]; exact below_drewN (Below.refl _ _) m2)
  clear hm2 m2
  obtain ⟨d0, d1, d2, d3, f0, f1, f2, f3⟩ := z4_of hg
  obtain ⟨c0, c1, c2, c3, c4⟩ := hP
  simp only [] at c0 c1 c2 c3 c4
  have hlt := World.block_lt_of_cell? w2 ⟨g, 0, none⟩ c0
  have hlt2 := HP.out.lt
  simp only [] at hlt
  have HG := hid hg
  have HB := hid hB
  clear hg hB h
  rw [he]
  subst hz
  have hb0 : (1 + n == 0) = false := beq_eq_false_iff_ne.2 (by omega)
  have hb1 : (1 + n == 1 + n) = true := by simp
  have hw1 : IntKind.i64.wrap (1 + n) = 1 + n := i64w (by omega) (by omega)
  go_wp2
  go_quiet (fail)
  have HG2 : Hid ((w2.drewN nq).heap[w.heap.size]? = some (.cells z4 50 (0, 0))) := hid (by simpa using HG.out)
  have HB2 := hid (below_drewN HB.out nq)
  have C0 : (w2.drewN nq).cell? ⟨g, 0, none⟩ = some (.int .i64 ad) := by simpa using c0
  have C2 : (w2.drewN nq).cell? ⟨g, 2, none⟩ = some (.int .i64 (1 + n)) := by simpa using c2
  clear HG HB c0 c1 c2 c3 c4 d0 d1 d2 d3 f0 f1 f2 f3 hlt
  generalize w2.drewN nq = w4 at HG2 HB2 C0 C2 ⊢
  obtain ⟨d0, d1, d2, d3, f0, f1, f2, f3⟩ := z4_of HG2.out
  go_wp2_with fail
  refine (pLoad_at _ g ad 0 C0 h0 h1 (by decide) (by decide)).mono ?_
  rintro e3 w3 ⟨rfl, K⟩
  have hg := (K.block _ (lt_of_block HG2.out)).trans HG2.out
  have hB := bel_trans HB2.out K
  clear HG2 HB2 K C0 C2 d0 d1 d2 d3 f0 f1 f2 f3
  obtain ⟨d0, d1, d2, d3, f0, f1, f2, f3⟩ := z4_of hg
  have HG := hid hg
  have HB := hid hB
  clear hg hB
  rw [Int.add_zero]
  go_wp2
  (try simp only [Exit.inBlock, Exit.then])
  refine bodyPost_ret (results_cell_row rfl _ _ w.heap.size 50 _ (0, 0) _ rfl (put4 HG.out _ _ _ _) Try.underlying50 rfl size50) rfl ?_
  exact ⟨rfl, below_put4 HB.out _ _ _ _⟩
set_option maxRecDepth 100000 in
set_option maxHeartbeats 600000 in
theorem rn_val (w : World) (g : Nat) (x : Wr) (h : Pc w g x) (he : (x.t == x.e) = false) (hz : (x.t == 0) = false) (hy : (x.t == 1 + x.n) = false) (h0 : 0 ≤ x.ad) (h1 : x.ad ≤ 65000) (hn : 1 ≤ x.n) (hn1 : x.n ≤ 16) (ht0 : 0 ≤ x.t) (ht1 : x.t ≤ 20) :
    Calls Try.prog 20 #[.pointer (some ⟨g, 0, none⟩)] w fun e w' => e = .returned (acV ⟨1, x.ad + x.t, 0, 0⟩) ∧ Below w.heap.size w w' := by
  have HP := hid h
  obtain ⟨ad, n, t, e, m, vs⟩ := x
  simp only [] at he hz hy h0 h1 hn hn1 ht0 ht1 ⊢
  go_enter Try.func20, Try.ntmps20
  go_wp2_with fail
  refine (pDone_at _ g t e (HP.out.below (below_alloc w _)).c2 (HP.out.below (below_alloc w _)).c3).mono ?_
  rintro e2 w2 ⟨rfl, m2, hm2⟩
  obtain ⟨hg, hB, hP⟩ := next_frame HP.out (w2 := w2) (by rw [hm2]; exact below_drewN (Below.refl _ _) m2)
  clear hm2 m2
  obtain ⟨d0, d1, d2, d3, f0, f1, f2, f3⟩ := z4_of hg
  obtain ⟨c0, c1, c2, c3, c4⟩ := hP
  simp only [] at c0 c1 c2 c3 c4
  have hlt := World.block_lt_of_cell? w2 ⟨g, 0, none⟩ c0
  have hlt2 := HP.out.lt
  simp only [] at hlt
  have HG := hid hg
  have HB := hid hB
  clear hg hB h
  rw [he]
  have hw1 : IntKind.i64.wrap (1 + n) = 1 + n := i64w (by omega) (by omega)
  have hw2 : IntKind.i64.wrap (1 + t) = 1 + t := i64w (by omega) (by omega)
  have hw4 : 1 + t - 1 = t := by omega
  have hw5 : IntKind.i64.wrap t = t := i64w (by omega) (by omega)
  go_wp2
  go_quiet (fail)
  have HG2 : Hid ((w2.drewN nq).heap[w.heap.size]? = some (.cells z4 50 (0, 0))) := hid (by simpa using HG.out)
  have HB2 := hid (below_drewN HB.out nq)
  have C0 : (w2.drewN nq).cell? ⟨g, 0, none⟩ = some (.int .i64 ad) := by simpa using c0
  have C2 : (w2.drewN nq).cell? ⟨g, 2, none⟩ = some (.int .i64 t) := by simpa using c2
  clear HG HB c0 c1 c2 c3 c4 d0 d1 d2 d3 f0 f1 f2 f3 hlt
  generalize w2.drewN nq = w4 at HG2 HB2 C0 C2 ⊢
  obtain ⟨d0, d1, d2, d3, f0, f1, f2, f3⟩ := z4_of HG2.out
  have hS0 : RtS w g 2 ad t w4.drew := ⟨⟨C0, C2⟩, HB2.out.drew, _, _, _, _, HG2.out⟩
  have HS : Hid (∀ {w' : World}, RtS w g 2 ad t w' → Calls Try.prog 29 #[.pointer (some ⟨g, 0, none⟩), .int .i64 t] w' fun e w'' => e = .returned (acV ⟨1, ad + t, 0, 0⟩) ∧ (∃ a b c d, There4 w'' w.heap.size a b c d) ∧ RtS w g 2 ad t w'') := hid (fun h => RtS.load hlt2 h0 h1 (by omega) (by omega) h)
  go_wp2_with fail
  clear d0 d1 d2 d3 f0 f1 f2 f3
  go_region_held3 (fun w' => (w'.cell? ⟨g, 0, none⟩ = some (.int .i64 ad) ∧ w'.cell? ⟨g, 2, none⟩ = some (.int .i64 t)) ∧ (Below w.heap.size w w' ∧ R4 w' w.heap.size)) (first | with_reducible exact RtS.put hlt2 (by assumption) _ _ _ _ | with_reducible exact hS0 | with_reducible assumption)
    (first
      | (go_at_call 29; refine (HS.out (by assumption)).mono ?_; rintro e3 w3 ⟨rfl, ⟨a, b, c, d, d0, d1, d2, d3, f0, f1, f2, f3⟩, hw'⟩))
  obtain ⟨_, hB3, _, _, _, _, hg3⟩ := hw'
  have HG3 := hid hg3
  have HB3 := hid hB3
  clear hB3 hg3
  (try rw [Int.add_zero])
  go_wp2
  (try simp only [Exit.inBlock, Exit.then])
  refine bodyPost_ret (results_cell_row rfl _ _ w.heap.size 50 _ (0, 0) _ rfl (put4 HG3.out _ _ _ _) Try.underlying50 rfl size50) rfl ?_
  exact ⟨rfl, below_put4 HB3.out _ _ _ _⟩

theorem rnext_at {w : World} {g : Nat} {x : Wr} (h : Pc w g x) (ok : ROk x) :
    Calls Try.prog 20 #[.pointer (some ⟨g, 0, none⟩)] w fun e w' => e = .returned (acV (rNext x)) ∧ Below w.heap.size w w' := by
  obtain ⟨a0, a1, n0, n1, t0, t1, he⟩ := ok
  unfold rNext
  by_cases h1 : x.t = x.e
  · rw [if_pos h1]
    exact rn_done w g x h (by simp [h1])
  · have hb : (x.t == x.e) = false := beq_eq_false_iff_ne.2 h1
    rw [if_neg h1]
    by_cases h2 : x.t = 0
    · rw [if_pos (Or.inl h2)]
      exact rn_0 w g x h hb h2 a0 a1
    · by_cases h3 : x.t = 1 + x.n
      · rw [if_pos (Or.inr h3)]
        exact rn_last w g x h hb h3 a0 a1 n0 n1
      · rw [if_neg (by omega)]
        exact rn_val w g x h hb (beq_eq_false_iff_ne.2 h2) (beq_eq_false_iff_ne.2 h3) a0 a1 n0 n1 t0 (by omega)
end Go.Proofs.Ytkdgjgbmbdmmfaa
