/- What a writer's Next returns. Conditions: it is one that Write gave. -/
import Derived.Test.YtkdgjgbmbdmmfaaS2
import Derived.BigRegion
import Derived.RegionTactic
namespace Go.Proofs.Ytkdgjgbmbdmmfaa
open Go.RowKit

structure WOk (x : Wr) : Prop where
  a0 : 0 ≤ x.ad
  a1 : x.ad ≤ 65000
  n0 : 1 ≤ x.n
  n1 : x.n ≤ 16
  t0 : 0 ≤ x.t
  t1 : x.t ≤ x.n + 3
  e : x.e = x.n + 3
  m0 : 0 ≤ x.m
  m1 : x.m ≤ 18446744073709551615

def wNext (x : Wr) : Ac :=
  if x.t = x.e then ⟨0, 0, 0, 0⟩
  else if x.t = 0 then ⟨1, x.ad, 0, 0⟩
  else if x.t = 1 then ⟨3, x.ad, x.m, add64 x.m 1⟩
  else if x.t = 2 + x.n then ⟨2, x.ad, add64 x.m 2, 0⟩
  else ⟨2, x.ad + (x.t - 1), x.vs.getD (x.t - 2).toNat 0, 0⟩

abbrev z4 : Array Value := #[.int .i64 0, .int .i64 0, .int .u64 0, .int .u64 0]
/-- The block of an answer that is not yet laid. -/
structure Z4 (w : World) (r : Nat) : Prop where
  d0 : w.cell? ⟨r, 0, none⟩ = some (.int .i64 0)
  d1 : w.cell? ⟨r, 1, none⟩ = some (.int .i64 0)
  d2 : w.cell? ⟨r, 2, none⟩ = some (.int .u64 0)
  d3 : w.cell? ⟨r, 3, none⟩ = some (.int .u64 0)
  f0 : w.frozen? ⟨r, 0, none⟩ = false
  f1 : w.frozen? ⟨r, 1, none⟩ = false
  f2 : w.frozen? ⟨r, 2, none⟩ = false
  f3 : w.frozen? ⟨r, 3, none⟩ = false
theorem z4_of {w : World} {r : Nat} (h : w.heap[r]? = some (.cells z4 50 (0, 0))) : Z4 w r :=
  ⟨cell_of h rfl, cell_of h rfl, cell_of h rfl, cell_of h rfl, free_of h, free_of h, free_of h, free_of h⟩
theorem Pc.lt {w : World} {g : Nat} {x : Wr} (h : Pc w g x) : g < w.heap.size := World.block_lt_of_cell? w ⟨g, 0, none⟩ h.c0
theorem Pc.below {w w' : World} {g : Nat} {x : Wr} (h : Pc w g x) (k : Below w.heap.size w w') : Pc w' g x := by
  have e : ∀ j, w'.cell? ⟨g, j, none⟩ = w.cell? ⟨g, j, none⟩ := fun j => k.cell (p := ⟨g, j, none⟩) h.lt
  exact ⟨(e _).trans h.c0, (e _).trans h.c1, (e _).trans h.c2, (e _).trans h.c3, (e _).trans h.c4⟩
theorem next_frame {w w2 : World} {g : Nat} {x : Wr} (h : Pc w g x) (hb : Below (w.alloc (.cells z4 50)).heap.size (w.alloc (.cells z4 50)) w2) :
    w2.heap[w.heap.size]? = some (.cells z4 50 (0, 0)) ∧ Below w.heap.size w w2 ∧ Pc w2 g x := by
  have e := heap_alloc_new w (.cells z4 50 (0, 0))
  have hB := bel_trans (below_alloc w (.cells z4 50)) hb
  exact ⟨(hb.block _ (lt_of_block e)).trans e, hB, h.below hB⟩
theorem below_put4 {w w' : World} (h : Below w.heap.size w w') (a b c d : Value) : Below w.heap.size w ((((w'.setCell ⟨w.heap.size, 0, none⟩ a).setCell ⟨w.heap.size, 1, none⟩ b).setCell ⟨w.heap.size, 2, none⟩ c).setCell ⟨w.heap.size, 3, none⟩ d) :=
  below_set (below_set (below_set (below_set h _ _ _ (Nat.le_refl _)) _ _ _ (Nat.le_refl _)) _ _ _ (Nat.le_refl _)) _ _ _ (Nat.le_refl _)

set_option maxRecDepth 100000 in
set_option maxHeartbeats 600000 in
theorem wn_done (w : World) (g : Nat) (x : Wr) (h : Pc w g x) (he : (x.t == x.e) = true) :
    Calls Try.prog 18 #[.pointer (some ⟨g, 0, none⟩)] w fun e w' => e = .returned (acV ⟨0, 0, 0, 0⟩) ∧ Below w.heap.size w w' := by
  have HP := hid h
  obtain ⟨ad, n, t, e, m, vs⟩ := x
  simp only [] at he
  go_enter Try.func18, Try.ntmps18
  go_wp2_with fail
  refine (pDone_at _ g t e (HP.out.below (below_alloc w _)).c2 (HP.out.below (below_alloc w _)).c3).mono ?_
  rintro e2 w2 ⟨rfl, m2, hm2⟩
  obtain ⟨hg, hB, hP⟩ := next_frame HP.out (w2 := w2) (by rw [hm2]; exact below_drewN (Below.refl _ _) m2)
  clear hm2 m2
  obtain ⟨d0, d1, d2, d3, f0, f1, f2, f3⟩ := z4_of hg
  obtain ⟨c0, c1, c2, c3, c4⟩ := hP
  simp only [] at c0 c1 c2 c3 c4
  have hlt := World.block_lt_of_cell? w2 ⟨g, 0, none⟩ c0
  have hlt2 := HP.out.lt
  simp only [] at hlt
  have HG := hid hg
  have HB := hid hB
  clear hg hB h
  rw [he]
  go_wp2
  (try simp only [Exit.inBlock, Exit.then])
  refine bodyPost_ret (results_cell_row rfl _ _ w.heap.size 50 _ (0, 0) _ rfl (put4 HG.out _ _ _ _) Try.underlying50 rfl size50) rfl ?_
  exact ⟨rfl, below_put4 HB.out _ _ _ _⟩
set_option maxRecDepth 100000 in
set_option maxHeartbeats 600000 in
theorem wn_load (w : World) (g : Nat) (x : Wr) (h : Pc w g x) (he : (x.t == x.e) = false) (hz : x.t = 0) (h0 : 0 ≤ x.ad) (h1 : x.ad ≤ 65000) :
    Calls Try.prog 18 #[.pointer (some ⟨g, 0, none⟩)] w fun e w' => e = .returned (acV ⟨1, x.ad, 0, 0⟩) ∧ Below w.heap.size w w' := by
  have HP := hid h
  obtain ⟨ad, n, t, e, m, vs⟩ := x
  simp only [] at he hz h0 h1 ⊢
  go_enter Try.func18, Try.ntmps18
  go_wp2_with fail
  refine (pDone_at _ g t e (HP.out.below (below_alloc w _)).c2 (HP.out.below (below_alloc w _)).c3).mono ?_
  rintro e2 w2 ⟨rfl, m2, hm2⟩
  obtain ⟨hg, hB, hP⟩ := next_frame HP.out (w2 := w2) (by rw [hm2]; exact below_drewN (Below.refl _ _) m2)
  clear hm2 m2
  obtain ⟨d0, d1, d2, d3, f0, f1, f2, f3⟩ := z4_of hg
  obtain ⟨c0, c1, c2, c3, c4⟩ := hP
  simp only [] at c0 c1 c2 c3 c4
  have hlt := World.block_lt_of_cell? w2 ⟨g, 0, none⟩ c0
  have hlt2 := HP.out.lt
  simp only [] at hlt
  have HG := hid hg
  have HB := hid hB
  clear hg hB h
  rw [he]
  subst hz
  go_wp2_with fail
  refine (pLoad_at _ g ad 0 c0 h0 h1 (by decide) (by decide)).mono ?_
  rintro e3 w3 ⟨rfl, K⟩
  have hg := (K.block _ (lt_of_block HG.out)).trans HG.out
  have hB := bel_trans HB.out K
  clear HG HB K c0 c1 c2 c3 c4 d0 d1 d2 d3 f0 f1 f2 f3
  obtain ⟨d0, d1, d2, d3, f0, f1, f2, f3⟩ := z4_of hg
  have HG := hid hg
  have HB := hid hB
  clear hg hB
  rw [Int.add_zero]
  go_wp2
  (try simp only [Exit.inBlock, Exit.then])
  refine bodyPost_ret (results_cell_row rfl _ _ w.heap.size 50 _ (0, 0) _ rfl (put4 HG.out _ _ _ _) Try.underlying50 rfl size50) rfl ?_
  exact ⟨rfl, below_put4 HB.out _ _ _ _⟩
set_option maxRecDepth 100000 in
set_option maxHeartbeats 600000 in
theorem wn_cas (w : World) (g : Nat) (x : Wr) (h : Pc w g x) (he : (x.t == x.e) = false) (hz : x.t = 1) (h0 : 0 ≤ x.m) (h1 : x.m ≤ 18446744073709551615) :
    Calls Try.prog 18 #[.pointer (some ⟨g, 0, none⟩)] w fun e w' => e = .returned (acV ⟨3, x.ad, x.m, add64 x.m 1⟩) ∧ Below w.heap.size w w' := by
  have HP := hid h
  obtain ⟨ad, n, t, e, m, vs⟩ := x
  simp only [] at he hz h0 h1 ⊢
  go_enter Try.func18, Try.ntmps18
  go_wp2_with fail
  refine (pDone_at _ g t e (HP.out.below (below_alloc w _)).c2 (HP.out.below (below_alloc w _)).c3).mono ?_
  rintro e2 w2 ⟨rfl, m2, hm2⟩
  obtain ⟨hg, hB, hP⟩ := next_frame HP.out (w2 := w2) (by rw [hm2]; exact below_drewN (Below.refl _ _) m2)
  clear hm2 m2
  obtain ⟨d0, d1, d2, d3, f0, f1, f2, f3⟩ := z4_of hg
  obtain ⟨c0, c1, c2, c3, c4⟩ := hP
  simp only [] at c0 c1 c2 c3 c4
  have hlt := World.block_lt_of_cell? w2 ⟨g, 0, none⟩ c0
  have hlt2 := HP.out.lt
  simp only [] at hlt
  have HG := hid hg
  have HB := hid hB
  clear hg hB h
  rw [he]
  subst hz
  go_wp2
  go_region
  go_wp2
  (try simp only [Exit.inBlock, Exit.then])
  refine bodyPost_ret (results_cell_row rfl _ _ w.heap.size 50 _ (0, 0) _ rfl (show _ from put4 HG.out _ _ _ _) Try.underlying50 rfl size50) rfl ?_
  exact ⟨rfl, (below_put4 HB.out _ _ _ _).drew⟩

/-- A block of four cells. -/
def R4 (w : World) (r : Nat) : Prop := ∃ a b c d : Value, w.heap[r]? = some (.cells #[a, b, c, d] 50 (0, 0))
/-- What stands while a store is made: two cells, and that nothing that lay before has changed. -/
abbrev StS (w : World) (g o : Nat) (ad v : Int) (w' : World) : Prop :=
  (w'.cell? ⟨g, 0, none⟩ = some (.int .i64 ad) ∧ w'.cell? ⟨g, o, none⟩ = some (.int .u64 v)) ∧ (Below w.heap.size w w' ∧ R4 w' w.heap.size)
/-- Four cells that are there. -/
structure There4 (w : World) (r : Nat) (a b c d : Value) : Prop where
  d0 : w.cell? ⟨r, 0, none⟩ = some a
  d1 : w.cell? ⟨r, 1, none⟩ = some b
  d2 : w.cell? ⟨r, 2, none⟩ = some c
  d3 : w.cell? ⟨r, 3, none⟩ = some d
  f0 : w.frozen? ⟨r, 0, none⟩ = false
  f1 : w.frozen? ⟨r, 1, none⟩ = false
  f2 : w.frozen? ⟨r, 2, none⟩ = false
  f3 : w.frozen? ⟨r, 3, none⟩ = false
theorem cell_put4 {w' : World} {g r i : Nat} (h : g ≠ r) (a b c d : Value) : ((((w'.setCell ⟨r, 0, none⟩ a).setCell ⟨r, 1, none⟩ b).setCell ⟨r, 2, none⟩ c).setCell ⟨r, 3, none⟩ d).cell? ⟨g, i, none⟩ = w'.cell? ⟨g, i, none⟩ := by
  have e : ∀ (W : World) (j : Nat) (u : Value), (W.setCell ⟨r, j, none⟩ u).cell? ⟨g, i, none⟩ = W.cell? ⟨g, i, none⟩ := fun W j u => by
    have := Below.heap_setCell W ⟨r, j, none⟩ u g h
    simp [World.cell?, this]
  rw [e, e, e, e]
theorem StS.put {w : World} {g o : Nat} {ad v : Int} (hlt : g < w.heap.size) {w' : World} (h : StS w g o ad v w') (a b c d : Value) : StS w g o ad v ((((w'.setCell ⟨w.heap.size, 0, none⟩ a).setCell ⟨w.heap.size, 1, none⟩ b).setCell ⟨w.heap.size, 2, none⟩ c).setCell ⟨w.heap.size, 3, none⟩ d) := by
  obtain ⟨⟨h1, h2⟩, h3, x, y, z, u, h4⟩ := h
  exact ⟨⟨(cell_put4 (by omega) _ _ _ _).trans h1, (cell_put4 (by omega) _ _ _ _).trans h2⟩, below_put4 h3 _ _ _ _, a, b, c, d, put4 h4 _ _ _ _⟩
theorem StS.store {w : World} {g o : Nat} {ad v k : Int} (hlt : g < w.heap.size) (h0 : 0 ≤ ad) (h1 : ad ≤ 65000) (h2 : 0 ≤ k) (h3 : k ≤ 100) {w' : World} (h : StS w g o ad v w') (u : Int) :
    Calls Try.prog 30 #[.pointer (some ⟨g, 0, none⟩), .int .i64 k, .int .u64 u] w' fun e w'' => e = .returned (acV ⟨2, ad + k, u, 0⟩) ∧ (∃ a b c d, There4 w'' w.heap.size a b c d) ∧ StS w g o ad v w'' := by
  obtain ⟨⟨i1, i2⟩, i3, a, b, c, d, i4⟩ := h
  refine (pStore_at w' g ad k u i1 h0 h1 h2 h3).mono ?_
  rintro e w'' ⟨rfl, K⟩
  have hs := i3.size
  have j4 := (K.block _ (lt_of_block i4)).trans i4
  refine ⟨rfl, ⟨a, b, c, d, cell_of j4 rfl, cell_of j4 rfl, cell_of j4 rfl, cell_of j4 rfl, free_of j4, free_of j4, free_of j4, free_of j4⟩, ⟨?_, ?_⟩, bel_trans i3 K, a, b, c, d, j4⟩
  · exact (K.cell (p := ⟨g, 0, none⟩) (by simp; omega)).trans i1
  · exact (K.cell (p := ⟨g, o, none⟩) (by simp; omega)).trans i2
theorem StS.load {w : World} {g o : Nat} {ad v k : Int} (hlt : g < w.heap.size) (h0 : 0 ≤ ad) (h1 : ad ≤ 65000) (h2 : 0 ≤ k) (h3 : k ≤ 100) {w' : World} (h : StS w g o ad v w') :
    Calls Try.prog 29 #[.pointer (some ⟨g, 0, none⟩), .int .i64 k] w' fun e w'' => e = .returned (acV ⟨1, ad + k, 0, 0⟩) ∧ (∃ a b c d, There4 w'' w.heap.size a b c d) ∧ StS w g o ad v w'' := by
  obtain ⟨⟨i1, i2⟩, i3, a, b, c, d, i4⟩ := h
  refine (pLoad_at w' g ad k i1 h0 h1 h2 h3).mono ?_
  rintro e w'' ⟨rfl, K⟩
  have hs := i3.size
  have j4 := (K.block _ (lt_of_block i4)).trans i4
  refine ⟨rfl, ⟨a, b, c, d, cell_of j4 rfl, cell_of j4 rfl, cell_of j4 rfl, cell_of j4 rfl, free_of j4, free_of j4, free_of j4, free_of j4⟩, ⟨?_, ?_⟩, bel_trans i3 K, a, b, c, d, j4⟩
  · exact (K.cell (p := ⟨g, 0, none⟩) (by simp; omega)).trans i1
  · exact (K.cell (p := ⟨g, o, none⟩) (by simp; omega)).trans i2
end Go.Proofs.Ytkdgjgbmbdmmfaa
