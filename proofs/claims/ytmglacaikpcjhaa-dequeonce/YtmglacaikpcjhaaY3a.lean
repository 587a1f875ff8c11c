/- What the owner's turn leaves of the world of DequeOnce. Conditions: the owner's task is such as Push or Pop gave. -/
import Derived.Test.YtmglacaikpcjhaaY2a
namespace Go.Proofs.Ytmglacaikpcjhaa
open Go.RowKit

theorem cells125 {w : World} {gx j : Nat} {n u : Int} {v : Value} (h : w.cell? ⟨gx, 1, none⟩ = some (.int .i64 3) ∧ w.cell? ⟨gx, 2, none⟩ = some (.int .i64 n) ∧ w.cell? ⟨gx, 5, none⟩ = some (.int .i64 u)) (hj : j = 3) : (w.setCell ⟨gx, j, none⟩ v).cell? ⟨gx, 1, none⟩ = some (.int .i64 3) ∧ (w.setCell ⟨gx, j, none⟩ v).cell? ⟨gx, 2, none⟩ = some (.int .i64 n) ∧ (w.setCell ⟨gx, j, none⟩ v).cell? ⟨gx, 5, none⟩ = some (.int .i64 u) :=
  ⟨(World.cell?_setCell_other w ⟨gx, j, none⟩ ⟨gx, 1, none⟩ v (fun e => by injection e; omega)).trans h.1, (World.cell?_setCell_other w ⟨gx, j, none⟩ ⟨gx, 2, none⟩ v (fun e => by injection e; omega)).trans h.2.1, (World.cell?_setCell_other w ⟨gx, j, none⟩ ⟨gx, 5, none⟩ v (fun e => by injection e; omega)).trans h.2.2⟩
set_option maxRecDepth 100000 in
set_option maxHeartbeats 800000 in
theorem own_stop {w : World} {gx : Nat} {c : Xr} (hx : IsX w gx c) (ht : c.ow = none) (lq : Option Addr) (ln lc : Nat) (hl : (ln : Int) ≤ c.u) :
    Calls Try.prog 23 #[.pointer (some ⟨gx, 0, none⟩), .slice lq ln lc] w fun e w' => e = .returned (.tuple #[]) ∧ w' = w := by
  obtain ⟨c0, c1, c2, c3, c4, c5, c6, c7, c8, c9, c10, c11, c12⟩ := hx.xc
  have HX := hid hx
  have hlt := hx.lt
  obtain ⟨p, n, ow, po, u, t0, t1, t2, gh, N, pu, ta⟩ := c
  simp only [] at ht hl c0 c1 c2 c3 c4 c5 c6 c7 c8 c9 c10 c11 c12
  subst ht
  simp only [ptrV] at c3
  clear hx c0 c1 c2 c4 c6 c7 c8 c9 c10 c11 c12
  go_enter Try.func23, Try.ntmps23
  go_wp2
  first | go_end0 | (refine bodyPost_ret (results_none rfl _ _ _) rfl ?_)
  exact ⟨rfl, rfl⟩
set_option maxRecDepth 100000 in
set_option maxHeartbeats 800000 in
theorem own_newG {w : World} {gx i : Nat} {c : Xr} (hx : IsX w gx c) (ht : c.ow = none) (hu : c.u = i) (q : QOk 3 c.n) (lb lo ln lc y : Nat) (hi : i < ln) (hln : ln ≤ 20) (hy : y < 256) (hy1 : y % 2 = 1) (hc : w.cell? ⟨lb, lo + i, none⟩ = some (.int .u8 (y : Int))) :
    Calls Try.prog 23 #[.pointer (some ⟨gx, 0, none⟩), .slice (some ⟨lb, lo, none⟩) ln lc] w fun e w' => e = .returned (.tuple #[]) ∧ ∃ g, w.heap.size ≤ g ∧ IsTk w' g (newG 3 c.n) ∧ IsX w' gx { c with ow := some g, po := true, u := (i : Int) + 1 } ∧ But gx gx w w' := by
  obtain ⟨c0, c1, c2, c3, c4, c5, c6, c7, c8, c9, c10, c11, c12⟩ := hx.xc
  have HX := hid hx
  have hlt := hx.lt
  obtain ⟨p, n, ow, po, u, t0, t1, t2, gh, N, pu, ta⟩ := c
  simp only [] at ht hu q c0 c1 c2 c3 c4 c5 c6 c7 c8 c9 c10 c11 c12
  subst ht hu
  simp only [ptrV] at c3
  have f4 := hx.free 4
  have hi0 : (i : Int) < (ln : Int) := by omega
  have hl0 : (ln : Int) ≤ 20 := by omega
  have hyy0 : (0 : Int) ≤ (y : Int) := by omega
  have hyy1 : (y : Int) < 256 := by omega
  have htm : (y : Int).tmod 2 = 1 := by rw [Int.tmod_eq_emod_of_nonneg (by omega)]; omega
  have HC := hid (pop_at (w.setCell ⟨gx, 4, none⟩ (.bool true)) q)
  have HX1 := hid (hx.setPo true)
  clear hx q c0 c6 c7 c8 c9 c10 c11 c12 hy1
  go_enter Try.func23, Try.ntmps23
  go_wp2_with fail
  refine HC.out.mono ?_
  rintro e w1 ⟨g, rfl, h1, hg, K⟩
  have HX2 := hid (HX1.out.below K)
  have HB : Hid (But gx gx w w1) := hid ((but_set gx 4 _ _).trans (But.of_below K))
  have HG : Hid (w.heap.size ≤ g) := hid (by have := hg; simpa [World.setCell] using this)
  have HT := hid h1
  clear h1 hg K HC HX1 htm c1 c2 c3 c4 c5 f4 hc
  obtain ⟨c0, c1, c2, c3, c4, c5, c6, c7, c8, c9, c10, c11, c12⟩ := HX2.out.xc
  have f3 := HX2.out.free 3
  have f5 := HX2.out.free 5
  have f12 := HX2.out.free 12
  simp only [ptrV] at c3 c5
  clear c0 c1 c2 c4 c6 c7 c8 c9 c10 c11
  go_wp2
  first | go_end0 | (refine bodyPost_ret (results_none rfl _ _ _) rfl ?_)
  have hg := HG.out
  have hne : g ≠ gx := by omega
  exact ⟨rfl, g, hg, ((HT.out.keep (Below.heap_setCell _ _ _ _ hne)).keep (Below.heap_setCell _ _ _ _ hne)).keep (Below.heap_setCell _ _ _ _ hne), ((HX2.out.setOw (some g)).setU ((i : Int) + 1)).setBad, ((HB.out.trans (but_set gx 3 _ _)).trans (but_set gx 5 _ _)).trans (but_set gx 12 _ _)⟩
set_option maxRecDepth 100000 in
set_option maxHeartbeats 800000 in
theorem own_newP {w : World} {gx i : Nat} {c : Xr} (hx : IsX w gx c) (ht : c.ow = none) (hu : c.u = i) (q : QOk 3 c.n) (lb lo ln lc y : Nat) (hi : i < ln) (hln : ln ≤ 20) (hy : y < 256) (hy1 : y % 2 = 0) (hc : w.cell? ⟨lb, lo + i, none⟩ = some (.int .u8 (y : Int))) :
    Calls Try.prog 23 #[.pointer (some ⟨gx, 0, none⟩), .slice (some ⟨lb, lo, none⟩) ln lc] w fun e w' => e = .returned (.tuple #[]) ∧ ∃ g, w.heap.size ≤ g ∧ IsTk w' g (newP 3 c.n (100 + (i : Int))) ∧ IsX w' gx { c with ow := some g, po := false, u := (i : Int) + 1 } ∧ But gx gx w w' := by
  obtain ⟨c0, c1, c2, c3, c4, c5, c6, c7, c8, c9, c10, c11, c12⟩ := hx.xc
  have HX := hid hx
  have hlt := hx.lt
  obtain ⟨p, n, ow, po, u, t0, t1, t2, gh, N, pu, ta⟩ := c
  simp only [] at ht hu q c0 c1 c2 c3 c4 c5 c6 c7 c8 c9 c10 c11 c12
  subst ht hu
  simp only [ptrV] at c3
  have f4 := hx.free 4
  have hi0 : (i : Int) < (ln : Int) := by omega
  have hl0 : (ln : Int) ≤ 20 := by omega
  have hyy0 : (0 : Int) ≤ (y : Int) := by omega
  have hyy1 : (y : Int) < 256 := by omega
  have htm : (y : Int).tmod 2 = 0 := by rw [Int.tmod_eq_emod_of_nonneg (by omega)]; omega
  have HX1 := hid (hx.setPo false)
  have HB1 := hid (but_set gx 4 w (.bool false))
  have HS1 : Hid ((w.setCell ⟨gx, 4, none⟩ (.bool false)).heap.size = w.heap.size) := hid (set_size _ _ _)
  clear hx c0 c6 c7 c8 c9 c10 c11 c12 hy1
  go_enter Try.func23, Try.ntmps23
  go_wp2_with fail
  clear htm c1 c2 c3 c4 c5 f4 hc
  generalize w.setCell ⟨gx, 4, none⟩ (.bool false) = W at *
  have HC : Hid (Calls Try.prog 12 #[.agg #[.int .i64 3, .int .i64 n], .int .u64 (100 + (i : Int))] W.drew fun e w' => ∃ g, e = .returned (.pointer (some ⟨g, 0, none⟩)) ∧ (w'.cell? ⟨gx, 1, none⟩ = some (.int .i64 3) ∧ w'.cell? ⟨gx, 2, none⟩ = some (.int .i64 n) ∧ w'.cell? ⟨gx, 5, none⟩ = some (.int .i64 (i : Int))) ∧ (w'.cell? ⟨gx, 3, none⟩ = some (.pointer none) ∧ w'.frozen? ⟨gx, 3, none⟩ = false) ∧ Hid (IsTk w' g (newP 3 n (100 + (i : Int))) ∧ W.heap.size ≤ g ∧ Below W.heap.size W w')) := hid (by
    refine (push_at W.drew (100 + (i : Int)) q).mono ?_
    rintro e w' ⟨g, rfl, h1, h2, h3⟩
    have hB : Below W.heap.size W w' := bel_trans (Below.refl _ _).drew h3
    have hx' := HX1.out.below hB
    exact ⟨g, rfl, ⟨hx'.xc.c1, hx'.xc.c2, hx'.xc.c5⟩, ⟨hx'.xc.c3, hx'.free 3⟩, h1, h2, hB⟩)
  have hS0 : W.drew.cell? ⟨gx, 1, none⟩ = some (.int .i64 3) ∧ W.drew.cell? ⟨gx, 2, none⟩ = some (.int .i64 n) ∧ W.drew.cell? ⟨gx, 5, none⟩ = some (.int .i64 (i : Int)) := ⟨HX1.out.xc.c1, HX1.out.xc.c2, HX1.out.xc.c5⟩
  have hw1 : IntKind.i64.wrap (100 + (i : Int)) = 100 + (i : Int) := i64w (by omega) (by omega)
  have hw2 : IntKind.u64.wrap (100 + (i : Int)) = 100 + (i : Int) := u64w (by omega) (by omega)
  clear q
  go_region_held3 (fun w' => w'.cell? ⟨gx, 1, none⟩ = some (.int .i64 3) ∧ w'.cell? ⟨gx, 2, none⟩ = some (.int .i64 n) ∧ w'.cell? ⟨gx, 5, none⟩ = some (.int .i64 (i : Int))) (first | with_reducible exact cells125 (by assumption) rfl | with_reducible exact hS0 | with_reducible assumption)
    (first
      | (go_at_call 12; refine HC.out.mono ?_; rintro e4 w4 ⟨g, rfl, hS4, ⟨d0, f0⟩, hX⟩))
  have hgg : g ≠ gx := by have := hX.out.2.1; have := HX1.out.lt; omega
  have HI := hid ((HX1.out.below hX.out.2.2).setOw (some g))
  have HT := hid (hX.out.1.keep (w' := w4.setCell ⟨gx, 3, none⟩ (ptrV (some g))) (Below.heap_setCell _ _ _ _ hgg))
  have HB : Hid (But gx gx w (w4.setCell ⟨gx, 3, none⟩ (ptrV (some g)))) := hid ((HB1.out.trans (But.of_below hX.out.2.2)).trans (but_set gx 3 _ _))
  have HG : Hid (w.heap.size ≤ g) := hid (by have := hX.out.2.1; have := HS1.out; omega)
  simp only [ptrV] at HI HT HB
  clear hX HC hS0 hS4 d0 f0 HB1 HS1 HX1
  generalize w4.setCell ⟨gx, 3, none⟩ (.pointer (some ⟨g, 0, none⟩)) = w5 at *
  obtain ⟨c0, c1, c2, c3, c4, c5, c6, c7, c8, c9, c10, c11, c12⟩ := HI.out.xc
  have f5 := HI.out.free 5
  have f12 := HI.out.free 12
  simp only [ptrV] at c3 c5
  clear c0 c1 c2 c4 c6 c7 c8 c9 c10 c11
  go_wp2
  first | go_end0 | (refine bodyPost_ret (results_none rfl _ _ _) rfl ?_)
  exact ⟨rfl, g, HG.out, (HT.out.keep (Below.heap_setCell _ _ _ _ hgg)).keep (Below.heap_setCell _ _ _ _ hgg), (HI.out.setU ((i : Int) + 1)).setBad, (HB.out.trans (but_set gx 5 _ _)).trans (but_set gx 12 _ _)⟩
end Go.Proofs.Ytmglacaikpcjhaa
