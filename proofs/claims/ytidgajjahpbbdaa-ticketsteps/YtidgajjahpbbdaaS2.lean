/- What a holder's Next and goOn return and leave. Conditions: a holder is one that Lock.Holder gave. -/
import Derived.Test.YtidgajjahpbbdaaS1
namespace Go.Proofs.Ytidgajjahpbbdaa
open Go.RowKit

/-- A scope in which the run jumps once. -/
theorem scope_once {P : Program} {a : Act} {w : World} {Q : Exit → Act → World → Prop} {c rest : Code} (l : Nat) (hf : findLabel c l = some rest)
    (first : c.wp P (Exit.jump l (fun a w => rest.wp P (Exit.noGoto Q) a w) Q) a w) : (Code.scope c).wp P Q a w := by
  refine wp_scope_jumps l (fun a w => rest.wp P (Exit.noGoto Q) a w) (fun _ _ => 0) hf first ?_
  intro a w h
  intro b k cs
  obtain ⟨e, a', w', hq, harr⟩ := h b k cs
  refine ⟨e, a', w', ?_, harr⟩
  cases e with
  | goto l => exact hq.elim
  | _ => exact hq

theorem size41 : (Try.prog.info? 41).map (·.size) = some 4 := by kernel_rfl
theorem put4 {w2 : World} {g : Nat} {x y z u : Value} {t : TypeId} (hg : w2.heap[g]? = some (.cells #[x, y, z, u] t (0, 0))) (x' y' z' u' : Value) :
    ((((w2.setCell ⟨g, 0, none⟩ x').setCell ⟨g, 1, none⟩ y').setCell ⟨g, 2, none⟩ z').setCell ⟨g, 3, none⟩ u').heap[g]? = some (.cells #[x', y', z', u'] t (0, 0)) := by
  rw [heap_setCell_self (heap_setCell_self (heap_setCell_self (heap_setCell_self hg _) _) _) _]
  rfl
theorem below_set {w w' : World} {B : Nat} (h : Below B w w') (g i : Nat) (v : Value) (hg : B ≤ g) : Below B w (w'.setCell ⟨g, i, none⟩ v) :=
  ⟨h.os, h.tape, h.output, by have := h.size; simpa [World.setCell] using this, fun k hk => (Below.heap_setCell _ _ _ _ (by simp; omega)).trans (h.block k hk)⟩
abbrev z4 : Array Value := #[.int .i64 0, .int .i64 0, .int .u64 0, .int .u64 0]
structure Z4 (w : World) (r : Nat) : Prop where
  d0 : w.cell? ⟨r, 0, none⟩ = some (.int .i64 0)
  d1 : w.cell? ⟨r, 1, none⟩ = some (.int .i64 0)
  d2 : w.cell? ⟨r, 2, none⟩ = some (.int .u64 0)
  d3 : w.cell? ⟨r, 3, none⟩ = some (.int .u64 0)
  f0 : w.frozen? ⟨r, 0, none⟩ = false
  f1 : w.frozen? ⟨r, 1, none⟩ = false
  f2 : w.frozen? ⟨r, 2, none⟩ = false
  f3 : w.frozen? ⟨r, 3, none⟩ = false
theorem z4_of {w : World} {r : Nat} (h : w.heap[r]? = some (.cells z4 41 (0, 0))) : Z4 w r :=
  ⟨cell_of h rfl, cell_of h rfl, cell_of h rfl, cell_of h rfl, free_of h, free_of h, free_of h, free_of h⟩
theorem below_put4 {w w' : World} (h : Below w.heap.size w w') (a b c d : Value) : Below w.heap.size w ((((w'.setCell ⟨w.heap.size, 0, none⟩ a).setCell ⟨w.heap.size, 1, none⟩ b).setCell ⟨w.heap.size, 2, none⟩ c).setCell ⟨w.heap.size, 3, none⟩ d) :=
  below_set (below_set (below_set (below_set h _ _ _ (Nat.le_refl _)) _ _ _ (Nat.le_refl _)) _ _ _ (Nat.le_refl _)) _ _ _ (Nat.le_refl _)

structure HOk (x : Ho) : Prop where
  a0 : 0 ≤ x.ad
  a1 : x.ad ≤ 65000
  t0 : 0 ≤ x.tk
  t1 : x.tk ≤ 18446744073709551615

def hNext (x : Ho) : Ac :=
  if x.st = 0 then ⟨4, x.ad, 1, 0⟩
  else if x.st = 1 then ⟨1, x.ad + 1, 0, 0⟩
  else if x.st = 2 ∧ x.lv = true then ⟨2, x.ad + 1, add64 x.tk 1, 0⟩
  else ⟨0, 0, 0, 0⟩

theorem next_frame {w : World} {g : Nat} {x : Ho} (h : IsHo w g x) :
    (w.alloc (.cells z4 41)).heap[w.heap.size]? = some (.cells z4 41 (0, 0)) ∧ Below w.heap.size w (w.alloc (.cells z4 41)) ∧ IsHo (w.alloc (.cells z4 41)) g x :=
  ⟨heap_alloc_new w (.cells z4 41 (0, 0)), below_alloc _ _, h.below (below_alloc _ _)⟩

set_option maxRecDepth 100000 in
set_option maxHeartbeats 600000 in
theorem hn_0 {w : World} {g : Nat} {x : Ho} (h : IsHo w g x) (hz : x.st = 0) :
    Calls Try.prog 14 #[.pointer (some ⟨g, 0, none⟩)] w fun e w' => e = .returned (acV ⟨4, x.ad, 1, 0⟩) ∧ Below w.heap.size w w' := by
  obtain ⟨hg, hB, hP⟩ := next_frame h
  obtain ⟨c0, c1, c2, c3, c4⟩ := hP.hc
  rw [hz] at c3
  obtain ⟨d0, d1, d2, d3, f0, f1, f2, f3⟩ := z4_of hg
  have hlt := h.lt
  have HP := hid hP
  have HG := hid hg
  have HB := hid hB
  obtain ⟨ad, lv, st, tk⟩ := x
  simp only [] at c0 c2 c4 ⊢
  clear h hP hg hB hz
  go_enter Try.func14, Try.ntmps14
  go_wp2_with fail
  refine (hNone_at HP.out).mono ?_
  rintro e w2 ⟨rfl, hw2⟩
  rw [hw2]
  clear hw2 w2
  generalize w.alloc (.cells z4 41) = W at *
  have hne : g ≠ w.heap.size := by omega
  go_wp2
  (try simp only [Exit.inBlock, Exit.then])
  refine bodyPost_ret (results_cell_row rfl _ _ w.heap.size 41 _ (0, 0) _ rfl (put4 HG.out _ _ _ _) Try.underlying41 rfl size41) rfl ?_
  exact ⟨rfl, below_put4 HB.out _ _ _ _⟩
set_option maxRecDepth 100000 in
set_option maxHeartbeats 600000 in
theorem hn_1 {w : World} {g : Nat} {x : Ho} (h : IsHo w g x) (ok : HOk x) (hz : x.st = 1) :
    Calls Try.prog 14 #[.pointer (some ⟨g, 0, none⟩)] w fun e w' => e = .returned (acV ⟨1, x.ad + 1, 0, 0⟩) ∧ Below w.heap.size w w' := by
  obtain ⟨hg, hB, hP⟩ := next_frame h
  obtain ⟨c0, c1, c2, c3, c4⟩ := hP.hc
  rw [hz] at c3
  have hlt := h.lt
  have HP := hid hP
  have HG := hid hg
  have HB := hid hB
  have a0 := ok.a0
  have a1 := ok.a1
  obtain ⟨ad, lv, st, tk⟩ := x
  simp only [] at c0 c2 c4 a0 a1 ⊢
  clear h hP hg hB hz ok
  go_enter Try.func14, Try.ntmps14
  go_wp2_with fail
  refine (hNone_at HP.out).mono ?_
  rintro e w2 ⟨rfl, hw2⟩
  rw [hw2]
  clear hw2 w2
  generalize w.alloc (.cells z4 41) = W at *
  have hne : g ≠ w.heap.size := by omega
  go_wp2_with fail
  refine (served_at _ ad a0 a1).mono ?_
  rintro e w3 ⟨rfl, K⟩
  have hg := (K.block _ (lt_of_block HG.out)).trans HG.out
  have hB := bel_trans HB.out K
  clear HG HB K c0 c1 c2 c3 c4
  obtain ⟨d0, d1, d2, d3, f0, f1, f2, f3⟩ := z4_of hg
  have HG := hid hg
  have HB := hid hB
  clear hg hB
  go_wp2
  (try simp only [Exit.inBlock, Exit.then])
  refine bodyPost_ret (results_cell_row rfl _ _ w.heap.size 41 _ (0, 0) _ rfl (put4 HG.out _ _ _ _) Try.underlying41 rfl size41) rfl ?_
  exact ⟨rfl, below_put4 HB.out _ _ _ _⟩
set_option maxRecDepth 100000 in
set_option maxHeartbeats 600000 in
theorem hn_none {w : World} {g : Nat} {x : Ho} (h : IsHo w g x) (h0 : (x.st == 0) = false) (h1 : (x.st == 1) = false) (h2 : x.st = 2 → x.lv = false) :
    Calls Try.prog 14 #[.pointer (some ⟨g, 0, none⟩)] w fun e w' => e = .returned (acV ⟨0, 0, 0, 0⟩) ∧ Below w.heap.size w w' := by
  obtain ⟨hg, hB, hP⟩ := next_frame h
  obtain ⟨c0, c1, c2, c3, c4⟩ := hP.hc
  obtain ⟨d0, d1, d2, d3, f0, f1, f2, f3⟩ := z4_of hg
  have hlt := h.lt
  have HP := hid hP
  have HG := hid hg
  have HB := hid hB
  obtain ⟨ad, lv, st, tk⟩ := x
  simp only [] at c0 c2 c3 c4 h0 h1 h2 ⊢
  clear h hP hg hB
  by_cases hz : st = 2
  · have hl := h2 hz
    subst hl
    subst hz
    clear h2 h0 h1
    go_enter Try.func14, Try.ntmps14
    go_wp2_with fail
    refine (hNone_at HP.out).mono ?_
    rintro e w2 ⟨rfl, hw2⟩
    rw [hw2]
    clear hw2 w2
    generalize w.alloc (.cells z4 41) = W at *
    have hne : g ≠ w.heap.size := by omega
    go_wp2
    (try simp only [Exit.inBlock, Exit.then])
    refine bodyPost_ret (results_cell_row rfl _ _ w.heap.size 41 _ (0, 0) _ rfl (put4 HG.out _ _ _ _) Try.underlying41 rfl size41) rfl ?_
    exact ⟨rfl, below_put4 HB.out _ _ _ _⟩
  · have hb2 : (st == 2) = false := beq_eq_false_iff_ne.2 hz
    clear h2 hz
    go_enter Try.func14, Try.ntmps14
    go_wp2_with fail
    refine (hNone_at HP.out).mono ?_
    rintro e w2 ⟨rfl, hw2⟩
    rw [hw2]
    clear hw2 w2
    generalize w.alloc (.cells z4 41) = W at *
    have hne : g ≠ w.heap.size := by omega
    go_wp2
    (try simp only [Exit.inBlock, Exit.then])
    refine bodyPost_ret (results_cell_row rfl _ _ w.heap.size 41 _ (0, 0) _ rfl (put4 HG.out _ _ _ _) Try.underlying41 rfl size41) rfl ?_
    exact ⟨rfl, below_put4 HB.out _ _ _ _⟩
set_option maxHeartbeats 600000 in
theorem next_nil (w : World) :
    Calls Try.prog 14 #[.pointer none] w fun e w' => e = .returned (acV ⟨0, 0, 0, 0⟩) ∧ Below w.heap.size w w' := by
  have hg : (w.alloc (.cells z4 41)).heap[w.heap.size]? = some (.cells z4 41 (0, 0)) := heap_alloc_new w (.cells z4 41 (0, 0))
  have hB := below_alloc w (.cells z4 41)
  obtain ⟨d0, d1, d2, d3, f0, f1, f2, f3⟩ := z4_of hg
  have HG := hid hg
  have HB := hid hB
  clear hg hB
  go_enter Try.func14, Try.ntmps14
  go_wp2_with fail
  refine (hNone_nil _).mono ?_
  rintro e w2 ⟨rfl, hw2⟩
  rw [hw2]
  clear hw2 w2
  generalize w.alloc (.cells z4 41) = W at *
  go_wp2
  (try simp only [Exit.inBlock, Exit.then])
  refine bodyPost_ret (results_cell_row rfl _ _ w.heap.size 41 _ (0, 0) _ rfl (put4 HG.out _ _ _ _) Try.underlying41 rfl size41) rfl ?_
  exact ⟨rfl, below_put4 HB.out _ _ _ _⟩
end Go.Proofs.Ytidgajjahpbbdaa
