/- What the document's answer for layer 5 tells of a holder's next act, and of its leaving: the same functions as package ticket's. Conditions: the lock's place is 0 to 65000. -/
import Derived.Test.YtidgajjahpbbdaaS3
import Derived.Test.YtidgajjahpbbdaaR2
namespace Go.Proofs.Ytidgajjahpbbdaa
open Go.RowKit

abbrev rhC (x : Ho) : Array Value := #[.int .i64 x.ad, .int .i64 x.st, .int .u64 x.tk, .bool x.lv]
def IsRh (w : World) (g : Nat) (x : Ho) : Prop := w.heap[g]? = some (.cells (rhC x) 38 (0, 0))
theorem IsRh.lt {w : World} {g : Nat} {x : Ho} (h : IsRh w g x) : g < w.heap.size := lt_of_block h
theorem IsRh.keep {w w' : World} {g : Nat} {x : Ho} (h : IsRh w g x) (e : w'.heap[g]? = w.heap[g]?) : IsRh w' g x := e.trans h
theorem IsRh.below {w w' : World} {g : Nat} {x : Ho} (h : IsRh w g x) (k : Below w.heap.size w w') : IsRh w' g x := h.keep (k.block _ h.lt)
structure Rc (w : World) (g : Nat) (x : Ho) : Prop where
  c0 : w.cell? ⟨g, 0, none⟩ = some (.int .i64 x.ad)
  c1 : w.cell? ⟨g, 1, none⟩ = some (.int .i64 x.st)
  c2 : w.cell? ⟨g, 2, none⟩ = some (.int .u64 x.tk)
  c3 : w.cell? ⟨g, 3, none⟩ = some (.bool x.lv)
theorem IsRh.rc {w : World} {g : Nat} {x : Ho} (h : IsRh w g x) : Rc w g x := ⟨cell_of h rfl, cell_of h rfl, cell_of h rfl, cell_of h rfl⟩
theorem IsRh.free {w : World} {g : Nat} {x : Ho} (h : IsRh w g x) (i : Nat) : w.frozen? ⟨g, i, none⟩ = false := free_of h
theorem IsRh.setL {w : World} {g : Nat} {x : Ho} (h : IsRh w g x) (l : Bool) : IsRh (w.setCell ⟨g, 3, none⟩ (.bool l)) g { x with lv := l } := by
  unfold IsRh; rw [heap_setCell_self h]; rfl
theorem IsRh.setS {w : World} {g : Nat} {x : Ho} (h : IsRh w g x) (t : Int) : IsRh (w.setCell ⟨g, 1, none⟩ (.int .i64 t)) g { x with st := t } := by
  unfold IsRh; rw [heap_setCell_self h]; rfl
theorem IsRh.setK {w : World} {g : Nat} {x : Ho} (h : IsRh w g x) (t : Int) : IsRh (w.setCell ⟨g, 2, none⟩ (.int .u64 t)) g { x with tk := t } := by
  unfold IsRh; rw [heap_setCell_self h]; rfl

set_option maxHeartbeats 400000 in
theorem rleave_at {w : World} {g : Nat} {x : Ho} (h : IsRh w g x) :
    Calls Try.prog 13 #[.pointer (some ⟨g, 0, none⟩)] w fun e w' => e = .returned (.bool (lvV x)) ∧ IsRh w' g (lvT x) ∧ But g g w w' := by
  have HH := hid h
  obtain ⟨c0, c1, c2, c3⟩ := h.rc
  have f3 := h.free 3
  obtain ⟨ad, lv, st, tk⟩ := x
  simp only [] at c1 c3
  clear h c0 c2
  by_cases h2 : st = 2
  · subst h2
    cases lv
    · have q : lvV ⟨ad, false, 2, tk⟩ = true := rfl
      have q2 : lvT ⟨ad, false, 2, tk⟩ = ⟨ad, true, 2, tk⟩ := rfl
      rw [q, q2]
      clear q q2
      go_enter Try.func13, Try.ntmps13
      go_wp2
      go_ret
      exact ⟨rfl, HH.out.setL true, but_set _ _ _ _⟩
    · have q : lvV ⟨ad, true, 2, tk⟩ = false := rfl
      have q2 : lvT ⟨ad, true, 2, tk⟩ = ⟨ad, true, 2, tk⟩ := rfl
      rw [q, q2]
      clear q q2
      go_enter Try.func13, Try.ntmps13
      go_wp2
      go_ret
      exact ⟨rfl, HH.out, But.refl _ _ _⟩
  · have hb : (st != 2) = true := by simp [h2]
    have q : lvV ⟨ad, lv, st, tk⟩ = false := by simp [lvV, h2]
    have q2 : lvT ⟨ad, lv, st, tk⟩ = ⟨ad, lv, st, tk⟩ := by simp [lvT, q]
    rw [q, q2]
    clear q q2 h2
    go_enter Try.func13, Try.ntmps13
    go_wp2
    go_ret
    exact ⟨rfl, HH.out, But.refl _ _ _⟩

theorem rnext_frame {w : World} {g : Nat} {x : Ho} (h : IsRh w g x) :
    (w.alloc (.cells z4 41)).heap[w.heap.size]? = some (.cells z4 41 (0, 0)) ∧ Below w.heap.size w (w.alloc (.cells z4 41)) ∧ IsRh (w.alloc (.cells z4 41)) g x :=
  ⟨heap_alloc_new w (.cells z4 41 (0, 0)), below_alloc _ _, h.below (below_alloc _ _)⟩
set_option maxRecDepth 100000 in
set_option maxHeartbeats 600000 in
theorem rn_0 {w : World} {g : Nat} {x : Ho} (h : IsRh w g x) (ok : HOk x) (hz : x.st = 0) :
    Calls Try.prog 15 #[.pointer (some ⟨g, 0, none⟩)] w fun e w' => e = .returned (acV ⟨4, x.ad, 1, 0⟩) ∧ Below w.heap.size w w' := by
  obtain ⟨c0, c1, c2, c3⟩ := h.rc
  have hlt := h.lt
  obtain ⟨a0, a1, t0, t1⟩ := ok
  obtain ⟨ad, lv, st, tk⟩ := x
  simp only [] at *
  clear h
  subst hz
  have hne : g ≠ w.heap.size := by omega
  go_enter Try.func15, Try.ntmps15
  go_wp2
  (try simp only [Exit.inBlock, Exit.then])
  refine bodyPost_ret (results_cell_row rfl _ _ w.heap.size 41 (acC ⟨4, ad, 1, 0⟩) (0, 0) _ rfl (heap_alloc_new _ _) Try.underlying41 rfl size41) rfl ?_
  exact ⟨rfl, below_alloc _ _⟩
set_option maxRecDepth 100000 in
set_option maxHeartbeats 600000 in
theorem rn_1 {w : World} {g : Nat} {x : Ho} (h : IsRh w g x) (ok : HOk x) (hz : x.st = 1) :
    Calls Try.prog 15 #[.pointer (some ⟨g, 0, none⟩)] w fun e w' => e = .returned (acV ⟨1, x.ad + 1, 0, 0⟩) ∧ Below w.heap.size w w' := by
  obtain ⟨c0, c1, c2, c3⟩ := h.rc
  have hlt := h.lt
  obtain ⟨a0, a1, t0, t1⟩ := ok
  obtain ⟨ad, lv, st, tk⟩ := x
  simp only [] at *
  clear h
  subst hz
  have hne : g ≠ w.heap.size := by omega
  go_enter Try.func15, Try.ntmps15
  go_wp2
  (try simp only [Exit.inBlock, Exit.then])
  refine bodyPost_ret (results_cell_row rfl _ _ w.heap.size 41 (acC ⟨1, ad + 1, 0, 0⟩) (0, 0) _ rfl (heap_alloc_new _ _) Try.underlying41 rfl size41) rfl ?_
  exact ⟨rfl, below_alloc _ _⟩
set_option maxRecDepth 100000 in
set_option maxHeartbeats 600000 in
theorem rn_no2 {w : World} {g : Nat} {x : Ho} (h : IsRh w g x) (ok : HOk x) (hz : x.st = 2) (hl : x.lv = false) :
    Calls Try.prog 15 #[.pointer (some ⟨g, 0, none⟩)] w fun e w' => e = .returned (acV ⟨0, 0, 0, 0⟩) ∧ Below w.heap.size w w' := by
  obtain ⟨c0, c1, c2, c3⟩ := h.rc
  have hlt := h.lt
  obtain ⟨a0, a1, t0, t1⟩ := ok
  obtain ⟨ad, lv, st, tk⟩ := x
  simp only [] at *
  clear h
  subst hz
  subst hl
  have hne : g ≠ w.heap.size := by omega
  go_enter Try.func15, Try.ntmps15
  go_wp2
  (try simp only [Exit.inBlock, Exit.then])
  refine bodyPost_ret (results_cell_row rfl _ _ w.heap.size 41 (acC ⟨0, 0, 0, 0⟩) (0, 0) _ rfl (heap_alloc_new _ _) Try.underlying41 rfl size41) rfl ?_
  exact ⟨rfl, below_alloc _ _⟩
set_option maxRecDepth 100000 in
set_option maxHeartbeats 600000 in
theorem rn_no {w : World} {g : Nat} {x : Ho} (h : IsRh w g x) (ok : HOk x) (h0 : (x.st == 0) = false) (h1 : (x.st == 1) = false) (h2 : (x.st == 2) = false) :
    Calls Try.prog 15 #[.pointer (some ⟨g, 0, none⟩)] w fun e w' => e = .returned (acV ⟨0, 0, 0, 0⟩) ∧ Below w.heap.size w w' := by
  obtain ⟨c0, c1, c2, c3⟩ := h.rc
  have hlt := h.lt
  obtain ⟨a0, a1, t0, t1⟩ := ok
  obtain ⟨ad, lv, st, tk⟩ := x
  simp only [] at *
  clear h
  have hne : g ≠ w.heap.size := by omega
  go_enter Try.func15, Try.ntmps15
  go_wp2
  (try simp only [Exit.inBlock, Exit.then])
  refine bodyPost_ret (results_cell_row rfl _ _ w.heap.size 41 (acC ⟨0, 0, 0, 0⟩) (0, 0) _ rfl (heap_alloc_new _ _) Try.underlying41 rfl size41) rfl ?_
  exact ⟨rfl, below_alloc _ _⟩
set_option maxRecDepth 100000 in
set_option maxHeartbeats 600000 in
theorem rn_2 {w : World} {g : Nat} {x : Ho} (h : IsRh w g x) (ok : HOk x) (hz : x.st = 2) (hl : x.lv = true) :
    Calls Try.prog 15 #[.pointer (some ⟨g, 0, none⟩)] w fun e w' => e = .returned (acV ⟨2, x.ad + 1, add64 x.tk 1, 0⟩) ∧ Below w.heap.size w w' := by
  obtain ⟨hg, hB, hP⟩ := rnext_frame h
  obtain ⟨c0, c1, c2, c3⟩ := hP.rc
  obtain ⟨d0, d1, d2, d3, f0, f1, f2, f3⟩ := z4_of hg
  have hlt := h.lt
  have HG := hid hg
  have HB := hid hB
  obtain ⟨a0, a1, t0, t1⟩ := ok
  obtain ⟨ad, lv, st, tk⟩ := x
  simp only [] at *
  clear h hP hg hB
  subst hz
  subst hl
  have hne : g ≠ w.heap.size := by omega
  go_enter Try.func15, Try.ntmps15
  go_wp2
  generalize w.alloc (.cells z4 41) = W at *
  go_region
  go_wp2
  (try simp only [Exit.inBlock, Exit.then])
  refine bodyPost_ret (results_cell_row rfl _ _ w.heap.size 41 _ (0, 0) _ rfl (show _ from put4 HG.out _ _ _ _) Try.underlying41 rfl size41) rfl ?_
  exact ⟨rfl, (below_put4 HB.out _ _ _ _).drew⟩

theorem rnext_at {w : World} {g : Nat} {x : Ho} (h : IsRh w g x) (ok : HOk x) :
    Calls Try.prog 15 #[.pointer (some ⟨g, 0, none⟩)] w fun e w' => e = .returned (acV (hNext x)) ∧ Below w.heap.size w w' := by
  unfold hNext
  by_cases h0 : x.st = 0
  · rw [if_pos h0]; exact rn_0 h ok h0
  · by_cases h1 : x.st = 1
    · rw [if_neg h0, if_pos h1]; exact rn_1 h ok h1
    · rw [if_neg h0, if_neg h1]
      by_cases h2 : x.st = 2
      · cases hl : x.lv
        · rw [if_neg (by simp)]; exact rn_no2 h ok h2 hl
        · rw [if_pos ⟨h2, rfl⟩]; exact rn_2 h ok h2 hl
      · rw [if_neg (fun e => h2 e.1)]
        exact rn_no h ok (beq_eq_false_iff_ne.2 h0) (beq_eq_false_iff_ne.2 h1) (beq_eq_false_iff_ne.2 h2)
end Go.Proofs.Ytidgajjahpbbdaa
