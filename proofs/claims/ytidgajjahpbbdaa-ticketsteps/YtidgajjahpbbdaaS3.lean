/- What a holder's Next returns, and what goOn leaves. Conditions: a holder is one that Lock.Holder gave. -/
import Derived.Test.YtidgajjahpbbdaaS2
namespace Go.Proofs.Ytidgajjahpbbdaa
open Go.RowKit

def R4 (w : World) (r : Nat) : Prop := ∃ a b c d : Value, w.heap[r]? = some (.cells #[a, b, c, d] 41 (0, 0))
structure There4 (w : World) (r : Nat) (a b c d : Value) : Prop where
  d0 : w.cell? ⟨r, 0, none⟩ = some a
  d1 : w.cell? ⟨r, 1, none⟩ = some b
  d2 : w.cell? ⟨r, 2, none⟩ = some c
  d3 : w.cell? ⟨r, 3, none⟩ = some d
  f0 : w.frozen? ⟨r, 0, none⟩ = false
  f1 : w.frozen? ⟨r, 1, none⟩ = false
  f2 : w.frozen? ⟨r, 2, none⟩ = false
  f3 : w.frozen? ⟨r, 3, none⟩ = false
theorem cell_put4 {w' : World} {g r i : Nat} (h : g ≠ r) (a b c d : Value) : ((((w'.setCell ⟨r, 0, none⟩ a).setCell ⟨r, 1, none⟩ b).setCell ⟨r, 2, none⟩ c).setCell ⟨r, 3, none⟩ d).cell? ⟨g, i, none⟩ = w'.cell? ⟨g, i, none⟩ := by
  have e : ((((w'.setCell ⟨r, 0, none⟩ a).setCell ⟨r, 1, none⟩ b).setCell ⟨r, 2, none⟩ c).setCell ⟨r, 3, none⟩ d).heap[g]? = w'.heap[g]? := by
    rw [Below.heap_setCell _ _ _ _ h, Below.heap_setCell _ _ _ _ h, Below.heap_setCell _ _ _ _ h, Below.heap_setCell _ _ _ _ h]
  simp [World.cell?, e]
abbrev HtS (w : World) (g : Nat) (ad tk : Int) (w' : World) : Prop :=
  (w'.cell? ⟨g, 0, none⟩ = some (.int .i64 ad) ∧ w'.cell? ⟨g, 4, none⟩ = some (.int .u64 tk)) ∧ (Below w.heap.size w w' ∧ R4 w' w.heap.size)
theorem HtS.put {w : World} {g : Nat} {ad tk : Int} (hlt : g < w.heap.size) {w' : World} (h : HtS w g ad tk w') (a b c d : Value) : HtS w g ad tk ((((w'.setCell ⟨w.heap.size, 0, none⟩ a).setCell ⟨w.heap.size, 1, none⟩ b).setCell ⟨w.heap.size, 2, none⟩ c).setCell ⟨w.heap.size, 3, none⟩ d) := by
  obtain ⟨⟨h1, h2⟩, h3, x, y, z, u, h4⟩ := h
  exact ⟨⟨(cell_put4 (by omega) _ _ _ _).trans h1, (cell_put4 (by omega) _ _ _ _).trans h2⟩, below_put4 h3 _ _ _ _, a, b, c, d, put4 h4 _ _ _ _⟩
theorem HtS.served {w : World} {g : Nat} {ad tk : Int} (hlt : g < w.heap.size) (h0 : 0 ≤ ad) (h1 : ad ≤ 65000) {w' : World} (h : HtS w g ad tk w') :
    Calls Try.prog 24 #[.agg #[.int .i64 ad]] w' fun e w'' => e = .returned (.int .i64 (ad + 1)) ∧ (∃ a b c d, There4 w'' w.heap.size a b c d) ∧ HtS w g ad tk w'' := by
  obtain ⟨⟨i1, i2⟩, i3, a, b, c, d, i4⟩ := h
  refine (served_at w' ad h0 h1).mono ?_
  rintro e w'' ⟨rfl, K⟩
  have hs := i3.size
  have j4 := (K.block _ (lt_of_block i4)).trans i4
  refine ⟨rfl, ⟨a, b, c, d, cell_of j4 rfl, cell_of j4 rfl, cell_of j4 rfl, cell_of j4 rfl, free_of j4, free_of j4, free_of j4, free_of j4⟩, ⟨?_, ?_⟩, bel_trans i3 K, a, b, c, d, j4⟩
  · exact (K.cell (p := ⟨g, 0, none⟩) (by simp; omega)).trans i1
  · exact (K.cell (p := ⟨g, 4, none⟩) (by simp; omega)).trans i2

set_option maxRecDepth 100000 in
set_option maxHeartbeats 600000 in
theorem hn_2 {w : World} {g : Nat} {x : Ho} (h : IsHo w g x) (ok : HOk x) (hz : x.st = 2) (hl : x.lv = true) :
    Calls Try.prog 14 #[.pointer (some ⟨g, 0, none⟩)] w fun e w' => e = .returned (acV ⟨2, x.ad + 1, add64 x.tk 1, 0⟩) ∧ Below w.heap.size w w' := by
  obtain ⟨hg, hB, hP⟩ := next_frame h
  obtain ⟨c0, c1, c2, c3, c4⟩ := hP.hc
  rw [hz] at c3
  rw [hl] at c2
  have hlt := h.lt
  have HP := hid hP
  have HG := hid hg
  have HB := hid hB
  obtain ⟨a0, a1, t0, t1⟩ := ok
  obtain ⟨ad, lv, st, tk⟩ := x
  simp only [] at c0 c2 c4 a0 a1 t0 t1 ⊢
  clear h hP hg hB hz hl
  go_enter Try.func14, Try.ntmps14
  go_wp2_with fail
  refine (hNone_at HP.out).mono ?_
  rintro e w2 ⟨rfl, hw2⟩
  rw [hw2]
  clear hw2 w2
  generalize w.alloc (.cells z4 41) = W at *
  have hne : g ≠ w.heap.size := by omega
  have hS0 : HtS w g ad tk W.drew := ⟨⟨c0, c4⟩, HB.out.drew, _, _, _, _, HG.out⟩
  have HS : Hid (∀ {w' : World}, HtS w g ad tk w' → Calls Try.prog 24 #[.agg #[.int .i64 ad]] w' fun e w'' => e = .returned (.int .i64 (ad + 1)) ∧ (∃ a b c d, There4 w'' w.heap.size a b c d) ∧ HtS w g ad tk w'') := hid (fun h => HtS.served hlt a0 a1 h)
  go_wp2_with fail
  go_region_held3 (fun w' => (w'.cell? ⟨g, 0, none⟩ = some (.int .i64 ad) ∧ w'.cell? ⟨g, 4, none⟩ = some (.int .u64 tk)) ∧ (Below w.heap.size w w' ∧ R4 w' w.heap.size)) (first | with_reducible exact HtS.put hlt (by assumption) _ _ _ _ | with_reducible exact hS0 | with_reducible assumption)
    (first
      | (go_at_call 24; refine (HS.out (by assumption)).mono ?_; rintro e3 w3 ⟨rfl, ⟨a, b, c, d, d0, d1, d2, d3, f0, f1, f2, f3⟩, hw'⟩))
  obtain ⟨_, hB3, _, _, _, _, hg3⟩ := hw'
  have HG3 := hid hg3
  have HB3 := hid hB3
  clear hB3 hg3
  go_wp2
  (try simp only [Exit.inBlock, Exit.then])
  refine bodyPost_ret (results_cell_row rfl _ _ w.heap.size 41 _ (0, 0) _ rfl (put4 HG3.out _ _ _ _) Try.underlying41 rfl size41) rfl ?_
  exact ⟨rfl, below_put4 HB3.out _ _ _ _⟩

theorem hnext_at {w : World} {g : Nat} {x : Ho} (h : IsHo w g x) (ok : HOk x) :
    Calls Try.prog 14 #[.pointer (some ⟨g, 0, none⟩)] w fun e w' => e = .returned (acV (hNext x)) ∧ Below w.heap.size w w' := by
  unfold hNext
  by_cases h0 : x.st = 0
  · rw [if_pos h0]; exact hn_0 h h0
  · by_cases h1 : x.st = 1
    · rw [if_neg h0, if_pos h1]; exact hn_1 h ok h1
    · rw [if_neg h0, if_neg h1]
      by_cases h2 : x.st = 2 ∧ x.lv = true
      · rw [if_pos h2]; exact hn_2 h ok h2.1 h2.2
      · rw [if_neg h2]
        exact hn_none h (beq_eq_false_iff_ne.2 h0) (beq_eq_false_iff_ne.2 h1) (fun e => by cases hl : x.lv with | false => rfl | true => exact absurd ⟨e, hl⟩ h2)
end Go.Proofs.Ytidgajjahpbbdaa
