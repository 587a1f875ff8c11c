/- What the document's answer for layer 7 tells of a deque that can be; an owner's task of the statement, the program's and the document's. Conditions: the deque is one that can be. -/
import Derived.Test.YtmglacaikpcjhaaR7
namespace Go.Proofs.Ytmglacaikpcjhaa
open Go.RowKit

set_option maxHeartbeats 400000 in
theorem right_any (w : World) (ad sz : Int) :
    Calls Try.prog 11 #[.int .i64 ad, .int .i64 sz] w fun e w' => e = .returned (.bool (canB ad sz)) ∧ w' = w := by
  by_cases h0 : 0 ≤ ad
  · by_cases h1 : ad ≤ 65000
    · by_cases h2 : 1 ≤ sz
      · by_cases h3 : sz ≤ 64
        · rw [show canB ad sz = true by simp [canB, h0, h1, h2, h3]]
          go_enter Try.func11, Try.ntmps11
          go_wp2
          go_ret
          exact ⟨rfl, rfl⟩
        · rw [show canB ad sz = false by simp [canB]; omega]
          go_enter Try.func11, Try.ntmps11
          go_wp2
          go_ret
          exact ⟨rfl, rfl⟩
      · rw [show canB ad sz = false by simp [canB]; omega]
        go_enter Try.func11, Try.ntmps11
        go_wp2
        go_ret
        exact ⟨rfl, rfl⟩
    · rw [show canB ad sz = false by simp [canB]; omega]
      go_enter Try.func11, Try.ntmps11
      go_wp2
      go_ret
      exact ⟨rfl, rfl⟩
  · rw [show canB ad sz = false by simp [canB]; omega]
    go_enter Try.func11, Try.ntmps11
    go_wp2
    go_ret
    exact ⟨rfl, rfl⟩

/-- Two tasks that are new: the program's and the document's. -/
def NewT (w : World) (x : Tk) (u : Us) (e : Ending) (w' : World) : Prop :=
  ∃ g g', e = .returned (.tuple #[.pointer (some ⟨g, 0, none⟩), .pointer (some ⟨g', 0, none⟩)]) ∧ IsTk w' g x ∧ IsUs w' g' u ∧ g ≠ g' ∧ w.heap.size ≤ g ∧ w.heap.size ≤ g' ∧ Below w.heap.size w w'
theorem NewT.mk {w w' : World} {x : Tk} {u : Us} {g g' : Nat} (h : IsTk w' g x ∧ IsUs w' g' u ∧ g ≠ g' ∧ w.heap.size ≤ g ∧ w.heap.size ≤ g' ∧ Below w.heap.size w w') : NewT w x u (.returned (.tuple #[.pointer (some ⟨g, 0, none⟩), .pointer (some ⟨g', 0, none⟩)])) w' := ⟨g, g', rfl, h⟩
abbrev DS (q : Nat) (ad sz : Int) (w : World) : Prop := w.cell? ⟨q, 0, none⟩ = some (.int .i64 ad) ∧ w.cell? ⟨q, 1, none⟩ = some (.int .i64 sz)
theorem DS.below {q : Nat} {ad sz : Int} {w w' : World} (h : DS q ad sz w) (hq : q < w.heap.size) (K : Below w.heap.size w w') : DS q ad sz w' :=
  ⟨(K.cell (p := ⟨q, 0, none⟩) hq).trans h.1, (K.cell (p := ⟨q, 1, none⟩) hq).trans h.2⟩
theorem new_a {w W w4 : World} {g : Nat} {x : Tk} {u : Us} (hW : Below w.heap.size w W) (hx : IsTk w4 g x) (hg : W.heap.size ≤ g) (K : Below W.heap.size W w4) :
    IsTk (w4.alloc (.cells (usC u) 44)) g x ∧ IsUs (w4.alloc (.cells (usC u) 44)) w4.heap.size u ∧ g ≠ w4.heap.size ∧ w.heap.size ≤ g ∧ w.heap.size ≤ w4.heap.size ∧ Below w.heap.size w (w4.alloc (.cells (usC u) 44)) := by
  have h1 := hx.lt
  have h2 := hW.size
  have h3 := K.size
  exact ⟨hx.below (below_alloc _ _), heap_alloc_new _ _, by omega, by omega, by omega, bel_trans (bel_trans hW K) (below_alloc _ _)⟩
theorem new_b {w W w4 : World} {g : Nat} {x : Tk} {u : Us} (hW : Below w.heap.size w W) (hx : IsTk w4 g x) (hg : (W.alloc (.cells (usC u) 44)).heap.size ≤ g) (K : Below (W.alloc (.cells (usC u) 44)).heap.size (W.alloc (.cells (usC u) 44)) w4) :
    IsTk w4 g x ∧ IsUs w4 W.heap.size u ∧ g ≠ W.heap.size ∧ w.heap.size ≤ g ∧ w.heap.size ≤ W.heap.size ∧ Below w.heap.size w w4 := by
  have h0 : IsUs (W.alloc (.cells (usC u) 44)) W.heap.size u := heap_alloc_new _ _
  have h1 := h0.lt
  have h2 := hW.size
  exact ⟨hx, h0.below K, by omega, by omega, by omega, bel_trans (bel_trans hW (below_alloc _ _)) K⟩

set_option maxRecDepth 100000 in
set_option maxHeartbeats 1000000 in
theorem task_pop (w : World) {ad sz : Int} (q : QOk ad sz) (z : Nat) (hz : z % 2 = 1) (hz2 : z < 256) (i : Int) :
    Calls Try.prog 15 #[.agg #[.int .i64 ad, .int .i64 sz], .int .u8 z, .int .i64 i] w (NewT w (newG ad sz) ⟨ad, sz, 1, 0, 0, 0, 0, false, false, false⟩) := by
  have HK := hid q
  have hb0 := heap_alloc_new w (.cells #[.int .i64 ad, .int .i64 sz] 34 (0, 0))
  have h0 : DS w.heap.size ad sz (w.alloc (.cells #[.int .i64 ad, .int .i64 sz] 34)) := ⟨cell_of hb0 rfl, cell_of hb0 rfl⟩
  have hql := lt_of_block hb0
  have HB := hid (below_alloc w (.cells #[.int .i64 ad, .int .i64 sz] 34))
  have htm : (z : Int).tmod 2 = 1 := by rw [Int.tmod_eq_emod_of_nonneg (by omega)]; omega
  have hz0 : (0 : Int) ≤ (z : Int) := by omega
  have hz1 : (z : Int) < 256 := by omega
  clear q hb0 hz hz2
  go_enter Try.func15, Try.ntmps15
  go_wp2_with fail
  clear htm
  generalize w.alloc (.cells #[.int .i64 ad, .int .i64 sz] 34) = W at *
  generalize hq0 : w.heap.size = q0 at h0 hql ⊢
  clear hq0
  have hS0 := DS.below h0 hql ((Below.refl W.heap.size W).drew)
  have hS1 := DS.below h0 hql ((below_alloc W (.cells (usC ⟨ad, sz, 1, 0, 0, 0, 0, false, false, false⟩) 44)).drew)
  have hql1 : q0 < (W.alloc (.cells (usC ⟨ad, sz, 1, 0, 0, 0, 0, false, false, false⟩) 44)).drew.heap.size := Nat.lt_of_lt_of_le hql (below_alloc W (.cells (usC ⟨ad, sz, 1, 0, 0, 0, 0, false, false, false⟩) 44)).size
  clear h0
  go_region_held3 (fun w' => w'.cell? ⟨q0, 0, none⟩ = some (.int .i64 ad) ∧ w'.cell? ⟨q0, 1, none⟩ = some (.int .i64 sz)) (first | with_reducible exact hS0 | with_reducible exact hS1 | with_reducible assumption)
    (first
      | (go_at_call 13; refine (pop_at W.drew HK.out).mono ?_; rintro e4 w4 ⟨g, rfl, hW4, hg4, hB4⟩; have hS4 := DS.below hS0 hql hB4; have hS5 := DS.below hS4 (Nat.lt_of_lt_of_le hql hB4.size) (below_alloc w4 (.cells (usC ⟨ad, sz, 1, 0, 0, 0, 0, false, false, false⟩) 44)); have HX := hid (new_a (u := ⟨ad, sz, 1, 0, 0, 0, 0, false, false, false⟩) HB.out hW4 hg4 (bel_trans (Below.refl _ _).drew hB4)); clear hW4 hg4 hB4)
      | (go_at_call 13; refine (pop_at _ HK.out).mono ?_; rintro e4 w4 ⟨g, rfl, hW4, hg4, hB4⟩; have hS4 := DS.below hS1 hql1 hB4; have HX := hid (new_b (u := ⟨ad, sz, 1, 0, 0, 0, 0, false, false, false⟩) HB.out hW4 hg4 (bel_trans (Below.refl _ _).drew hB4)); clear hW4 hg4 hB4))
  all_goals
    have HY := hid (NewT.mk HX.out)
    clear HX hS0 hS1 hS4 hql1 hql
    (try clear hS5)
    (try clear hHeld)
    go_wp2
    go_ret2
    exact HY.out
set_option maxRecDepth 100000 in
set_option maxHeartbeats 1000000 in
theorem task_push (w : World) {ad sz : Int} (q : QOk ad sz) (z : Nat) (hz : z % 2 = 0) (hz2 : z < 256) (i : Int) (hi0 : 0 ≤ i) (hi1 : i ≤ 20) :
    Calls Try.prog 15 #[.agg #[.int .i64 ad, .int .i64 sz], .int .u8 z, .int .i64 i] w (NewT w (newP ad sz (100 + i)) ⟨ad, sz, 0, 100 + i, 0, 0, 0, false, false, false⟩) := by
  have HK := hid q
  have hb0 := heap_alloc_new w (.cells #[.int .i64 ad, .int .i64 sz] 34 (0, 0))
  have h0 : DS w.heap.size ad sz (w.alloc (.cells #[.int .i64 ad, .int .i64 sz] 34)) := ⟨cell_of hb0 rfl, cell_of hb0 rfl⟩
  have hql := lt_of_block hb0
  have HB := hid (below_alloc w (.cells #[.int .i64 ad, .int .i64 sz] 34))
  have htm : (z : Int).tmod 2 = 0 := by rw [Int.tmod_eq_emod_of_nonneg (by omega)]; omega
  have hz0 : (0 : Int) ≤ (z : Int) := by omega
  have hz1 : (z : Int) < 256 := by omega
  have hw1 : IntKind.i64.wrap (100 + i) = 100 + i := i64w (by omega) (by omega)
  have hw2 : IntKind.u64.wrap (100 + i) = 100 + i := u64w (by omega) (by omega)
  clear q hb0 hz hz2
  go_enter Try.func15, Try.ntmps15
  go_wp2_with fail
  clear htm
  generalize w.alloc (.cells #[.int .i64 ad, .int .i64 sz] 34) = W at *
  generalize hq0 : w.heap.size = q0 at h0 hql ⊢
  clear hq0
  have hS0 := DS.below h0 hql ((Below.refl W.heap.size W).drew)
  have hS1 := DS.below h0 hql ((below_alloc W (.cells (usC ⟨ad, sz, 0, 100 + i, 0, 0, 0, false, false, false⟩) 44)).drew)
  have hql1 : q0 < (W.alloc (.cells (usC ⟨ad, sz, 0, 100 + i, 0, 0, 0, false, false, false⟩) 44)).drew.heap.size := Nat.lt_of_lt_of_le hql (below_alloc W (.cells (usC ⟨ad, sz, 0, 100 + i, 0, 0, 0, false, false, false⟩) 44)).size
  clear h0
  go_region_held3 (fun w' => w'.cell? ⟨q0, 0, none⟩ = some (.int .i64 ad) ∧ w'.cell? ⟨q0, 1, none⟩ = some (.int .i64 sz)) (first | with_reducible exact hS0 | with_reducible exact hS1 | with_reducible assumption)
    (first
      | (go_at_call 12; refine (push_at W.drew (100 + i) HK.out).mono ?_; rintro e4 w4 ⟨g, rfl, hW4, hg4, hB4⟩; have hS4 := DS.below hS0 hql hB4; have hS5 := DS.below hS4 (Nat.lt_of_lt_of_le hql hB4.size) (below_alloc w4 (.cells (usC ⟨ad, sz, 0, 100 + i, 0, 0, 0, false, false, false⟩) 44)); have HX := hid (new_a (u := ⟨ad, sz, 0, 100 + i, 0, 0, 0, false, false, false⟩) HB.out hW4 hg4 (bel_trans (Below.refl _ _).drew hB4)); clear hW4 hg4 hB4)
      | (go_at_call 12; refine (push_at _ (100 + i) HK.out).mono ?_; rintro e4 w4 ⟨g, rfl, hW4, hg4, hB4⟩; have hS4 := DS.below hS1 hql1 hB4; have HX := hid (new_b (u := ⟨ad, sz, 0, 100 + i, 0, 0, 0, false, false, false⟩) HB.out hW4 hg4 (bel_trans (Below.refl _ _).drew hB4)); clear hW4 hg4 hB4))
  all_goals
    have HY := hid (NewT.mk HX.out)
    clear HX hS0 hS1 hS4 hql1 hql
    (try clear hS5)
    (try clear hHeld)
    go_wp2
    go_ret2
    exact HY.out
/-- A task that is new, and the document's: alike. -/
theorem task_new {ad sz : Int} (q : QOk ad sz) (z : Nat) (hz2 : z < 256) (i : Int) (hi0 : 0 ≤ i) (hi1 : i ≤ 20) :
    ∃ x u, (Lk x u ∧ YOk x) ∧ ∀ w, Calls Try.prog 15 #[.agg #[.int .i64 ad, .int .i64 sz], .int .u8 z, .int .i64 i] w (NewT w x u) := by
  by_cases hz : z % 2 = 1
  · exact ⟨_, _, ⟨Lk.newG ad sz, newG_ok q⟩, fun w => task_pop w q z hz hz2 i⟩
  · exact ⟨_, _, ⟨Lk.newP ad sz (100 + i), newP_ok q (by omega) (by omega)⟩, fun w => task_push w q z (by omega) hz2 i hi0 hi1⟩
end Go.Proofs.Ytmglacaikpcjhaa
