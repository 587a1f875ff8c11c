/- What the methods of a program (within a writer or a reader) return and leave, by the cells of the block in which it lies. No conditions but on numbers. -/
import Derived.Test.YtkdgjgbmbdmmfaaD2
import Derived.Laws.ResultCell
namespace Go.Proofs.Ytkdgjgbmbdmmfaa
open Go.RowKit

set_option maxHeartbeats 400000 in
theorem pNone_at (w : World) (g : Nat) (e : Int) (c3 : w.cell? ⟨g, 3, none⟩ = some (.int .i64 e)) :
    Calls Try.prog 24 #[.pointer (some ⟨g, 0, none⟩)] w fun x w' => x = .returned (.bool (e == 0)) ∧ w' = w := by
  go_enter Try.func24, Try.ntmps24
  go_wp2
  go_ret
  exact ⟨rfl, rfl⟩

set_option maxHeartbeats 400000 in
theorem pDone_at (w : World) (g : Nat) (t e : Int) (c2 : w.cell? ⟨g, 2, none⟩ = some (.int .i64 t)) (c3 : w.cell? ⟨g, 3, none⟩ = some (.int .i64 e)) :
    Calls Try.prog 25 #[.pointer (some ⟨g, 0, none⟩)] w fun x w' => x = .returned (.bool (t == e)) ∧ ∃ m, w' = w.drewN m := by
  go_enter Try.func25, Try.ntmps25
  go_wp2
  go_quiet (fail)
  go_wp2
  go_ret
  exact ⟨rfl, _, rfl⟩

theorem size50 : (Try.prog.info? 50).map (·.size) = some 4 := by kernel_rfl
theorem put4 {w2 : World} {g : Nat} {x y z u : Value} {t : TypeId} (hg : w2.heap[g]? = some (.cells #[x, y, z, u] t (0, 0))) (x' y' z' u' : Value) :
    ((((w2.setCell ⟨g, 0, none⟩ x').setCell ⟨g, 1, none⟩ y').setCell ⟨g, 2, none⟩ z').setCell ⟨g, 3, none⟩ u').heap[g]? = some (.cells #[x', y', z', u'] t (0, 0)) := by
  rw [heap_setCell_self (heap_setCell_self (heap_setCell_self (heap_setCell_self hg _) _) _) _]
  rfl
theorem below_set {w w' : World} {B : Nat} (h : Below B w w') (g i : Nat) (v : Value) (hg : B ≤ g) : Below B w (w'.setCell ⟨g, i, none⟩ v) :=
  ⟨h.os, h.tape, h.output, by have := h.size; simpa [World.setCell] using this, fun k hk => (Below.heap_setCell _ _ _ _ (by simp; omega)).trans (h.block k hk)⟩

set_option maxHeartbeats 400000 in
theorem pLoad_at (w : World) (g : Nat) (ad k : Int) (c0 : w.cell? ⟨g, 0, none⟩ = some (.int .i64 ad)) (h0 : 0 ≤ ad) (h1 : ad ≤ 65000) (h2 : 0 ≤ k) (h3 : k ≤ 100) :
    Calls Try.prog 29 #[.pointer (some ⟨g, 0, none⟩), .int .i64 k] w fun x w' => x = .returned (acV ⟨1, ad + k, 0, 0⟩) ∧ Below w.heap.size w w' := by
  have hlt := World.block_lt_of_cell? w ⟨g, 0, none⟩ c0
  go_enter Try.func29, Try.ntmps29
  go_wp2
  (try simp only [Exit.inBlock, Exit.then])
  refine bodyPost_ret (results_cell_row rfl _ _ w.heap.size 50 _ (0, 0) _ rfl (heap_alloc_new _ _) Try.underlying50 rfl size50) rfl ?_
  exact ⟨rfl, below_alloc _ _⟩

set_option maxHeartbeats 400000 in
theorem pStore_at (w : World) (g : Nat) (ad k v : Int) (c0 : w.cell? ⟨g, 0, none⟩ = some (.int .i64 ad)) (h0 : 0 ≤ ad) (h1 : ad ≤ 65000) (h2 : 0 ≤ k) (h3 : k ≤ 100) :
    Calls Try.prog 30 #[.pointer (some ⟨g, 0, none⟩), .int .i64 k, .int .u64 v] w fun x w' => x = .returned (acV ⟨2, ad + k, v, 0⟩) ∧ Below w.heap.size w w' := by
  have hlt := World.block_lt_of_cell? w ⟨g, 0, none⟩ c0
  go_enter Try.func30, Try.ntmps30
  go_wp2
  (try simp only [Exit.inBlock, Exit.then])
  refine bodyPost_ret (results_cell_row rfl _ _ w.heap.size 50 _ (0, 0) _ rfl (heap_alloc_new _ _) Try.underlying50 rfl size50) rfl ?_
  exact ⟨rfl, below_alloc _ _⟩

set_option maxHeartbeats 400000 in
theorem pAnew_at (w : World) (g : Nat) (t : Int) (c2 : w.cell? ⟨g, 2, none⟩ = some (.int .i64 t)) (f2 : w.frozen? ⟨g, 2, none⟩ = false) :
    Calls Try.prog 35 #[.pointer (some ⟨g, 0, none⟩)] w fun x w' => x = .returned (.tuple #[]) ∧ w' = w.setCell ⟨g, 2, none⟩ (.int .i64 0) := by
  go_enter Try.func35, Try.ntmps35
  go_wp2
  go_end0
  exact ⟨rfl, rfl⟩

def beginT (t v : Int) : Int := if v % 2 = 0 then t + 1 else t
set_option maxHeartbeats 400000 in
theorem pBegin_at (w : World) (g : Nat) (t m v : Int) (c2 : w.cell? ⟨g, 2, none⟩ = some (.int .i64 t)) (f2 : w.frozen? ⟨g, 2, none⟩ = false) (c4 : w.cell? ⟨g, 4, none⟩ = some (.int .u64 m)) (f4 : w.frozen? ⟨g, 4, none⟩ = false) (h0 : 0 ≤ t) (h1 : t ≤ 100) (hv0 : 0 ≤ v) (hv1 : v ≤ 18446744073709551615) :
    Calls Try.prog 34 #[.pointer (some ⟨g, 0, none⟩), .int .u64 v] w fun x w' => x = .returned (.tuple #[]) ∧ w' = if v % 2 = 0 then (w.setCell ⟨g, 4, none⟩ (.int .u64 v)).setCell ⟨g, 2, none⟩ (.int .i64 (t + 1)) else w.setCell ⟨g, 4, none⟩ (.int .u64 v) := by
  have htm : v.tmod 2 = v % 2 := Int.tmod_eq_emod_of_nonneg hv0
  by_cases hp : v % 2 = 0
  · rw [if_pos hp]
    have hb : (v.tmod 2 == 0) = true := by rw [htm, hp]; rfl
    have hc : (v % 2 == 0) = true := by rw [hp]; rfl
    clear hp htm
    go_enter Try.func34, Try.ntmps34
    go_wp2
    go_end0
    exact ⟨rfl, rfl⟩
  · rw [if_neg hp]
    have hb : (v.tmod 2 == 0) = false := by rw [htm]; exact beq_eq_false_iff_ne.2 hp
    have hc : (v % 2 == 0) = false := beq_eq_false_iff_ne.2 hp
    clear hp htm
    go_enter Try.func34, Try.ntmps34
    go_wp2
    go_end0
    exact ⟨rfl, rfl⟩
end Go.Proofs.Ytkdgjgbmbdmmfaa
