/- What a task's next act is. Conditions: it is one that Push, Pop or Steal gave. -/
import Derived.Test.YtmglacaikpcjhaaS2
namespace Go.Proofs.Ytmglacaikpcjhaa
open Go.RowKit

theorem put4 {w2 : World} {g : Nat} {x y z u : Value} {t : TypeId} (hg : w2.heap[g]? = some (.cells #[x, y, z, u] t (0, 0))) (x' y' z' u' : Value) :
    ((((w2.setCell ⟨g, 0, none⟩ x').setCell ⟨g, 1, none⟩ y').setCell ⟨g, 2, none⟩ z').setCell ⟨g, 3, none⟩ u').heap[g]? = some (.cells #[x', y', z', u'] t (0, 0)) := by
  rw [heap_setCell_self (heap_setCell_self (heap_setCell_self (heap_setCell_self hg _) _) _) _]
  rfl
theorem below_set {w w' : World} {B : Nat} (h : Below B w w') (g i : Nat) (v : Value) (hg : B ≤ g) : Below B w (w'.setCell ⟨g, i, none⟩ v) :=
  ⟨h.os, h.tape, h.output, by have := h.size; simpa [World.setCell] using this, fun k hk => (Below.heap_setCell _ _ _ _ (by simp; omega)).trans (h.block k hk)⟩
abbrev z4 : Array Value := #[.int .i64 0, .int .i64 0, .int .u64 0, .int .u64 0]
theorem below_put4 {w w' : World} (h : Below w.heap.size w w') (a b c d : Value) : Below w.heap.size w ((((w'.setCell ⟨w.heap.size, 0, none⟩ a).setCell ⟨w.heap.size, 1, none⟩ b).setCell ⟨w.heap.size, 2, none⟩ c).setCell ⟨w.heap.size, 3, none⟩ d) :=
  below_set (below_set (below_set (below_set h _ _ _ (Nat.le_refl _)) _ _ _ (Nat.le_refl _)) _ _ _ (Nat.le_refl _)) _ _ _ (Nat.le_refl _)
def R4 (w : World) (r : Nat) : Prop := ∃ a b c d : Value, w.heap[r]? = some (.cells #[a, b, c, d] 48 (0, 0))
structure There4 (w : World) (r : Nat) (a b c d : Value) : Prop where
  d0 : w.cell? ⟨r, 0, none⟩ = some a
  d1 : w.cell? ⟨r, 1, none⟩ = some b
  d2 : w.cell? ⟨r, 2, none⟩ = some c
  d3 : w.cell? ⟨r, 3, none⟩ = some d
  f0 : w.frozen? ⟨r, 0, none⟩ = false
  f1 : w.frozen? ⟨r, 1, none⟩ = false
  f2 : w.frozen? ⟨r, 2, none⟩ = false
  f3 : w.frozen? ⟨r, 3, none⟩ = false
theorem there4_of {w : World} {r : Nat} {a b c d : Value} (h : w.heap[r]? = some (.cells #[a, b, c, d] 48 (0, 0))) : There4 w r a b c d :=
  ⟨cell_of h rfl, cell_of h rfl, cell_of h rfl, cell_of h rfl, free_of h, free_of h, free_of h, free_of h⟩
theorem R4.there {w : World} {r : Nat} (h : R4 w r) : ∃ a b c d, There4 w r a b c d := by
  obtain ⟨a, b, c, d, h⟩ := h
  exact ⟨a, b, c, d, there4_of h⟩
theorem cell_put4 {w' : World} {g r i : Nat} (h : g ≠ r) (a b c d : Value) : ((((w'.setCell ⟨r, 0, none⟩ a).setCell ⟨r, 1, none⟩ b).setCell ⟨r, 2, none⟩ c).setCell ⟨r, 3, none⟩ d).cell? ⟨g, i, none⟩ = w'.cell? ⟨g, i, none⟩ := by
  have e : ((((w'.setCell ⟨r, 0, none⟩ a).setCell ⟨r, 1, none⟩ b).setCell ⟨r, 2, none⟩ c).setCell ⟨r, 3, none⟩ d).heap[g]? = w'.heap[g]? := by
    rw [Below.heap_setCell _ _ _ _ h, Below.heap_setCell _ _ _ _ h, Below.heap_setCell _ _ _ _ h, Below.heap_setCell _ _ _ _ h]
  simp [World.cell?, e]
/-- The cells of a task that its next act hangs on, and of the deque beside it; what was there is as it was, and the act's own block is there. -/
abbrev PS (w : World) (g : Nat) (ad sz : Int) (o : Value) (tp bt : Int) (w' : World) : Prop :=
  (w'.cell? ⟨g, 2, none⟩ = some o ∧ w'.cell? ⟨g, 4, none⟩ = some (.int .u64 tp) ∧ w'.cell? ⟨g, 5, none⟩ = some (.int .u64 bt) ∧ w'.cell? ⟨w.heap.size + 1, 0, none⟩ = some (.int .i64 ad) ∧ w'.cell? ⟨w.heap.size + 1, 1, none⟩ = some (.int .i64 sz)) ∧ (Below w.heap.size w w' ∧ w.heap.size + 1 < w'.heap.size ∧ R4 w' w.heap.size)
theorem PS.put {w : World} {g : Nat} {ad sz tp bt : Int} {o : Value} (hlt : g < w.heap.size) {w' : World} (h : PS w g ad sz o tp bt w') (a b c d : Value) : PS w g ad sz o tp bt ((((w'.setCell ⟨w.heap.size, 0, none⟩ a).setCell ⟨w.heap.size, 1, none⟩ b).setCell ⟨w.heap.size, 2, none⟩ c).setCell ⟨w.heap.size, 3, none⟩ d) := by
  obtain ⟨⟨h0, h1, h2, h3, h4⟩, h5, hs, x, y, z, u, h6⟩ := h
  have hne : g ≠ w.heap.size := by omega
  have hne' : w.heap.size + 1 ≠ w.heap.size := by omega
  exact ⟨⟨(cell_put4 hne _ _ _ _).trans h0, (cell_put4 hne _ _ _ _).trans h1, (cell_put4 hne _ _ _ _).trans h2, (cell_put4 hne' _ _ _ _).trans h3, (cell_put4 hne' _ _ _ _).trans h4⟩, below_put4 h5 _ _ _ _, by simpa [World.setCell] using hs, a, b, c, d, put4 h6 _ _ _ _⟩
theorem PS.lift {w : World} {g : Nat} {ad sz tp bt : Int} {o : Value} (hlt : g < w.heap.size) {w' : World} (h : PS w g ad sz o tp bt w') {k : Nat} {xs : Array Value} {r : Value}
    (C : Calls Try.prog k xs w' fun e w'' => e = .returned r ∧ Below w'.heap.size w' w'') :
    Calls Try.prog k xs w' fun e w'' => e = .returned r ∧ (∃ a b c d, There4 w'' w.heap.size a b c d) ∧ PS w g ad sz o tp bt w'' := by
  obtain ⟨⟨h0, h1, h2, h3, h4⟩, h5, hs1, x, y, z, u, h6⟩ := h
  refine C.mono ?_
  rintro e w'' ⟨rfl, K⟩
  have hs := h5.size
  have hg : g < w'.heap.size := by omega
  have j := (K.block _ (lt_of_block h6)).trans h6
  exact ⟨rfl, ⟨x, y, z, u, there4_of j⟩, ⟨(K.cell (p := ⟨g, 2, none⟩) hg).trans h0, (K.cell (p := ⟨g, 4, none⟩) hg).trans h1, (K.cell (p := ⟨g, 5, none⟩) hg).trans h2, (K.cell (p := ⟨w.heap.size + 1, 0, none⟩) hs1).trans h3, (K.cell (p := ⟨w.heap.size + 1, 1, none⟩) hs1).trans h4⟩, bel_trans h5 K, Nat.lt_of_lt_of_le hs1 K.size, x, y, z, u, j⟩
abbrev Wd2 (w : World) (ad sz : Int) : World := (w.alloc (.cells z4 48)).alloc (.cells #[.int .i64 ad, .int .i64 sz] 34)
theorem PS.first {w : World} {g : Nat} {x : Tk} (h : IsTk w g x) : PS w g x.ad x.sz (ownV x.kd) x.tp x.bt (Wd2 w x.ad x.sz) := by
  obtain ⟨c0, c1, c2, c3, c4, c5, _, _⟩ := ((h.below (below_alloc w (.cells z4 48))).below (below_alloc _ (.cells #[.int .i64 x.ad, .int .i64 x.sz] 34))).tc
  have g1 : (Wd2 w x.ad x.sz).heap[w.heap.size + 1]? = some (.cells #[.int .i64 x.ad, .int .i64 x.sz] 34 (0, 0)) := by
    have := heap_alloc_new (w.alloc (.cells z4 48)) (.cells #[.int .i64 x.ad, .int .i64 x.sz] 34 (0, 0))
    simpa using this
  have g0 : (Wd2 w x.ad x.sz).heap[w.heap.size]? = some (.cells z4 48 (0, 0)) := ((below_alloc (w.alloc (.cells z4 48)) (.cells #[.int .i64 x.ad, .int .i64 x.sz] 34)).block _ (by simp)).trans (heap_alloc_new w (.cells z4 48 (0, 0)))
  exact ⟨⟨c2, c4, c5, cell_of g1 rfl, cell_of g1 rfl⟩, bel_trans (below_alloc _ _) (below_alloc _ _), lt_of_block g1, _, _, _, _, g0⟩
theorem wd2_z (w : World) (ad sz : Int) : ((w.alloc (.cells z4 48)).alloc (.cells #[.int .i64 ad, .int .i64 sz] 34)).heap[w.heap.size]? = some (.cells z4 48 (0, 0)) :=
  ((below_alloc (w.alloc (.cells z4 48)) (.cells #[.int .i64 ad, .int .i64 sz] 34)).block _ (by simp)).trans (heap_alloc_new w (.cells z4 48 (0, 0)))
theorem PS.drew {w : World} {g : Nat} {ad sz tp bt : Int} {o : Value} {w' : World} (h : PS w g ad sz o tp bt w') : PS w g ad sz o tp bt w'.drew := ⟨h.1, h.2.1.drew, h.2.2⟩

structure POk (x : Tk) : Prop where
  q : QOk x.ad x.sz
  p0 : 0 ≤ x.tp
  p1 : x.tp ≤ 18446744073709551615
  b0 : 0 ≤ x.bt
  b1 : x.bt ≤ 18446744073709551615
end Go.Proofs.Ytmglacaikpcjhaa
