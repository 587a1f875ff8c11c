/- What a program's next act is. Conditions: it is one that Push or Pop gave. -/
import Derived.Test.YtfnfbceblpaggaaS2
namespace Go.Proofs.Ytfnfbceblpaggaa
open Go.RowKit

theorem put4 {w2 : World} {g : Nat} {x y z u : Value} {t : TypeId} (hg : w2.heap[g]? = some (.cells #[x, y, z, u] t (0, 0))) (x' y' z' u' : Value) :
    ((((w2.setCell ⟨g, 0, none⟩ x').setCell ⟨g, 1, none⟩ y').setCell ⟨g, 2, none⟩ z').setCell ⟨g, 3, none⟩ u').heap[g]? = some (.cells #[x', y', z', u'] t (0, 0)) := by
  rw [heap_setCell_self (heap_setCell_self (heap_setCell_self (heap_setCell_self hg _) _) _) _]
  rfl
theorem below_set {w w' : World} {B : Nat} (h : Below B w w') (g i : Nat) (v : Value) (hg : B ≤ g) : Below B w (w'.setCell ⟨g, i, none⟩ v) :=
  ⟨h.os, h.tape, h.output, by have := h.size; simpa [World.setCell] using this, fun k hk => (Below.heap_setCell _ _ _ _ (by simp; omega)).trans (h.block k hk)⟩
abbrev z4 : Array Value := #[.int .i64 0, .int .i64 0, .int .u64 0, .int .u64 0]
theorem below_put4 {w w' : World} (h : Below w.heap.size w w') (a b c d : Value) : Below w.heap.size w ((((w'.setCell ⟨w.heap.size, 0, none⟩ a).setCell ⟨w.heap.size, 1, none⟩ b).setCell ⟨w.heap.size, 2, none⟩ c).setCell ⟨w.heap.size, 3, none⟩ d) :=
  below_set (below_set (below_set (below_set h _ _ _ (Nat.le_refl _)) _ _ _ (Nat.le_refl _)) _ _ _ (Nat.le_refl _)) _ _ _ (Nat.le_refl _)
def R4 (w : World) (r : Nat) : Prop := ∃ a b c d : Value, w.heap[r]? = some (.cells #[a, b, c, d] 51 (0, 0))
structure There4 (w : World) (r : Nat) (a b c d : Value) : Prop where
  d0 : w.cell? ⟨r, 0, none⟩ = some a
  d1 : w.cell? ⟨r, 1, none⟩ = some b
  d2 : w.cell? ⟨r, 2, none⟩ = some c
  d3 : w.cell? ⟨r, 3, none⟩ = some d
  f0 : w.frozen? ⟨r, 0, none⟩ = false
  f1 : w.frozen? ⟨r, 1, none⟩ = false
  f2 : w.frozen? ⟨r, 2, none⟩ = false
  f3 : w.frozen? ⟨r, 3, none⟩ = false
theorem there4_of {w : World} {r : Nat} {a b c d : Value} (h : w.heap[r]? = some (.cells #[a, b, c, d] 51 (0, 0))) : There4 w r a b c d :=
  ⟨cell_of h rfl, cell_of h rfl, cell_of h rfl, cell_of h rfl, free_of h, free_of h, free_of h, free_of h⟩
theorem R4.there {w : World} {r : Nat} (h : R4 w r) : ∃ a b c d, There4 w r a b c d := by
  obtain ⟨a, b, c, d, h⟩ := h
  exact ⟨a, b, c, d, there4_of h⟩
theorem cell_put4 {w' : World} {g r i : Nat} (h : g ≠ r) (a b c d : Value) : ((((w'.setCell ⟨r, 0, none⟩ a).setCell ⟨r, 1, none⟩ b).setCell ⟨r, 2, none⟩ c).setCell ⟨r, 3, none⟩ d).cell? ⟨g, i, none⟩ = w'.cell? ⟨g, i, none⟩ := by
  have e : ((((w'.setCell ⟨r, 0, none⟩ a).setCell ⟨r, 1, none⟩ b).setCell ⟨r, 2, none⟩ c).setCell ⟨r, 3, none⟩ d).heap[g]? = w'.heap[g]? := by
    rw [Below.heap_setCell _ _ _ _ h, Below.heap_setCell _ _ _ _ h, Below.heap_setCell _ _ _ _ h, Below.heap_setCell _ _ _ _ h]
  simp [World.cell?, e]
/-- The cells of a program that its next act hangs on; what was there is as it was, and the act's own block is there. -/
abbrev PS (w : World) (g : Nat) (ad sz : Int) (o : Value) (tn ps : Int) (w' : World) : Prop :=
  (w'.cell? ⟨g, 0, none⟩ = some (.int .i64 ad) ∧ w'.cell? ⟨g, 1, none⟩ = some (.int .i64 sz) ∧ w'.cell? ⟨g, 2, none⟩ = some o ∧ w'.cell? ⟨g, 3, none⟩ = some (.int .i64 tn) ∧ w'.cell? ⟨g, 4, none⟩ = some (.int .u64 ps)) ∧ (Below w.heap.size w w' ∧ R4 w' w.heap.size)
theorem PS.put {w : World} {g : Nat} {ad sz tn ps : Int} {o : Value} (hlt : g < w.heap.size) {w' : World} (h : PS w g ad sz o tn ps w') (a b c d : Value) : PS w g ad sz o tn ps ((((w'.setCell ⟨w.heap.size, 0, none⟩ a).setCell ⟨w.heap.size, 1, none⟩ b).setCell ⟨w.heap.size, 2, none⟩ c).setCell ⟨w.heap.size, 3, none⟩ d) := by
  obtain ⟨⟨h0, h1, h2, h3, h4⟩, h5, x, y, z, u, h6⟩ := h
  have hne : g ≠ w.heap.size := by omega
  exact ⟨⟨(cell_put4 hne _ _ _ _).trans h0, (cell_put4 hne _ _ _ _).trans h1, (cell_put4 hne _ _ _ _).trans h2, (cell_put4 hne _ _ _ _).trans h3, (cell_put4 hne _ _ _ _).trans h4⟩, below_put4 h5 _ _ _ _, a, b, c, d, put4 h6 _ _ _ _⟩
theorem PS.lift {w : World} {g : Nat} {ad sz tn ps : Int} {o : Value} (hlt : g < w.heap.size) {w' : World} (h : PS w g ad sz o tn ps w') {k : Nat} {xs : Array Value} {r : Value}
    (C : Calls Try.prog k xs w' fun e w'' => e = .returned r ∧ Below w'.heap.size w' w'') :
    Calls Try.prog k xs w' fun e w'' => e = .returned r ∧ (∃ a b c d, There4 w'' w.heap.size a b c d) ∧ PS w g ad sz o tn ps w'' := by
  obtain ⟨⟨h0, h1, h2, h3, h4⟩, h5, x, y, z, u, h6⟩ := h
  refine C.mono ?_
  rintro e w'' ⟨rfl, K⟩
  have hs := h5.size
  have hg : g < w'.heap.size := by omega
  have j := (K.block _ (lt_of_block h6)).trans h6
  exact ⟨rfl, ⟨x, y, z, u, there4_of j⟩, ⟨(K.cell (p := ⟨g, 0, none⟩) hg).trans h0, (K.cell (p := ⟨g, 1, none⟩) hg).trans h1, (K.cell (p := ⟨g, 2, none⟩) hg).trans h2, (K.cell (p := ⟨g, 3, none⟩) hg).trans h3, (K.cell (p := ⟨g, 4, none⟩) hg).trans h4⟩, bel_trans h5 K, x, y, z, u, j⟩
theorem PS.first {t : TypeId} {w : World} {g : Nat} {x : Pr} (h : IsPr t w g x) : PS w g x.ad x.sz (ownV x.pv) x.tn x.ps (w.alloc (.cells z4 51)) := by
  obtain ⟨c0, c1, c2, c3, c4, _, _⟩ := (h.below (below_alloc w (.cells z4 51))).pc
  exact ⟨⟨c0, c1, c2, c3, c4⟩, below_alloc _ _, _, _, _, _, heap_alloc_new w (.cells z4 51 (0, 0))⟩
theorem PS.drew {w : World} {g : Nat} {ad sz tn ps : Int} {o : Value} {w' : World} (h : PS w g ad sz o tn ps w') : PS w g ad sz o tn ps w'.drew := ⟨h.1, h.2.1.drew, h.2.2⟩

structure POk (x : Pr) : Prop where
  q : QOk x.ad x.sz
  p0 : 0 ≤ x.ps
  p1 : x.ps ≤ 18446744073709551615
end Go.Proofs.Ytfnfbceblpaggaa
