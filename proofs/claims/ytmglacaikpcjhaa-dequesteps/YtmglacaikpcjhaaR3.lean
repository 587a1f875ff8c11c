/- What the document's answer for layer 7 tells of a task's slot and next act: the same functions as package deque's. Conditions: the deque is one that can be. -/
import Derived.Test.YtmglacaikpcjhaaS8
import Derived.Test.YtmglacaikpcjhaaR2
import Derived.Deep.CutRange
namespace Go.Proofs.Ytmglacaikpcjhaa
open Go.RowKit

/-- The document's task. -/
structure Us where
  ad : Int
  sz : Int
  kd : Int
  v : Int
  tn : Int
  tp : Int
  bt : Int
  got : Bool
  dn : Bool
  hs : Bool
abbrev usC (u : Us) : Array Value := #[.int .i64 u.ad, .int .i64 u.sz, .int .i64 u.kd, .int .u64 u.v, .int .i64 u.tn, .int .u64 u.tp, .int .u64 u.bt, .bool u.got, .bool u.dn, .bool u.hs]
def IsUs (w : World) (g : Nat) (u : Us) : Prop := w.heap[g]? = some (.cells (usC u) 44 (0, 0))
theorem IsUs.lt {w : World} {g : Nat} {u : Us} (h : IsUs w g u) : g < w.heap.size := lt_of_block h
theorem IsUs.keep {w w' : World} {g : Nat} {u : Us} (h : IsUs w g u) (e : w'.heap[g]? = w.heap[g]?) : IsUs w' g u := e.trans h
theorem IsUs.below {w w' : World} {g : Nat} {u : Us} (h : IsUs w g u) (k : Below w.heap.size w w') : IsUs w' g u := h.keep (k.block _ h.lt)
structure Uc (w : World) (g : Nat) (u : Us) : Prop where
  c0 : w.cell? ⟨g, 0, none⟩ = some (.int .i64 u.ad)
  c1 : w.cell? ⟨g, 1, none⟩ = some (.int .i64 u.sz)
  c2 : w.cell? ⟨g, 2, none⟩ = some (.int .i64 u.kd)
  c3 : w.cell? ⟨g, 3, none⟩ = some (.int .u64 u.v)
  c4 : w.cell? ⟨g, 4, none⟩ = some (.int .i64 u.tn)
  c5 : w.cell? ⟨g, 5, none⟩ = some (.int .u64 u.tp)
  c6 : w.cell? ⟨g, 6, none⟩ = some (.int .u64 u.bt)
  c7 : w.cell? ⟨g, 7, none⟩ = some (.bool u.got)
  c8 : w.cell? ⟨g, 8, none⟩ = some (.bool u.dn)
  c9 : w.cell? ⟨g, 9, none⟩ = some (.bool u.hs)
theorem IsUs.uc {w : World} {g : Nat} {u : Us} (h : IsUs w g u) : Uc w g u := ⟨cell_of h rfl, cell_of h rfl, cell_of h rfl, cell_of h rfl, cell_of h rfl, cell_of h rfl, cell_of h rfl, cell_of h rfl, cell_of h rfl, cell_of h rfl⟩
theorem IsUs.free {w : World} {g : Nat} {u : Us} (h : IsUs w g u) (i : Nat) : w.frozen? ⟨g, i, none⟩ = false := free_of h
theorem IsUs.setV {w : World} {g : Nat} {u : Us} (h : IsUs w g u) (x : Int) : IsUs (w.setCell ⟨g, 3, none⟩ (.int .u64 x)) g { u with v := x } := by
  unfold IsUs; rw [heap_setCell_self h]; rfl
theorem IsUs.setT {w : World} {g : Nat} {u : Us} (h : IsUs w g u) (x : Int) : IsUs (w.setCell ⟨g, 4, none⟩ (.int .i64 x)) g { u with tn := x } := by
  unfold IsUs; rw [heap_setCell_self h]; rfl
theorem IsUs.setP {w : World} {g : Nat} {u : Us} (h : IsUs w g u) (x : Int) : IsUs (w.setCell ⟨g, 5, none⟩ (.int .u64 x)) g { u with tp := x } := by
  unfold IsUs; rw [heap_setCell_self h]; rfl
theorem IsUs.setB {w : World} {g : Nat} {u : Us} (h : IsUs w g u) (x : Int) : IsUs (w.setCell ⟨g, 6, none⟩ (.int .u64 x)) g { u with bt := x } := by
  unfold IsUs; rw [heap_setCell_self h]; rfl
theorem IsUs.setG {w : World} {g : Nat} {u : Us} (h : IsUs w g u) (x : Bool) : IsUs (w.setCell ⟨g, 7, none⟩ (.bool x)) g { u with got := x } := by
  unfold IsUs; rw [heap_setCell_self h]; rfl
theorem IsUs.setD {w : World} {g : Nat} {u : Us} (h : IsUs w g u) (x : Bool) : IsUs (w.setCell ⟨g, 8, none⟩ (.bool x)) g { u with dn := x } := by
  unfold IsUs; rw [heap_setCell_self h]; rfl
theorem IsUs.setH {w : World} {g : Nat} {u : Us} (h : IsUs w g u) (x : Bool) : IsUs (w.setCell ⟨g, 9, none⟩ (.bool x)) g { u with hs := x } := by
  unfold IsUs; rw [heap_setCell_self h]; rfl
structure UOk (u : Us) : Prop where
  q : QOk u.ad u.sz
  p0 : 0 ≤ u.tp
  p1 : u.tp ≤ 18446744073709551615
  b0 : 0 ≤ u.bt
  b1 : u.bt ≤ 18446744073709551615
  t : u.dn = false → (u.kd = 0 ∧ (u.tn = 0 ∨ u.tn = 1 ∨ u.tn = 2 ∨ u.tn = 3)) ∨ (u.kd = 1 ∧ (u.tn = 0 ∨ u.tn = 1 ∨ u.tn = 2 ∨ u.tn = 3 ∨ u.tn = 4 ∨ u.tn = 5)) ∨ (u.kd = 2 ∧ (u.tn = 0 ∨ u.tn = 1 ∨ u.tn = 2 ∨ u.tn = 3))

set_option maxHeartbeats 400000 in
theorem uslot_at {w : World} {g : Nat} {u : Us} (h : IsUs w g u) (q : QOk u.ad u.sz) {ps : Int} (p0 : 0 ≤ ps) (p1 : ps ≤ 18446744073709551615) :
    Calls Try.prog 48 #[.pointer (some ⟨g, 0, none⟩), .int .u64 ps] w fun e w' => e = .returned (.int .i64 (slotA u.ad u.sz ps)) ∧ ∃ m, w' = w.drewN m := by
  obtain ⟨c0, c1, c2, c3, c4, c5, c6, c7, c8, c9⟩ := h.uc
  obtain ⟨a0, a1, s0, s1⟩ := q
  obtain ⟨ad, sz, kd, v, tn, tp, bt, got, dn, hs⟩ := u
  simp only [] at *
  have m0 := Int.emod_nonneg ps (show sz ≠ 0 by omega)
  have m1 := Int.emod_lt_of_pos ps (show 0 < sz by omega)
  unfold slotA
  have hz : (sz == 0) = false := beq_eq_false_iff_ne.2 (by omega)
  clear h c2 c3 c4 c5 c6 c7 c8 c9
  go_enter Try.func48, Try.ntmps48
  go_wp2
  go_quiet (fail)
  go_wp2
  go_ret
  exact ⟨rfl, _, rfl⟩

/-- What stands while a task's next act is made. -/
abbrev US (w : World) (g : Nat) (ad sz v tp bt : Int) (w' : World) : Prop :=
  (w'.cell? ⟨g, 0, none⟩ = some (.int .i64 ad) ∧ w'.cell? ⟨g, 1, none⟩ = some (.int .i64 sz) ∧ w'.cell? ⟨g, 3, none⟩ = some (.int .u64 v) ∧ w'.cell? ⟨g, 5, none⟩ = some (.int .u64 tp) ∧ w'.cell? ⟨g, 6, none⟩ = some (.int .u64 bt)) ∧ (Below w.heap.size w w' ∧ R4 w' w.heap.size)
theorem US.put {w : World} {g : Nat} {ad sz v tp bt : Int} (hlt : g < w.heap.size) {w' : World} (h : US w g ad sz v tp bt w') (a b c d : Value) : US w g ad sz v tp bt ((((w'.setCell ⟨w.heap.size, 0, none⟩ a).setCell ⟨w.heap.size, 1, none⟩ b).setCell ⟨w.heap.size, 2, none⟩ c).setCell ⟨w.heap.size, 3, none⟩ d) := by
  obtain ⟨⟨h0, h1, h2, h3, h4⟩, h5, x, y, z, u, h6⟩ := h
  have hne : g ≠ w.heap.size := by omega
  exact ⟨⟨(cell_put4 hne _ _ _ _).trans h0, (cell_put4 hne _ _ _ _).trans h1, (cell_put4 hne _ _ _ _).trans h2, (cell_put4 hne _ _ _ _).trans h3, (cell_put4 hne _ _ _ _).trans h4⟩, below_put4 h5 _ _ _ _, a, b, c, d, put4 h6 _ _ _ _⟩
theorem US.below {w : World} {g : Nat} {ad sz v tp bt : Int} (hlt : g < w.heap.size) {w' w'' : World} (h : US w g ad sz v tp bt w') (K : Below w'.heap.size w' w'') : US w g ad sz v tp bt w'' := by
  obtain ⟨⟨h0, h1, h2, h3, h4⟩, h5, x, y, z, u, h6⟩ := h
  have hs := h5.size
  have hg : g < w'.heap.size := by omega
  exact ⟨⟨(K.cell (p := ⟨g, 0, none⟩) hg).trans h0, (K.cell (p := ⟨g, 1, none⟩) hg).trans h1, (K.cell (p := ⟨g, 3, none⟩) hg).trans h2, (K.cell (p := ⟨g, 5, none⟩) hg).trans h3, (K.cell (p := ⟨g, 6, none⟩) hg).trans h4⟩, bel_trans h5 K, x, y, z, u, (K.block _ (lt_of_block h6)).trans h6⟩
theorem US.putD {w : World} {g : Nat} {ad sz v tp bt : Int} (hlt : g < w.heap.size) {w' : World} (h : US w g ad sz v tp bt w') (a b c d : Value) : US w g ad sz v tp bt ((((w'.setCell ⟨w.heap.size, 0, none⟩ a).setCell ⟨w.heap.size, 1, none⟩ b).setCell ⟨w.heap.size, 2, none⟩ c).setCell ⟨w.heap.size, 3, none⟩ d).drew :=
  (US.put hlt h a b c d).below hlt (Below.refl _ _).drew
/-- What a walk lays open of it. -/
structure UL (w : World) (g : Nat) (u : Us) (W : World) : Prop where
  us : IsUs W g u
  bel : Below w.heap.size w W
  r4 : R4 W w.heap.size
theorem UL.below {w : World} {g : Nat} {u : Us} {W W' : World} (h : UL w g u W) (K : Below W.heap.size W W') : UL w g u W' := by
  obtain ⟨h1, h5, x, y, z, t, h6⟩ := h
  exact ⟨h1.below K, bel_trans h5 K, x, y, z, t, (K.block _ (lt_of_block h6)).trans h6⟩
theorem UL.first {w : World} {g : Nat} {u : Us} (h : IsUs w g u) : UL w g u (w.alloc (.cells z4 48)) :=
  ⟨h.below (below_alloc _ _), below_alloc _ _, _, _, _, _, heap_alloc_new w (.cells z4 48 (0, 0))⟩
theorem UL.u5 {w : World} {g : Nat} {u : Us} {W : World} (h : UL w g u W) : US w g u.ad u.sz u.v u.tp u.bt W := ⟨⟨h.us.uc.c0, h.us.uc.c1, h.us.uc.c3, h.us.uc.c5, h.us.uc.c6⟩, h.bel, h.r4⟩

end Go.Proofs.Ytmglacaikpcjhaa
