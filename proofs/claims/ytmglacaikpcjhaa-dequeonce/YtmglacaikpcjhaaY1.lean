/- The world of DequeOnce: its blocks; what take leaves. Conditions: the numbers are small. -/
import Derived.Test.YtmglacaikpcjhaaQ4
namespace Go.Proofs.Ytmglacaikpcjhaa
open Go.RowKit

def ptrV : Option Nat → Value
  | none => .pointer none
  | some g => .pointer (some ⟨g, 0, none⟩)
structure Xr where
  p : Nat
  n : Int
  ow : Option Nat
  po : Bool
  u : Int
  t0 : Option Nat
  t1 : Option Nat
  t2 : Option Nat
  gh : Nat
  N : Nat
  pu : Int
  ta : Int
abbrev xrC (c : Xr) : Array Value := #[.pointer (some ⟨c.p, 0, none⟩), .int .i64 3, .int .i64 c.n, ptrV c.ow, .bool c.po, .int .i64 c.u, ptrV c.t0, ptrV c.t1, ptrV c.t2, .slice (some ⟨c.gh, 0, none⟩) c.N c.N, .int .i64 c.pu, .int .i64 c.ta, .bool false]
def IsX (w : World) (gx : Nat) (c : Xr) : Prop := w.heap[gx]? = some (.cells (xrC c) 64 (0, 0))
theorem IsX.lt {w : World} {gx : Nat} {c : Xr} (h : IsX w gx c) : gx < w.heap.size := lt_of_block h
theorem IsX.keep {w w' : World} {gx : Nat} {c : Xr} (h : IsX w gx c) (e : w'.heap[gx]? = w.heap[gx]?) : IsX w' gx c := e.trans h
theorem IsX.below {w w' : World} {gx : Nat} {c : Xr} (h : IsX w gx c) (k : Below w.heap.size w w') : IsX w' gx c := h.keep (k.block _ h.lt)
structure Xc (w : World) (gx : Nat) (c : Xr) : Prop where
  c0 : w.cell? ⟨gx, 0, none⟩ = some (.pointer (some ⟨c.p, 0, none⟩))
  c1 : w.cell? ⟨gx, 1, none⟩ = some (.int .i64 3)
  c2 : w.cell? ⟨gx, 2, none⟩ = some (.int .i64 c.n)
  c3 : w.cell? ⟨gx, 3, none⟩ = some (ptrV c.ow)
  c4 : w.cell? ⟨gx, 4, none⟩ = some (.bool c.po)
  c5 : w.cell? ⟨gx, 5, none⟩ = some (.int .i64 c.u)
  c6 : w.cell? ⟨gx, 6, none⟩ = some (ptrV c.t0)
  c7 : w.cell? ⟨gx, 7, none⟩ = some (ptrV c.t1)
  c8 : w.cell? ⟨gx, 8, none⟩ = some (ptrV c.t2)
  c9 : w.cell? ⟨gx, 9, none⟩ = some (.slice (some ⟨c.gh, 0, none⟩) c.N c.N)
  c10 : w.cell? ⟨gx, 10, none⟩ = some (.int .i64 c.pu)
  c11 : w.cell? ⟨gx, 11, none⟩ = some (.int .i64 c.ta)
  c12 : w.cell? ⟨gx, 12, none⟩ = some (.bool false)
theorem IsX.xc {w : World} {gx : Nat} {c : Xr} (h : IsX w gx c) : Xc w gx c := ⟨cell_of h rfl, cell_of h rfl, cell_of h rfl, cell_of h rfl, cell_of h rfl, cell_of h rfl, cell_of h rfl, cell_of h rfl, cell_of h rfl, cell_of h rfl, cell_of h rfl, cell_of h rfl, cell_of h rfl⟩
theorem IsX.free {w : World} {gx : Nat} {c : Xr} (h : IsX w gx c) (i : Nat) : w.frozen? ⟨gx, i, none⟩ = false := free_of h
theorem IsX.setOw {w : World} {gx : Nat} {c : Xr} (h : IsX w gx c) (o : Option Nat) : IsX (w.setCell ⟨gx, 3, none⟩ (ptrV o)) gx { c with ow := o } := by unfold IsX; rw [heap_setCell_self h]; rfl
theorem IsX.setPo {w : World} {gx : Nat} {c : Xr} (h : IsX w gx c) (o : Bool) : IsX (w.setCell ⟨gx, 4, none⟩ (.bool o)) gx { c with po := o } := by unfold IsX; rw [heap_setCell_self h]; rfl
theorem IsX.setU {w : World} {gx : Nat} {c : Xr} (h : IsX w gx c) (v : Int) : IsX (w.setCell ⟨gx, 5, none⟩ (.int .i64 v)) gx { c with u := v } := by unfold IsX; rw [heap_setCell_self h]; rfl
theorem IsX.setPu {w : World} {gx : Nat} {c : Xr} (h : IsX w gx c) (v : Int) : IsX (w.setCell ⟨gx, 10, none⟩ (.int .i64 v)) gx { c with pu := v } := by unfold IsX; rw [heap_setCell_self h]; rfl
theorem IsX.setTa {w : World} {gx : Nat} {c : Xr} (h : IsX w gx c) (v : Int) : IsX (w.setCell ⟨gx, 11, none⟩ (.int .i64 v)) gx { c with ta := v } := by unfold IsX; rw [heap_setCell_self h]; rfl
theorem IsX.setBad {w : World} {gx : Nat} {c : Xr} (h : IsX w gx c) : IsX (w.setCell ⟨gx, 12, none⟩ (.bool false)) gx c := by unfold IsX; rw [heap_setCell_self h]; rfl
def Xr.t (c : Xr) (k : Nat) : Option Nat := if k = 0 then c.t0 else if k = 1 then c.t1 else c.t2
def Xr.setT (c : Xr) (k : Nat) (o : Option Nat) : Xr := if k = 0 then { c with t0 := o } else if k = 1 then { c with t1 := o } else { c with t2 := o }
theorem IsX.setT0 {w : World} {gx : Nat} {c : Xr} (h : IsX w gx c) (o : Option Nat) : IsX (w.setCell ⟨gx, 6, none⟩ (ptrV o)) gx (c.setT 0 o) := by unfold IsX; rw [heap_setCell_self h]; rfl
theorem IsX.setT1 {w : World} {gx : Nat} {c : Xr} (h : IsX w gx c) (o : Option Nat) : IsX (w.setCell ⟨gx, 7, none⟩ (ptrV o)) gx (c.setT 1 o) := by unfold IsX; rw [heap_setCell_self h]; rfl
theorem IsX.setT2 {w : World} {gx : Nat} {c : Xr} (h : IsX w gx c) (o : Option Nat) : IsX (w.setCell ⟨gx, 8, none⟩ (ptrV o)) gx (c.setT 2 o) := by unfold IsX; rw [heap_setCell_self h]; rfl

def hdA (N : Nat) (H : Nat → Int) : Array Value := ((List.range N).map fun i => Value.int .i64 (H i)).toArray
def IsH (w : World) (g N : Nat) (H : Nat → Int) : Prop := w.heap[g]? = some (.cells (hdA N H) 3 (0, 0))
theorem IsH.lt {w : World} {g N : Nat} {H : Nat → Int} (h : IsH w g N H) : g < w.heap.size := lt_of_block h
theorem IsH.keep {w w' : World} {g N : Nat} {H : Nat → Int} (h : IsH w g N H) (e : w'.heap[g]? = w.heap[g]?) : IsH w' g N H := e.trans h
theorem IsH.below {w w' : World} {g N : Nat} {H : Nat → Int} (h : IsH w g N H) (k : Below w.heap.size w w') : IsH w' g N H := h.keep (k.block _ h.lt)
theorem IsH.cell {w : World} {g N i : Nat} {H : Nat → Int} (h : IsH w g N H) (hi : i < N) : w.cell? ⟨g, i, none⟩ = some (.int .i64 (H i)) := cell_of h (by simp [hdA, hi])
theorem IsH.free {w : World} {g N : Nat} {H : Nat → Int} (h : IsH w g N H) (i : Nat) : w.frozen? ⟨g, i, none⟩ = false := free_of h
theorem IsH.set {w : World} {g N : Nat} {H : Nat → Int} (h : IsH w g N H) (i : Nat) (v : Int) : IsH (w.setCell ⟨g, i, none⟩ (.int .i64 v)) g N (updH H i v) := by
  unfold IsH
  rw [heap_setCell_self h]
  congr 2
  apply Array.ext
  · simp [hdA]
  · intro j h1 h2
    simp only [hdA] at h1 h2 ⊢
    by_cases e : j = i
    · subst e; simp [updH]
    · have e2 : ¬ i = j := fun z => e z.symm
      simp [updH, e, e2]

/-- All that was there is as it was, but for the blocks x, h, g, p and b. -/
structure But5 (x h g p b : Nat) (w w' : World) : Prop where
  os : w'.os = w.os
  tape : w'.tape = w.tape
  output : w'.output = w.output
  size : w.heap.size ≤ w'.heap.size
  block : ∀ k, k < w.heap.size → k ≠ x → k ≠ h → k ≠ g → k ≠ p → k ≠ b → w'.heap[k]? = w.heap[k]?
theorem But5.trans {x h g p b : Nat} {u v w : World} (a : But5 x h g p b u v) (c : But5 x h g p b v w) : But5 x h g p b u w :=
  ⟨c.os.trans a.os, c.tape.trans a.tape, c.output.trans a.output, Nat.le_trans a.size c.size, fun i hi q1 q2 q3 q4 q5 => (c.block i (Nat.lt_of_lt_of_le hi a.size) q1 q2 q3 q4 q5).trans (a.block i hi q1 q2 q3 q4 q5)⟩
theorem But5.of3 {x h g p b : Nat} {w w' : World} (a : But3 g p b w w') : But5 x h g p b w w' := ⟨a.os, a.tape, a.output, a.size, fun k hk _ _ q3 q4 q5 => a.block k hk q3 q4 q5⟩
theorem But5.of2 {x h g p b : Nat} {w w' : World} (a : But x h w w') : But5 x h g p b w w' := ⟨a.os, a.tape, a.output, a.size, fun k hk q1 q2 _ _ _ => a.block k hk q1 q2⟩
theorem But5.of1 {x h g p b : Nat} {w w' : World} (a : But x x w w') : But5 x h g p b w w' := ⟨a.os, a.tape, a.output, a.size, fun k hk q1 _ _ _ _ => a.block k hk q1 q1⟩
theorem But5.ofB {x h g p b : Nat} {w w' : World} (a : Below w.heap.size w w') : But5 x h g p b w w' := ⟨a.os, a.tape, a.output, a.size, fun k hk _ _ _ _ _ => a.block k hk⟩

set_option maxRecDepth 100000 in
set_option maxHeartbeats 800000 in
theorem take_at {w : World} {gx i : Nat} {c : Xr} {H : Nat → Int} (hx : IsX w gx c) (hh : IsH w c.gh c.N H) (hne : gx ≠ c.gh) (hi : i < c.N) (hN : c.N ≤ 20) (h0 : H i = 0) (hta0 : 0 ≤ c.ta) (hta1 : c.ta ≤ 100000) :
    Calls Try.prog 26 #[.pointer (some ⟨gx, 0, none⟩), .int .u64 (100 + (i : Int))] w fun e w' => e = .returned (.tuple #[]) ∧ IsX w' gx { c with ta := c.ta + 1 } ∧ IsH w' c.gh c.N (updH H i 1) ∧ But gx c.gh w w' := by
  obtain ⟨c0, c1, c2, c3, c4, c5, c6, c7, c8, c9, c10, c11, c12⟩ := hx.xc
  have f11 := hx.free 11
  have f12 := hx.free 12
  have fi := hh.free i
  have ch := hh.cell hi
  rw [h0] at ch
  have HX := hid hx
  have HH := hid hh
  have hne' : c.gh ≠ gx := hne.symm
  obtain ⟨p, n, ow, po, u, t0, t1, t2, gh, N, pu, ta⟩ := c
  simp only [] at *
  clear hx hh h0 c0 c1 c2 c3 c4 c5 c6 c7 c8 c10
  have hi0 : (0 : Int) ≤ (i : Int) := by omega
  have hi1 : (i : Int) < (N : Int) := by omega
  have hN' : (N : Int) ≤ 20 := by omega
  go_enter Try.func26, Try.ntmps26
  go_wp2
  first | go_end0 | (refine bodyPost_ret (results_none rfl _ _ _) rfl ?_)
  refine ⟨rfl, ?_, ?_, ?_⟩
  · exact ((HX.out.keep (Below.heap_setCell _ _ _ _ hne)).setTa (ta + 1)).setBad
  · exact ((HH.out.set i 1).keep (Below.heap_setCell _ _ _ _ hne')).keep (Below.heap_setCell _ _ _ _ hne')
  · exact ((But.setCell gx gh _ _ _ (Or.inr rfl)).trans (But.setCell gx gh _ _ _ (Or.inl rfl))).trans (But.setCell gx gh _ _ _ (Or.inl rfl))
end Go.Proofs.Ytmglacaikpcjhaa
