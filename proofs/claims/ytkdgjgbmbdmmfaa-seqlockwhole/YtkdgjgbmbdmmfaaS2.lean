/- The blocks in which writers and readers lie. Of no function; no conditions. -/
import Derived.Test.YtkdgjgbmbdmmfaaS1
namespace Go.Proofs.Ytkdgjgbmbdmmfaa
open Go.RowKit

theorem results_row_tmp {fn : Func} {p u : Tmp} {ty : TypeId} (h : fn.results = #[.cell p ty, .tmp u]) (tmps : Array Value) (w : World) (g : Nat) (cs : Array Value)
    (hp : tmps.getD p undef = .pointer (some ⟨g, 0, none⟩)) (hl : (loadVar ty ⟨g, 0, none⟩).run Try.prog w = .ok (.agg cs) w) :
    (results fn tmps).run Try.prog w = .ok (.tuple #[.agg cs, tmps.getD u undef]) w := by
  rw [results_cell_tmp h, hp]
  simp [asAddr, Result.andThen, hl]
theorem turns_alloc {w w2 : World} {p b : Nat} {s' : St} {t : TypeId} (T : Turns t p b w w2 s') (o : Obj) : Turns t p b w (w2.alloc o) s' :=
  ⟨T.1.below (below_alloc _ _), T.2.trans (But.of_below (below_alloc _ _))⟩

/-- A writer, or what a reader has of one: the lock's place and size, the turn, the last turn, what the number was, the values. -/
structure Wr where
  ad : Int
  n : Int
  t : Int
  e : Int
  m : Int
  vs : List Int
structure Rd where
  x : Wr
  k : Int
  d : Bool
def wrL (x : Wr) : List Value := .int .i64 x.ad :: .int .i64 x.n :: .int .i64 x.t :: .int .i64 x.e :: .int .u64 x.m :: wd x.vs
def rdL (r : Rd) : List Value := wrL r.x ++ [.int .i64 r.k, .bool r.d]
def IsWr (w : World) (g : Nat) (x : Wr) : Prop := w.heap[g]? = some (.cells (wrL x).toArray 61 (0, 0)) ∧ x.vs.length = 16
def IsRd (w : World) (g : Nat) (r : Rd) : Prop := w.heap[g]? = some (.cells (rdL r).toArray 63 (0, 0)) ∧ r.x.vs.length = 16

theorem IsWr.lt {w : World} {g : Nat} {x : Wr} (h : IsWr w g x) : g < w.heap.size := lt_of_block h.1
theorem IsRd.lt {w : World} {g : Nat} {x : Rd} (h : IsRd w g x) : g < w.heap.size := lt_of_block h.1
theorem IsWr.keep {w w' : World} {g : Nat} {x : Wr} (h : IsWr w g x) (e : w'.heap[g]? = w.heap[g]?) : IsWr w' g x := ⟨e.trans h.1, h.2⟩
theorem IsRd.keep {w w' : World} {g : Nat} {x : Rd} (h : IsRd w g x) (e : w'.heap[g]? = w.heap[g]?) : IsRd w' g x := ⟨e.trans h.1, h.2⟩
theorem IsWr.below {w w' : World} {g : Nat} {x : Wr} (h : IsWr w g x) (k : Below w.heap.size w w') : IsWr w' g x := h.keep (k.block _ h.lt)
theorem IsRd.below {w w' : World} {g : Nat} {x : Rd} (h : IsRd w g x) (k : Below w.heap.size w w') : IsRd w' g x := h.keep (k.block _ h.lt)
theorem cell_l {w : World} {g i : Nat} {l : List Value} {t : TypeId} {v : Value} (h : w.heap[g]? = some (.cells l.toArray t (0, 0))) (hv : l[i]? = some v) : w.cell? ⟨g, i, none⟩ = some v := by
  simp [World.cell?, h, hv]
/-- The cells that a program has. -/
structure Pc (w : World) (g : Nat) (x : Wr) : Prop where
  c0 : w.cell? ⟨g, 0, none⟩ = some (.int .i64 x.ad)
  c1 : w.cell? ⟨g, 1, none⟩ = some (.int .i64 x.n)
  c2 : w.cell? ⟨g, 2, none⟩ = some (.int .i64 x.t)
  c3 : w.cell? ⟨g, 3, none⟩ = some (.int .i64 x.e)
  c4 : w.cell? ⟨g, 4, none⟩ = some (.int .u64 x.m)
theorem IsWr.pc {w : World} {g : Nat} {x : Wr} (h : IsWr w g x) : Pc w g x := ⟨cell_l h.1 rfl, cell_l h.1 rfl, cell_l h.1 rfl, cell_l h.1 rfl, cell_l h.1 rfl⟩
theorem IsRd.pc {w : World} {g : Nat} {r : Rd} (h : IsRd w g r) : Pc w g r.x := ⟨cell_l h.1 rfl, cell_l h.1 rfl, cell_l h.1 rfl, cell_l h.1 rfl, cell_l h.1 rfl⟩
theorem IsWr.free {w : World} {g : Nat} {x : Wr} (h : IsWr w g x) (i : Nat) : w.frozen? ⟨g, i, none⟩ = false := free_of h.1
theorem IsRd.free {w : World} {g : Nat} {x : Rd} (h : IsRd w g x) (i : Nat) : w.frozen? ⟨g, i, none⟩ = false := free_of h.1
theorem IsWr.val {w : World} {g : Nat} {x : Wr} (h : IsWr w g x) (i : Nat) (hi : i < 16) : w.cell? ⟨g, 5 + i, none⟩ = some (.int .u64 (x.vs.getD i 0)) := by
  have hl := h.2
  refine cell_l h.1 ?_
  show ([Value.int .i64 x.ad, .int .i64 x.n, .int .i64 x.t, .int .i64 x.e, .int .u64 x.m] ++ wd x.vs)[5 + i]? = _
  rw [List.getElem?_append_right (by simp)]
  simp [wd, List.getD, show i < x.vs.length by omega]
theorem rd_val (r : Rd) (i : Nat) (hi : i < 16) (hl : r.x.vs.length = 16) : (rdL r)[5 + i]? = some (.int .u64 (r.x.vs.getD i 0)) := by
  show ([Value.int .i64 r.x.ad, .int .i64 r.x.n, .int .i64 r.x.t, .int .i64 r.x.e, .int .u64 r.x.m] ++ (wd r.x.vs ++ _))[5 + i]? = _
  rw [List.getElem?_append_right (by simp), List.getElem?_append_left (by simp [wd]; omega)]
  simp [wd, List.getD, show i < r.x.vs.length by omega]
theorem IsRd.val {w : World} {g : Nat} {r : Rd} (h : IsRd w g r) (i : Nat) (hi : i < 16) : w.cell? ⟨g, 5 + i, none⟩ = some (.int .u64 (r.x.vs.getD i 0)) := cell_l h.1 (rd_val r i hi h.2)
theorem IsRd.tries {w : World} {g : Nat} {r : Rd} (h : IsRd w g r) : w.cell? ⟨g, 21, none⟩ = some (.int .i64 r.k) := by
  have hl := h.2
  refine cell_l h.1 ?_
  unfold rdL
  rw [List.getElem?_append_right (by simp [wrL, wd, hl])]
  simp [wrL, wd, hl]
theorem IsRd.whole {w : World} {g : Nat} {r : Rd} (h : IsRd w g r) : w.cell? ⟨g, 22, none⟩ = some (.bool r.d) := by
  have hl := h.2
  refine cell_l h.1 ?_
  unfold rdL
  rw [List.getElem?_append_right (by simp [wrL, wd, hl])]
  simp [wrL, wd, hl]

theorem set_l {w : World} {g i : Nat} {l : List Value} {t : TypeId} (h : w.heap[g]? = some (.cells l.toArray t (0, 0))) (v : Value) :
    (w.setCell ⟨g, i, none⟩ v).heap[g]? = some (.cells (l.set i v).toArray t (0, 0)) := by
  rw [heap_setCell_self h]; simp
theorem IsWr.setT {w : World} {g : Nat} {x : Wr} (h : IsWr w g x) (t : Int) : IsWr (w.setCell ⟨g, 2, none⟩ (.int .i64 t)) g { x with t := t } := ⟨(set_l h.1 _).trans rfl, h.2⟩
theorem IsWr.setM {w : World} {g : Nat} {x : Wr} (h : IsWr w g x) (m : Int) : IsWr (w.setCell ⟨g, 4, none⟩ (.int .u64 m)) g { x with m := m } := ⟨(set_l h.1 _).trans rfl, h.2⟩
theorem IsRd.setT {w : World} {g : Nat} {r : Rd} (h : IsRd w g r) (t : Int) : IsRd (w.setCell ⟨g, 2, none⟩ (.int .i64 t)) g { r with x := { r.x with t := t } } := ⟨(set_l h.1 _).trans rfl, h.2⟩
theorem IsRd.setM {w : World} {g : Nat} {r : Rd} (h : IsRd w g r) (m : Int) : IsRd (w.setCell ⟨g, 4, none⟩ (.int .u64 m)) g { r with x := { r.x with m := m } } := ⟨(set_l h.1 _).trans rfl, h.2⟩
theorem IsRd.setV {w : World} {g : Nat} {r : Rd} (h : IsRd w g r) (i : Nat) (hi : i < 16) (v : Int) : IsRd (w.setCell ⟨g, 5 + i, none⟩ (.int .u64 v)) g { r with x := { r.x with vs := r.x.vs.set i v } } := by
  have hl := h.2
  refine ⟨(set_l h.1 _).trans ?_, by simpa using hl⟩
  congr 2
  apply congrArg
  unfold rdL wrL
  rw [show 5 + i = i + 5 by omega]
  simp only [List.cons_append, List.set_cons_succ]
  rw [List.set_append_left _ _ (by simp [wd]; omega)]
  simp [wd, List.map_set]
theorem IsRd.setK {w : World} {g : Nat} {r : Rd} (h : IsRd w g r) (k : Int) : IsRd (w.setCell ⟨g, 21, none⟩ (.int .i64 k)) g { r with k := k } := by
  have hl := h.2
  refine ⟨(set_l h.1 _).trans ?_, hl⟩
  congr 2
  apply congrArg
  unfold rdL
  rw [List.set_append_right _ _ (by simp [wrL, wd, hl])]
  simp [wrL, wd, hl]
theorem IsRd.setD {w : World} {g : Nat} {r : Rd} (h : IsRd w g r) (d : Bool) : IsRd (w.setCell ⟨g, 22, none⟩ (.bool d)) g { r with d := d } := by
  have hl := h.2
  refine ⟨(set_l h.1 _).trans ?_, hl⟩
  congr 2
  apply congrArg
  unfold rdL
  rw [List.set_append_right _ _ (by simp [wrL, wd, hl])]
  simp [wrL, wd, hl]
end Go.Proofs.Ytkdgjgbmbdmmfaa
