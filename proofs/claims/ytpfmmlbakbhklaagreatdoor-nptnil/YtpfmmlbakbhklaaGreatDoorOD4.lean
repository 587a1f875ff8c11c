/- What Next and Ref return, the program's and the document's, for every descriptor and every number: the same functions; the world's old blocks are as they were. Condition: the package's two tables lie in their variables as the program's text lays them (for the program's calls). -/
import Derived.Test.YtpfmmlbakbhklaaGreatDoorOD3b
import Derived.Laws.ResultCell
namespace Go.Proofs.YtpfmmlbakbhklaaGreatDoor.O
open Go.RowKit

def zd : Ds := ⟨0, 0, 0, 0⟩
/-- What comes next, and the error. -/
def nxD (d : Ds) (k o : Int) : Ds := ⟨k, if k = 5 then d.o else o, 0, 0⟩
def nxE (d : Ds) (k o : Int) : Int := if rt d = true then (if d.r = 0 then (if way d.k k = true then (if rt (nxD d k o) = true then 0 else 1) else 6) else 9) else 11
def nx (d : Ds) (k o : Int) : Ds := if nxE d k o = 0 then nxD d k o else zd
def rfE (d : Ds) (b : Int) : Int := if rt d = true then (if 2 ≤ d.k ∧ d.k ≤ 4 then (if 0 ≤ d.r + b ∧ d.r + b ≤ 65535 then 0 else 2) else 6) else 11
def rf (d : Ds) (b : Int) : Ds := if rfE d b = 0 then ⟨d.k, d.o, d.r + b, d.e⟩ else zd
/-- Two results: a descriptor and an error. -/
def two (d : Ds) (e : Int) : Value := .tuple #[dV d, .int .i64 e]

abbrev dC (d : Ds) : Array Value := #[.int .i64 d.k, .int .i64 d.o, .int .i64 d.r, .int .i64 d.e]
theorem results_row_tmp {fn : Func} {p u : Tmp} {ty : TypeId} (h : fn.results = #[.cell p ty, .tmp u]) (tmps : Array Value) (w : World) (g : Nat) (cs : Array Value)
    (hp : tmps.getD p undef = .pointer (some ⟨g, 0, none⟩)) (hl : (loadVar ty ⟨g, 0, none⟩).run Tryz.prog w = .ok (.agg cs) w) :
    (results fn tmps).run Tryz.prog w = .ok (.tuple #[.agg cs, tmps.getD u undef]) w := by
  rw [results_cell_tmp h, hp]
  simp [asAddr, Result.andThen, hl]
theorem size64 : (Tryz.prog.info? 64).map (·.size) = some 4 := by kernel_rfl
theorem size91 : (Tryz.prog.info? 91).map (·.size) = some 4 := by kernel_rfl
theorem cell_of {w : World} {g i : Nat} {c : Array Value} {t : TypeId} {v : Value} (h : w.heap[g]? = some (.cells c t (0, 0))) (hv : c[i]? = some v) : w.cell? ⟨g, i, none⟩ = some v := by
  simp [World.cell?, h, hv]
theorem free_of {w : World} {g i : Nat} {c : Array Value} {t : TypeId} (h : w.heap[g]? = some (.cells c t (0, 0))) : w.frozen? ⟨g, i, none⟩ = false := by
  simp [World.frozen?, h]
theorem heap_setCell_self {w : World} {g i : Nat} {cs : Array Value} {t : TypeId} (h : w.heap[g]? = some (.cells cs t (0, 0))) (u : Value) :
    (w.setCell ⟨g, i, none⟩ u).heap[g]? = some (.cells (cs.setIfInBounds i u) t (0, 0)) := by
  have hlt := lt_of_block h
  have h' : w.heap[g] = .cells cs t (0, 0) := by simpa [Array.getElem?_eq_getElem hlt] using h
  show (w.heap.modify g _)[g]? = _
  rw [Array.getElem?_eq_getElem (by simpa using hlt), Array.getElem_modify_self, h']
  rfl
theorem hkeep {W : World} {g : Nat} {o : Obj} (h : W.heap[g]? = some o) (o' : Obj) : (W.alloc o').heap[g]? = some o := (Below.heap_alloc W o' g (lt_of_block h)).trans h
theorem two_new (w : World) (A B : Obj) : ((w.alloc A).alloc B).heap[w.heap.size]? = some A ∧ ((w.alloc A).alloc B).heap[w.heap.size + 1]? = some B := by
  refine ⟨hkeep (heap_alloc_new _ _) _, ?_⟩
  have := heap_alloc_new (w.alloc A) B
  simpa using this
theorem three_new (w : World) (A B C : Obj) : (((w.alloc A).alloc B).alloc C).heap[w.heap.size]? = some A ∧ (((w.alloc A).alloc B).alloc C).heap[w.heap.size + 1]? = some B ∧ (((w.alloc A).alloc B).alloc C).heap[w.heap.size + 1 + 1]? = some C := by
  obtain ⟨a, b⟩ := two_new w A B
  refine ⟨hkeep a _, hkeep b _, ?_⟩
  have := heap_alloc_new ((w.alloc A).alloc B) C
  simpa using this
theorem stay {A B : World} {g : Nat} {o : Obj} (h : Below A.heap.size A B) (a : A.heap[g]? = some o) : B.heap[g]? = some o := (h.block g (lt_of_block a)).trans a
/-- A block's four cells, free to be written. -/
theorem four {w : World} {g : Nat} {a b c d : Value} {t : TypeId} (h : w.heap[g]? = some (.cells #[a, b, c, d] t (0, 0))) :
    w.cell? ⟨g, 0, none⟩ = some a ∧ w.cell? ⟨g, 1, none⟩ = some b ∧ w.cell? ⟨g, 2, none⟩ = some c ∧ w.cell? ⟨g, 3, none⟩ = some d ∧
    w.frozen? ⟨g, 0, none⟩ = false ∧ w.frozen? ⟨g, 1, none⟩ = false ∧ w.frozen? ⟨g, 2, none⟩ = false ∧ w.frozen? ⟨g, 3, none⟩ = false :=
  ⟨cell_of h rfl, cell_of h rfl, cell_of h rfl, cell_of h rfl, free_of h, free_of h, free_of h, free_of h⟩
theorem put4 {w2 : World} {g : Nat} {x y z u : Value} {t : TypeId} (hg : w2.heap[g]? = some (.cells #[x, y, z, u] t (0, 0))) (x' y' z' u' : Value) :
    ((((w2.setCell ⟨g, 0, none⟩ x').setCell ⟨g, 1, none⟩ y').setCell ⟨g, 2, none⟩ z').setCell ⟨g, 3, none⟩ u').heap[g]? = some (.cells #[x', y', z', u'] t (0, 0)) := by
  rw [heap_setCell_self (heap_setCell_self (heap_setCell_self (heap_setCell_self hg _) _) _) _]
  rfl
theorem bput {n g : Nat} {A B : World} (h : Below n A B) (hg : n ≤ g) (x y z u : Value) : Below n A ((((B.setCell ⟨g, 0, none⟩ x).setCell ⟨g, 1, none⟩ y).setCell ⟨g, 2, none⟩ z).setCell ⟨g, 3, none⟩ u) :=
  (((h.setCell hg x).setCell hg y).setCell hg z).setCell hg u
theorem btwo (w : World) (A B : Obj) : Below w.heap.size w ((w.alloc A).alloc B) := (below_one w A).alloc (by simp) B
theorem bthree (w : World) (A B C : Obj) : Below w.heap.size w (((w.alloc A).alloc B).alloc C) := (btwo w A B).alloc (by simp; omega) C
theorem bgo {A B C : World} (h : Below A.heap.size A B) (h' : Below B.heap.size B C) : Below A.heap.size A C := h.trans (h'.mono h.size)
theorem Tab.go {A B : World} (hT : Tab A) (h : Below A.heap.size A B) : Tab B := hT.below h hT.pos h.size
end Go.Proofs.YtpfmmlbakbhklaaGreatDoor.O
