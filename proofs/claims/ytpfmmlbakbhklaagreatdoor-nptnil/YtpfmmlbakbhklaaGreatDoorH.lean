/- Words that lie in memory behind a pointer: what is known of them, and what stays when one of them is laid. Of no function; no conditions. -/
import Derived.Test.YtpfmmlbakbhklaaGreatDoorRows
import Derived.WalkKit
import Derived.WalkSpells
import Derived.WalkLawsBesides
import Derived.OneCell
import Derived.Laws.CopyOwn
namespace Go.Proofs.YtpfmmlbakbhklaaGreatDoor
open Go.RowKit

def wd (xs : List Int) : List Value := xs.map fun x => Value.int .u64 x

/-- Block g holds the words xs. -/
def IsRow (w : World) (g : Nat) (xs : List Int) : Prop := w.heap[g]? = some (.cells (wd xs).toArray 67 (0, 0))

/-- Block p is a struct of type t: a row (block b) of the words xs, and two numbers. -/
structure IsMem (t : TypeId) (w : World) (p b : Nat) (xs : List Int) (d l : Int) : Prop where
  head : w.heap[p]? = some (.cells #[.slice (some ⟨b, 0, none⟩) xs.length xs.length, .int .i64 d, .int .i64 l] t (0, 0))
  row : IsRow w b xs
  ne : p ≠ b
  pos : 1 ≤ xs.length
  top : xs.length ≤ 65536

/-- All that was there is as it was, but for the blocks p and b. -/
structure But (p b : Nat) (w w' : World) : Prop where
  os : w'.os = w.os
  tape : w'.tape = w.tape
  output : w'.output = w.output
  size : w.heap.size ≤ w'.heap.size
  block : ∀ k, k < w.heap.size → k ≠ p → k ≠ b → w'.heap[k]? = w.heap[k]?

theorem But.refl (p b : Nat) (w : World) : But p b w w := ⟨rfl, rfl, rfl, Nat.le_refl _, fun _ _ _ _ => rfl⟩
theorem But.trans {p b : Nat} {x y z : World} (h : But p b x y) (k : But p b y z) : But p b x z :=
  ⟨k.os.trans h.os, k.tape.trans h.tape, k.output.trans h.output, Nat.le_trans h.size k.size, fun i hi a c => (k.block i (Nat.lt_of_lt_of_le hi h.size) a c).trans (h.block i hi a c)⟩
theorem But.below {p b : Nat} {w w' : World} (h : But p b w w') {B : Nat} (hB : B ≤ w.heap.size) (hp : B ≤ p) (hb : B ≤ b) : Below B w w' :=
  ⟨h.os, h.tape, h.output, h.size, fun k hk => h.block k (by omega) (by omega) (by omega)⟩
theorem But.of_below {p b : Nat} {w w' : World} (h : Below w.heap.size w w') : But p b w w' :=
  ⟨h.os, h.tape, h.output, h.size, fun k hk _ _ => h.block k hk⟩

theorem IsRow.lt {w : World} {g : Nat} {xs : List Int} (h : IsRow w g xs) : g < w.heap.size := lt_of_block h
theorem IsMem.lt {t : TypeId} {w : World} {p b : Nat} {xs : List Int} {d l : Int} (h : IsMem t w p b xs d l) : p < w.heap.size ∧ b < w.heap.size := ⟨lt_of_block h.head, h.row.lt⟩
theorem IsRow.keep {w w' : World} {g : Nat} {xs : List Int} (h : IsRow w g xs) (e : w'.heap[g]? = w.heap[g]?) : IsRow w' g xs := e.trans h
theorem IsMem.keep {t : TypeId} {w w' : World} {p b : Nat} {xs : List Int} {d l : Int} (h : IsMem t w p b xs d l) (e : w'.heap[p]? = w.heap[p]?) (f : w'.heap[b]? = w.heap[b]?) : IsMem t w' p b xs d l :=
  ⟨e.trans h.head, h.row.keep f, h.ne, h.pos, h.top⟩
theorem IsMem.below {t : TypeId} {w w' : World} {p b : Nat} {xs : List Int} {d l : Int} (h : IsMem t w p b xs d l) (k : Below w.heap.size w w') : IsMem t w' p b xs d l :=
  h.keep (k.block _ h.lt.1) (k.block _ h.lt.2)
theorem IsMem.but {t : TypeId} {w w' : World} {p b q c : Nat} {xs : List Int} {d l : Int} (h : IsMem t w p b xs d l) (k : But q c w w') (h1 : p ≠ q) (h2 : p ≠ c) (h3 : b ≠ q) (h4 : b ≠ c) : IsMem t w' p b xs d l :=
  h.keep (k.block _ h.lt.1 h1 h2) (k.block _ h.lt.2 h3 h4)

theorem IsRow.cell {w : World} {g : Nat} {xs : List Int} (h : IsRow w g xs) (i : Nat) (hi : i < xs.length) : w.cell? ⟨g, i, none⟩ = some (.int .u64 (xs.getD i 0)) := by
  unfold IsRow at h
  simp [World.cell?, h, wd, List.getD, hi]
theorem IsRow.free {w : World} {g : Nat} {xs : List Int} (h : IsRow w g xs) (i : Nat) : w.frozen? ⟨g, i, none⟩ = false := by
  unfold IsRow at h
  simp [World.frozen?, h]
theorem IsMem.cells {t : TypeId} {w : World} {p b : Nat} {xs : List Int} {d l : Int} (h : IsMem t w p b xs d l) :
    w.cell? ⟨p, 0, none⟩ = some (.slice (some ⟨b, 0, none⟩) xs.length xs.length) ∧ w.cell? ⟨p, 1, none⟩ = some (.int .i64 d) ∧ w.cell? ⟨p, 2, none⟩ = some (.int .i64 l) := by
  have := h.head
  simp [World.cell?, this]
theorem IsMem.free {t : TypeId} {w : World} {p b : Nat} {xs : List Int} {d l : Int} (h : IsMem t w p b xs d l) (i : Nat) : w.frozen? ⟨p, i, none⟩ = false := by
  have := h.head
  simp [World.frozen?, this]

theorem heap_setCell_self {w : World} {g i : Nat} {cs : Array Value} {t : TypeId} (h : w.heap[g]? = some (.cells cs t (0, 0))) (u : Value) :
    (w.setCell ⟨g, i, none⟩ u).heap[g]? = some (.cells (cs.setIfInBounds i u) t (0, 0)) := by
  have hlt := lt_of_block h
  have h' : w.heap[g] = .cells cs t (0, 0) := by simpa [Array.getElem?_eq_getElem hlt] using h
  show (w.heap.modify g _)[g]? = _
  rw [Array.getElem?_eq_getElem (by simpa using hlt), Array.getElem_modify_self, h']
  rfl

theorem IsRow.set {w : World} {g : Nat} {xs : List Int} (h : IsRow w g xs) (i : Nat) (v : Int) : IsRow (w.setCell ⟨g, i, none⟩ (.int .u64 v)) g (xs.set i v) := by
  unfold IsRow at h ⊢
  rw [heap_setCell_self h]
  simp [wd, List.map_set]

theorem But.setCell (p b : Nat) (w : World) (a : Addr) (u : Value) (h : a.block = p ∨ a.block = b) : But p b w (w.setCell a u) :=
  ⟨rfl, rfl, rfl, by simp [World.setCell], fun k _ h1 h2 => Below.heap_setCell w a u k (by rcases h with h | h <;> omega)⟩

/-- One of the two numbers turns. -/
theorem IsMem.done {t : TypeId} {w : World} {p b : Nat} {xs : List Int} {d l : Int} (h : IsMem t w p b xs d l) (v : Int) : IsMem t (w.setCell ⟨p, 1, none⟩ (.int .i64 v)) p b xs v l :=
  ⟨by rw [heap_setCell_self h.head]; rfl, h.row.keep (Below.heap_setCell _ _ _ _ (fun e => h.ne e.symm)), h.ne, h.pos, h.top⟩
theorem IsMem.laid {t : TypeId} {w : World} {p b : Nat} {xs : List Int} {d l : Int} (h : IsMem t w p b xs d l) (v : Int) : IsMem t (w.setCell ⟨p, 2, none⟩ (.int .i64 v)) p b xs d v :=
  ⟨by rw [heap_setCell_self h.head]; rfl, h.row.keep (Below.heap_setCell _ _ _ _ (fun e => h.ne e.symm)), h.ne, h.pos, h.top⟩
theorem IsMem.word {t : TypeId} {w : World} {p b : Nat} {xs : List Int} {d l : Int} (h : IsMem t w p b xs d l) (i : Nat) (v : Int) : IsMem t (w.setCell ⟨b, i, none⟩ (.int .u64 v)) p b (xs.set i v) d l :=
  ⟨by rw [Below.heap_setCell _ _ _ _ h.ne]; simpa using h.head, h.row.set i v, h.ne, by simpa using h.pos, by simpa using h.top⟩
end Go.Proofs.YtpfmmlbakbhklaaGreatDoor
