/- Words that lie in memory behind a pointer: what is known of them, and what stays when one of them is laid. Of no function; no conditions. What the calls of package mem to one word return, and what they leave, for words that New gave. Conditions: the counts are below 2^62. What Load, Store, Cas, Add, Len and Count return, and what they leave, for words that New gave; and for none. Conditions: the counts are below 2^62. What New, and the parts of a row (hasAll, part, Words, Copy), return: new memory; nothing that lay before is changed. Conditions: none but that the words are those that New gave. The calls of package mem by states: what each returns and leaves is a function of the words and counts alone; two rows of the same words compare as the same. Conditions: the counts are below 2^62. What the document's answer for layer 2 returns and leaves: the same functions of the words and counts as package mem's. Conditions: the counts are below 2^62. Acts as they lie in memory. Of no function; no conditions. What Do and Run of package act return and leave: functions of the acts, the words and the counts alone. Conditions: the counts are below 2^62. What Do of package act returns and leaves: a function of the act, the words and the counts alone. Conditions: the counts are below 2^62. What New, and the parts of a row (hasAll, part, Words, Copy), return: new memory; nothing that lay before is changed. Conditions: none but that the words are those that New gave. The calls of package mem by states: what each returns and leaves is a function of the words and counts alone; two rows of the same words compare as the same. Conditions: the counts are below 2^62. What Load, Store, Cas, Add, Len and Count return, and what they leave, for words that New gave; and for none. Conditions: the counts are below 2^62. -/
import Derived.Test.YtpfmmlbakbhklaaGreatDoorRows
import Derived.WalkKit
import Derived.WalkSpells
import Derived.WalkLawsBesides
import Derived.OneCell
import Derived.Laws.CopyOwn
import Derived.BigQuiet
import Derived.Deep.QuietTactic
import Derived.Deep.OwnRows
import Derived.Deep.RegionHeld3
import Derived.Handy
import Derived.MapKept
namespace Go.Proofs.YtpfmmlbakbhklaaGreatDoor
open Go.RowKit

def wd (xs : List Int) : List Value := xs.map fun x => Value.int .u64 x

/-- Block g holds the words xs. -/
def IsRow (w : World) (g : Nat) (xs : List Int) : Prop := w.heap[g]? = some (.cells (wd xs).toArray 67 (0, 0))

/-- Block p is a struct of type t: a row (block b) of the words xs, and two numbers. -/
structure IsMem (t : TypeId) (w : World) (p b : Nat) (xs : List Int) (d l : Int) : Prop where
  head : w.heap[p]? = some (.cells #[.slice (some ⟨b, 0, none⟩) xs.length xs.length, .int .i64 d, .int .i64 l] t (0, 0))
  row : IsRow w b xs
  ne : p ≠ b
  pos : 1 ≤ xs.length
  top : xs.length ≤ 65536

/-- All that was there is as it was, but for the blocks p and b. -/
structure But (p b : Nat) (w w' : World) : Prop where
  os : w'.os = w.os
  tape : w'.tape = w.tape
  output : w'.output = w.output
  size : w.heap.size ≤ w'.heap.size
  block : ∀ k, k < w.heap.size → k ≠ p → k ≠ b → w'.heap[k]? = w.heap[k]?

theorem But.refl (p b : Nat) (w : World) : But p b w w := ⟨rfl, rfl, rfl, Nat.le_refl _, fun _ _ _ _ => rfl⟩
theorem But.trans {p b : Nat} {x y z : World} (h : But p b x y) (k : But p b y z) : But p b x z :=
  ⟨k.os.trans h.os, k.tape.trans h.tape, k.output.trans h.output, Nat.le_trans h.size k.size, fun i hi a c => (k.block i (Nat.lt_of_lt_of_le hi h.size) a c).trans (h.block i hi a c)⟩
theorem But.below {p b : Nat} {w w' : World} (h : But p b w w') {B : Nat} (hB : B ≤ w.heap.size) (hp : B ≤ p) (hb : B ≤ b) : Below B w w' :=
  ⟨h.os, h.tape, h.output, h.size, fun k hk => h.block k (by omega) (by omega) (by omega)⟩
theorem But.of_below {p b : Nat} {w w' : World} (h : Below w.heap.size w w') : But p b w w' :=
  ⟨h.os, h.tape, h.output, h.size, fun k hk _ _ => h.block k hk⟩

theorem IsRow.lt {w : World} {g : Nat} {xs : List Int} (h : IsRow w g xs) : g < w.heap.size := lt_of_block h
theorem IsMem.lt {t : TypeId} {w : World} {p b : Nat} {xs : List Int} {d l : Int} (h : IsMem t w p b xs d l) : p < w.heap.size ∧ b < w.heap.size := ⟨lt_of_block h.head, h.row.lt⟩
theorem IsRow.keep {w w' : World} {g : Nat} {xs : List Int} (h : IsRow w g xs) (e : w'.heap[g]? = w.heap[g]?) : IsRow w' g xs := e.trans h
theorem IsMem.keep {t : TypeId} {w w' : World} {p b : Nat} {xs : List Int} {d l : Int} (h : IsMem t w p b xs d l) (e : w'.heap[p]? = w.heap[p]?) (f : w'.heap[b]? = w.heap[b]?) : IsMem t w' p b xs d l :=
  ⟨e.trans h.head, h.row.keep f, h.ne, h.pos, h.top⟩
theorem IsMem.below {t : TypeId} {w w' : World} {p b : Nat} {xs : List Int} {d l : Int} (h : IsMem t w p b xs d l) (k : Below w.heap.size w w') : IsMem t w' p b xs d l :=
  h.keep (k.block _ h.lt.1) (k.block _ h.lt.2)
theorem IsMem.but {t : TypeId} {w w' : World} {p b q c : Nat} {xs : List Int} {d l : Int} (h : IsMem t w p b xs d l) (k : But q c w w') (h1 : p ≠ q) (h2 : p ≠ c) (h3 : b ≠ q) (h4 : b ≠ c) : IsMem t w' p b xs d l :=
  h.keep (k.block _ h.lt.1 h1 h2) (k.block _ h.lt.2 h3 h4)

theorem IsRow.cell {w : World} {g : Nat} {xs : List Int} (h : IsRow w g xs) (i : Nat) (hi : i < xs.length) : w.cell? ⟨g, i, none⟩ = some (.int .u64 (xs.getD i 0)) := by
  unfold IsRow at h
  simp [World.cell?, h, wd, List.getD, hi]
theorem IsRow.free {w : World} {g : Nat} {xs : List Int} (h : IsRow w g xs) (i : Nat) : w.frozen? ⟨g, i, none⟩ = false := by
  unfold IsRow at h
  simp [World.frozen?, h]
theorem IsMem.cells {t : TypeId} {w : World} {p b : Nat} {xs : List Int} {d l : Int} (h : IsMem t w p b xs d l) :
    w.cell? ⟨p, 0, none⟩ = some (.slice (some ⟨b, 0, none⟩) xs.length xs.length) ∧ w.cell? ⟨p, 1, none⟩ = some (.int .i64 d) ∧ w.cell? ⟨p, 2, none⟩ = some (.int .i64 l) := by
  have := h.head
  simp [World.cell?, this]
theorem IsMem.free {t : TypeId} {w : World} {p b : Nat} {xs : List Int} {d l : Int} (h : IsMem t w p b xs d l) (i : Nat) : w.frozen? ⟨p, i, none⟩ = false := by
  have := h.head
  simp [World.frozen?, this]

theorem heap_setCell_self {w : World} {g i : Nat} {cs : Array Value} {t : TypeId} (h : w.heap[g]? = some (.cells cs t (0, 0))) (u : Value) :
    (w.setCell ⟨g, i, none⟩ u).heap[g]? = some (.cells (cs.setIfInBounds i u) t (0, 0)) := by
  have hlt := lt_of_block h
  have h' : w.heap[g] = .cells cs t (0, 0) := by simpa [Array.getElem?_eq_getElem hlt] using h
  show (w.heap.modify g _)[g]? = _
  rw [Array.getElem?_eq_getElem (by simpa using hlt), Array.getElem_modify_self, h']
  rfl

theorem IsRow.set {w : World} {g : Nat} {xs : List Int} (h : IsRow w g xs) (i : Nat) (v : Int) : IsRow (w.setCell ⟨g, i, none⟩ (.int .u64 v)) g (xs.set i v) := by
  unfold IsRow at h ⊢
  rw [heap_setCell_self h]
  simp [wd, List.map_set]

theorem But.setCell (p b : Nat) (w : World) (a : Addr) (u : Value) (h : a.block = p ∨ a.block = b) : But p b w (w.setCell a u) :=
  ⟨rfl, rfl, rfl, by simp [World.setCell], fun k _ h1 h2 => Below.heap_setCell w a u k (by rcases h with h | h <;> omega)⟩

/-- One of the two numbers turns. -/
theorem IsMem.done {t : TypeId} {w : World} {p b : Nat} {xs : List Int} {d l : Int} (h : IsMem t w p b xs d l) (v : Int) : IsMem t (w.setCell ⟨p, 1, none⟩ (.int .i64 v)) p b xs v l :=
  ⟨by rw [heap_setCell_self h.head]; rfl, h.row.keep (Below.heap_setCell _ _ _ _ (fun e => h.ne e.symm)), h.ne, h.pos, h.top⟩
theorem IsMem.laid {t : TypeId} {w : World} {p b : Nat} {xs : List Int} {d l : Int} (h : IsMem t w p b xs d l) (v : Int) : IsMem t (w.setCell ⟨p, 2, none⟩ (.int .i64 v)) p b xs d v :=
  ⟨by rw [heap_setCell_self h.head]; rfl, h.row.keep (Below.heap_setCell _ _ _ _ (fun e => h.ne e.symm)), h.ne, h.pos, h.top⟩
theorem IsMem.word {t : TypeId} {w : World} {p b : Nat} {xs : List Int} {d l : Int} (h : IsMem t w p b xs d l) (i : Nat) (v : Int) : IsMem t (w.setCell ⟨b, i, none⟩ (.int .u64 v)) p b (xs.set i v) d l :=
  ⟨by rw [Below.heap_setCell _ _ _ _ h.ne]; simpa using h.head, h.row.set i v, h.ne, by simpa using h.pos, by simpa using h.top⟩
end Go.Proofs.YtpfmmlbakbhklaaGreatDoor
namespace Go.Proofs.YtpfmmlbakbhklaaGreatDoor
open Go.RowKit

set_option maxHeartbeats 400000 in
theorem isNone_at {w : World} {p b : Nat} {xs : List Int} {d l : Int} (h : IsMem 124 w p b xs d l) :
    Calls Tryz.prog 64 #[.pointer (some ⟨p, 0, none⟩)] w fun e w' => e = .returned (.bool false) ∧ w' = w := by
  have c0 := h.cells.1
  have h1 := h.pos
  have h2 := h.top
  generalize xs.length = n at *
  clear h
  have hn : ((n : Int) == 0) = false := by simp; omega
  go_enter Tryz.func64, Tryz.ntmps64
  go_wp2
  go_ret
  exact ⟨rfl, rfl⟩

set_option maxHeartbeats 400000 in
theorem isNone_nil (w : World) :
    Calls Tryz.prog 64 #[.pointer none] w fun e w' => e = .returned (.bool true) ∧ w' = w := by
  go_enter Tryz.func64, Tryz.ntmps64
  go_wp2
  go_ret
  exact ⟨rfl, rfl⟩

set_option maxHeartbeats 400000 in
theorem isNone_zero (w : World) (p : Nat) (c0 : w.cell? ⟨p, 0, none⟩ = some (.slice none 0 0)) :
    Calls Tryz.prog 64 #[.pointer (some ⟨p, 0, none⟩)] w fun e w' => e = .returned (.bool true) ∧ w' = w := by
  go_enter Tryz.func64, Tryz.ntmps64
  go_wp2
  go_ret
  exact ⟨rfl, rfl⟩

def inB (n : Nat) (a : Int) : Bool := decide (0 ≤ a ∧ a < n)
theorem inB_yes {n : Nat} {a : Int} : inB n a = true ↔ 0 ≤ a ∧ a < n := by simp [inB]
theorem inB_no {n : Nat} {a : Int} : inB n a = false ↔ ¬ (0 ≤ a ∧ a < n) := by rw [← inB_yes]; simp

set_option maxHeartbeats 400000 in
theorem has_any (w : World) (q : Option Addr) (n c : Nat) (a : Int) :
    Calls Tryz.prog 170 #[.slice q n c, .int .i64 a] w fun e w' => e = .returned (.bool (inB n a)) ∧ w' = w := by
  by_cases h0 : 0 ≤ a
  · by_cases h1 : a < n
    · rw [inB_yes.2 ⟨h0, h1⟩]
      go_enter Tryz.func170, Tryz.ntmps170
      go_wp2
      go_ret
      exact ⟨rfl, rfl⟩
    · rw [inB_no.2 (by omega)]
      go_enter Tryz.func170, Tryz.ntmps170
      go_wp2
      go_ret
      exact ⟨rfl, rfl⟩
  · rw [inB_no.2 (by omega)]
    go_enter Tryz.func170, Tryz.ntmps170
    go_wp2
    go_ret
    exact ⟨rfl, rfl⟩

set_option maxHeartbeats 400000 in
theorem fault_yes {w : World} {p b : Nat} {xs : List Int} {d l : Int} (h : IsMem 124 w p b xs d l) (a : Int) (ha : inB xs.length a = true) :
    Calls Tryz.prog 140 #[.pointer (some ⟨p, 0, none⟩), .int .i64 a] w fun e w' => e = .returned (.int .i64 0) ∧ w' = w := by
  have c0 := h.cells.1
  have HT : Hid (xs.length ≤ 65536) := h.top
  have HA : Hid (inB xs.length a = true) := ha
  clear ha
  have HM : Hid (IsMem 124 w p b xs d l) := h
  clear h
  go_enter Tryz.func140, Tryz.ntmps140
  go_wp2_with (first
    | (go_at_call 64; refine (isNone_at HM.out).mono ?_; rintro e w' ⟨rfl, hw'⟩; rw [hw']; clear hw' w')
    | (go_at_call 170; refine (has_any _ _ _ _ _).mono ?_; rintro e w' ⟨rfl, hw'⟩; rw [hw', HA.out]; clear hw' w'))
  go_ret
  exact ⟨rfl, rfl⟩

set_option maxHeartbeats 400000 in
theorem fault_no {w : World} {p b : Nat} {xs : List Int} {d l : Int} (h : IsMem 124 w p b xs d l) (a : Int) (ha : inB xs.length a = false) :
    Calls Tryz.prog 140 #[.pointer (some ⟨p, 0, none⟩), .int .i64 a] w fun e w' => e = .returned (.int .i64 2) ∧ w' = w := by
  have c0 := h.cells.1
  have HT : Hid (xs.length ≤ 65536) := h.top
  have HA : Hid (inB xs.length a = false) := ha
  clear ha
  have HM : Hid (IsMem 124 w p b xs d l) := h
  clear h
  go_enter Tryz.func140, Tryz.ntmps140
  go_wp2_with (first
    | (go_at_call 64; refine (isNone_at HM.out).mono ?_; rintro e w' ⟨rfl, hw'⟩; rw [hw']; clear hw' w')
    | (go_at_call 170; refine (has_any _ _ _ _ _).mono ?_; rintro e w' ⟨rfl, hw'⟩; rw [hw', HA.out]; clear hw' w'))
  go_ret
  exact ⟨rfl, rfl⟩

set_option maxHeartbeats 400000 in
theorem fault_none {w : World} {q : Option Addr} (h : Calls Tryz.prog 64 #[.pointer q] w fun e w' => e = .returned (.bool true) ∧ w' = w) (a : Int) :
    Calls Tryz.prog 140 #[.pointer q, .int .i64 a] w fun e w' => e = .returned (.int .i64 10) ∧ w' = w := by
  have HM : Hid (Calls Tryz.prog 64 #[.pointer q] w fun e w' => e = .returned (.bool true) ∧ w' = w) := h
  clear h
  go_enter Tryz.func140, Tryz.ntmps140
  go_wp2_with (go_at_call 64; refine HM.out.mono ?_; rintro e w' ⟨rfl, hw'⟩; rw [hw']; clear hw' w')
  go_ret
  exact ⟨rfl, rfl⟩

/-- A word is laid. -/
def laidW (w : World) (p b i : Nat) (v d l : Int) : World := ((w.setCell ⟨b, i, none⟩ (.int .u64 v)).setCell ⟨p, 1, none⟩ (.int .i64 (d + 1))).setCell ⟨p, 2, none⟩ (.int .i64 (l + 1))
theorem IsMem.laidW {t : TypeId} {w : World} {p b : Nat} {xs : List Int} {d l : Int} (h : IsMem t w p b xs d l) (i : Nat) (v : Int) : IsMem t (laidW w p b i v d l) p b (xs.set i v) (d + 1) (l + 1) :=
  ((h.word i v).done (d + 1)).laid (l + 1)
theorem But.laidW (w : World) (p b i : Nat) (v d l : Int) : But p b w (laidW w p b i v d l) :=
  ((But.setCell p b w ⟨b, i, none⟩ _ (Or.inr rfl)).trans (But.setCell p b _ ⟨p, 1, none⟩ _ (Or.inl rfl))).trans (But.setCell p b _ ⟨p, 2, none⟩ _ (Or.inl rfl))

set_option maxHeartbeats 800000 in
theorem lay_at {w : World} {p b : Nat} {xs : List Int} {d l : Int} (h : IsMem 124 w p b xs d l) (i : Nat) (v : Int) (hi : i < xs.length) (hd0 : 0 ≤ d) (hd : d ≤ 4611686018427387904) (hl0 : 0 ≤ l) (hl : l ≤ 4611686018427387904) :
    Calls Tryz.prog 141 #[.pointer (some ⟨p, 0, none⟩), .int .i64 i, .int .u64 v] w fun e w' => e = .returned (.tuple #[]) ∧ w' = laidW w p b i v d l := by
  obtain ⟨c0, c1, c2⟩ := h.cells
  have f1 := h.free 1
  have f2 := h.free 2
  have fb := h.row.free i
  have cb := h.row.cell i hi
  have hne := h.ne
  have hne' : b ≠ p := fun e => h.ne e.symm
  have ht := h.top
  generalize xs.length = n at *
  clear h
  go_enter Tryz.func141, Tryz.ntmps141
  go_wp2
  go_end0
  exact ⟨rfl, rfl⟩
end Go.Proofs.YtpfmmlbakbhklaaGreatDoor
namespace Go.Proofs.YtpfmmlbakbhklaaGreatDoor
open Go.RowKit

/-- Words and two counts. -/
structure St where
  xs : List Int
  d : Int
  l : Int

abbrev Mem (t : TypeId) (w : World) (p b : Nat) (s : St) : Prop := IsMem t w p b s.xs s.d s.l
structure Cnt (s : St) (k : Nat) : Prop where
  d0 : 0 ≤ s.d
  d1 : s.d ≤ k
  l0 : 0 ≤ s.l
  l1 : s.l ≤ k

def there (s : St) (a : Int) : Bool := inB s.xs.length a
def add64 (x v : Int) : Int := (x + v) % 18446744073709551616
def errV (s : St) (a : Int) : Int := if there s a = true then 0 else 2
def loadV (s : St) (a : Int) : Int := if there s a = true then s.xs.getD a.toNat 0 else 0
def loadT (s : St) (a : Int) : St := if there s a = true then ⟨s.xs, s.d + 1, s.l⟩ else s
def storeT (s : St) (a v : Int) : St := if there s a = true then ⟨s.xs.set a.toNat v, s.d + 1, s.l + 1⟩ else s
def casV (s : St) (a old : Int) : Bool := there s a && (s.xs.getD a.toNat 0 == old)
def casT (s : St) (a old now : Int) : St := if there s a = true then (if s.xs.getD a.toNat 0 = old then ⟨s.xs.set a.toNat now, s.d + 1, s.l + 1⟩ else ⟨s.xs, s.d + 1, s.l⟩) else s
def addT (s : St) (a v : Int) : St := storeT s a (add64 (loadV s a) v)

theorem Cnt.mono {s : St} {k m : Nat} (h : Cnt s k) (hk : k ≤ m) : Cnt s m := ⟨h.d0, by have := h.d1; omega, h.l0, by have := h.l1; omega⟩
theorem Cnt.load {s : St} {k : Nat} (h : Cnt s k) (a : Int) : Cnt (loadT s a) (k + 1) := by
  obtain ⟨h1, h2, h3, h4⟩ := h
  unfold loadT; split
  · exact ⟨by simp; omega, by simp; omega, h3, by simp; omega⟩
  · exact ⟨h1, by omega, h3, by omega⟩
theorem Cnt.store {s : St} {k : Nat} (h : Cnt s k) (a v : Int) : Cnt (storeT s a v) (k + 1) := by
  obtain ⟨h1, h2, h3, h4⟩ := h
  unfold storeT; split
  · exact ⟨by simp; omega, by simp; omega, by simp; omega, by simp; omega⟩
  · exact ⟨h1, by omega, h3, by omega⟩
theorem Cnt.cas {s : St} {k : Nat} (h : Cnt s k) (a o v : Int) : Cnt (casT s a o v) (k + 1) := by
  obtain ⟨h1, h2, h3, h4⟩ := h
  unfold casT; split
  · split
    · exact ⟨by simp; omega, by simp; omega, by simp; omega, by simp; omega⟩
    · exact ⟨by simp; omega, by simp; omega, h3, by simp; omega⟩
  · exact ⟨h1, by omega, h3, by omega⟩
theorem Cnt.add {s : St} {k : Nat} (h : Cnt s k) (a v : Int) : Cnt (addT s a v) (k + 1) := h.store a _

def bnd : Nat := 4611686018427387904

set_option maxHeartbeats 400000 in
theorem load_in {w : World} {p b : Nat} {xs : List Int} {d l : Int} (h : IsMem 124 w p b xs d l) (i : Nat) (hi : i < xs.length) (hd0 : 0 ≤ d) (hd : d ≤ 4611686018427387904) :
    Calls Tryz.prog 195 #[.pointer (some ⟨p, 0, none⟩), .int .i64 i] w fun e w' => e = .returned (.tuple #[.int .u64 (xs.getD i 0), .int .i64 0]) ∧ w' = w.setCell ⟨p, 1, none⟩ (.int .i64 (d + 1)) := by
  obtain ⟨c0, c1, c2⟩ := h.cells
  have f1 := h.free 1
  have cb := h.row.cell i hi
  have hne := h.ne
  have hne' : b ≠ p := fun e => h.ne e.symm
  have ht := h.top
  have HF : Hid (Calls Tryz.prog 140 #[.pointer (some ⟨p, 0, none⟩), .int .i64 i] w fun e w' => e = .returned (.int .i64 0) ∧ w' = w) := fault_yes h i (inB_yes.2 (by omega))
  generalize xs.getD i 0 = x at *
  generalize xs.length = n at *
  clear h
  go_enter Tryz.func195, Tryz.ntmps195
  go_wp2_with (go_at_call 140; refine HF.out.mono ?_; rintro e w' ⟨rfl, hw'⟩; rw [hw']; clear hw' w')
  go_ret2
  exact ⟨rfl, rfl⟩

set_option maxHeartbeats 400000 in
theorem load_out {w : World} {q : Option Addr} {a e0 : Int} (he : e0 ≠ 0) (h : Calls Tryz.prog 140 #[.pointer q, .int .i64 a] w fun e w' => e = .returned (.int .i64 e0) ∧ w' = w) :
    Calls Tryz.prog 195 #[.pointer q, .int .i64 a] w fun e w' => e = .returned (.tuple #[.int .u64 0, .int .i64 e0]) ∧ w' = w := by
  have HF : Hid (Calls Tryz.prog 140 #[.pointer q, .int .i64 a] w fun e w' => e = .returned (.int .i64 e0) ∧ w' = w) := h
  clear h
  go_enter Tryz.func195, Tryz.ntmps195
  go_wp2_with (go_at_call 140; refine HF.out.mono ?_; rintro e w' ⟨rfl, hw'⟩; rw [hw']; clear hw' w')
  go_ret2
  exact ⟨rfl, rfl⟩

set_option maxHeartbeats 400000 in
theorem store_in {w : World} {p b : Nat} {xs : List Int} {d l : Int} (h : IsMem 124 w p b xs d l) (i : Nat) (v : Int) (hi : i < xs.length) (hd0 : 0 ≤ d) (hd : d ≤ 4611686018427387904) (hl0 : 0 ≤ l) (hl : l ≤ 4611686018427387904) :
    Calls Tryz.prog 100 #[.pointer (some ⟨p, 0, none⟩), .int .i64 i, .int .u64 v] w fun e w' => e = .returned (.int .i64 0) ∧ w' = laidW w p b i v d l := by
  have HF : Hid (Calls Tryz.prog 140 #[.pointer (some ⟨p, 0, none⟩), .int .i64 i] w fun e w' => e = .returned (.int .i64 0) ∧ w' = w) := fault_yes h i (inB_yes.2 (by omega))
  have HL : Hid (Calls Tryz.prog 141 #[.pointer (some ⟨p, 0, none⟩), .int .i64 i, .int .u64 v] w fun e w' => e = .returned (.tuple #[]) ∧ w' = laidW w p b i v d l) := lay_at h i v hi hd0 hd hl0 hl
  clear h
  go_enter Tryz.func100, Tryz.ntmps100
  go_wp2_with (first
    | (go_at_call 140; refine HF.out.mono ?_; rintro e w' ⟨rfl, hw'⟩; rw [hw']; clear hw' w')
    | (go_at_call 141; refine HL.out.mono ?_; rintro e w' ⟨rfl, hw'⟩; rw [hw']; clear hw' w'))
  go_ret
  exact ⟨rfl, rfl⟩

set_option maxHeartbeats 400000 in
theorem store_out {w : World} {q : Option Addr} {a e0 v : Int} (he : e0 ≠ 0) (h : Calls Tryz.prog 140 #[.pointer q, .int .i64 a] w fun e w' => e = .returned (.int .i64 e0) ∧ w' = w) :
    Calls Tryz.prog 100 #[.pointer q, .int .i64 a, .int .u64 v] w fun e w' => e = .returned (.int .i64 e0) ∧ w' = w := by
  have HF : Hid (Calls Tryz.prog 140 #[.pointer q, .int .i64 a] w fun e w' => e = .returned (.int .i64 e0) ∧ w' = w) := h
  clear h
  go_enter Tryz.func100, Tryz.ntmps100
  go_wp2_with (go_at_call 140; refine HF.out.mono ?_; rintro e w' ⟨rfl, hw'⟩; rw [hw']; clear hw' w')
  go_ret
  exact ⟨rfl, rfl⟩

set_option maxHeartbeats 400000 in
theorem cas_yes {w : World} {p b : Nat} {xs : List Int} {d l : Int} (h : IsMem 124 w p b xs d l) (i : Nat) (old v : Int) (hi : i < xs.length) (hx : xs.getD i 0 = old) (hd0 : 0 ≤ d) (hd : d ≤ 4611686018427387904) (hl0 : 0 ≤ l) (hl : l ≤ 4611686018427387904) :
    Calls Tryz.prog 196 #[.pointer (some ⟨p, 0, none⟩), .int .i64 i, .int .u64 old, .int .u64 v] w fun e w' => e = .returned (.tuple #[.bool true, .int .i64 0]) ∧ w' = laidW w p b i v d l := by
  obtain ⟨c0, c1, c2⟩ := h.cells
  have cb := h.row.cell i hi
  have HF : Hid (Calls Tryz.prog 140 #[.pointer (some ⟨p, 0, none⟩), .int .i64 i] w fun e w' => e = .returned (.int .i64 0) ∧ w' = w) := fault_yes h i (inB_yes.2 (by omega))
  have HL : Hid (Calls Tryz.prog 141 #[.pointer (some ⟨p, 0, none⟩), .int .i64 i, .int .u64 v] w fun e w' => e = .returned (.tuple #[]) ∧ w' = laidW w p b i v d l) := lay_at h i v hi hd0 hd hl0 hl
  have ht := h.top
  rw [hx] at cb
  generalize xs.length = n at *
  clear h hx
  go_enter Tryz.func196, Tryz.ntmps196
  go_wp2_with (first
    | (go_at_call 140; refine HF.out.mono ?_; rintro e w' ⟨rfl, hw'⟩; rw [hw']; clear hw' w')
    | (go_at_call 141; refine HL.out.mono ?_; rintro e w' ⟨rfl, hw'⟩; rw [hw']; clear hw' w'))
  go_ret2
  exact ⟨rfl, rfl⟩

set_option maxHeartbeats 400000 in
theorem cas_not {w : World} {p b : Nat} {xs : List Int} {d l : Int} (h : IsMem 124 w p b xs d l) (i : Nat) (old v : Int) (hi : i < xs.length) (hx : xs.getD i 0 ≠ old) (hd0 : 0 ≤ d) (hd : d ≤ 4611686018427387904) :
    Calls Tryz.prog 196 #[.pointer (some ⟨p, 0, none⟩), .int .i64 i, .int .u64 old, .int .u64 v] w fun e w' => e = .returned (.tuple #[.bool false, .int .i64 0]) ∧ w' = w.setCell ⟨p, 1, none⟩ (.int .i64 (d + 1)) := by
  obtain ⟨c0, c1, c2⟩ := h.cells
  have f1 := h.free 1
  have cb := h.row.cell i hi
  have hne := h.ne
  have hne' : b ≠ p := fun e => h.ne e.symm
  have HF : Hid (Calls Tryz.prog 140 #[.pointer (some ⟨p, 0, none⟩), .int .i64 i] w fun e w' => e = .returned (.int .i64 0) ∧ w' = w) := fault_yes h i (inB_yes.2 (by omega))
  have ht := h.top
  generalize xs.getD i 0 = x at *
  generalize xs.length = n at *
  clear h
  go_enter Tryz.func196, Tryz.ntmps196
  go_wp2_with (go_at_call 140; refine HF.out.mono ?_; rintro e w' ⟨rfl, hw'⟩; rw [hw']; clear hw' w')
  go_ret2
  exact ⟨rfl, rfl⟩

set_option maxHeartbeats 400000 in
theorem cas_out {w : World} {q : Option Addr} {a e0 o v : Int} (he : e0 ≠ 0) (h : Calls Tryz.prog 140 #[.pointer q, .int .i64 a] w fun e w' => e = .returned (.int .i64 e0) ∧ w' = w) :
    Calls Tryz.prog 196 #[.pointer q, .int .i64 a, .int .u64 o, .int .u64 v] w fun e w' => e = .returned (.tuple #[.bool false, .int .i64 e0]) ∧ w' = w := by
  have HF : Hid (Calls Tryz.prog 140 #[.pointer q, .int .i64 a] w fun e w' => e = .returned (.int .i64 e0) ∧ w' = w) := h
  clear h
  go_enter Tryz.func196, Tryz.ntmps196
  go_wp2_with (go_at_call 140; refine HF.out.mono ?_; rintro e w' ⟨rfl, hw'⟩; rw [hw']; clear hw' w')
  go_ret2
  exact ⟨rfl, rfl⟩

set_option maxHeartbeats 400000 in
theorem add_in {w : World} {p b : Nat} {xs : List Int} {d l : Int} (h : IsMem 124 w p b xs d l) (i : Nat) (v : Int) (hi : i < xs.length) (hd0 : 0 ≤ d) (hd : d ≤ 4611686018427387904) (hl0 : 0 ≤ l) (hl : l ≤ 4611686018427387904) :
    Calls Tryz.prog 197 #[.pointer (some ⟨p, 0, none⟩), .int .i64 i, .int .u64 v] w fun e w' => e = .returned (.tuple #[.int .u64 (xs.getD i 0), .int .i64 0]) ∧ w' = laidW w p b i (add64 (xs.getD i 0) v) d l := by
  obtain ⟨c0, c1, c2⟩ := h.cells
  have cb := h.row.cell i hi
  have HF : Hid (Calls Tryz.prog 140 #[.pointer (some ⟨p, 0, none⟩), .int .i64 i] w fun e w' => e = .returned (.int .i64 0) ∧ w' = w) := fault_yes h i (inB_yes.2 (by omega))
  have HL : Hid (∀ u, Calls Tryz.prog 141 #[.pointer (some ⟨p, 0, none⟩), .int .i64 i, .int .u64 u] w fun e w' => e = .returned (.tuple #[]) ∧ w' = laidW w p b i u d l) := fun u => lay_at h i u hi hd0 hd hl0 hl
  have ht := h.top
  generalize xs.getD i 0 = x at *
  generalize xs.length = n at *
  clear h
  go_enter Tryz.func197, Tryz.ntmps197
  go_wp2_with (first
    | (go_at_call 140; refine HF.out.mono ?_; rintro e w' ⟨rfl, hw'⟩; rw [hw']; clear hw' w')
    | (go_at_call 141; refine (HL.out _).mono ?_; rintro e w' ⟨rfl, hw'⟩; rw [hw']; clear hw' w'))
  go_ret2
  exact ⟨rfl, rfl⟩

set_option maxHeartbeats 400000 in
theorem add_out {w : World} {q : Option Addr} {a e0 v : Int} (he : e0 ≠ 0) (h : Calls Tryz.prog 140 #[.pointer q, .int .i64 a] w fun e w' => e = .returned (.int .i64 e0) ∧ w' = w) :
    Calls Tryz.prog 197 #[.pointer q, .int .i64 a, .int .u64 v] w fun e w' => e = .returned (.tuple #[.int .u64 0, .int .i64 e0]) ∧ w' = w := by
  have HF : Hid (Calls Tryz.prog 140 #[.pointer q, .int .i64 a] w fun e w' => e = .returned (.int .i64 e0) ∧ w' = w) := h
  clear h
  go_enter Tryz.func197, Tryz.ntmps197
  go_wp2_with (go_at_call 140; refine HF.out.mono ?_; rintro e w' ⟨rfl, hw'⟩; rw [hw']; clear hw' w')
  go_ret2
  exact ⟨rfl, rfl⟩

end Go.Proofs.YtpfmmlbakbhklaaGreatDoor
namespace Go.Proofs.YtpfmmlbakbhklaaGreatDoor
open Go.RowKit

theorem info67 : (Tryz.prog.info? 67).map (fun i => (i.zero, i.size, i.bytes)) = some (some (.int .u64 0), 1, 8) := by kernel_rfl
theorem size67 : (Tryz.prog.info? 67).map (·.size) = some 1 := by kernel_rfl
theorem made_eq (n : Nat) : madeCells #[(.int .u64 0 : Value)] n = (wd (List.replicate n 0)).toArray := by
  apply Array.toList_inj.1
  rw [toList_madeCells_one]
  simp [wd]

set_option maxHeartbeats 400000 in
theorem new_yes (n : Nat) (w : World) (h1 : 1 ≤ n) (h2 : n ≤ 65536) :
    Calls Tryz.prog 34 #[.int .i64 n] w fun e w' => e = .returned (.tuple #[.pointer (some ⟨w.heap.size + 1, 0, none⟩), .int .i64 0]) ∧ IsMem 124 w' (w.heap.size + 1) w.heap.size (List.replicate n 0) 0 0 ∧ Below w.heap.size w w' := by
  have hmk := run_make_row' (P := Tryz.prog) 122 67 (.int .u64 0) 8 Tryz.underlying122 info67 rfl .i64 .i64 n (by omega) (by omega)
  go_enter Tryz.func34, Tryz.ntmps34
  go_wp2
  go_ret2
  refine ⟨rfl, ⟨?_, ?_, by omega, by simpa using h1, by simpa using h2⟩, ((Below.refl _ _).alloc (Nat.le_refl _) _).alloc (by simp) _⟩
  · have := heap_alloc_new (w.alloc (.cells (madeCells #[(.int .u64 0 : Value)] n) 67)) (.cells #[.slice (some ⟨w.heap.size, 0, none⟩) n n, .int .i64 0, .int .i64 0] 124)
    simpa using this
  · unfold IsRow
    rw [Below.heap_alloc _ _ _ (by simp), heap_alloc_new, made_eq]

set_option maxHeartbeats 400000 in
theorem new_no (n : Int) (w : World) (h : n < 1 ∨ 65536 < n) :
    Calls Tryz.prog 34 #[.int .i64 n] w fun e w' => e = .returned (.tuple #[.pointer none, .int .i64 1]) ∧ w' = w := by
  by_cases h1 : n < 1
  · go_enter Tryz.func34, Tryz.ntmps34
    go_wp2
    go_ret2
    exact ⟨rfl, rfl⟩
  · have h2 : 65536 < n := by omega
    clear h
    go_enter Tryz.func34, Tryz.ntmps34
    go_wp2
    go_ret2
    exact ⟨rfl, rfl⟩

end Go.Proofs.YtpfmmlbakbhklaaGreatDoor
namespace Go.Proofs.YtpfmmlbakbhklaaGreatDoor
open Go.RowKit

/-- A call that turns words p, b from s to s'. -/
abbrev Turns (t : TypeId) (p b : Nat) (w w' : World) (s' : St) : Prop := Mem t w' p b s' ∧ But p b w w'

theorem nat_of {a : Int} {n : Nat} (h : inB n a = true) : ∃ i : Nat, a = i ∧ i < n := by
  have := inB_yes.1 h
  exact ⟨a.toNat, by omega, by omega⟩

theorem load_any {w : World} {p b : Nat} {s : St} {k : Nat} (h : Mem 124 w p b s) (c : Cnt s k) (hk : k ≤ bnd) (a : Int) :
    Calls Tryz.prog 195 #[.pointer (some ⟨p, 0, none⟩), .int .i64 a] w fun e w' => e = .returned (.tuple #[.int .u64 (loadV s a), .int .i64 (errV s a)]) ∧ Turns 124 p b w w' (loadT s a) := by
  unfold bnd at hk
  have := c.d0
  have := c.d1
  cases ha : there s a
  · refine (load_out (by decide) (fault_no h a ha)).mono ?_
    rintro e w' ⟨rfl, hw⟩
    rw [hw]
    simp only [loadV, errV, loadT, ha]
    exact ⟨rfl, h, But.refl _ _ _⟩
  · obtain ⟨i, rfl, hi⟩ := nat_of ha
    refine (load_in h i hi c.d0 (by omega)).mono ?_
    rintro e w' ⟨rfl, hw⟩
    rw [hw]
    simp only [loadV, errV, loadT, ha]
    exact ⟨rfl, h.done _, But.setCell _ _ _ _ _ (Or.inl rfl)⟩

theorem store_any {w : World} {p b : Nat} {s : St} {k : Nat} (h : Mem 124 w p b s) (c : Cnt s k) (hk : k ≤ bnd) (a v : Int) :
    Calls Tryz.prog 100 #[.pointer (some ⟨p, 0, none⟩), .int .i64 a, .int .u64 v] w fun e w' => e = .returned (.int .i64 (errV s a)) ∧ Turns 124 p b w w' (storeT s a v) := by
  unfold bnd at hk
  have := c.d1
  have := c.l1
  cases ha : there s a
  · refine (store_out (by decide) (fault_no h a ha)).mono ?_
    rintro e w' ⟨rfl, hw⟩
    rw [hw]
    simp only [errV, storeT, ha]
    exact ⟨rfl, h, But.refl _ _ _⟩
  · obtain ⟨i, rfl, hi⟩ := nat_of ha
    refine (store_in h i v hi c.d0 (by omega) c.l0 (by omega)).mono ?_
    rintro e w' ⟨rfl, hw⟩
    rw [hw]
    simp only [errV, storeT, ha]
    exact ⟨rfl, h.laidW i v, But.laidW _ _ _ _ _ _ _⟩

theorem cas_any {w : World} {p b : Nat} {s : St} {k : Nat} (h : Mem 124 w p b s) (c : Cnt s k) (hk : k ≤ bnd) (a o v : Int) :
    Calls Tryz.prog 196 #[.pointer (some ⟨p, 0, none⟩), .int .i64 a, .int .u64 o, .int .u64 v] w fun e w' => e = .returned (.tuple #[.bool (casV s a o), .int .i64 (errV s a)]) ∧ Turns 124 p b w w' (casT s a o v) := by
  unfold bnd at hk
  have := c.d1
  have := c.l1
  cases ha : there s a
  · refine (cas_out (by decide) (fault_no h a ha)).mono ?_
    rintro e w' ⟨rfl, hw⟩
    rw [hw]
    simp only [errV, casT, casV, ha]
    exact ⟨rfl, h, But.refl _ _ _⟩
  · obtain ⟨i, rfl, hi⟩ := nat_of ha
    by_cases hx : s.xs.getD i 0 = o
    · refine (cas_yes h i o v hi hx c.d0 (by omega) c.l0 (by omega)).mono ?_
      rintro e w' ⟨rfl, hw⟩
      rw [hw]
      have hx' : s.xs.getD (i : Int).toNat 0 = o := hx
      have hb : (s.xs.getD (i : Int).toNat 0 == o) = true := by rw [hx']; exact beq_self_eq_true _
      simp only [errV, casT, casV, ha, hb, if_pos hx']
      exact ⟨rfl, h.laidW i v, But.laidW _ _ _ _ _ _ _⟩
    · refine (cas_not h i o v hi hx c.d0 (by omega)).mono ?_
      rintro e w' ⟨rfl, hw⟩
      rw [hw]
      have hx' : ¬ s.xs.getD (i : Int).toNat 0 = o := hx
      have hb : (s.xs.getD (i : Int).toNat 0 == o) = false := beq_eq_false_iff_ne.2 hx'
      simp only [errV, casT, casV, ha, hb, if_neg hx']
      exact ⟨rfl, h.done _, But.setCell _ _ _ _ _ (Or.inl rfl)⟩

theorem add_any {w : World} {p b : Nat} {s : St} {k : Nat} (h : Mem 124 w p b s) (c : Cnt s k) (hk : k ≤ bnd) (a v : Int) :
    Calls Tryz.prog 197 #[.pointer (some ⟨p, 0, none⟩), .int .i64 a, .int .u64 v] w fun e w' => e = .returned (.tuple #[.int .u64 (loadV s a), .int .i64 (errV s a)]) ∧ Turns 124 p b w w' (addT s a v) := by
  unfold bnd at hk
  have := c.d1
  have := c.l1
  cases ha : there s a
  · refine (add_out (by decide) (fault_no h a ha)).mono ?_
    rintro e w' ⟨rfl, hw⟩
    rw [hw]
    simp only [loadV, errV, addT, storeT, ha]
    exact ⟨rfl, h, But.refl _ _ _⟩
  · obtain ⟨i, rfl, hi⟩ := nat_of ha
    refine (add_in h i v hi c.d0 (by omega) c.l0 (by omega)).mono ?_
    rintro e w' ⟨rfl, hw⟩
    rw [hw]
    simp only [loadV, errV, addT, storeT, ha]
    exact ⟨rfl, h.laidW i _, But.laidW _ _ _ _ _ _ _⟩

theorem below_drewN {w0 w : World} {B : Nat} (h : Below B w0 w) : ∀ n, Below B w0 (w.drewN n)
  | 0 => h
  | n + 1 => (below_drewN h n).drew
end Go.Proofs.YtpfmmlbakbhklaaGreatDoor
namespace Go.Proofs.YtpfmmlbakbhklaaGreatDoor
open Go.RowKit

set_option maxHeartbeats 400000 in
theorem rnew_yes (n : Nat) (w : World) (h1 : 1 ≤ n) (h2 : n ≤ 65536) :
    Calls Tryz.prog 38 #[.int .i64 n] w fun e w' => e = .returned (.tuple #[.pointer (some ⟨w.heap.size + 1, 0, none⟩), .int .i64 0]) ∧ IsMem 87 w' (w.heap.size + 1) w.heap.size (List.replicate n 0) 0 0 ∧ Below w.heap.size w w' := by
  have hmk := run_make_row' (P := Tryz.prog) 60 67 (.int .u64 0) 8 Tryz.underlying60 info67 rfl .i64 .i64 n (by omega) (by omega)
  go_enter Tryz.func38, Tryz.ntmps38
  go_wp2
  go_ret2
  refine ⟨rfl, ⟨?_, ?_, by omega, by simpa using h1, by simpa using h2⟩, ((Below.refl _ _).alloc (Nat.le_refl _) _).alloc (by simp) _⟩
  · have := heap_alloc_new (w.alloc (.cells (madeCells #[(.int .u64 0 : Value)] n) 67)) (.cells #[.slice (some ⟨w.heap.size, 0, none⟩) n n, .int .i64 0, .int .i64 0] 87)
    simpa using this
  · unfold IsRow
    rw [Below.heap_alloc _ _ _ (by simp), heap_alloc_new, made_eq]

set_option maxHeartbeats 400000 in
theorem rnew_no (n : Int) (w : World) (h : n < 1 ∨ 65536 < n) :
    Calls Tryz.prog 38 #[.int .i64 n] w fun e w' => e = .returned (.tuple #[.pointer (some ⟨w.heap.size, 0, none⟩), .int .i64 1]) ∧ Below w.heap.size w w' := by
  by_cases h1 : n < 1
  · go_enter Tryz.func38, Tryz.ntmps38
    go_wp2
    go_ret2
    exact ⟨rfl, (Below.refl _ _).alloc (Nat.le_refl _) _⟩
  · have h2 : 65536 < n := by omega
    clear h
    go_enter Tryz.func38, Tryz.ntmps38
    go_wp2
    go_ret2
    exact ⟨rfl, (Below.refl _ _).alloc (Nat.le_refl _) _⟩

set_option maxHeartbeats 400000 in
theorem rthere_any {w : World} {p b : Nat} {xs : List Int} {d l : Int} (h : IsMem 87 w p b xs d l) (a : Int) :
    Calls Tryz.prog 114 #[.pointer (some ⟨p, 0, none⟩), .int .i64 a] w fun e w' => e = .returned (.bool (inB xs.length a)) ∧ w' = w := by
  have c0 := h.cells.1
  have ht := h.top
  generalize xs.length = n at *
  clear h
  by_cases h0 : 0 ≤ a
  · by_cases h1 : a < n
    · rw [inB_yes.2 ⟨h0, h1⟩]
      go_enter Tryz.func114, Tryz.ntmps114
      go_wp2
      go_ret
      exact ⟨rfl, rfl⟩
    · rw [inB_no.2 (by omega)]
      go_enter Tryz.func114, Tryz.ntmps114
      go_wp2
      go_ret
      exact ⟨rfl, rfl⟩
  · rw [inB_no.2 (by omega)]
    go_enter Tryz.func114, Tryz.ntmps114
    go_wp2
    go_ret
    exact ⟨rfl, rfl⟩

/-- A word is laid, the counts first. -/
def laidR (w : World) (p b i : Nat) (v d l : Int) : World := ((w.setCell ⟨p, 1, none⟩ (.int .i64 (d + 1))).setCell ⟨p, 2, none⟩ (.int .i64 (l + 1))).setCell ⟨b, i, none⟩ (.int .u64 v)
theorem IsMem.laidR {t : TypeId} {w : World} {p b : Nat} {xs : List Int} {d l : Int} (h : IsMem t w p b xs d l) (i : Nat) (v : Int) : IsMem t (laidR w p b i v d l) p b (xs.set i v) (d + 1) (l + 1) :=
  ((h.done (d + 1)).laid (l + 1)).word i v
theorem But.laidR (w : World) (p b i : Nat) (v d l : Int) : But p b w (laidR w p b i v d l) :=
  ((But.setCell p b w ⟨p, 1, none⟩ _ (Or.inl rfl)).trans (But.setCell p b _ ⟨p, 2, none⟩ _ (Or.inl rfl))).trans (But.setCell p b _ ⟨b, i, none⟩ _ (Or.inr rfl))

set_option maxHeartbeats 800000 in
theorem rstore_in {w : World} {p b : Nat} {xs : List Int} {d l : Int} (h : IsMem 87 w p b xs d l) (i : Nat) (v : Int) (hi : i < xs.length) (hd0 : 0 ≤ d) (hd : d ≤ 4611686018427387904) (hl0 : 0 ≤ l) (hl : l ≤ 4611686018427387904) :
    Calls Tryz.prog 79 #[.pointer (some ⟨p, 0, none⟩), .int .i64 i, .int .u64 v] w fun e w' => e = .returned (.int .i64 0) ∧ w' = laidR w p b i v d l := by
  obtain ⟨c0, c1, c2⟩ := h.cells
  have f1 := h.free 1
  have f2 := h.free 2
  have fb := h.row.free i
  have cb := h.row.cell i hi
  have hne := h.ne
  have hne' : b ≠ p := fun e => h.ne e.symm
  have ht := h.top
  have HF : Hid (Calls Tryz.prog 114 #[.pointer (some ⟨p, 0, none⟩), .int .i64 i] w fun e w' => e = .returned (.bool true) ∧ w' = w) := by
    have := rthere_any h (i : Int)
    rw [inB_yes.2 (by omega)] at this
    exact this
  generalize xs.getD i 0 = x at *
  generalize xs.length = n at *
  clear h
  go_enter Tryz.func79, Tryz.ntmps79
  go_wp2_with (go_at_call 114; refine HF.out.mono ?_; rintro e w' ⟨rfl, hw'⟩; rw [hw']; clear hw' w')
  go_ret
  exact ⟨rfl, rfl⟩

set_option maxHeartbeats 400000 in
theorem rstore_out {w : World} {p b : Nat} {xs : List Int} {d l : Int} (h : IsMem 87 w p b xs d l) (a v : Int) (ha : inB xs.length a = false) :
    Calls Tryz.prog 79 #[.pointer (some ⟨p, 0, none⟩), .int .i64 a, .int .u64 v] w fun e w' => e = .returned (.int .i64 2) ∧ w' = w := by
  have HF : Hid (Calls Tryz.prog 114 #[.pointer (some ⟨p, 0, none⟩), .int .i64 a] w fun e w' => e = .returned (.bool false) ∧ w' = w) := by
    have := rthere_any h a
    rw [ha] at this
    exact this
  clear h ha
  go_enter Tryz.func79, Tryz.ntmps79
  go_wp2_with (go_at_call 114; refine HF.out.mono ?_; rintro e w' ⟨rfl, hw'⟩; rw [hw']; clear hw' w')
  go_ret
  exact ⟨rfl, rfl⟩

theorem rstore_any {w : World} {p b : Nat} {s : St} {k : Nat} (h : Mem 87 w p b s) (c : Cnt s k) (hk : k ≤ bnd) (a v : Int) :
    Calls Tryz.prog 79 #[.pointer (some ⟨p, 0, none⟩), .int .i64 a, .int .u64 v] w fun e w' => e = .returned (.int .i64 (errV s a)) ∧ Turns 87 p b w w' (storeT s a v) := by
  unfold bnd at hk
  have := c.d1
  have := c.l1
  cases ha : there s a
  · refine (rstore_out h a v ha).mono ?_
    rintro e w' ⟨rfl, hw⟩
    rw [hw]
    simp only [errV, storeT, ha]
    exact ⟨rfl, h, But.refl _ _ _⟩
  · obtain ⟨i, rfl, hi⟩ := nat_of ha
    refine (rstore_in h i v hi c.d0 (by omega) c.l0 (by omega)).mono ?_
    rintro e w' ⟨rfl, hw⟩
    rw [hw]
    simp only [errV, storeT, ha]
    exact ⟨rfl, h.laidR i v, But.laidR _ _ _ _ _ _ _⟩

end Go.Proofs.YtpfmmlbakbhklaaGreatDoor
namespace Go.Proofs.YtpfmmlbakbhklaaGreatDoor
open Go.RowKit

theorem hid {p : Prop} (h : p) : Hid p := h

/-- An act: its kind, its place, two numbers. -/
structure Ac where
  kd : Int
  ad : Int
  a : Int
  b : Int

abbrev acC (x : Ac) : Array Value := #[.int .i64 x.kd, .int .i64 x.ad, .int .u64 x.a, .int .u64 x.b]
abbrev acV (x : Ac) : Value := .agg (acC x)
def IsAc (w : World) (g : Nat) (x : Ac) : Prop := w.heap[g]? = some (.cells (acC x) 175 (0, 0))
theorem IsAc.c0 {w : World} {g : Nat} {x : Ac} (h : IsAc w g x) : w.cell? ⟨g, 0, none⟩ = some (.int .i64 x.kd) := by unfold IsAc at h; simp [World.cell?, h]
theorem IsAc.c1 {w : World} {g : Nat} {x : Ac} (h : IsAc w g x) : w.cell? ⟨g, 1, none⟩ = some (.int .i64 x.ad) := by unfold IsAc at h; simp [World.cell?, h]
theorem IsAc.c2 {w : World} {g : Nat} {x : Ac} (h : IsAc w g x) : w.cell? ⟨g, 2, none⟩ = some (.int .u64 x.a) := by unfold IsAc at h; simp [World.cell?, h]
theorem IsAc.c3 {w : World} {g : Nat} {x : Ac} (h : IsAc w g x) : w.cell? ⟨g, 3, none⟩ = some (.int .u64 x.b) := by unfold IsAc at h; simp [World.cell?, h]
theorem IsAc.new (w : World) (x : Ac) : IsAc (w.alloc (.cells (acC x) 175)) w.heap.size x := heap_alloc_new _ _
theorem IsAc.lt {w : World} {g : Nat} {x : Ac} (h : IsAc w g x) : g < w.heap.size := lt_of_block h
theorem IsAc.below {w w' : World} {g : Nat} {x : Ac} (h : IsAc w g x) (k : Below w.heap.size w w') : IsAc w' g x := (k.block _ h.lt).trans h
theorem below_alloc (w : World) (o : Obj) : Below w.heap.size w (w.alloc o) := (Below.refl _ _).alloc (Nat.le_refl _) _
theorem bel_trans {w0 w1 w2 : World} (h : Below w0.heap.size w0 w1) (k : Below w1.heap.size w1 w2) : Below w0.heap.size w0 w2 := h.trans (k.mono h.size)

theorem two_acs {w w2 : World} {x y : Ac} (K : Below ((w.alloc (.cells (acC x) 175)).alloc (.cells (acC y) 175)).heap.size ((w.alloc (.cells (acC x) 175)).alloc (.cells (acC y) 175)) w2) :
    (IsAc w2 w.heap.size x ∧ IsAc w2 (w.heap.size + 1) y) ∧ Below w.heap.size w w2 := by
  have h1 : IsAc ((w.alloc (.cells (acC x) 175)).alloc (.cells (acC y) 175)) w.heap.size x := (IsAc.new w x).below (below_alloc _ _)
  have h2 : IsAc ((w.alloc (.cells (acC x) 175)).alloc (.cells (acC y) 175)) (w.heap.size + 1) y := by
    have := IsAc.new (w.alloc (.cells (acC x) 175)) y
    simpa using this
  exact ⟨⟨h1.below K, h2.below K⟩, bel_trans (bel_trans (below_alloc _ _) (below_alloc _ _)) K⟩
theorem acs_keep {w w1 w2 : World} {x y : Ac} {g h : Nat} (H : (IsAc w1 g x ∧ IsAc w1 h y) ∧ Below w.heap.size w w1) (K : Below w1.heap.size w1 w2) : (IsAc w2 g x ∧ IsAc w2 h y) ∧ Below w.heap.size w w2 :=
  ⟨⟨H.1.1.below K, H.1.2.below K⟩, bel_trans H.2 K⟩
theorem acs_cells {w : World} {x y : Ac} {g h : Nat} (H : IsAc w g x ∧ IsAc w h y) :
    (w.cell? ⟨g, 0, none⟩ = some (.int .i64 x.kd) ∧ w.cell? ⟨g, 1, none⟩ = some (.int .i64 x.ad) ∧ w.cell? ⟨g, 2, none⟩ = some (.int .u64 x.a) ∧ w.cell? ⟨g, 3, none⟩ = some (.int .u64 x.b)) ∧
    (w.cell? ⟨h, 0, none⟩ = some (.int .i64 y.kd) ∧ w.cell? ⟨h, 1, none⟩ = some (.int .i64 y.ad) ∧ w.cell? ⟨h, 2, none⟩ = some (.int .u64 y.a) ∧ w.cell? ⟨h, 3, none⟩ = some (.int .u64 y.b)) :=
  ⟨⟨H.1.c0, H.1.c1, H.1.c2, H.1.c3⟩, ⟨H.2.c0, H.2.c1, H.2.c2, H.2.c3⟩⟩

end Go.Proofs.YtpfmmlbakbhklaaGreatDoor
namespace Go.Proofs.YtpfmmlbakbhklaaGreatDoor
open Go.RowKit

/-- What came of an act. -/
structure Re where
  v : Int
  ok : Bool
  e : Int
abbrev reC (r : Re) : Array Value := #[.int .u64 r.v, .bool r.ok, .int .i64 r.e]
abbrev reV (r : Re) : Value := .agg (reC r)

def doR (s : St) (x : Ac) : Re :=
  if x.kd = 1 then ⟨loadV s x.ad, false, errV s x.ad⟩
  else if x.kd = 2 then ⟨0, false, errV s x.ad⟩
  else if x.kd = 3 then ⟨0, casV s x.ad x.a, errV s x.ad⟩
  else if x.kd = 4 then ⟨loadV s x.ad, false, errV s x.ad⟩
  else ⟨0, false, 1⟩
def doT (s : St) (x : Ac) : St :=
  if x.kd = 1 then loadT s x.ad
  else if x.kd = 2 then storeT s x.ad x.a
  else if x.kd = 3 then casT s x.ad x.a x.b
  else if x.kd = 4 then addT s x.ad x.a
  else s

/-- What a call leaves of the two blocks that were new when it was made. -/
theorem turns_new {w w2 : World} {p b : Nat} {s s' : St} {c1 c2 : Array Value} {t1 t2 : TypeId} (h : Mem 124 w p b s) (T : Turns 124 p b ((w.alloc (.cells c1 t1)).alloc (.cells c2 t2)) w2 s') :
    w2.heap[w.heap.size + 1]? = some (.cells c2 t2 (0, 0)) ∧ Turns 124 p b w w2 s' := by
  have hl := h.lt
  have e : ((w.alloc (.cells c1 t1)).alloc (.cells c2 t2)).heap[w.heap.size + 1]? = some (.cells c2 t2 (0, 0)) := by
    have := heap_alloc_new (w.alloc (.cells c1 t1)) (.cells c2 t2 (0, 0))
    simpa using this
  refine ⟨(T.2.block _ (by simp) (by omega) (by omega)).trans e, T.1, ?_⟩
  exact (But.of_below (bel_trans (below_alloc w (.cells c1 t1)) (below_alloc _ (.cells c2 t2)))).trans T.2
theorem cell_of {w : World} {g i : Nat} {c : Array Value} {t : TypeId} {v : Value} (h : w.heap[g]? = some (.cells c t (0, 0))) (hv : c[i]? = some v) : w.cell? ⟨g, i, none⟩ = some v := by
  simp [World.cell?, h, hv]
theorem free_of {w : World} {g i : Nat} {c : Array Value} {t : TypeId} (h : w.heap[g]? = some (.cells c t (0, 0))) : w.frozen? ⟨g, i, none⟩ = false := by
  simp [World.frozen?, h]
theorem turns_set {w w2 : World} {p b : Nat} {s s' : St} {t : TypeId} (h : Mem t w p b s) (T : Turns t p b w w2 s') (g i : Nat) (v : Value) (hg : w.heap.size ≤ g) : Turns t p b w (w2.setCell ⟨g, i, none⟩ v) s' := by
  have hl := h.lt
  refine ⟨T.1.keep (Below.heap_setCell _ _ _ _ (by simp; omega)) (Below.heap_setCell _ _ _ _ (by simp; omega)), T.2.os, T.2.tape, T.2.output, ?_, fun k hk h1 h2 => ?_⟩
  · have := T.2.size; simpa [World.setCell] using this
  · rw [Below.heap_setCell _ _ _ _ (by simp; omega)]
    exact T.2.block k hk h1 h2
theorem size172 : (Tryz.prog.info? 172).map (·.size) = some 3 := by kernel_rfl
theorem put3 {w2 : World} {g : Nat} {x y z : Value} {t : TypeId} (hg : w2.heap[g]? = some (.cells #[x, y, z] t (0, 0))) (x' y' z' : Value) :
    (((w2.setCell ⟨g, 0, none⟩ x').setCell ⟨g, 1, none⟩ y').setCell ⟨g, 2, none⟩ z').heap[g]? = some (.cells #[x', y', z'] t (0, 0)) := by
  rw [heap_setCell_self (heap_setCell_self (heap_setCell_self hg _) _) _]
  rfl

set_option maxHeartbeats 400000 in
theorem dload_at {w : World} {p b : Nat} {s : St} {k : Nat} (h : Mem 124 w p b s) (c : Cnt s k) (hk : k ≤ bnd) (x : Ac) :
    Calls Tryz.prog 184 #[acV x, .pointer (some ⟨p, 0, none⟩)] w fun e w' => e = .returned (reV ⟨loadV s x.ad, false, errV s x.ad⟩) ∧ Turns 124 p b w w' (loadT s x.ad) := by
  have HM := hid h
  have HC := hid c
  have HK := hid hk
  clear h c hk
  obtain ⟨xk, xd, xa, xb⟩ := x
  go_enter Tryz.func184, Tryz.ntmps184
  go_wp2_with fail
  have hM := (HM.out.below (below_alloc w (.cells #[.int .i64 xk, .int .i64 xd, .int .u64 xa, .int .u64 xb] 217))).below (below_alloc _ (.cells #[.int .u64 0, .bool false, .int .i64 0] 172))
  refine (load_any hM HC.out HK.out xd).mono ?_
  rintro e w2 ⟨rfl, hT⟩
  obtain ⟨hg, T⟩ := turns_new HM.out hT
  have HT := hid T
  clear T hT hM
  have d0 : w2.cell? ⟨w.heap.size + 1, 0, none⟩ = some (.int .u64 0) := cell_of hg rfl
  have d1 : w2.cell? ⟨w.heap.size + 1, 1, none⟩ = some (.bool false) := cell_of hg rfl
  have d2 : w2.cell? ⟨w.heap.size + 1, 2, none⟩ = some (.int .i64 0) := cell_of hg rfl
  have f0 := free_of (i := 0) hg
  have f1 := free_of (i := 1) hg
  have f2 := free_of (i := 2) hg
  have HG := hid hg
  clear hg
  simp only []
  go_wp2
  (try simp only [Exit.inBlock, Exit.then])
  refine bodyPost_ret (results_cell_row rfl _ _ (w.heap.size + 1) 172 _ (0, 0) _ rfl (put3 HG.out _ _ _) Tryz.underlying172 rfl size172) rfl ?_
  exact ⟨rfl, turns_set HM.out (turns_set HM.out (turns_set HM.out HT.out _ _ _ (by omega)) _ _ _ (by omega)) _ _ _ (by omega)⟩
set_option maxHeartbeats 400000 in
theorem dstore_at {w : World} {p b : Nat} {s : St} {k : Nat} (h : Mem 124 w p b s) (c : Cnt s k) (hk : k ≤ bnd) (x : Ac) :
    Calls Tryz.prog 185 #[acV x, .pointer (some ⟨p, 0, none⟩)] w fun e w' => e = .returned (reV ⟨0, false, errV s x.ad⟩) ∧ Turns 124 p b w w' (storeT s x.ad x.a) := by
  have HM := hid h
  have HC := hid c
  have HK := hid hk
  clear h c hk
  obtain ⟨xk, xd, xa, xb⟩ := x
  go_enter Tryz.func185, Tryz.ntmps185
  go_wp2_with fail
  have hM := (HM.out.below (below_alloc w (.cells #[.int .i64 xk, .int .i64 xd, .int .u64 xa, .int .u64 xb] 217))).below (below_alloc _ (.cells #[.int .u64 0, .bool false, .int .i64 0] 172))
  refine (store_any hM HC.out HK.out xd xa).mono ?_
  rintro e w2 ⟨rfl, hT⟩
  obtain ⟨hg, T⟩ := turns_new HM.out hT
  have HT := hid T
  clear T hT hM
  have d0 : w2.cell? ⟨w.heap.size + 1, 0, none⟩ = some (.int .u64 0) := cell_of hg rfl
  have d1 : w2.cell? ⟨w.heap.size + 1, 1, none⟩ = some (.bool false) := cell_of hg rfl
  have d2 : w2.cell? ⟨w.heap.size + 1, 2, none⟩ = some (.int .i64 0) := cell_of hg rfl
  have f0 := free_of (i := 0) hg
  have f1 := free_of (i := 1) hg
  have f2 := free_of (i := 2) hg
  have HG := hid hg
  clear hg
  simp only []
  go_wp2
  (try simp only [Exit.inBlock, Exit.then])
  refine bodyPost_ret (results_cell_row rfl _ _ (w.heap.size + 1) 172 _ (0, 0) _ rfl (put3 HG.out _ _ _) Tryz.underlying172 rfl size172) rfl ?_
  exact ⟨rfl, turns_set HM.out (turns_set HM.out (turns_set HM.out HT.out _ _ _ (by omega)) _ _ _ (by omega)) _ _ _ (by omega)⟩
set_option maxHeartbeats 400000 in
theorem dcas_at {w : World} {p b : Nat} {s : St} {k : Nat} (h : Mem 124 w p b s) (c : Cnt s k) (hk : k ≤ bnd) (x : Ac) :
    Calls Tryz.prog 186 #[acV x, .pointer (some ⟨p, 0, none⟩)] w fun e w' => e = .returned (reV ⟨0, casV s x.ad x.a, errV s x.ad⟩) ∧ Turns 124 p b w w' (casT s x.ad x.a x.b) := by
  have HM := hid h
  have HC := hid c
  have HK := hid hk
  clear h c hk
  obtain ⟨xk, xd, xa, xb⟩ := x
  go_enter Tryz.func186, Tryz.ntmps186
  go_wp2_with fail
  have hM := (HM.out.below (below_alloc w (.cells #[.int .i64 xk, .int .i64 xd, .int .u64 xa, .int .u64 xb] 217))).below (below_alloc _ (.cells #[.int .u64 0, .bool false, .int .i64 0] 172))
  refine (cas_any hM HC.out HK.out xd xa xb).mono ?_
  rintro e w2 ⟨rfl, hT⟩
  obtain ⟨hg, T⟩ := turns_new HM.out hT
  have HT := hid T
  clear T hT hM
  have d0 : w2.cell? ⟨w.heap.size + 1, 0, none⟩ = some (.int .u64 0) := cell_of hg rfl
  have d1 : w2.cell? ⟨w.heap.size + 1, 1, none⟩ = some (.bool false) := cell_of hg rfl
  have d2 : w2.cell? ⟨w.heap.size + 1, 2, none⟩ = some (.int .i64 0) := cell_of hg rfl
  have f0 := free_of (i := 0) hg
  have f1 := free_of (i := 1) hg
  have f2 := free_of (i := 2) hg
  have HG := hid hg
  clear hg
  simp only []
  go_wp2
  (try simp only [Exit.inBlock, Exit.then])
  refine bodyPost_ret (results_cell_row rfl _ _ (w.heap.size + 1) 172 _ (0, 0) _ rfl (put3 HG.out _ _ _) Tryz.underlying172 rfl size172) rfl ?_
  exact ⟨rfl, turns_set HM.out (turns_set HM.out (turns_set HM.out HT.out _ _ _ (by omega)) _ _ _ (by omega)) _ _ _ (by omega)⟩
set_option maxHeartbeats 400000 in
theorem dadd_at {w : World} {p b : Nat} {s : St} {k : Nat} (h : Mem 124 w p b s) (c : Cnt s k) (hk : k ≤ bnd) (x : Ac) :
    Calls Tryz.prog 187 #[acV x, .pointer (some ⟨p, 0, none⟩)] w fun e w' => e = .returned (reV ⟨loadV s x.ad, false, errV s x.ad⟩) ∧ Turns 124 p b w w' (addT s x.ad x.a) := by
  have HM := hid h
  have HC := hid c
  have HK := hid hk
  clear h c hk
  obtain ⟨xk, xd, xa, xb⟩ := x
  go_enter Tryz.func187, Tryz.ntmps187
  go_wp2_with fail
  have hM := (HM.out.below (below_alloc w (.cells #[.int .i64 xk, .int .i64 xd, .int .u64 xa, .int .u64 xb] 217))).below (below_alloc _ (.cells #[.int .u64 0, .bool false, .int .i64 0] 172))
  refine (add_any hM HC.out HK.out xd xa).mono ?_
  rintro e w2 ⟨rfl, hT⟩
  obtain ⟨hg, T⟩ := turns_new HM.out hT
  have HT := hid T
  clear T hT hM
  have d0 : w2.cell? ⟨w.heap.size + 1, 0, none⟩ = some (.int .u64 0) := cell_of hg rfl
  have d1 : w2.cell? ⟨w.heap.size + 1, 1, none⟩ = some (.bool false) := cell_of hg rfl
  have d2 : w2.cell? ⟨w.heap.size + 1, 2, none⟩ = some (.int .i64 0) := cell_of hg rfl
  have f0 := free_of (i := 0) hg
  have f1 := free_of (i := 1) hg
  have f2 := free_of (i := 2) hg
  have HG := hid hg
  clear hg
  simp only []
  go_wp2
  (try simp only [Exit.inBlock, Exit.then])
  refine bodyPost_ret (results_cell_row rfl _ _ (w.heap.size + 1) 172 _ (0, 0) _ rfl (put3 HG.out _ _ _) Tryz.underlying172 rfl size172) rfl ?_
  exact ⟨rfl, turns_set HM.out (turns_set HM.out (turns_set HM.out HT.out _ _ _ (by omega)) _ _ _ (by omega)) _ _ _ (by omega)⟩

end Go.Proofs.YtpfmmlbakbhklaaGreatDoor
namespace Go.Proofs.YtpfmmlbakbhklaaGreatDoor
open Go.RowKit

theorem push_set {α : Type} (a : Array α) (x y : α) : (a.push x).setIfInBounds a.size y = a.push y := by
  apply Array.ext
  · simp
  · intro i h1 h2
    rw [Array.getElem_setIfInBounds (by simpa using h2)]
    simp only [Array.getElem_push]
    split
    · rename_i h; subst h; simp
    · rename_i h
      have : i < a.size := by simp at h2; omega
      simp [this]
theorem set_alloc (w : World) (o o' : Obj) : ({ w.alloc o with heap := (w.alloc o).heap.setIfInBounds w.heap.size o' } : World) = w.alloc o' :=
  congrArg (fun h => ({ w with heap := h } : World)) (push_set w.heap o o')
theorem run_ins (w : World) (es : Array MapEntry) (n : Nat) (k : Int) (v : Value) (hf : Instr.findNow (.int .i64) (.int .i64 k) es.toList 0 = some none) :
    (Instr.mapUpdate 215 (.map (some w.heap.size)) (.int .i64 k) v).run Tryz.prog (w.alloc (.map es n)) = .ok () (w.alloc (.map (es.push { key := .int .i64 k, val := v, born := n }) (n + 1))) := by
  have hb : (w.alloc (.map es n)).heap[w.heap.size]? = some (.map es n) := heap_alloc_new _ _
  have hc : (Instr.checkKey false 10000 3 (.int .i64 k)).run Tryz.prog (w.alloc (.map es n)) = .ok () (w.alloc (.map es n)) := MapKept.run_checkKey (k := .int .i64 k) Tryz.underlying3 (by simp [MapKept.IsKey]) false 9999
  simp [Instr.mapUpdate, run_underlying Tryz.underlying215, MapKept.run_getObj_map hb, hc, MapKept.run_findKey Tryz.underlying3 hf, MapKept.run_setObj_map _ hb, Result.andThen]
  exact set_alloc _ _ _

def e1 : MapEntry := { key := .int .i64 1, val := .func (.func 184) #[] #[], born := 0 }
def e2 : MapEntry := { key := .int .i64 2, val := .func (.func 185) #[] #[], born := 1 }
def e3 : MapEntry := { key := .int .i64 3, val := .func (.func 186) #[] #[], born := 2 }
def e4 : MapEntry := { key := .int .i64 4, val := .func (.func 187) #[] #[], born := 3 }
def dm : Obj := .map #[e1, e2, e3, e4] 4

set_option maxHeartbeats 400000 in
theorem deeds_at (w : World) : Calls Tryz.prog 149 #[] w fun e w' => e = .returned (.map (some w.heap.size)) ∧ w' = w.alloc dm := by
  have hmm := @run_makeMap Tryz.prog
  have i1 := run_ins w #[] 0 1 (.func (.func 184) #[] #[]) rfl
  have i2 := run_ins w #[e1] 1 2 (.func (.func 185) #[] #[]) rfl
  have i3 := run_ins w #[e1, e2] 2 3 (.func (.func 186) #[] #[]) rfl
  have i4 := run_ins w #[e1, e2, e3] 3 4 (.func (.func 187) #[] #[]) rfl
  replace i1 : (Instr.mapUpdate 215 (.map (some w.heap.size)) (.int .i64 1) (.func (.func 184) #[] #[])).run Tryz.prog (w.alloc (.map #[] 0)) = .ok () (w.alloc (.map #[e1] 1)) := i1
  replace i2 : (Instr.mapUpdate 215 (.map (some w.heap.size)) (.int .i64 2) (.func (.func 185) #[] #[])).run Tryz.prog (w.alloc (.map #[e1] 1)) = .ok () (w.alloc (.map #[e1, e2] 2)) := i2
  replace i3 : (Instr.mapUpdate 215 (.map (some w.heap.size)) (.int .i64 3) (.func (.func 186) #[] #[])).run Tryz.prog (w.alloc (.map #[e1, e2] 2)) = .ok () (w.alloc (.map #[e1, e2, e3] 3)) := i3
  replace i4 : (Instr.mapUpdate 215 (.map (some w.heap.size)) (.int .i64 4) (.func (.func 187) #[] #[])).run Tryz.prog (w.alloc (.map #[e1, e2, e3] 3)) = .ok () (w.alloc dm) := i4
  go_enter Tryz.func149, Tryz.ntmps149
  go_wp2
  go_ret
  exact ⟨rfl, rfl⟩

def deedOf (kd : Int) : Value := if kd = 1 then .func (.func 184) #[] #[] else if kd = 2 then .func (.func 185) #[] #[] else if kd = 3 then .func (.func 186) #[] #[] else if kd = 4 then .func (.func 187) #[] #[] else .nilFunc
def isDeed (kd : Int) : Bool := kd == 1 || kd == 2 || kd == 3 || kd == 4
theorem run_look (w : World) (r : Nat) (kd : Int) (hb : w.heap[r]? = some dm) :
    (Instr.lookup 215 (.map (some r)) (.int .i64 kd) true).run Tryz.prog w = .ok (.tuple #[deedOf kd, .bool (isDeed kd)]) w := by
  have hc : (Instr.checkKey false 10000 3 (.int .i64 kd)).run Tryz.prog w = .ok () w := MapKept.run_checkKey (k := .int .i64 kd) Tryz.underlying3 (by simp [MapKept.IsKey]) false 9999
  have hz : (zeroValue 213).run Tryz.prog w = .ok .nilFunc w := Tryz.zeroValue213 w
  have hb' : w.heap[r]? = some (.map #[e1, e2, e3, e4] 4) := hb
  by_cases h1 : kd = 1
  · subst h1
    have hf : Instr.findNow (.int .i64) (.int .i64 1) [e1, e2, e3, e4] 0 = some (some (0, .func (.func 184) #[] #[])) := rfl
    simp [Instr.lookup, run_underlying Tryz.underlying215, MapKept.run_getObj_map hb', hc, MapKept.run_findKey Tryz.underlying3 hf, Result.andThen, deedOf, isDeed]
  · by_cases h2 : kd = 2
    · subst h2
      have hf : Instr.findNow (.int .i64) (.int .i64 2) [e1, e2, e3, e4] 0 = some (some (1, .func (.func 185) #[] #[])) := rfl
      simp [Instr.lookup, run_underlying Tryz.underlying215, MapKept.run_getObj_map hb', hc, MapKept.run_findKey Tryz.underlying3 hf, Result.andThen, deedOf, isDeed]
    · by_cases h3 : kd = 3
      · subst h3
        have hf : Instr.findNow (.int .i64) (.int .i64 3) [e1, e2, e3, e4] 0 = some (some (2, .func (.func 186) #[] #[])) := rfl
        simp [Instr.lookup, run_underlying Tryz.underlying215, MapKept.run_getObj_map hb', hc, MapKept.run_findKey Tryz.underlying3 hf, Result.andThen, deedOf, isDeed]
      · by_cases h4 : kd = 4
        · subst h4
          have hf : Instr.findNow (.int .i64) (.int .i64 4) [e1, e2, e3, e4] 0 = some (some (3, .func (.func 187) #[] #[])) := rfl
          simp [Instr.lookup, run_underlying Tryz.underlying215, MapKept.run_getObj_map hb', hc, MapKept.run_findKey Tryz.underlying3 hf, Result.andThen, deedOf, isDeed]
        · have b1 : (kd == 1) = false := beq_eq_false_iff_ne.2 h1
          have b2 : (kd == 2) = false := beq_eq_false_iff_ne.2 h2
          have b3 : (kd == 3) = false := beq_eq_false_iff_ne.2 h3
          have b4 : (kd == 4) = false := beq_eq_false_iff_ne.2 h4
          have hf : Instr.findNow (.int .i64) (.int .i64 kd) [e1, e2, e3, e4] 0 = some none := by
            simp [Instr.findNow, Instr.sameNow, e1, e2, e3, e4, b1, b2, b3, b4]
          simp [Instr.lookup, run_underlying Tryz.underlying215, MapKept.run_getObj_map hb', hc, MapKept.run_findKey Tryz.underlying3 hf, Result.andThen, deedOf, isDeed, h1, h2, h3, h4]

/-- The world in which an act is looked up. -/
abbrev W1 (w : World) (x : Ac) : World := (w.alloc (.cells (acC x) 175)).alloc (.cells #[.int .u64 0, .bool false, .int .i64 0] 172)
theorem deeds_in {w w' : World} {x : Ac} (h : w'.cell? ⟨w.heap.size, 0, none⟩ = some (.int .i64 x.kd) ∧ Below (W1 w x).heap.size (W1 w x) w') :
    Calls Tryz.prog 149 #[] w' fun e w'' => ∃ r, e = .returned (.map (some r)) ∧ (Instr.lookup 215 (.map (some r)) (.int .i64 x.kd) true).run Tryz.prog w'' = .ok (.tuple #[deedOf x.kd, .bool (isDeed x.kd)]) w'' ∧ (w''.cell? ⟨w.heap.size, 0, none⟩ = some (.int .i64 x.kd) ∧ Below (W1 w x).heap.size (W1 w x) w'') := by
  refine (deeds_at w').mono ?_
  rintro e w'' ⟨rfl, rfl⟩
  have hlt : w.heap.size < w'.heap.size := World.block_lt_of_cell? w' ⟨w.heap.size, 0, none⟩ h.1
  refine ⟨_, rfl, run_look _ _ _ (heap_alloc_new _ _), ?_, h.2.alloc h.2.size _⟩
  rw [(below_alloc w' dm).cell (p := ⟨w.heap.size, 0, none⟩) hlt]
  exact h.1
theorem w1_blocks {w w' : World} {x : Ac} (h : Below (W1 w x).heap.size (W1 w x) w') : IsAc w' w.heap.size x ∧ w'.heap[w.heap.size + 1]? = some (.cells #[.int .u64 0, .bool false, .int .i64 0] 172 (0, 0)) ∧ Below w.heap.size w w' := by
  have h1 : IsAc (W1 w x) w.heap.size x := (IsAc.new w x).below (below_alloc _ _)
  have h2 : (W1 w x).heap[w.heap.size + 1]? = some (.cells #[.int .u64 0, .bool false, .int .i64 0] 172 (0, 0)) := by
    have := heap_alloc_new (w.alloc (.cells (acC x) 175)) (.cells #[.int .u64 0, .bool false, .int .i64 0] 172 (0, 0))
    simpa using this
  refine ⟨h1.below h, (h.block _ (lt_of_block h2)).trans h2, bel_trans (bel_trans (below_alloc _ _) (below_alloc _ _)) h⟩

set_option maxRecDepth 100000 in
set_option maxHeartbeats 1000000 in
theorem do_load {w : World} {p b : Nat} {s : St} {k : Nat} (h : Mem 124 w p b s) (c : Cnt s k) (hk : k ≤ bnd) (ad a b' : Int) :
    Calls Tryz.prog 106 #[.pointer (some ⟨p, 0, none⟩), acV ⟨1, ad, a, b'⟩] w fun e w' => e = .returned (reV ⟨loadV s ad, false, errV s ad⟩) ∧ Turns 124 p b w w' (loadT s ad) := by
  have HM := hid h
  have HC := hid c
  have HK := hid hk
  clear h c hk
  have HD := hid (fun w' => deeds_in (w := w) (w' := w') (x := ⟨1, ad, a, b'⟩))
  have hS0 : ((W1 w ⟨1, ad, a, b'⟩).drew.cell? ⟨w.heap.size, 0, none⟩ = some (.int .i64 1) ∧ Below (W1 w ⟨1, ad, a, b'⟩).heap.size (W1 w ⟨1, ad, a, b'⟩) (W1 w ⟨1, ad, a, b'⟩).drew) := ⟨(w1_blocks (Below.refl _ _).drew).1.c0, (Below.refl _ _).drew⟩
  have q1 : deedOf 1 = .func (.func 184) #[] #[] := rfl
  have q2 : isDeed 1 = true := rfl
  go_enter Tryz.func106, Tryz.ntmps106
  go_wp2_with fail
  go_region_held3 (fun w' => w'.cell? ⟨w.heap.size, 0, none⟩ = some (.int .i64 1) ∧ Below (W1 w ⟨1, ad, a, b'⟩).heap.size (W1 w ⟨1, ad, a, b'⟩) w') (first | exact hS0 | assumption)
    (first
      | (go_at_call 149; refine (HD.out _ (by assumption)).mono ?_; rintro e w' ⟨r, rfl, hlk, hw'⟩))
  rename_i hHeld
  clear hHeld hS0 hlk
  obtain ⟨hA, hR, hB⟩ := w1_blocks hw'.2
  have c0 : w'.cell? ⟨w.heap.size, 0, none⟩ = some (.int .i64 1) := hA.c0
  have c1 : w'.cell? ⟨w.heap.size, 1, none⟩ = some (.int .i64 ad) := hA.c1
  have c2 : w'.cell? ⟨w.heap.size, 2, none⟩ = some (.int .u64 a) := hA.c2
  have c3 : w'.cell? ⟨w.heap.size, 3, none⟩ = some (.int .u64 b') := hA.c3
  have HB := hid hB
  have HR := hid hR
  clear hA hR hB hw'
  go_wp2_with fail
  refine (dload_at (HM.out.below HB.out) HC.out HK.out ⟨1, ad, a, b'⟩).mono ?_
  rintro e w2 ⟨rfl, hT⟩
  have hl := HM.out.lt
  have hg : w2.heap[w.heap.size + 1]? = some (.cells #[.int .u64 0, .bool false, .int .i64 0] 172 (0, 0)) := (hT.2.block _ (lt_of_block HR.out) (by omega) (by omega)).trans HR.out
  have T : Turns 124 p b w w2 (loadT s ad) := ⟨hT.1, (But.of_below HB.out).trans hT.2⟩
  have HT := hid T
  clear T hT hl
  have d0 : w2.cell? ⟨w.heap.size + 1, 0, none⟩ = some (.int .u64 0) := cell_of hg rfl
  have d1 : w2.cell? ⟨w.heap.size + 1, 1, none⟩ = some (.bool false) := cell_of hg rfl
  have d2 : w2.cell? ⟨w.heap.size + 1, 2, none⟩ = some (.int .i64 0) := cell_of hg rfl
  have f0 := free_of (i := 0) hg
  have f1 := free_of (i := 1) hg
  have f2 := free_of (i := 2) hg
  have HG := hid hg
  clear hg
  simp only []
  go_wp2
  (try simp only [Exit.inBlock, Exit.then])
  refine bodyPost_ret (results_cell_row rfl _ _ (w.heap.size + 1) 172 _ (0, 0) _ rfl (put3 HG.out _ _ _) Tryz.underlying172 rfl size172) rfl ?_
  exact ⟨rfl, turns_set HM.out (turns_set HM.out (turns_set HM.out HT.out _ _ _ (by omega)) _ _ _ (by omega)) _ _ _ (by omega)⟩

set_option maxRecDepth 100000 in
set_option maxHeartbeats 1000000 in
theorem do_store {w : World} {p b : Nat} {s : St} {k : Nat} (h : Mem 124 w p b s) (c : Cnt s k) (hk : k ≤ bnd) (ad a b' : Int) :
    Calls Tryz.prog 106 #[.pointer (some ⟨p, 0, none⟩), acV ⟨2, ad, a, b'⟩] w fun e w' => e = .returned (reV ⟨0, false, errV s ad⟩) ∧ Turns 124 p b w w' (storeT s ad a) := by
  have HM := hid h
  have HC := hid c
  have HK := hid hk
  clear h c hk
  have HD := hid (fun w' => deeds_in (w := w) (w' := w') (x := ⟨2, ad, a, b'⟩))
  have hS0 : ((W1 w ⟨2, ad, a, b'⟩).drew.cell? ⟨w.heap.size, 0, none⟩ = some (.int .i64 2) ∧ Below (W1 w ⟨2, ad, a, b'⟩).heap.size (W1 w ⟨2, ad, a, b'⟩) (W1 w ⟨2, ad, a, b'⟩).drew) := ⟨(w1_blocks (Below.refl _ _).drew).1.c0, (Below.refl _ _).drew⟩
  have q1 : deedOf 2 = .func (.func 185) #[] #[] := rfl
  have q2 : isDeed 2 = true := rfl
  go_enter Tryz.func106, Tryz.ntmps106
  go_wp2_with fail
  go_region_held3 (fun w' => w'.cell? ⟨w.heap.size, 0, none⟩ = some (.int .i64 2) ∧ Below (W1 w ⟨2, ad, a, b'⟩).heap.size (W1 w ⟨2, ad, a, b'⟩) w') (first | exact hS0 | assumption)
    (first
      | (go_at_call 149; refine (HD.out _ (by assumption)).mono ?_; rintro e w' ⟨r, rfl, hlk, hw'⟩))
  rename_i hHeld
  clear hHeld hS0 hlk
  obtain ⟨hA, hR, hB⟩ := w1_blocks hw'.2
  have c0 : w'.cell? ⟨w.heap.size, 0, none⟩ = some (.int .i64 2) := hA.c0
  have c1 : w'.cell? ⟨w.heap.size, 1, none⟩ = some (.int .i64 ad) := hA.c1
  have c2 : w'.cell? ⟨w.heap.size, 2, none⟩ = some (.int .u64 a) := hA.c2
  have c3 : w'.cell? ⟨w.heap.size, 3, none⟩ = some (.int .u64 b') := hA.c3
  have HB := hid hB
  have HR := hid hR
  clear hA hR hB hw'
  go_wp2_with fail
  refine (dstore_at (HM.out.below HB.out) HC.out HK.out ⟨2, ad, a, b'⟩).mono ?_
  rintro e w2 ⟨rfl, hT⟩
  have hl := HM.out.lt
  have hg : w2.heap[w.heap.size + 1]? = some (.cells #[.int .u64 0, .bool false, .int .i64 0] 172 (0, 0)) := (hT.2.block _ (lt_of_block HR.out) (by omega) (by omega)).trans HR.out
  have T : Turns 124 p b w w2 (storeT s ad a) := ⟨hT.1, (But.of_below HB.out).trans hT.2⟩
  have HT := hid T
  clear T hT hl
  have d0 : w2.cell? ⟨w.heap.size + 1, 0, none⟩ = some (.int .u64 0) := cell_of hg rfl
  have d1 : w2.cell? ⟨w.heap.size + 1, 1, none⟩ = some (.bool false) := cell_of hg rfl
  have d2 : w2.cell? ⟨w.heap.size + 1, 2, none⟩ = some (.int .i64 0) := cell_of hg rfl
  have f0 := free_of (i := 0) hg
  have f1 := free_of (i := 1) hg
  have f2 := free_of (i := 2) hg
  have HG := hid hg
  clear hg
  simp only []
  go_wp2
  (try simp only [Exit.inBlock, Exit.then])
  refine bodyPost_ret (results_cell_row rfl _ _ (w.heap.size + 1) 172 _ (0, 0) _ rfl (put3 HG.out _ _ _) Tryz.underlying172 rfl size172) rfl ?_
  exact ⟨rfl, turns_set HM.out (turns_set HM.out (turns_set HM.out HT.out _ _ _ (by omega)) _ _ _ (by omega)) _ _ _ (by omega)⟩

set_option maxRecDepth 100000 in
set_option maxHeartbeats 1000000 in
theorem do_cas {w : World} {p b : Nat} {s : St} {k : Nat} (h : Mem 124 w p b s) (c : Cnt s k) (hk : k ≤ bnd) (ad a b' : Int) :
    Calls Tryz.prog 106 #[.pointer (some ⟨p, 0, none⟩), acV ⟨3, ad, a, b'⟩] w fun e w' => e = .returned (reV ⟨0, casV s ad a, errV s ad⟩) ∧ Turns 124 p b w w' (casT s ad a b') := by
  have HM := hid h
  have HC := hid c
  have HK := hid hk
  clear h c hk
  have HD := hid (fun w' => deeds_in (w := w) (w' := w') (x := ⟨3, ad, a, b'⟩))
  have hS0 : ((W1 w ⟨3, ad, a, b'⟩).drew.cell? ⟨w.heap.size, 0, none⟩ = some (.int .i64 3) ∧ Below (W1 w ⟨3, ad, a, b'⟩).heap.size (W1 w ⟨3, ad, a, b'⟩) (W1 w ⟨3, ad, a, b'⟩).drew) := ⟨(w1_blocks (Below.refl _ _).drew).1.c0, (Below.refl _ _).drew⟩
  have q1 : deedOf 3 = .func (.func 186) #[] #[] := rfl
  have q2 : isDeed 3 = true := rfl
  go_enter Tryz.func106, Tryz.ntmps106
  go_wp2_with fail
  go_region_held3 (fun w' => w'.cell? ⟨w.heap.size, 0, none⟩ = some (.int .i64 3) ∧ Below (W1 w ⟨3, ad, a, b'⟩).heap.size (W1 w ⟨3, ad, a, b'⟩) w') (first | exact hS0 | assumption)
    (first
      | (go_at_call 149; refine (HD.out _ (by assumption)).mono ?_; rintro e w' ⟨r, rfl, hlk, hw'⟩))
  rename_i hHeld
  clear hHeld hS0 hlk
  obtain ⟨hA, hR, hB⟩ := w1_blocks hw'.2
  have c0 : w'.cell? ⟨w.heap.size, 0, none⟩ = some (.int .i64 3) := hA.c0
  have c1 : w'.cell? ⟨w.heap.size, 1, none⟩ = some (.int .i64 ad) := hA.c1
  have c2 : w'.cell? ⟨w.heap.size, 2, none⟩ = some (.int .u64 a) := hA.c2
  have c3 : w'.cell? ⟨w.heap.size, 3, none⟩ = some (.int .u64 b') := hA.c3
  have HB := hid hB
  have HR := hid hR
  clear hA hR hB hw'
  go_wp2_with fail
  refine (dcas_at (HM.out.below HB.out) HC.out HK.out ⟨3, ad, a, b'⟩).mono ?_
  rintro e w2 ⟨rfl, hT⟩
  have hl := HM.out.lt
  have hg : w2.heap[w.heap.size + 1]? = some (.cells #[.int .u64 0, .bool false, .int .i64 0] 172 (0, 0)) := (hT.2.block _ (lt_of_block HR.out) (by omega) (by omega)).trans HR.out
  have T : Turns 124 p b w w2 (casT s ad a b') := ⟨hT.1, (But.of_below HB.out).trans hT.2⟩
  have HT := hid T
  clear T hT hl
  have d0 : w2.cell? ⟨w.heap.size + 1, 0, none⟩ = some (.int .u64 0) := cell_of hg rfl
  have d1 : w2.cell? ⟨w.heap.size + 1, 1, none⟩ = some (.bool false) := cell_of hg rfl
  have d2 : w2.cell? ⟨w.heap.size + 1, 2, none⟩ = some (.int .i64 0) := cell_of hg rfl
  have f0 := free_of (i := 0) hg
  have f1 := free_of (i := 1) hg
  have f2 := free_of (i := 2) hg
  have HG := hid hg
  clear hg
  simp only []
  go_wp2
  (try simp only [Exit.inBlock, Exit.then])
  refine bodyPost_ret (results_cell_row rfl _ _ (w.heap.size + 1) 172 _ (0, 0) _ rfl (put3 HG.out _ _ _) Tryz.underlying172 rfl size172) rfl ?_
  exact ⟨rfl, turns_set HM.out (turns_set HM.out (turns_set HM.out HT.out _ _ _ (by omega)) _ _ _ (by omega)) _ _ _ (by omega)⟩

set_option maxRecDepth 100000 in
set_option maxHeartbeats 1000000 in
theorem do_add {w : World} {p b : Nat} {s : St} {k : Nat} (h : Mem 124 w p b s) (c : Cnt s k) (hk : k ≤ bnd) (ad a b' : Int) :
    Calls Tryz.prog 106 #[.pointer (some ⟨p, 0, none⟩), acV ⟨4, ad, a, b'⟩] w fun e w' => e = .returned (reV ⟨loadV s ad, false, errV s ad⟩) ∧ Turns 124 p b w w' (addT s ad a) := by
  have HM := hid h
  have HC := hid c
  have HK := hid hk
  clear h c hk
  have HD := hid (fun w' => deeds_in (w := w) (w' := w') (x := ⟨4, ad, a, b'⟩))
  have hS0 : ((W1 w ⟨4, ad, a, b'⟩).drew.cell? ⟨w.heap.size, 0, none⟩ = some (.int .i64 4) ∧ Below (W1 w ⟨4, ad, a, b'⟩).heap.size (W1 w ⟨4, ad, a, b'⟩) (W1 w ⟨4, ad, a, b'⟩).drew) := ⟨(w1_blocks (Below.refl _ _).drew).1.c0, (Below.refl _ _).drew⟩
  have q1 : deedOf 4 = .func (.func 187) #[] #[] := rfl
  have q2 : isDeed 4 = true := rfl
  go_enter Tryz.func106, Tryz.ntmps106
  go_wp2_with fail
  go_region_held3 (fun w' => w'.cell? ⟨w.heap.size, 0, none⟩ = some (.int .i64 4) ∧ Below (W1 w ⟨4, ad, a, b'⟩).heap.size (W1 w ⟨4, ad, a, b'⟩) w') (first | exact hS0 | assumption)
    (first
      | (go_at_call 149; refine (HD.out _ (by assumption)).mono ?_; rintro e w' ⟨r, rfl, hlk, hw'⟩))
  rename_i hHeld
  clear hHeld hS0 hlk
  obtain ⟨hA, hR, hB⟩ := w1_blocks hw'.2
  have c0 : w'.cell? ⟨w.heap.size, 0, none⟩ = some (.int .i64 4) := hA.c0
  have c1 : w'.cell? ⟨w.heap.size, 1, none⟩ = some (.int .i64 ad) := hA.c1
  have c2 : w'.cell? ⟨w.heap.size, 2, none⟩ = some (.int .u64 a) := hA.c2
  have c3 : w'.cell? ⟨w.heap.size, 3, none⟩ = some (.int .u64 b') := hA.c3
  have HB := hid hB
  have HR := hid hR
  clear hA hR hB hw'
  go_wp2_with fail
  refine (dadd_at (HM.out.below HB.out) HC.out HK.out ⟨4, ad, a, b'⟩).mono ?_
  rintro e w2 ⟨rfl, hT⟩
  have hl := HM.out.lt
  have hg : w2.heap[w.heap.size + 1]? = some (.cells #[.int .u64 0, .bool false, .int .i64 0] 172 (0, 0)) := (hT.2.block _ (lt_of_block HR.out) (by omega) (by omega)).trans HR.out
  have T : Turns 124 p b w w2 (addT s ad a) := ⟨hT.1, (But.of_below HB.out).trans hT.2⟩
  have HT := hid T
  clear T hT hl
  have d0 : w2.cell? ⟨w.heap.size + 1, 0, none⟩ = some (.int .u64 0) := cell_of hg rfl
  have d1 : w2.cell? ⟨w.heap.size + 1, 1, none⟩ = some (.bool false) := cell_of hg rfl
  have d2 : w2.cell? ⟨w.heap.size + 1, 2, none⟩ = some (.int .i64 0) := cell_of hg rfl
  have f0 := free_of (i := 0) hg
  have f1 := free_of (i := 1) hg
  have f2 := free_of (i := 2) hg
  have HG := hid hg
  clear hg
  simp only []
  go_wp2
  (try simp only [Exit.inBlock, Exit.then])
  refine bodyPost_ret (results_cell_row rfl _ _ (w.heap.size + 1) 172 _ (0, 0) _ rfl (put3 HG.out _ _ _) Tryz.underlying172 rfl size172) rfl ?_
  exact ⟨rfl, turns_set HM.out (turns_set HM.out (turns_set HM.out HT.out _ _ _ (by omega)) _ _ _ (by omega)) _ _ _ (by omega)⟩

set_option maxRecDepth 100000 in
set_option maxHeartbeats 1000000 in
theorem do_none {w : World} {p b : Nat} {s : St} (h : Mem 124 w p b s) (kd ad a b' : Int) (h1 : kd ≠ 1) (h2 : kd ≠ 2) (h3 : kd ≠ 3) (h4 : kd ≠ 4) :
    Calls Tryz.prog 106 #[.pointer (some ⟨p, 0, none⟩), acV ⟨kd, ad, a, b'⟩] w fun e w' => e = .returned (reV ⟨0, false, 1⟩) ∧ Turns 124 p b w w' s := by
  have HM := hid h
  clear h
  have HD := hid (fun w' => deeds_in (w := w) (w' := w') (x := ⟨kd, ad, a, b'⟩))
  have hS0 : ((W1 w ⟨kd, ad, a, b'⟩).drew.cell? ⟨w.heap.size, 0, none⟩ = some (.int .i64 kd) ∧ Below (W1 w ⟨kd, ad, a, b'⟩).heap.size (W1 w ⟨kd, ad, a, b'⟩) (W1 w ⟨kd, ad, a, b'⟩).drew) := ⟨(w1_blocks (Below.refl _ _).drew).1.c0, (Below.refl _ _).drew⟩
  have q1 : deedOf kd = .nilFunc := by simp [deedOf, h1, h2, h3, h4]
  have q2 : isDeed kd = false := by simp [isDeed, h1, h2, h3, h4]
  clear h1 h2 h3 h4
  go_enter Tryz.func106, Tryz.ntmps106
  go_wp2_with fail
  go_region_held3 (fun w' => w'.cell? ⟨w.heap.size, 0, none⟩ = some (.int .i64 kd) ∧ Below (W1 w ⟨kd, ad, a, b'⟩).heap.size (W1 w ⟨kd, ad, a, b'⟩) w') (first | exact hS0 | assumption)
    (first
      | (go_at_call 149; refine (HD.out _ (by assumption)).mono ?_; rintro e w2 ⟨r, rfl, hlk, hw'⟩))
  rename_i hHeld
  clear hHeld hS0 hlk
  obtain ⟨hA, hg, hB⟩ := w1_blocks hw'.2
  have T : Turns 124 p b w w2 s := ⟨HM.out.below hB, But.of_below hB⟩
  have HT := hid T
  clear T hA hB hw'
  have d0 : w2.cell? ⟨w.heap.size + 1, 0, none⟩ = some (.int .u64 0) := cell_of hg rfl
  have d1 : w2.cell? ⟨w.heap.size + 1, 1, none⟩ = some (.bool false) := cell_of hg rfl
  have d2 : w2.cell? ⟨w.heap.size + 1, 2, none⟩ = some (.int .i64 0) := cell_of hg rfl
  have f0 := free_of (i := 0) hg
  have f1 := free_of (i := 1) hg
  have f2 := free_of (i := 2) hg
  have HG := hid hg
  clear hg
  go_wp2
  (try simp only [Exit.inBlock, Exit.then])
  refine bodyPost_ret (results_cell_row rfl _ _ (w.heap.size + 1) 172 _ (0, 0) _ rfl (put3 HG.out _ _ _) Tryz.underlying172 rfl size172) rfl ?_
  exact ⟨rfl, turns_set HM.out (turns_set HM.out (turns_set HM.out HT.out _ _ _ (by omega)) _ _ _ (by omega)) _ _ _ (by omega)⟩

theorem do_at {w : World} {p b : Nat} {s : St} {k : Nat} (h : Mem 124 w p b s) (c : Cnt s k) (hk : k ≤ bnd) (x : Ac) :
    Calls Tryz.prog 106 #[.pointer (some ⟨p, 0, none⟩), acV x] w fun e w' => e = .returned (reV (doR s x)) ∧ Turns 124 p b w w' (doT s x) := by
  obtain ⟨kd, ad, a, b'⟩ := x
  by_cases h1 : kd = 1
  · subst h1; exact do_load h c hk ad a b'
  · by_cases h2 : kd = 2
    · subst h2; exact do_store h c hk ad a b'
    · by_cases h3 : kd = 3
      · subst h3; exact do_cas h c hk ad a b'
      · by_cases h4 : kd = 4
        · subst h4; exact do_add h c hk ad a b'
        · have e1 : doR s ⟨kd, ad, a, b'⟩ = ⟨0, false, 1⟩ := by simp [doR, h1, h2, h3, h4]
          have e2 : doT s ⟨kd, ad, a, b'⟩ = s := by simp [doT, h1, h2, h3, h4]
          rw [e1, e2]
          exact do_none h kd ad a b' h1 h2 h3 h4
end Go.Proofs.YtpfmmlbakbhklaaGreatDoor
namespace Go.Proofs.YtpfmmlbakbhklaaGreatDoor
open Go.RowKit

def allB (n : Nat) (a m : Int) : Bool := decide (1 ≤ m ∧ 0 ≤ a ∧ a + m ≤ n)
theorem allB_yes {n : Nat} {a m : Int} : allB n a m = true ↔ 1 ≤ m ∧ 0 ≤ a ∧ a + m ≤ n := by simp [allB]
theorem allB_no {n : Nat} {a m : Int} : allB n a m = false ↔ ¬ (1 ≤ m ∧ 0 ≤ a ∧ a + m ≤ n) := by rw [← allB_yes]; simp

set_option maxHeartbeats 400000 in
theorem hasAll_any (w : World) (q : Option Addr) (n c : Nat) (a m : Int) (hn : n ≤ 65536) (hm : m ≤ 9223372036854775807) :
    Calls Tryz.prog 108 #[.slice q n c, .int .i64 a, .int .i64 m] w fun e w' => e = .returned (.bool (allB n a m)) ∧ w' = w := by
  by_cases h0 : 1 ≤ m
  · by_cases h1 : 0 ≤ a
    · by_cases h2 : a ≤ n - m
      · rw [allB_yes.2 ⟨h0, h1, by omega⟩]
        go_enter Tryz.func108, Tryz.ntmps108
        go_wp2
        go_ret
        exact ⟨rfl, rfl⟩
      · rw [allB_no.2 (by omega)]
        go_enter Tryz.func108, Tryz.ntmps108
        go_wp2
        go_ret
        exact ⟨rfl, rfl⟩
    · rw [allB_no.2 (by omega)]
      go_enter Tryz.func108, Tryz.ntmps108
      go_wp2
      go_ret
      exact ⟨rfl, rfl⟩
  · rw [allB_no.2 (by omega)]
    go_enter Tryz.func108, Tryz.ntmps108
    go_wp2
    go_ret
    exact ⟨rfl, rfl⟩

def cut (xs : List Int) (a m : Nat) : List Int := (xs.drop a).take m
theorem cut_length {xs : List Int} {a m : Nat} (h : a + m ≤ xs.length) : (cut xs a m).length = m := by simp [cut]; omega
theorem cut_get {xs : List Int} {a m j : Nat} (hj : j < m) : (cut xs a m)[j]? = xs[a + j]? := by simp [cut, hj]

/-- A copy of words into new memory. -/
theorem copy_run {w : World} {b : Nat} {xs : List Int} (h : IsRow w b xs) (n a m : Nat) (hx : xs.length = n) (ha : a + m ≤ n) :
    ∃ w2, (Builtin.copy_ #[122, 122] 3 #[.slice (some ⟨w.heap.size, 0, none⟩) m m, .slice (some ⟨b, a, none⟩) (n - a) (n - a)]).run Tryz.prog (w.alloc (.cells (madeCells #[(.int .u64 0 : Value)] m) 67)) = .ok (.int .i64 m) w2 ∧
      IsRow w2 w.heap.size (cut xs a m) ∧ Below w.heap.size w w2 := by
  have hl := cut_length (xs := xs) (a := a) (m := m) (by omega)
  have hlt := h.lt
  have hg : (w.alloc (.cells (wd (List.replicate m 0)).toArray 67)).heap[w.heap.size]? = some (.cells (wd (List.replicate m 0)).toArray 67 (0, 0)) := heap_alloc_new _ _
  have hcs : (wd (cut xs a m)).length = m := by simpa [wd] using hl
  have := run_copy_row (P := Tryz.prog) (w.alloc (.cells (wd (List.replicate m 0)).toArray 67)) 122 122 3 67 w.heap.size 0 m m ⟨b, a, none⟩ (n - a) (n - a) (wd (List.replicate m 0)).toArray 67 (wd (cut xs a m))
    Tryz.underlying122 size67 hg (by rw [hcs]; show m = min (n - a) m; omega)
    (fun j v hj => by
      have hj' : j < m := by have := (List.getElem?_eq_some_iff.1 hj).1; omega
      have e : (wd (cut xs a m))[j]? = some (.int .u64 (xs.getD (a + j) 0)) := by
        simp [wd, cut_get hj', List.getD, show a + j < xs.length by omega]
      rw [e] at hj
      obtain rfl := Option.some.inj hj
      rw [Addr.add_lit]
      have hbelow : Below w.heap.size w (w.alloc (.cells (wd (List.replicate m 0)).toArray 67)) := (Below.refl _ _).alloc (Nat.le_refl _) _
      rw [hbelow.cell (p := ⟨b, a + j, none⟩) hlt]
      exact h.cell (a + j) (by omega))
    (by rw [hcs]; simp [wd]) (fun v hv => by
      obtain ⟨x, _, rfl⟩ := List.mem_map.1 hv
      rfl)
  rw [made_eq]
  refine ⟨_, this.trans (by rw [hcs]; rfl), ?_, below_setRow ((Below.refl _ _).alloc (Nat.le_refl _) _) (Nat.le_refl _) _⟩
  refine (setRow_heap _ _ _ _ _ _ hg).trans ?_
  have e : List.drop (0 + m) (wd (List.replicate m 0)) = [] := List.drop_eq_nil_of_le (by simp [wd])
  simp only [List.take_zero, List.nil_append, e, List.append_nil]

set_option maxHeartbeats 800000 in
theorem part_yes {w : World} {b : Nat} {xs : List Int} (h : IsRow w b xs) (n a m : Nat) (hx : xs.length = n) (hn : n ≤ 65536) (hm : 1 ≤ m) (ha : a + m ≤ n) :
    Calls Tryz.prog 65 #[.slice (some ⟨b, 0, none⟩) n n, .int .i64 a, .int .i64 m] w fun e w' => e = .returned (.slice (some ⟨w.heap.size, 0, none⟩) m m) ∧ IsRow w' w.heap.size (cut xs a m) ∧ Below w.heap.size w w' := by
  have hmk := run_make_row' (P := Tryz.prog) 122 67 (.int .u64 0) 8 Tryz.underlying122 info67 rfl .i64 .i64 m (by omega) (by omega)
  obtain ⟨w2, hcp, hR, hB⟩ := copy_run h n a m hx ha
  have HA : Hid (allB n a m = true) := allB_yes.2 (by omega)
  have HR : Hid (IsRow w2 w.heap.size (cut xs a m)) := hR
  have HB : Hid (Below w.heap.size w w2) := hB
  clear hx h hR hB
  go_enter Tryz.func65, Tryz.ntmps65
  go_wp2_with (go_at_call 108; refine (hasAll_any _ _ _ _ _ _ hn (by omega)).mono ?_; rintro e w' ⟨rfl, hw'⟩; rw [hw', HA.out]; clear hw' w')
  go_ret
  exact ⟨rfl, HR.out, HB.out⟩

set_option maxHeartbeats 800000 in
theorem part_no {w : World} (q : Option Addr) (n : Nat) (a m : Int) (hn : n ≤ 65536) (hm : m ≤ 9223372036854775807) (h : allB n a m = false) :
    Calls Tryz.prog 65 #[.slice q n n, .int .i64 a, .int .i64 m] w fun e w' => e = .returned (.slice none 0 0) ∧ w' = w := by
  have HA : Hid (allB n a m = false) := h
  clear h
  go_enter Tryz.func65, Tryz.ntmps65
  go_wp2_with (go_at_call 108; refine (hasAll_any _ _ _ _ _ _ hn hm).mono ?_; rintro e w' ⟨rfl, hw'⟩; rw [hw', HA.out]; clear hw' w')
  go_ret
  exact ⟨rfl, rfl⟩

set_option maxHeartbeats 400000 in
theorem words_yes {w : World} {p b : Nat} {xs : List Int} {d l : Int} (h : IsMem 124 w p b xs d l) (a m : Nat) (hm : 1 ≤ m) (ha : a + m ≤ xs.length) :
    Calls Tryz.prog 29 #[.pointer (some ⟨p, 0, none⟩), .int .i64 a, .int .i64 m] w fun e w' => e = .returned (.slice (some ⟨w.heap.size, 0, none⟩) m m) ∧ IsRow w' w.heap.size (cut xs a m) ∧ Below w.heap.size w w' := by
  have c0 := h.cells.1
  have HF : Hid (Calls Tryz.prog 64 #[.pointer (some ⟨p, 0, none⟩)] w fun e w' => e = .returned (.bool false) ∧ w' = w) := isNone_at h
  have HP : Hid (Calls Tryz.prog 65 #[.slice (some ⟨b, 0, none⟩) xs.length xs.length, .int .i64 a, .int .i64 m] w fun e w' => e = .returned (.slice (some ⟨w.heap.size, 0, none⟩) m m) ∧ IsRow w' w.heap.size (cut xs a m) ∧ Below w.heap.size w w') := part_yes h.row xs.length a m rfl h.top hm ha
  generalize xs.length = n at *
  clear h
  go_enter Tryz.func29, Tryz.ntmps29
  go_wp2_with (first
    | (go_at_call 64; refine HF.out.mono ?_; rintro e w' ⟨rfl, hw'⟩; rw [hw']; clear hw' w')
    | (go_at_call 65; refine HP.out.mono ?_; rintro e w' ⟨rfl, hR, hB⟩))
  go_ret
  exact ⟨rfl, hR, hB⟩

set_option maxHeartbeats 400000 in
theorem words_no {w : World} {p b : Nat} {xs : List Int} {d l : Int} (h : IsMem 124 w p b xs d l) (a m : Int) (hm : m ≤ 9223372036854775807) (hA : allB xs.length a m = false) :
    Calls Tryz.prog 29 #[.pointer (some ⟨p, 0, none⟩), .int .i64 a, .int .i64 m] w fun e w' => e = .returned (.slice none 0 0) ∧ w' = w := by
  have c0 := h.cells.1
  have HF : Hid (Calls Tryz.prog 64 #[.pointer (some ⟨p, 0, none⟩)] w fun e w' => e = .returned (.bool false) ∧ w' = w) := isNone_at h
  have HP : Hid (Calls Tryz.prog 65 #[.slice (some ⟨b, 0, none⟩) xs.length xs.length, .int .i64 a, .int .i64 m] w fun e w' => e = .returned (.slice none 0 0) ∧ w' = w) := part_no _ _ _ _ h.top hm hA
  clear hA
  generalize xs.length = n at *
  clear h
  go_enter Tryz.func29, Tryz.ntmps29
  go_wp2_with (first
    | (go_at_call 64; refine HF.out.mono ?_; rintro e w' ⟨rfl, hw'⟩; rw [hw']; clear hw' w')
    | (go_at_call 65; refine HP.out.mono ?_; rintro e w' ⟨rfl, hw'⟩; rw [hw']; clear hw' w'))
  go_ret
  exact ⟨rfl, rfl⟩
set_option maxHeartbeats 400000 in
theorem words_none {w : World} {q : Option Addr} (a m : Int) (h : Calls Tryz.prog 64 #[.pointer q] w fun e w' => e = .returned (.bool true) ∧ w' = w) :
    Calls Tryz.prog 29 #[.pointer q, .int .i64 a, .int .i64 m] w fun e w' => e = .returned (.slice none 0 0) ∧ w' = w := by
  have HF : Hid (Calls Tryz.prog 64 #[.pointer q] w fun e w' => e = .returned (.bool true) ∧ w' = w) := h
  clear h
  go_enter Tryz.func29, Tryz.ntmps29
  go_wp2_with (go_at_call 64; refine HF.out.mono ?_; rintro e w' ⟨rfl, hw'⟩; rw [hw']; clear hw' w')
  go_ret
  exact ⟨rfl, rfl⟩
set_option maxHeartbeats 400000 in
theorem copy_none {w : World} {q : Option Addr} (h : Calls Tryz.prog 64 #[.pointer q] w fun e w' => e = .returned (.bool true) ∧ w' = w) :
    Calls Tryz.prog 26 #[.pointer q] w fun e w' => e = .returned (.pointer none) ∧ w' = w := by
  have HF : Hid (Calls Tryz.prog 64 #[.pointer q] w fun e w' => e = .returned (.bool true) ∧ w' = w) := h
  clear h
  go_enter Tryz.func26, Tryz.ntmps26
  go_wp2_with (go_at_call 64; refine HF.out.mono ?_; rintro e w' ⟨rfl, hw'⟩; rw [hw']; clear hw' w')
  go_ret
  exact ⟨rfl, rfl⟩

/-- What stands while a copy is made. -/
def CoS (w : World) (p b n : Nat) (d l : Int) (w' : World) : Prop :=
  (w'.cell? ⟨p, 0, none⟩ = some (.slice (some ⟨b, 0, none⟩) n n) ∧ w'.cell? ⟨p, 1, none⟩ = some (.int .i64 d) ∧ w'.cell? ⟨p, 2, none⟩ = some (.int .i64 l)) ∧ Below w.heap.size w w'
theorem IsMem.coS {w : World} {p b : Nat} {xs : List Int} {d l : Int} (h : IsMem 124 w p b xs d l) {w' : World} (hb : Below w.heap.size w w') : CoS w p b xs.length d l w' :=
  ⟨(h.below hb).cells, hb⟩
theorem CoS.part {w : World} {p b : Nat} {xs : List Int} {d l : Int} (h : IsMem 124 w p b xs d l) {w' : World} (hb : CoS w p b xs.length d l w') :
    Calls Tryz.prog 65 #[.slice (some ⟨b, 0, none⟩) xs.length xs.length, .int .i64 0, .int .i64 xs.length] w' fun e w'' => ∃ g, e = .returned (.slice (some ⟨g, 0, none⟩) xs.length xs.length) ∧ Hid (IsRow w'' g xs ∧ w.heap.size ≤ g) ∧ CoS w p b xs.length d l w'' := by
  refine (part_yes (h.below hb.2).row xs.length 0 xs.length rfl h.top h.pos (by omega)).mono ?_
  rintro e w'' ⟨rfl, hR, hB⟩
  refine ⟨_, rfl, ⟨?_, hb.2.size⟩, h.coS (hb.2.trans (hB.mono hb.2.size))⟩
  have : cut xs 0 xs.length = xs := by simp [cut]
  rw [this] at hR
  exact hR

theorem CoS.alloc {w : World} {p b n : Nat} {d l : Int} {w' : World} (hp : p < w.heap.size) (h : CoS w p b n d l w') (o : Obj) : CoS w p b n d l (w'.alloc o) := by
  obtain ⟨⟨h1, h2, h3⟩, hB⟩ := h
  have hB' : Below w.heap.size w (w'.alloc o) := hB.alloc hB.size _
  refine ⟨⟨?_, ?_, ?_⟩, hB'⟩
  · rw [← h1, hB'.cell (p := ⟨p, 0, none⟩) hp, hB.cell (p := ⟨p, 0, none⟩) hp]
  · rw [← h2, hB'.cell (p := ⟨p, 1, none⟩) hp, hB.cell (p := ⟨p, 1, none⟩) hp]
  · rw [← h3, hB'.cell (p := ⟨p, 2, none⟩) hp, hB.cell (p := ⟨p, 2, none⟩) hp]
theorem mem_made {w w' : World} {g n : Nat} {xs : List Int} {d l : Int} (hn : xs.length = n) (h1 : 1 ≤ n) (h2 : n ≤ 65536) (h : IsRow w' g xs) (hg : w.heap.size ≤ g) (hB : Below w.heap.size w w') :
    IsMem 124 (w'.alloc (.cells #[.slice (some ⟨g, 0, none⟩) n n, .int .i64 d, .int .i64 l] 124)) w'.heap.size g xs d l ∧ w.heap.size ≤ w'.heap.size ∧ w.heap.size ≤ g ∧ Below w.heap.size w (w'.alloc (.cells #[.slice (some ⟨g, 0, none⟩) n n, .int .i64 d, .int .i64 l] 124)) := by
  subst hn
  have hlt := h.lt
  exact ⟨⟨heap_alloc_new _ _, h.keep (Below.heap_alloc _ _ _ hlt), by omega, h1, h2⟩, hB.size, hg, hB.alloc hB.size _⟩

set_option maxRecDepth 100000 in
set_option maxHeartbeats 1000000 in
theorem copy_at {w : World} {p b : Nat} {xs : List Int} {d l : Int} (h : IsMem 124 w p b xs d l) :
    Calls Tryz.prog 26 #[.pointer (some ⟨p, 0, none⟩)] w fun e w' => ∃ p' b', e = .returned (.pointer (some ⟨p', 0, none⟩)) ∧ IsMem 124 w' p' b' xs d l ∧ w.heap.size ≤ p' ∧ w.heap.size ≤ b' ∧ Below w.heap.size w w' := by
  obtain ⟨c0, c1, c2⟩ := h.cells
  have HF : Hid (Calls Tryz.prog 64 #[.pointer (some ⟨p, 0, none⟩)] w fun e w' => e = .returned (.bool false) ∧ w' = w) := isNone_at h
  have hS0 : CoS w p b xs.length d l w.drew := h.coS (Below.refl _ _).drew
  have HP : Hid (∀ {w' : World} (_ : CoS w p b xs.length d l w'),
    Calls Tryz.prog 65 #[.slice (some ⟨b, 0, none⟩) xs.length xs.length, .int .i64 0, .int .i64 xs.length] w' fun e w'' => ∃ g, e = .returned (.slice (some ⟨g, 0, none⟩) xs.length xs.length) ∧ Hid (IsRow w'' g xs ∧ w.heap.size ≤ g) ∧ CoS w p b xs.length d l w'') := fun hb => CoS.part h hb
  have h1 := h.pos
  have h2 := h.top
  have hp := h.lt.1
  obtain ⟨n, hn⟩ : ∃ n, xs.length = n := ⟨_, rfl⟩
  have HN : Hid (xs.length = n) := hn
  rw [hn] at c0 hS0 HP h1 h2
  clear h hn
  go_enter Tryz.func26, Tryz.ntmps26
  go_wp2_with (go_at_call 64; refine HF.out.mono ?_; rintro e w' ⟨rfl, hw'⟩; rw [hw']; clear hw' w')
  go_region_held3 (fun w' => (w'.cell? ⟨p, 0, none⟩ = some (.slice (some ⟨b, 0, none⟩) n n) ∧ w'.cell? ⟨p, 1, none⟩ = some (.int .i64 d) ∧ w'.cell? ⟨p, 2, none⟩ = some (.int .i64 l)) ∧ Below w.heap.size w w') (first | exact hS0 | assumption | exact CoS.alloc hp (by assumption) _)
    (first
      | (go_at_call 65; refine (HP.out (by assumption)).mono ?_; rintro e w' ⟨g, rfl, hg, hw'⟩))
  all_goals go_wp2
  all_goals go_ret
  all_goals exact ⟨_, _, rfl, mem_made HN.out h1 h2 hg.out.1 hg.out.2 (And.right (b := Below w.heap.size w _) (show CoS w p b n d l _ by assumption))⟩
end Go.Proofs.YtpfmmlbakbhklaaGreatDoor
namespace Go.Proofs.YtpfmmlbakbhklaaGreatDoor
open Go.RowKit

/-- A slice that reads as the words xs. -/
def Lies (w : World) (v : Value) (xs : List Int) : Prop :=
  xs.length ≤ 65536 ∧ ∃ q c, v = .slice q xs.length c ∧ (xs ≠ [] → ∃ b off, q = some ⟨b, off, none⟩ ∧ b < w.heap.size ∧ ∀ i, i < xs.length → w.cell? ⟨b, off + i, none⟩ = some (.int .u64 (xs.getD i 0)))
theorem Lies.below {w w' : World} {v : Value} {xs : List Int} (h : Lies w v xs) (hb : Below w.heap.size w w') : Lies w' v xs := by
  obtain ⟨hV, q, c, rfl, hc⟩ := h
  refine ⟨hV, q, c, rfl, fun hne => ?_⟩
  obtain ⟨b, off, rfl, h1, h2⟩ := hc hne
  exact ⟨b, off, rfl, Nat.lt_of_lt_of_le h1 hb.size, fun i hi => (hb.cell (p := ⟨b, off + i, none⟩) h1).trans (h2 i hi)⟩
theorem Lies.nil (w : World) (q : Option Addr) (c : Nat) : Lies w (.slice q 0 c) [] := ⟨by simp, q, c, rfl, fun h => absurd rfl h⟩
theorem IsRow.lies {w : World} {g n c : Nat} {xs : List Int} (h : IsRow w g xs) (hn : xs.length = n) (ht : n ≤ 65536) : Lies w (.slice (some ⟨g, 0, none⟩) n c) xs := by
  subst hn
  exact ⟨ht, _, c, rfl, fun _ => ⟨g, 0, rfl, h.lt, fun i hi => by rw [Nat.zero_add]; exact h.cell i hi⟩⟩

set_option maxHeartbeats 400000 in
theorem same_nil (p q : Option Addr) (c d : Nat) (w : World) :
    Calls Tryz.prog 28 #[.slice p 0 c, .slice q 0 d] w fun e w' => e = .returned (.bool true) ∧ w' = w := by
  go_enter Tryz.func28, Tryz.ntmps28
  go_wp2
  refine wp_loop_rounds 1 ?_
  rw [rounds_succ]
  go_wp2
  go_ret
  exact ⟨rfl, rfl⟩

set_option maxHeartbeats 800000 in
theorem same_some (b1 o1 b2 o2 c d n : Nat) (f : Nat → Int) (w : World) (hn : n ≤ 65536)
    (h1 : ∀ i, i < n → w.cell? ⟨b1, o1 + i, none⟩ = some (.int .u64 (f i))) (h2 : ∀ i, i < n → w.cell? ⟨b2, o2 + i, none⟩ = some (.int .u64 (f i))) :
    Calls Tryz.prog 28 #[.slice (some ⟨b1, o1, none⟩) n c, .slice (some ⟨b2, o2, none⟩) n d] w fun e w' => e = .returned (.bool true) ∧ Below w.heap.size w w' := by
  go_enter Tryz.func28, Tryz.ntmps28
  go_wp2
  go_loopw [5] (fun i wr => ∃ k m : Nat, k ≤ n ∧ i = .int .i64 k ∧ wr = w.drewN m) (fun i _ => n - (intOf i).toNat)
  case atStart => exact ⟨0, 0, Nat.zero_le _, rfl, rfl⟩
  case round =>
    obtain ⟨k, m, hk, rfl, hwr⟩ := hrel
    have HW : Hid (wr = w.drewN m) := hwr
    have hcell : ∀ a, wr.cell? a = w.cell? a := fun a => by rw [hwr]; simp
    by_cases hlt : k < n
    · have c1 := (hcell _).trans (h1 k hlt)
      have c2 := (hcell _).trans (h2 k hlt)
      clear hwr hcell h1 h2
      generalize f k = x at c1 c2
      go_wp2
      go_quiet (fail)
      go_wp2
      refine ⟨⟨k + 1, m + nq, by omega, by go_num, ?_⟩, by simp [intOf]; omega⟩
      rw [HW.out]; simp [World.drewN_drewN]
    · clear hwr hcell h1 h2
      go_wp2
      go_ret
      refine ⟨rfl, ?_⟩
      rw [HW.out]; exact below_drewN (Below.refl _ _) m

theorem same_any {w : World} {u v : Value} {xs : List Int} (h : Lies w u xs) (k : Lies w v xs) :
    Calls Tryz.prog 28 #[u, v] w fun e w' => e = .returned (.bool true) ∧ Below w.heap.size w w' := by
  obtain ⟨hn, p, c, rfl, hp⟩ := h
  obtain ⟨_, q, d, rfl, hq⟩ := k
  by_cases hne : xs = []
  · subst hne
    refine (same_nil p q c d w).mono ?_
    rintro e w' ⟨rfl, hw⟩
    rw [hw]
    exact ⟨rfl, Below.refl _ _⟩
  · obtain ⟨b1, o1, rfl, _, h1⟩ := hp hne
    obtain ⟨b2, o2, rfl, _, h2⟩ := hq hne
    exact same_some b1 o1 b2 o2 c d xs.length (fun i => xs.getD i 0) w hn h1 h2

/-- What Words tells. -/
def wordsV (s : St) (a m : Int) : List Int := if allB s.xs.length a m = true then cut s.xs a.toNat m.toNat else []
theorem words_any {w : World} {p b : Nat} {s : St} (h : Mem 124 w p b s) (a m : Int) (hm : m ≤ 9223372036854775807) :
    Calls Tryz.prog 29 #[.pointer (some ⟨p, 0, none⟩), .int .i64 a, .int .i64 m] w fun e w' => ∃ v, e = .returned v ∧ Lies w' v (wordsV s a m) ∧ Below w.heap.size w w' := by
  cases hA : allB s.xs.length a m
  · refine (words_no h a m hm hA).mono ?_
    rintro e w' ⟨rfl, hw⟩
    rw [hw]
    simp only [wordsV, hA]
    exact ⟨_, rfl, Lies.nil _ _ _, Below.refl _ _⟩
  · have ⟨h1, h2, h3⟩ := allB_yes.1 hA
    obtain ⟨i, rfl⟩ := Int.eq_ofNat_of_zero_le h2
    obtain ⟨j, rfl⟩ := Int.eq_ofNat_of_zero_le (show 0 ≤ m by omega)
    have ht := h.top
    refine (words_yes h i j (by omega) (by omega)).mono ?_
    rintro e w' ⟨rfl, hR, hB⟩
    simp only [wordsV, hA]
    exact ⟨_, rfl, hR.lies (cut_length (by omega)) (by omega), hB⟩
end Go.Proofs.YtpfmmlbakbhklaaGreatDoor
namespace Go.Proofs.YtpfmmlbakbhklaaGreatDoor
open Go.RowKit

set_option maxHeartbeats 400000 in
theorem len_at {w : World} {p b : Nat} {xs : List Int} {d l : Int} (h : IsMem 124 w p b xs d l) :
    Calls Tryz.prog 30 #[.pointer (some ⟨p, 0, none⟩)] w fun e w' => e = .returned (.int .i64 xs.length) ∧ w' = w := by
  have c0 := h.cells.1
  have HF : Hid (Calls Tryz.prog 64 #[.pointer (some ⟨p, 0, none⟩)] w fun e w' => e = .returned (.bool false) ∧ w' = w) := isNone_at h
  generalize xs.length = n at *
  clear h
  go_enter Tryz.func30, Tryz.ntmps30
  go_wp2_with (go_at_call 64; refine HF.out.mono ?_; rintro e w' ⟨rfl, hw'⟩; rw [hw']; clear hw' w')
  go_ret
  exact ⟨rfl, rfl⟩
set_option maxHeartbeats 400000 in
theorem len_none {w : World} {q : Option Addr} (h : Calls Tryz.prog 64 #[.pointer q] w fun e w' => e = .returned (.bool true) ∧ w' = w) :
    Calls Tryz.prog 30 #[.pointer q] w fun e w' => e = .returned (.int .i64 0) ∧ w' = w := by
  have HF : Hid (Calls Tryz.prog 64 #[.pointer q] w fun e w' => e = .returned (.bool true) ∧ w' = w) := h
  clear h
  go_enter Tryz.func30, Tryz.ntmps30
  go_wp2_with (go_at_call 64; refine HF.out.mono ?_; rintro e w' ⟨rfl, hw'⟩; rw [hw']; clear hw' w')
  go_ret
  exact ⟨rfl, rfl⟩

end Go.Proofs.YtpfmmlbakbhklaaGreatDoor
