/- What strconv.ParseUint tells of a piece of a text. Condition: the tables stand in their variables. -/
import Derived.Test.YtoeopapnegjooaaDoorG2
namespace Go.Proofs.YtoeopapnegjooaaDoor
open Go.RowKit

/-- The number that a piece of a text spells. -/
def pu (s : ByteArray) : Option Nat := match Lib.parseUintB 64 s.data.toList with
  | .ok u => some u
  | _ => none

theorem below_bytes (w : World) (s : ByteArray) : Below w.heap.size w (Lib.bytesWorld w 5 s) := Lib.bytesWorld_below w 5 s

theorem pu_some {s : ByteArray} {u : Nat} (hs : s.size ≤ 281474976710656) (h : pu s = some u) (w : World) :
    Calls Tryd.prog 47 #[.string s, .int .i64 10, .int .i64 64] w fun e w' => e = .returned (.tuple #[.int .u64 u, .nilIface]) ∧ Below w.heap.size w w' := by
  have h' : Lib.parseUintB 64 s.data.toList = .ok u := by
    unfold pu at h
    split at h
    · rename_i e; cases h; exact e
    · cases h
  refine (strconv_ParseUint_10_at64_ok s (by omega) u h' w).mono ?_
  rintro e w' ⟨rfl, hw⟩
  refine ⟨rfl, ?_⟩
  rcases hw with hw | hw <;> rw [hw]
  · exact Below.refl _ _
  · exact below_bytes _ _
theorem pu_none {s : ByteArray} (hs : s.size ≤ 281474976710656) (h : pu s = none) (w : World) (hS : Std w) :
    Calls Tryd.prog 47 #[.string s, .int .i64 10, .int .i64 64] w fun e w' => ∃ v N, e = .returned (.tuple #[.int .u64 v, .iface 113 (.pointer (some ⟨N, 0, none⟩))]) ∧ Below w.heap.size w w' := by
  obtain ⟨t1, p1, h1⟩ := hS.es
  obtain ⟨t2, p2, h2⟩ := hS.er
  unfold pu at h
  cases e : Lib.parseUintB 64 s.data.toList with
  | ok u => rw [e] at h; cases h
  | «syntax» =>
    refine (strconv_ParseUint_10_at64_syntax_var s hs e t1 p1 w h1).mono ?_
    rintro e w' ⟨N, rfl, _, _, hB⟩
    exact ⟨_, N, rfl, hB⟩
  | range =>
    refine (strconv_ParseUint_10_at64_range_var s hs e t2 p2 w h2).mono ?_
    rintro e w' ⟨N, rfl, _, _, hB⟩
    exact ⟨_, N, rfl, hB⟩
theorem pu_lt {s : ByteArray} {u : Nat} (h : pu s = some u) : u < 18446744073709551616 := by
  unfold pu at h
  split at h
  · rename_i e; cases h; have := Lib.parseUintB_le e; omega
  · cases h

/-- What stands while a text is read: the result's place, the pieces, the form, three numbers. -/
structure Rd (w0 w : World) (P : Array Value) (g2 : Nat) (F : Array Value) (g3 : Nat) (u0 u1 u2 : Int) : Prop where
  res : w.heap[w0.heap.size]? = some (.cells #[.int .i64 0, .int .i64 0, .int .u64 0, .int .u64 0] 40 (0, 0))
  pcs : w.heap[w0.heap.size + 1]? = some (.cells P 9 (0, 0))
  fo : w.heap[g2]? = some (.cells F 74 (0, 0))
  nm : w.heap[g3]? = some (.cells #[.int .u64 u0, .int .u64 u1, .int .u64 u2] 91 (0, 0))
  std : Std w
  bel : Below w0.heap.size w0 w
  n1 : g3 ≠ w0.heap.size
  n2 : g3 ≠ w0.heap.size + 1
  n3 : g3 ≠ g2
  n4 : w0.heap.size ≤ g3
theorem Rd.below {w0 w w' : World} {P : Array Value} {g2 : Nat} {F : Array Value} {g3 : Nat} {u0 u1 u2 : Int} (h : Rd w0 w P g2 F g3 u0 u1 u2) (k : Below w.heap.size w w') : Rd w0 w' P g2 F g3 u0 u1 u2 :=
  ⟨(k.block _ (lt_of_block h.res)).trans h.res, (k.block _ (lt_of_block h.pcs)).trans h.pcs, (k.block _ (lt_of_block h.fo)).trans h.fo, (k.block _ (lt_of_block h.nm)).trans h.nm, h.std.below k, bel_trans h.bel k, h.n1, h.n2, h.n3, h.n4⟩
theorem bel_set {w0 w : World} (h : Below w0.heap.size w0 w) (g i : Nat) (v : Value) (hg : w0.heap.size ≤ g) : Below w0.heap.size w0 (w.setCell ⟨g, i, none⟩ v) :=
  ⟨h.os, h.tape, h.output, by have := h.size; simpa [World.setCell] using this, fun k hk => (Below.heap_setCell _ _ _ _ (by simp; omega)).trans (h.block k hk)⟩
theorem std_set {w0 w : World} (hs : Std w0) (h : Below w0.heap.size w0 w) : Std w := hs.below h
theorem Rd.set {w0 w : World} {P : Array Value} {g2 : Nat} {F : Array Value} {g3 : Nat} {u0 u1 u2 v0 v1 v2 : Int} (hs : Std w0) (h : Rd w0 w P g2 F g3 u0 u1 u2) (i : Nat) (v : Int)
    (hv : (#[Value.int .u64 u0, .int .u64 u1, .int .u64 u2]).setIfInBounds i (.int .u64 v) = #[.int .u64 v0, .int .u64 v1, .int .u64 v2]) : Rd w0 (w.setCell ⟨g3, i, none⟩ (.int .u64 v)) P g2 F g3 v0 v1 v2 := by
  have hb := bel_set h.bel g3 i (.int .u64 v) h.n4
  exact ⟨(Below.heap_setCell _ _ _ _ (fun e => h.n1 e.symm)).trans h.res, (Below.heap_setCell _ _ _ _ (fun e => h.n2 e.symm)).trans h.pcs, (Below.heap_setCell _ _ _ _ (fun e => h.n3 e.symm)).trans h.fo, by rw [heap_setCell_self h.nm, hv], hs.below hb, hb, h.n1, h.n2, h.n3, h.n4⟩
theorem pcs_at {ps : List ByteArray} {N i : Nat} {q : ByteArray} (h : ps[i]? = some q) : (Lib.cellsOf ps N)[i]? = some (.string q) := by
  unfold Lib.cellsOf
  rw [List.getElem?_toArray]
  have hi : i < ps.length := (List.getElem?_eq_some_iff.1 h).1
  rw [List.getElem?_append_left (by simpa using hi), List.getElem?_map, h]
  rfl
theorem put4 {w2 : World} {g : Nat} {x y z u : Value} {t : TypeId} (hg : w2.heap[g]? = some (.cells #[x, y, z, u] t (0, 0))) (x' y' z' u' : Value) :
    ((((w2.setCell ⟨g, 0, none⟩ x').setCell ⟨g, 1, none⟩ y').setCell ⟨g, 2, none⟩ z').setCell ⟨g, 3, none⟩ u').heap[g]? = some (.cells #[x', y', z', u'] t (0, 0)) := by
  rw [heap_setCell_self (heap_setCell_self (heap_setCell_self (heap_setCell_self hg _) _) _) _]
  rfl
theorem size40 : (Tryd.prog.info? 40).map (·.size) = some 4 := by kernel_rfl

/-- An act of kind k of the numbers that were read. -/
def rd1 (k : Int) : Option Nat → Option Ac
  | some u0 => if u0 ≤ 9223372036854775807 then some ⟨k, u0, 0, 0⟩ else none
  | none => none
def rd2 (k : Int) : Option Nat → Option Nat → Option Ac
  | some u0, some u1 => if u0 ≤ 9223372036854775807 then some ⟨k, u0, u1, 0⟩ else none
  | _, _ => none
def rd3 (k : Int) : Option Nat → Option Nat → Option Nat → Option Ac
  | some u0, some u1, some u2 => if u0 ≤ 9223372036854775807 then some ⟨k, u0, u1, u2⟩ else none
  | _, _, _ => none
def resV : Option Ac → Value
  | some x => .tuple #[acV x, .bool true]
  | none => .tuple #[acV noAc, .bool false]
end Go.Proofs.YtoeopapnegjooaaDoor
