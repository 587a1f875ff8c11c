/- What Load, Store, Cas, Add, Len and Count return, and what they leave, for words that New gave; and for none. Conditions: the counts are below 2^62. -/
import Derived.Test.YtpfmmlbakbhklaaGreatDoorW1
namespace Go.Proofs.YtpfmmlbakbhklaaGreatDoor
open Go.RowKit

/-- Words and two counts. -/
structure St where
  xs : List Int
  d : Int
  l : Int

abbrev Mem (t : TypeId) (w : World) (p b : Nat) (s : St) : Prop := IsMem t w p b s.xs s.d s.l
structure Cnt (s : St) (k : Nat) : Prop where
  d0 : 0 ≤ s.d
  d1 : s.d ≤ k
  l0 : 0 ≤ s.l
  l1 : s.l ≤ k

def there (s : St) (a : Int) : Bool := inB s.xs.length a
def add64 (x v : Int) : Int := (x + v) % 18446744073709551616
def errV (s : St) (a : Int) : Int := if there s a = true then 0 else 2
def loadV (s : St) (a : Int) : Int := if there s a = true then s.xs.getD a.toNat 0 else 0
def loadT (s : St) (a : Int) : St := if there s a = true then ⟨s.xs, s.d + 1, s.l⟩ else s
def storeT (s : St) (a v : Int) : St := if there s a = true then ⟨s.xs.set a.toNat v, s.d + 1, s.l + 1⟩ else s
def casV (s : St) (a old : Int) : Bool := there s a && (s.xs.getD a.toNat 0 == old)
def casT (s : St) (a old now : Int) : St := if there s a = true then (if s.xs.getD a.toNat 0 = old then ⟨s.xs.set a.toNat now, s.d + 1, s.l + 1⟩ else ⟨s.xs, s.d + 1, s.l⟩) else s
def addT (s : St) (a v : Int) : St := storeT s a (add64 (loadV s a) v)

theorem Cnt.mono {s : St} {k m : Nat} (h : Cnt s k) (hk : k ≤ m) : Cnt s m := ⟨h.d0, by have := h.d1; omega, h.l0, by have := h.l1; omega⟩
theorem Cnt.load {s : St} {k : Nat} (h : Cnt s k) (a : Int) : Cnt (loadT s a) (k + 1) := by
  obtain ⟨h1, h2, h3, h4⟩ := h
  unfold loadT; split
  · exact ⟨by simp; omega, by simp; omega, h3, by simp; omega⟩
  · exact ⟨h1, by omega, h3, by omega⟩
theorem Cnt.store {s : St} {k : Nat} (h : Cnt s k) (a v : Int) : Cnt (storeT s a v) (k + 1) := by
  obtain ⟨h1, h2, h3, h4⟩ := h
  unfold storeT; split
  · exact ⟨by simp; omega, by simp; omega, by simp; omega, by simp; omega⟩
  · exact ⟨h1, by omega, h3, by omega⟩
theorem Cnt.cas {s : St} {k : Nat} (h : Cnt s k) (a o v : Int) : Cnt (casT s a o v) (k + 1) := by
  obtain ⟨h1, h2, h3, h4⟩ := h
  unfold casT; split
  · split
    · exact ⟨by simp; omega, by simp; omega, by simp; omega, by simp; omega⟩
    · exact ⟨by simp; omega, by simp; omega, h3, by simp; omega⟩
  · exact ⟨h1, by omega, h3, by omega⟩
theorem Cnt.add {s : St} {k : Nat} (h : Cnt s k) (a v : Int) : Cnt (addT s a v) (k + 1) := h.store a _

def bnd : Nat := 4611686018427387904

set_option maxHeartbeats 400000 in
theorem load_in {w : World} {p b : Nat} {xs : List Int} {d l : Int} (h : IsMem 124 w p b xs d l) (i : Nat) (hi : i < xs.length) (hd0 : 0 ≤ d) (hd : d ≤ 4611686018427387904) :
    Calls Tryz.prog 195 #[.pointer (some ⟨p, 0, none⟩), .int .i64 i] w fun e w' => e = .returned (.tuple #[.int .u64 (xs.getD i 0), .int .i64 0]) ∧ w' = w.setCell ⟨p, 1, none⟩ (.int .i64 (d + 1)) := by
  obtain ⟨c0, c1, c2⟩ := h.cells
  have f1 := h.free 1
  have cb := h.row.cell i hi
  have hne := h.ne
  have hne' : b ≠ p := fun e => h.ne e.symm
  have ht := h.top
  have HF : Hid (Calls Tryz.prog 140 #[.pointer (some ⟨p, 0, none⟩), .int .i64 i] w fun e w' => e = .returned (.int .i64 0) ∧ w' = w) := fault_yes h i (inB_yes.2 (by omega))
  generalize xs.getD i 0 = x at *
  generalize xs.length = n at *
  clear h
  go_enter Tryz.func195, Tryz.ntmps195
  go_wp2_with (go_at_call 140; refine HF.out.mono ?_; rintro e w' ⟨rfl, hw'⟩; rw [hw']; clear hw' w')
  go_ret2
  exact ⟨rfl, rfl⟩

set_option maxHeartbeats 400000 in
theorem load_out {w : World} {q : Option Addr} {a e0 : Int} (he : e0 ≠ 0) (h : Calls Tryz.prog 140 #[.pointer q, .int .i64 a] w fun e w' => e = .returned (.int .i64 e0) ∧ w' = w) :
    Calls Tryz.prog 195 #[.pointer q, .int .i64 a] w fun e w' => e = .returned (.tuple #[.int .u64 0, .int .i64 e0]) ∧ w' = w := by
  have HF : Hid (Calls Tryz.prog 140 #[.pointer q, .int .i64 a] w fun e w' => e = .returned (.int .i64 e0) ∧ w' = w) := h
  clear h
  go_enter Tryz.func195, Tryz.ntmps195
  go_wp2_with (go_at_call 140; refine HF.out.mono ?_; rintro e w' ⟨rfl, hw'⟩; rw [hw']; clear hw' w')
  go_ret2
  exact ⟨rfl, rfl⟩

set_option maxHeartbeats 400000 in
theorem store_in {w : World} {p b : Nat} {xs : List Int} {d l : Int} (h : IsMem 124 w p b xs d l) (i : Nat) (v : Int) (hi : i < xs.length) (hd0 : 0 ≤ d) (hd : d ≤ 4611686018427387904) (hl0 : 0 ≤ l) (hl : l ≤ 4611686018427387904) :
    Calls Tryz.prog 100 #[.pointer (some ⟨p, 0, none⟩), .int .i64 i, .int .u64 v] w fun e w' => e = .returned (.int .i64 0) ∧ w' = laidW w p b i v d l := by
  have HF : Hid (Calls Tryz.prog 140 #[.pointer (some ⟨p, 0, none⟩), .int .i64 i] w fun e w' => e = .returned (.int .i64 0) ∧ w' = w) := fault_yes h i (inB_yes.2 (by omega))
  have HL : Hid (Calls Tryz.prog 141 #[.pointer (some ⟨p, 0, none⟩), .int .i64 i, .int .u64 v] w fun e w' => e = .returned (.tuple #[]) ∧ w' = laidW w p b i v d l) := lay_at h i v hi hd0 hd hl0 hl
  clear h
  go_enter Tryz.func100, Tryz.ntmps100
  go_wp2_with (first
    | (go_at_call 140; refine HF.out.mono ?_; rintro e w' ⟨rfl, hw'⟩; rw [hw']; clear hw' w')
    | (go_at_call 141; refine HL.out.mono ?_; rintro e w' ⟨rfl, hw'⟩; rw [hw']; clear hw' w'))
  go_ret
  exact ⟨rfl, rfl⟩

set_option maxHeartbeats 400000 in
theorem store_out {w : World} {q : Option Addr} {a e0 v : Int} (he : e0 ≠ 0) (h : Calls Tryz.prog 140 #[.pointer q, .int .i64 a] w fun e w' => e = .returned (.int .i64 e0) ∧ w' = w) :
    Calls Tryz.prog 100 #[.pointer q, .int .i64 a, .int .u64 v] w fun e w' => e = .returned (.int .i64 e0) ∧ w' = w := by
  have HF : Hid (Calls Tryz.prog 140 #[.pointer q, .int .i64 a] w fun e w' => e = .returned (.int .i64 e0) ∧ w' = w) := h
  clear h
  go_enter Tryz.func100, Tryz.ntmps100
  go_wp2_with (go_at_call 140; refine HF.out.mono ?_; rintro e w' ⟨rfl, hw'⟩; rw [hw']; clear hw' w')
  go_ret
  exact ⟨rfl, rfl⟩

set_option maxHeartbeats 400000 in
theorem cas_yes {w : World} {p b : Nat} {xs : List Int} {d l : Int} (h : IsMem 124 w p b xs d l) (i : Nat) (old v : Int) (hi : i < xs.length) (hx : xs.getD i 0 = old) (hd0 : 0 ≤ d) (hd : d ≤ 4611686018427387904) (hl0 : 0 ≤ l) (hl : l ≤ 4611686018427387904) :
    Calls Tryz.prog 196 #[.pointer (some ⟨p, 0, none⟩), .int .i64 i, .int .u64 old, .int .u64 v] w fun e w' => e = .returned (.tuple #[.bool true, .int .i64 0]) ∧ w' = laidW w p b i v d l := by
  obtain ⟨c0, c1, c2⟩ := h.cells
  have cb := h.row.cell i hi
  have HF : Hid (Calls Tryz.prog 140 #[.pointer (some ⟨p, 0, none⟩), .int .i64 i] w fun e w' => e = .returned (.int .i64 0) ∧ w' = w) := fault_yes h i (inB_yes.2 (by omega))
  have HL : Hid (Calls Tryz.prog 141 #[.pointer (some ⟨p, 0, none⟩), .int .i64 i, .int .u64 v] w fun e w' => e = .returned (.tuple #[]) ∧ w' = laidW w p b i v d l) := lay_at h i v hi hd0 hd hl0 hl
  have ht := h.top
  rw [hx] at cb
  generalize xs.length = n at *
  clear h hx
  go_enter Tryz.func196, Tryz.ntmps196
  go_wp2_with (first
    | (go_at_call 140; refine HF.out.mono ?_; rintro e w' ⟨rfl, hw'⟩; rw [hw']; clear hw' w')
    | (go_at_call 141; refine HL.out.mono ?_; rintro e w' ⟨rfl, hw'⟩; rw [hw']; clear hw' w'))
  go_ret2
  exact ⟨rfl, rfl⟩

set_option maxHeartbeats 400000 in
theorem cas_not {w : World} {p b : Nat} {xs : List Int} {d l : Int} (h : IsMem 124 w p b xs d l) (i : Nat) (old v : Int) (hi : i < xs.length) (hx : xs.getD i 0 ≠ old) (hd0 : 0 ≤ d) (hd : d ≤ 4611686018427387904) :
    Calls Tryz.prog 196 #[.pointer (some ⟨p, 0, none⟩), .int .i64 i, .int .u64 old, .int .u64 v] w fun e w' => e = .returned (.tuple #[.bool false, .int .i64 0]) ∧ w' = w.setCell ⟨p, 1, none⟩ (.int .i64 (d + 1)) := by
  obtain ⟨c0, c1, c2⟩ := h.cells
  have f1 := h.free 1
  have cb := h.row.cell i hi
  have hne := h.ne
  have hne' : b ≠ p := fun e => h.ne e.symm
  have HF : Hid (Calls Tryz.prog 140 #[.pointer (some ⟨p, 0, none⟩), .int .i64 i] w fun e w' => e = .returned (.int .i64 0) ∧ w' = w) := fault_yes h i (inB_yes.2 (by omega))
  have ht := h.top
  generalize xs.getD i 0 = x at *
  generalize xs.length = n at *
  clear h
  go_enter Tryz.func196, Tryz.ntmps196
  go_wp2_with (go_at_call 140; refine HF.out.mono ?_; rintro e w' ⟨rfl, hw'⟩; rw [hw']; clear hw' w')
  go_ret2
  exact ⟨rfl, rfl⟩

set_option maxHeartbeats 400000 in
theorem cas_out {w : World} {q : Option Addr} {a e0 o v : Int} (he : e0 ≠ 0) (h : Calls Tryz.prog 140 #[.pointer q, .int .i64 a] w fun e w' => e = .returned (.int .i64 e0) ∧ w' = w) :
    Calls Tryz.prog 196 #[.pointer q, .int .i64 a, .int .u64 o, .int .u64 v] w fun e w' => e = .returned (.tuple #[.bool false, .int .i64 e0]) ∧ w' = w := by
  have HF : Hid (Calls Tryz.prog 140 #[.pointer q, .int .i64 a] w fun e w' => e = .returned (.int .i64 e0) ∧ w' = w) := h
  clear h
  go_enter Tryz.func196, Tryz.ntmps196
  go_wp2_with (go_at_call 140; refine HF.out.mono ?_; rintro e w' ⟨rfl, hw'⟩; rw [hw']; clear hw' w')
  go_ret2
  exact ⟨rfl, rfl⟩

set_option maxHeartbeats 400000 in
theorem add_in {w : World} {p b : Nat} {xs : List Int} {d l : Int} (h : IsMem 124 w p b xs d l) (i : Nat) (v : Int) (hi : i < xs.length) (hd0 : 0 ≤ d) (hd : d ≤ 4611686018427387904) (hl0 : 0 ≤ l) (hl : l ≤ 4611686018427387904) :
    Calls Tryz.prog 197 #[.pointer (some ⟨p, 0, none⟩), .int .i64 i, .int .u64 v] w fun e w' => e = .returned (.tuple #[.int .u64 (xs.getD i 0), .int .i64 0]) ∧ w' = laidW w p b i (add64 (xs.getD i 0) v) d l := by
  obtain ⟨c0, c1, c2⟩ := h.cells
  have cb := h.row.cell i hi
  have HF : Hid (Calls Tryz.prog 140 #[.pointer (some ⟨p, 0, none⟩), .int .i64 i] w fun e w' => e = .returned (.int .i64 0) ∧ w' = w) := fault_yes h i (inB_yes.2 (by omega))
  have HL : Hid (∀ u, Calls Tryz.prog 141 #[.pointer (some ⟨p, 0, none⟩), .int .i64 i, .int .u64 u] w fun e w' => e = .returned (.tuple #[]) ∧ w' = laidW w p b i u d l) := fun u => lay_at h i u hi hd0 hd hl0 hl
  have ht := h.top
  generalize xs.getD i 0 = x at *
  generalize xs.length = n at *
  clear h
  go_enter Tryz.func197, Tryz.ntmps197
  go_wp2_with (first
    | (go_at_call 140; refine HF.out.mono ?_; rintro e w' ⟨rfl, hw'⟩; rw [hw']; clear hw' w')
    | (go_at_call 141; refine (HL.out _).mono ?_; rintro e w' ⟨rfl, hw'⟩; rw [hw']; clear hw' w'))
  go_ret2
  exact ⟨rfl, rfl⟩

set_option maxHeartbeats 400000 in
theorem add_out {w : World} {q : Option Addr} {a e0 v : Int} (he : e0 ≠ 0) (h : Calls Tryz.prog 140 #[.pointer q, .int .i64 a] w fun e w' => e = .returned (.int .i64 e0) ∧ w' = w) :
    Calls Tryz.prog 197 #[.pointer q, .int .i64 a, .int .u64 v] w fun e w' => e = .returned (.tuple #[.int .u64 0, .int .i64 e0]) ∧ w' = w := by
  have HF : Hid (Calls Tryz.prog 140 #[.pointer q, .int .i64 a] w fun e w' => e = .returned (.int .i64 e0) ∧ w' = w) := h
  clear h
  go_enter Tryz.func197, Tryz.ntmps197
  go_wp2_with (go_at_call 140; refine HF.out.mono ?_; rintro e w' ⟨rfl, hw'⟩; rw [hw']; clear hw' w')
  go_ret2
  exact ⟨rfl, rfl⟩

end Go.Proofs.YtpfmmlbakbhklaaGreatDoor
