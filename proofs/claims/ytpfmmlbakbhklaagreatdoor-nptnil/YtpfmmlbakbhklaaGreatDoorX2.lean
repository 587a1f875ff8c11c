/- Words and frames as they lie in memory (a memory and a pool behind pointers), and tables (a struct behind a pointer): what stays when a word is laid or a frame is turned. Of no function; no conditions. -/
import Derived.Test.YtpfmmlbakbhklaaGreatDoorZ1
import Derived.Test.YtpfmmlbakbhklaaGreatDoorX1
import Derived.Test.YtpfmmlbakbhklaaGreatDoorR1
import Derived.Test.YtpfmmlbakbhklaaGreatDoorS4
import Derived.Test.YtpfmmlbakbhklaaGreatDoorOS9
namespace Go.Proofs.YtpfmmlbakbhklaaGreatDoor
open Go.RowKit

/-- The blocks: a memory, its words, a pool, its frames. -/
structure Si where
  mp : Nat
  wb : Nat
  pp : Nat
  pb : Nat
/-- The words and frames s lie in the blocks u; k: no more calls of the memory have been counted. -/
structure Wg (tm tp td : TypeId) (u : Si) (w : World) (s : Sm) (k : Nat) : Prop where
  mem : ∃ d l, IsMem tm w u.mp u.wb s.xs d l ∧ 0 ≤ d ∧ d ≤ k ∧ 0 ≤ l ∧ l ≤ k
  pool : O.IsP tp td w u.pp u.pb s.ds
  tab : O.Tab w
  u64 : U64 s.xs
  low : 0 < u.mp ∧ 0 < u.wb ∧ 0 < u.pb ∧ 0 < u.pp
  ne : u.mp ≠ u.pp ∧ u.mp ≠ u.pb ∧ u.wb ≠ u.pp ∧ u.wb ≠ u.pb
abbrev Wo := Wg 124 129 64
abbrev Wr := Wg 87 90 91
/-- All is as it was but the memory, its words, and the frames. -/
structure Ch (u : Si) (w w' : World) : Prop where
  os : w'.os = w.os
  tape : w'.tape = w.tape
  output : w'.output = w.output
  size : w.heap.size ≤ w'.heap.size
  block : ∀ k, k < w.heap.size → k ≠ u.mp → k ≠ u.wb → k ≠ u.pb → w'.heap[k]? = w.heap[k]?
section
variable {u : Si} {w w' x y z : World}
theorem Ch.refl (u : Si) (w : World) : Ch u w w := ⟨rfl, rfl, rfl, Nat.le_refl _, fun _ _ _ _ _ => rfl⟩
theorem Ch.trans (h : Ch u x y) (k : Ch u y z) : Ch u x z :=
  ⟨k.os.trans h.os, k.tape.trans h.tape, k.output.trans h.output, Nat.le_trans h.size k.size, fun i hi a b c => (k.block i (Nat.lt_of_lt_of_le hi h.size) a b c).trans (h.block i hi a b c)⟩
theorem Ch.of_below (h : Below w.heap.size w w') : Ch u w w' := ⟨h.os, h.tape, h.output, h.size, fun k hk _ _ _ => h.block k hk⟩
theorem Ch.of_but (h : But u.mp u.wb w w') : Ch u w w' := ⟨h.os, h.tape, h.output, h.size, fun k hk a b _ => h.block k hk a b⟩
theorem Ch.of_bt (h : O.Bt u.pb w w') : Ch u w w' := ⟨h.os, h.tape, h.output, h.size, fun k hk _ _ c => h.block k hk c⟩
theorem Ch.below (h : Ch u w w') {B : Nat} (hB : B ≤ w.heap.size) (h1 : B ≤ u.mp) (h2 : B ≤ u.wb) (h3 : B ≤ u.pb) : Below B w w' :=
  ⟨h.os, h.tape, h.output, h.size, fun k hk => h.block k (by omega) (by omega) (by omega) (by omega)⟩
theorem Ch.kf (h : Ch u w w') {n : Nat} (h1 : u.mp < n) (h2 : u.wb < n) (h3 : u.pb < n) : Kf n w w' :=
  ⟨h.size, fun k a b => h.block k b (by omega) (by omega) (by omega)⟩
/-- From B on new blocks may be turned, too. -/
theorem Ch.setNew (h : Ch u w w') {p : Addr} (hp : w.heap.size ≤ p.block) (v : Value) : Ch u w (w'.setCell p v) :=
  ⟨h.os, h.tape, h.output, by simpa [World.setCell] using h.size, fun k hk a b c => (Below.heap_setCell w' p v k (by omega)).trans (h.block k hk a b c)⟩
theorem Ch.below2 (h : Ch u w x) (k : Below w.heap.size x y) : Ch u w y :=
  ⟨k.os.trans h.os, k.tape.trans h.tape, k.output.trans h.output, Nat.le_trans h.size k.size, fun i hi a b c => (k.block i hi).trans (h.block i hi a b c)⟩
theorem Ch.alloc (h : Ch u w w') (o : Obj) : Ch u w (w'.alloc o) := h.trans (.of_below (below_alloc w' o))
theorem Ch.drew (h : Ch u w w') : Ch u w w'.drew := h.trans (.of_below (Below.refl _ _).drew)
variable {tm tp td : TypeId} {s : Sm} {k : Nat}
theorem Wg.lt (h : Wg tm tp td u w s k) : (u.mp < w.heap.size ∧ u.wb < w.heap.size) ∧ u.pp < w.heap.size ∧ u.pb < w.heap.size := by
  obtain ⟨d, l, hm, -⟩ := h.mem
  exact ⟨hm.lt, h.pool.lt⟩
theorem Wg.below (h : Wg tm tp td u w s k) (b : Below w.heap.size w w') : Wg tm tp td u w' s k := by
  obtain ⟨d, l, hm, hd⟩ := h.mem
  exact ⟨⟨d, l, hm.below b, hd⟩, h.pool.below b, h.tab.go b, h.u64, h.low, h.ne⟩
theorem Wg.belowN (h : Wg tm tp td u w s k) {n : Nat} (b : Below n w w') (h1 : u.mp < n ∧ u.wb < n) (h2 : u.pp < n ∧ u.pb < n) : Wg tm tp td u w' s k := by
  obtain ⟨d, l, hm, hd⟩ := h.mem
  exact ⟨⟨d, l, hm.keep (b.block _ h1.1) (b.block _ h1.2), hd⟩, h.pool.keep (b.block _ h2.1) (b.block _ h2.2), h.tab.below b (by omega) b.size, h.u64, h.low, h.ne⟩
theorem Wg.mono (h : Wg tm tp td u w s k) {m : Nat} (hk : k ≤ m) : Wg tm tp td u w s m := by
  obtain ⟨d, l, hm, hd⟩ := h.mem
  exact ⟨⟨d, l, hm, by omega, by omega, by omega, by omega⟩, h.pool, h.tab, h.u64, h.low, h.ne⟩
theorem Wg.alloc (h : Wg tm tp td u w s k) (o : Obj) : Wg tm tp td u (w.alloc o) s k := h.below (below_alloc w o)
theorem Wg.drew (h : Wg tm tp td u w s k) : Wg tm tp td u w.drew s k := h.below (Below.refl _ _).drew
theorem U64.setW {xs : List Int} (h : U64 xs) (a : Int) {v : Int} (h0 : 0 ≤ v) (h1 : v < 18446744073709551616) : U64 (setW xs a v) := fun i => by
  unfold Go.Proofs.YtpfmmlbakbhklaaGreatDoor.setW
  split
  · by_cases e : a.toNat = i
    · subst e
      rw [List.getD_eq_getElem?_getD, List.getElem?_set]
      split
      · split
        · exact ⟨h0, h1⟩
        · exact ⟨by decide, by decide⟩
      · omega
    · rw [List.getD_eq_getElem?_getD, List.getElem?_set_ne e, ← List.getD_eq_getElem?_getD]
      exact h i
  · exact h i
/-- A word is laid. -/
theorem Wg.store (h : Wg tm tp td u w s k) {d l : Int} (hd : 0 ≤ d ∧ d ≤ k ∧ 0 ≤ l ∧ l ≤ k) {a v : Int} (hv : 0 ≤ v ∧ v < 18446744073709551616) (hM : Mem tm w' u.mp u.wb (storeT ⟨s.xs, d, l⟩ a v)) (hB : But u.mp u.wb w w') :
    Wg tm tp td u w' ⟨setW s.xs a v, s.ds⟩ (k + 1) := by
  have e : (storeT ⟨s.xs, d, l⟩ a v).xs = setW s.xs a v := storeT_xs _ _ _
  have hM' : IsMem tm w' u.mp u.wb (setW s.xs a v) (storeT ⟨s.xs, d, l⟩ a v).d (storeT ⟨s.xs, d, l⟩ a v).l := by rw [← e]; exact hM
  refine ⟨⟨_, _, hM', ?_⟩, h.pool.keep (hB.block _ h.lt.2.1 h.ne.1.symm h.ne.2.2.1.symm) (hB.block _ h.lt.2.2 h.ne.2.1.symm h.ne.2.2.2.symm), ?_, h.u64.setW a hv.1 hv.2, h.low, h.ne⟩
  · unfold storeT
    split
    · simp only; omega
    · simp only; omega
  · exact h.tab.below (hB.below (B := 1) (by have := h.tab.pos; omega) h.low.1 h.low.2.1) (by omega) hB.size
/-- A frame is turned. -/
theorem Wg.turn (h : Wg tm tp td u w s k) {ds : List O.Ds} (hP : O.IsP tp td w' u.pp u.pb ds) (hB : O.Bt u.pb w w') : Wg tm tp td u w' ⟨s.xs, ds⟩ k := by
  obtain ⟨d, l, hm, hd⟩ := h.mem
  exact ⟨⟨d, l, hm.keep (hB.block _ h.lt.1.1 h.ne.2.1) (hB.block _ h.lt.1.2 h.ne.2.2.2), hd⟩, hP, hB.tab h.tab h.low.2.2.1, h.u64, h.low, h.ne⟩
end

/-- The program's tables lie in block t. -/
def IsT (u : Si) (w : World) (t : Nat) (st o root : Int) : Prop :=
  w.heap[t]? = some (.cells #[.int .i64 st, .pointer (some ⟨u.mp, 0, none⟩), .pointer (some ⟨u.pp, 0, none⟩), .int .i64 o, .int .i64 root] 70 (0, 0))
section
variable {u : Si} {w w' : World} {t : Nat} {st o root : Int} {s : Sm} {k : Nat}
theorem IsT.lt (h : IsT u w t st o root) : t < w.heap.size := lt_of_block h
theorem IsT.below (h : IsT u w t st o root) (b : Below w.heap.size w w') : IsT u w' t st o root := (b.block _ h.lt).trans h
theorem IsT.cells (h : IsT u w t st o root) : w.cell? ⟨t, 0, none⟩ = some (.int .i64 st) ∧ w.cell? ⟨t, 1, none⟩ = some (.pointer (some ⟨u.mp, 0, none⟩)) ∧ w.cell? ⟨t, 2, none⟩ = some (.pointer (some ⟨u.pp, 0, none⟩)) ∧ w.cell? ⟨t, 3, none⟩ = some (.int .i64 o) ∧ w.cell? ⟨t, 4, none⟩ = some (.int .i64 root) :=
  ⟨P.cell_of h rfl, P.cell_of h rfl, P.cell_of h rfl, P.cell_of h rfl, P.cell_of h rfl⟩
/-- A block of another type is none of those that are turned. -/
theorem Wg.apart (h : Wo u w s k) {q : Nat} {c : Array Value} {T : TypeId} (hq : w.heap[q]? = some (.cells c T (0, 0))) (h1 : T ≠ 124) (h2 : T ≠ 67) (h3 : T ≠ 64) : q ≠ u.mp ∧ q ≠ u.wb ∧ q ≠ u.pb := by
  obtain ⟨d, l, hm, -⟩ := h.mem
  refine ⟨fun e => ?_, fun e => ?_, fun e => ?_⟩
  · rw [e, hm.head] at hq; injection hq with hq; injection hq with _ hq _; exact h1 hq.symm
  · rw [e] at hq; rw [show w.heap[u.wb]? = _ from hm.row] at hq; injection hq with hq; injection hq with _ hq _; exact h2 hq.symm
  · obtain ⟨r, hr⟩ := h.pool.row
    rw [e, hr] at hq; injection hq with hq; injection hq with _ hq _; exact h3 hq.symm
theorem Wg.keep (h : Wo u w s k) (hC : Ch u w w') {q : Nat} {c : Array Value} {T : TypeId} (hq : w.heap[q]? = some (.cells c T (0, 0))) (h1 : T ≠ 124) (h2 : T ≠ 67) (h3 : T ≠ 64) : w'.heap[q]? = some (.cells c T (0, 0)) := by
  obtain ⟨a, b, c⟩ := h.apart hq h1 h2 h3
  exact (hC.block q (lt_of_block hq) a b c).trans hq
theorem IsT.ch (h : IsT u w t st o root) (hW : Wo u w s k) (hC : Ch u w w') : IsT u w' t st o root := hW.keep hC h (by decide) (by decide) (by decide)
end
theorem pk_lt (e : P.En) : 0 ≤ P.pk e ∧ P.pk e < 18446744073709551616 := by
  unfold P.pk
  split
  · rename_i h
    have := P.rt_in h
    unfold P.wd P.bI
    split <;> split <;> omega
  · exact ⟨by decide, by decide⟩
end Go.Proofs.YtpfmmlbakbhklaaGreatDoor
