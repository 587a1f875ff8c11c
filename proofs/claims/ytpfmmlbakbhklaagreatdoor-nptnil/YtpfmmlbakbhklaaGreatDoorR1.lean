/- What the document's answer for layer 2 returns and leaves: the same functions of the words and counts as package mem's. Conditions: the counts are below 2^62. -/
import Derived.Test.YtpfmmlbakbhklaaGreatDoorW4
namespace Go.Proofs.YtpfmmlbakbhklaaGreatDoor
open Go.RowKit

set_option maxHeartbeats 400000 in
theorem rnew_yes (n : Nat) (w : World) (h1 : 1 ≤ n) (h2 : n ≤ 65536) :
    Calls Tryz.prog 38 #[.int .i64 n] w fun e w' => e = .returned (.tuple #[.pointer (some ⟨w.heap.size + 1, 0, none⟩), .int .i64 0]) ∧ IsMem 87 w' (w.heap.size + 1) w.heap.size (List.replicate n 0) 0 0 ∧ Below w.heap.size w w' := by
  have hmk := run_make_row' (P := Tryz.prog) 60 67 (.int .u64 0) 8 Tryz.underlying60 info67 rfl .i64 .i64 n (by omega) (by omega)
  go_enter Tryz.func38, Tryz.ntmps38
  go_wp2
  go_ret2
  refine ⟨rfl, ⟨?_, ?_, by omega, by simpa using h1, by simpa using h2⟩, ((Below.refl _ _).alloc (Nat.le_refl _) _).alloc (by simp) _⟩
  · have := heap_alloc_new (w.alloc (.cells (madeCells #[(.int .u64 0 : Value)] n) 67)) (.cells #[.slice (some ⟨w.heap.size, 0, none⟩) n n, .int .i64 0, .int .i64 0] 87)
    simpa using this
  · unfold IsRow
    rw [Below.heap_alloc _ _ _ (by simp), heap_alloc_new, made_eq]

set_option maxHeartbeats 400000 in
theorem rnew_no (n : Int) (w : World) (h : n < 1 ∨ 65536 < n) :
    Calls Tryz.prog 38 #[.int .i64 n] w fun e w' => e = .returned (.tuple #[.pointer (some ⟨w.heap.size, 0, none⟩), .int .i64 1]) ∧ Below w.heap.size w w' := by
  by_cases h1 : n < 1
  · go_enter Tryz.func38, Tryz.ntmps38
    go_wp2
    go_ret2
    exact ⟨rfl, (Below.refl _ _).alloc (Nat.le_refl _) _⟩
  · have h2 : 65536 < n := by omega
    clear h
    go_enter Tryz.func38, Tryz.ntmps38
    go_wp2
    go_ret2
    exact ⟨rfl, (Below.refl _ _).alloc (Nat.le_refl _) _⟩

set_option maxHeartbeats 400000 in
theorem rthere_any {w : World} {p b : Nat} {xs : List Int} {d l : Int} (h : IsMem 87 w p b xs d l) (a : Int) :
    Calls Tryz.prog 114 #[.pointer (some ⟨p, 0, none⟩), .int .i64 a] w fun e w' => e = .returned (.bool (inB xs.length a)) ∧ w' = w := by
  have c0 := h.cells.1
  have ht := h.top
  generalize xs.length = n at *
  clear h
  by_cases h0 : 0 ≤ a
  · by_cases h1 : a < n
    · rw [inB_yes.2 ⟨h0, h1⟩]
      go_enter Tryz.func114, Tryz.ntmps114
      go_wp2
      go_ret
      exact ⟨rfl, rfl⟩
    · rw [inB_no.2 (by omega)]
      go_enter Tryz.func114, Tryz.ntmps114
      go_wp2
      go_ret
      exact ⟨rfl, rfl⟩
  · rw [inB_no.2 (by omega)]
    go_enter Tryz.func114, Tryz.ntmps114
    go_wp2
    go_ret
    exact ⟨rfl, rfl⟩

/-- A word is laid, the counts first. -/
def laidR (w : World) (p b i : Nat) (v d l : Int) : World := ((w.setCell ⟨p, 1, none⟩ (.int .i64 (d + 1))).setCell ⟨p, 2, none⟩ (.int .i64 (l + 1))).setCell ⟨b, i, none⟩ (.int .u64 v)
theorem IsMem.laidR {t : TypeId} {w : World} {p b : Nat} {xs : List Int} {d l : Int} (h : IsMem t w p b xs d l) (i : Nat) (v : Int) : IsMem t (laidR w p b i v d l) p b (xs.set i v) (d + 1) (l + 1) :=
  ((h.done (d + 1)).laid (l + 1)).word i v
theorem But.laidR (w : World) (p b i : Nat) (v d l : Int) : But p b w (laidR w p b i v d l) :=
  ((But.setCell p b w ⟨p, 1, none⟩ _ (Or.inl rfl)).trans (But.setCell p b _ ⟨p, 2, none⟩ _ (Or.inl rfl))).trans (But.setCell p b _ ⟨b, i, none⟩ _ (Or.inr rfl))

set_option maxHeartbeats 800000 in
theorem rstore_in {w : World} {p b : Nat} {xs : List Int} {d l : Int} (h : IsMem 87 w p b xs d l) (i : Nat) (v : Int) (hi : i < xs.length) (hd0 : 0 ≤ d) (hd : d ≤ 4611686018427387904) (hl0 : 0 ≤ l) (hl : l ≤ 4611686018427387904) :
    Calls Tryz.prog 79 #[.pointer (some ⟨p, 0, none⟩), .int .i64 i, .int .u64 v] w fun e w' => e = .returned (.int .i64 0) ∧ w' = laidR w p b i v d l := by
  obtain ⟨c0, c1, c2⟩ := h.cells
  have f1 := h.free 1
  have f2 := h.free 2
  have fb := h.row.free i
  have cb := h.row.cell i hi
  have hne := h.ne
  have hne' : b ≠ p := fun e => h.ne e.symm
  have ht := h.top
  have HF : Hid (Calls Tryz.prog 114 #[.pointer (some ⟨p, 0, none⟩), .int .i64 i] w fun e w' => e = .returned (.bool true) ∧ w' = w) := by
    have := rthere_any h (i : Int)
    rw [inB_yes.2 (by omega)] at this
    exact this
  generalize xs.getD i 0 = x at *
  generalize xs.length = n at *
  clear h
  go_enter Tryz.func79, Tryz.ntmps79
  go_wp2_with (go_at_call 114; refine HF.out.mono ?_; rintro e w' ⟨rfl, hw'⟩; rw [hw']; clear hw' w')
  go_ret
  exact ⟨rfl, rfl⟩

set_option maxHeartbeats 400000 in
theorem rstore_out {w : World} {p b : Nat} {xs : List Int} {d l : Int} (h : IsMem 87 w p b xs d l) (a v : Int) (ha : inB xs.length a = false) :
    Calls Tryz.prog 79 #[.pointer (some ⟨p, 0, none⟩), .int .i64 a, .int .u64 v] w fun e w' => e = .returned (.int .i64 2) ∧ w' = w := by
  have HF : Hid (Calls Tryz.prog 114 #[.pointer (some ⟨p, 0, none⟩), .int .i64 a] w fun e w' => e = .returned (.bool false) ∧ w' = w) := by
    have := rthere_any h a
    rw [ha] at this
    exact this
  clear h ha
  go_enter Tryz.func79, Tryz.ntmps79
  go_wp2_with (go_at_call 114; refine HF.out.mono ?_; rintro e w' ⟨rfl, hw'⟩; rw [hw']; clear hw' w')
  go_ret
  exact ⟨rfl, rfl⟩

theorem rstore_any {w : World} {p b : Nat} {s : St} {k : Nat} (h : Mem 87 w p b s) (c : Cnt s k) (hk : k ≤ bnd) (a v : Int) :
    Calls Tryz.prog 79 #[.pointer (some ⟨p, 0, none⟩), .int .i64 a, .int .u64 v] w fun e w' => e = .returned (.int .i64 (errV s a)) ∧ Turns 87 p b w w' (storeT s a v) := by
  unfold bnd at hk
  have := c.d1
  have := c.l1
  cases ha : there s a
  · refine (rstore_out h a v ha).mono ?_
    rintro e w' ⟨rfl, hw⟩
    rw [hw]
    simp only [errV, storeT, ha]
    exact ⟨rfl, h, But.refl _ _ _⟩
  · obtain ⟨i, rfl, hi⟩ := nat_of ha
    refine (rstore_in h i v hi c.d0 (by omega) c.l0 (by omega)).mono ?_
    rintro e w' ⟨rfl, hw⟩
    rw [hw]
    simp only [errV, storeT, ha]
    exact ⟨rfl, h.laidR i v, But.laidR _ _ _ _ _ _ _⟩

end Go.Proofs.YtpfmmlbakbhklaaGreatDoor
