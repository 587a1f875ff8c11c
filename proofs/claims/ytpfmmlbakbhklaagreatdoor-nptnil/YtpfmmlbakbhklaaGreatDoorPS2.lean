/- What Table and Allows return, the program's and the document's, and 'plain', for every entry; the world's old blocks are as they were. Condition: a number that is wanted is one of 64 bits. -/
import Derived.Test.YtpfmmlbakbhklaaGreatDoorPS1
namespace Go.Proofs.YtpfmmlbakbhklaaGreatDoor.P
open Go.RowKit

/-- An entry leads to a table. -/
def tb (e : En) : Bool := rt e && e.p && e.r == 0
/-- What an entry allows, as the program says it, and as the document does. -/
def alP (e : En) (n : Int) : Bool := rt e && decide (0 < e.r) && bits .andNot .i64 n e.r == 0
def al (e : En) (n : Int) : Bool := rt e && e.p && decide (0 < e.r) && btw n 0 7 && bits .and .i64 e.r n == n

theorem bl_at {fn : FuncId} {args : Array Value} {w : World} {b c : Bool} (h : Calls Tryz.prog fn args w fun v w' => v = .returned (.bool b) ∧ Below w.heap.size w w') (hb : b = c) :
    Calls Tryz.prog fn args w fun v w' => v = .returned (.bool c) ∧ Below w.heap.size w w' := by
  subst hb; exact h
theorem rt_p {p : Bool} {r f : Int} {l : Bool} (h : rt ⟨p, r, l, f⟩ = true) (hr : decide (0 < r) = true) : p = true := by
  cases p
  · simp [rt] at h hr; omega
  · rfl
theorem rt_l {r f : Int} (hr : (r == 0) = true) : rt ⟨true, r, true, f⟩ = false := by
  simp at hr
  subst hr
  simp [rt]
theorem rt_7 {p : Bool} {r f : Int} {l : Bool} (h : rt ⟨p, r, l, f⟩ = true) : 0 ≤ r ∧ r ≤ 7 := by
  cases p
  · simp [rt] at h; omega
  · simp [rt] at h; exact btw_yes.1 h.1.1

/-- No bit but r's, of a number of 64 bits: it is 0 to 7, and all its bits are r's. -/
theorem sub_fin : ∀ r : Fin 8, ∀ n : Fin 8, ((bits .andNot .i64 ((n : Nat) : Int) ((r : Nat) : Int) == 0) = (bits .and .i64 ((r : Nat) : Int) ((n : Nat) : Int) == ((n : Nat) : Int))) := by decide +kernel
theorem sub_high {r n : Int} (h0 : 0 ≤ r) (h7 : r ≤ 7) (l1 : -9223372036854775808 ≤ n) (l2 : n ≤ 9223372036854775807) (h : bits .andNot .i64 n r = 0) : 0 ≤ n ∧ n ≤ 7 := by
  have h1 : IntKind.i64.wrap ((BitVec.ofInt 64 n &&& ~~~ BitVec.ofInt 64 r).toNat : Nat) = 0 := h
  rw [IntKind.wrap_i64] at h1
  have hlt := (BitVec.ofInt 64 n &&& ~~~ BitVec.ofInt 64 r).isLt
  have h2 : (BitVec.ofInt 64 n &&& ~~~ BitVec.ofInt 64 r).toNat = 0 := by omega
  have h3 : BitVec.ofInt 64 n &&& ~~~ BitVec.ofInt 64 r = 0#64 := BitVec.eq_of_toNat_eq (by simpa using h2)
  have h4 : BitVec.ofInt 64 n &&& BitVec.ofInt 64 r = BitVec.ofInt 64 n := by
    ext i hi
    have := congrArg (fun x => x.getLsbD i) h3
    simp [hi] at this ⊢
    exact this
  have h5 : (BitVec.ofInt 64 n).toNat ≤ (BitVec.ofInt 64 r).toNat := by
    have := congrArg BitVec.toNat h4
    rw [BitVec.toNat_and] at this
    rw [← this]
    exact Nat.and_le_right
  rw [BitVec.toNat_ofInt, BitVec.toNat_ofInt] at h5
  omega
theorem sub_eq {r n : Int} (h0 : 0 ≤ r) (h7 : r ≤ 7) (l1 : -9223372036854775808 ≤ n) (l2 : n ≤ 9223372036854775807) :
    (bits .andNot .i64 n r == 0) = (btw n 0 7 && bits .and .i64 r n == n) := by
  cases hb : btw n 0 7
  · rw [Bool.false_and, beq_eq_false_iff_ne]
    intro h
    exact (btw_no.1 hb) (sub_high h0 h7 l1 l2 h)
  · obtain ⟨g1, g2⟩ := btw_yes.1 hb
    rw [Bool.true_and]
    have := sub_fin ⟨r.toNat, by omega⟩ ⟨n.toNat, by omega⟩
    simp only [Int.toNat_of_nonneg h0, Int.toNat_of_nonneg g1] at this
    exact this
theorem al_eq (e : En) {n : Int} (l1 : -9223372036854775808 ≤ n) (l2 : n ≤ 9223372036854775807) : alP e n = al e n := by
  obtain ⟨p, r, l, f⟩ := e
  unfold alP al
  cases h1 : rt ⟨p, r, l, f⟩
  · simp
  · cases h2 : decide (0 < r)
    · simp
    · rw [rt_p h1 h2]
      obtain ⟨h0, h7⟩ := rt_7 h1
      simp only [Bool.true_and]
      exact sub_eq h0 h7 l1 l2

set_option maxRecDepth 100000 in
set_option maxHeartbeats 400000 in
theorem table_any (p : Bool) (r : Int) (l : Bool) (f : Int) (w : World) (b : Bool) (hb : rt ⟨p, r, l, f⟩ = b) (c : Bool) (hc : (r == 0) = c) :
    Calls Tryz.prog 120 #[.agg #[.bool p, .int .i64 r, .bool l, .int .i64 f]] w fun v w' => v = .returned (.bool (b && p && c)) ∧ Below w.heap.size w w' := by
  have ef : (f == f) = true := by simp
  cases p
  · rw [Bool.and_false, Bool.false_and]
    clear hb
    go_enter Tryz.func120, Tryz.ntmps120
    go_wp2
    go_ret
    exact ⟨rfl, below_one _ _⟩
  · rw [Bool.and_true]
    cases c
    · rw [Bool.and_false]
      clear hb
      go_enter Tryz.func120, Tryz.ntmps120
      go_wp2
      go_ret
      exact ⟨rfl, below_one _ _⟩
    · rw [Bool.and_true]
      cases l
      · have U1 := hid hb
        clear hb
        go_enter Tryz.func120, Tryz.ntmps120
        go_wp2_with fail
        refine (bl_at (right_at ⟨true, r, false, f⟩ _) U1.out).mono ?_
        rintro v w1 ⟨rfl, hB⟩
        have a0 := stay hB (heap_alloc_new _ _)
        have HB := hid (bgo (below_one w _) hB)
        have l0 := lt_of_block a0
        obtain ⟨p00, p01, p02, p03, -, -, -, -⟩ := four a0
        clear hB a0
        (try simp only [])
        go_wp2
        go_ret
        exact ⟨rfl, HB.out⟩
      · have hb' := (rt_l (f := f) hc).symm.trans hb
        subst hb'
        clear hb
        go_enter Tryz.func120, Tryz.ntmps120
        go_wp2
        go_ret
        exact ⟨rfl, below_one _ _⟩

theorem table_at (e : En) (w : World) : Calls Tryz.prog 120 #[eV e] w fun v w' => v = .returned (.bool (tb e)) ∧ Below w.heap.size w w' :=
  table_any e.p e.r e.l e.f w _ rfl _ rfl

set_option maxRecDepth 100000 in
set_option maxHeartbeats 400000 in
theorem rtable_any (p : Bool) (r : Int) (l : Bool) (f : Int) (w : World) (b : Bool) (hb : rt ⟨p, r, l, f⟩ = b) (c : Bool) (hc : (r == 0) = c) :
    Calls Tryz.prog 94 #[.agg #[.bool p, .int .i64 r, .bool l, .int .i64 f]] w fun v w' => v = .returned (.bool (b && p && c)) ∧ Below w.heap.size w w' := by
  have U1 := hid hb
  clear hb
  cases b
  · rw [Bool.false_and, Bool.false_and]
    clear hc
    go_enter Tryz.func94, Tryz.ntmps94
    go_wp2_with fail
    refine (bl_at (rright_at ⟨p, r, l, f⟩ _) U1.out).mono ?_
    rintro v w1 ⟨rfl, hB⟩
    have a0 := stay hB (heap_alloc_new _ _)
    have HB := hid (bgo (below_one w _) hB)
    have l0 := lt_of_block a0
    obtain ⟨p00, p01, p02, p03, -, -, -, -⟩ := four a0
    clear hB a0
    (try simp only [])
    go_wp2
    go_ret
    exact ⟨rfl, HB.out⟩
  · rw [Bool.true_and]
    cases p
    · rw [Bool.false_and]
      clear hc
      go_enter Tryz.func94, Tryz.ntmps94
      go_wp2_with fail
      refine (bl_at (rright_at ⟨false, r, l, f⟩ _) U1.out).mono ?_
      rintro v w1 ⟨rfl, hB⟩
      have a0 := stay hB (heap_alloc_new _ _)
      have HB := hid (bgo (below_one w _) hB)
      have l0 := lt_of_block a0
      obtain ⟨p00, p01, p02, p03, -, -, -, -⟩ := four a0
      clear hB a0
      (try simp only [])
      go_wp2
      go_ret
      exact ⟨rfl, HB.out⟩
    · rw [Bool.true_and]
      go_enter Tryz.func94, Tryz.ntmps94
      go_wp2_with fail
      refine (bl_at (rright_at ⟨true, r, l, f⟩ _) U1.out).mono ?_
      rintro v w1 ⟨rfl, hB⟩
      have a0 := stay hB (heap_alloc_new _ _)
      have HB := hid (bgo (below_one w _) hB)
      have l0 := lt_of_block a0
      obtain ⟨p00, p01, p02, p03, -, -, -, -⟩ := four a0
      clear hB a0
      (try simp only [])
      go_wp2
      go_ret
      exact ⟨rfl, HB.out⟩

theorem rtable_at (e : En) (w : World) : Calls Tryz.prog 94 #[eV e] w fun v w' => v = .returned (.bool (tb e)) ∧ Below w.heap.size w w' :=
  rtable_any e.p e.r e.l e.f w _ rfl _ rfl

set_option maxRecDepth 100000 in
set_option maxHeartbeats 400000 in
theorem allows_any (p : Bool) (r : Int) (l : Bool) (f n : Int) (w : World) (b : Bool) (hb : rt ⟨p, r, l, f⟩ = b) (c : Bool) (hc : decide (0 < r) = c) (d : Bool) (hd : (bits .andNot .i64 n r == 0) = d) :
    Calls Tryz.prog 201 #[.agg #[.bool p, .int .i64 r, .bool l, .int .i64 f], .int .i64 n] w fun v w' => v = .returned (.bool (b && c && d)) ∧ Below w.heap.size w w' := by
  have U1 := hid hb
  clear hb
  cases b
  · rw [Bool.false_and, Bool.false_and]
    clear hc hd
    go_enter Tryz.func201, Tryz.ntmps201
    go_wp2_with fail
    refine (bl_at (right_at ⟨p, r, l, f⟩ _) U1.out).mono ?_
    rintro v w1 ⟨rfl, hB⟩
    have a0 := stay hB (heap_alloc_new _ _)
    have HB := hid (bgo (below_one w _) hB)
    have l0 := lt_of_block a0
    obtain ⟨p00, p01, p02, p03, -, -, -, -⟩ := four a0
    clear hB a0
    (try simp only [])
    go_wp2
    go_ret
    exact ⟨rfl, HB.out⟩
  · rw [Bool.true_and]
    cases c
    · rw [Bool.false_and]
      clear hd
      go_enter Tryz.func201, Tryz.ntmps201
      go_wp2_with fail
      refine (bl_at (right_at ⟨p, r, l, f⟩ _) U1.out).mono ?_
      rintro v w1 ⟨rfl, hB⟩
      have a0 := stay hB (heap_alloc_new _ _)
      have HB := hid (bgo (below_one w _) hB)
      have l0 := lt_of_block a0
      obtain ⟨p00, p01, p02, p03, -, -, -, -⟩ := four a0
      clear hB a0
      (try simp only [])
      go_wp2
      go_ret
      exact ⟨rfl, HB.out⟩
    · rw [Bool.true_and]
      go_enter Tryz.func201, Tryz.ntmps201
      go_wp2_with fail
      refine (bl_at (right_at ⟨p, r, l, f⟩ _) U1.out).mono ?_
      rintro v w1 ⟨rfl, hB⟩
      have a0 := stay hB (heap_alloc_new _ _)
      have HB := hid (bgo (below_one w _) hB)
      have l0 := lt_of_block a0
      obtain ⟨p00, p01, p02, p03, -, -, -, -⟩ := four a0
      clear hB a0
      (try simp only [])
      go_wp2
      go_ret
      exact ⟨rfl, HB.out⟩

theorem allows_at (e : En) (n : Int) (l1 : -9223372036854775808 ≤ n) (l2 : n ≤ 9223372036854775807) (w : World) : Calls Tryz.prog 201 #[eV e, .int .i64 n] w fun v w' => v = .returned (.bool (al e n)) ∧ Below w.heap.size w w' := by
  rw [← al_eq e l1 l2]
  exact allows_any e.p e.r e.l e.f n w _ rfl _ rfl _ rfl

end Go.Proofs.YtpfmmlbakbhklaaGreatDoor.P
