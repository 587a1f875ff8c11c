/- One who pushes, or pops, alone, at a ring that nobody else is at: what it tells and leaves. Of no function; conditions: the counts are far below 2^62. -/
import Derived.Test.YtfnfbceblpaggaaQ1
namespace Go.Proofs.Ytfnfbceblpaggaa
open Go.RowKit

theorem mod_near {n p q : Nat} (h : p % n = q % n) (h1 : p < q + n) (h2 : q < p + n) : p = q := by
  have a := Nat.div_add_mod p n
  have b := Nat.div_add_mod q n
  have c : p / n = q / n := by
    have h0 : 0 < n := by omega
    refine Nat.le_antisymm ?_ ?_
    · refine Nat.le_of_lt_succ (Nat.lt_of_mul_lt_mul_left (a := n) ?_)
      rw [Nat.mul_succ]; omega
    · refine Nat.le_of_lt_succ (Nat.lt_of_mul_lt_mul_left (a := n) ?_)
      rw [Nat.mul_succ]; omega
  rw [c, h] at a
  omega

/-- A ring that nobody is at: what is in it (the positions o to i) is whole, the others are free. -/
structure Qt (n : Nat) (r : Rg) (f : Nat → Int) : Prop where
  le : r.o ≤ r.i
  room : r.i ≤ r.o + n
  full : ∀ p, r.o ≤ p → p < r.i → r.T (p % n) = p + 1 ∧ r.V (p % n) = f p
  free : ∀ p, r.i ≤ p → p < r.o + n → r.T (p % n) = p
abbrev ap0 : Ap := ⟨0, 0, 0, false⟩

theorem qt_push {n : Nat} {r : Rg} {f : Nat → Int} (h : Qt n r f) (v : Int) (hr : r.i < r.o + n) :
    (arun n (some v) 10 r ap0).2 = ⟨5, r.i, 0, true⟩ ∧ (arun n (some v) 10 r ap0).1 = ⟨r.i + 1, r.o, upd r.T (r.i % n) (r.i + 1 : Nat), upd r.V (r.i % n) v⟩ := by
  have ht := h.free r.i (Nat.le_refl _) hr
  simp [arun, aX, aR, cN, cS, opN, lfN, mvV, mvR, ht]
theorem Qt.push {n : Nat} {r : Rg} {f : Nat → Int} (h : Qt n r f) (v : Int) (hr : r.i < r.o + n) :
    Qt n ⟨r.i + 1, r.o, upd r.T (r.i % n) (r.i + 1 : Nat), upd r.V (r.i % n) v⟩ (upd f r.i v) := by
  have hle := h.le
  refine ⟨by simp only []; omega, by simp only []; omega, fun p h1 h2 => ?_, fun p h1 h2 => ?_⟩
  · simp only [] at h1 h2
    simp only [upd]
    by_cases e : p = r.i
    · subst e; simp
    · have : p % n ≠ r.i % n := fun x => e (mod_near x (by omega) (by omega))
      rw [if_neg this, if_neg this, if_neg e]
      exact h.full p h1 (by omega)
  · simp only [] at h1 h2
    have : p % n ≠ r.i % n := fun x => by have := mod_near x (by omega) (by omega); omega
    simp only [upd, if_neg this]
    exact h.free p (by omega) h2
theorem qt_full {n : Nat} {r : Rg} {f : Nat → Int} (hn : 2 ≤ n) (h : Qt n r f) (v : Int) (hr : r.i = r.o + n) :
    (arun n (some v) 10 r ap0).2 = ⟨5, r.i, 0, false⟩ ∧ (arun n (some v) 10 r ap0).1 = r := by
  have ht := (h.full r.o (Nat.le_refl _) (by omega)).1
  have e : r.i % n = r.o % n := by rw [hr]; simp
  rw [← e] at ht
  have q1 : ¬ ((r.o : Int) + 1 = r.i) := by omega
  have q2 : (r.o : Int) + 1 < r.i := by omega
  simp [arun, aX, aR, cN, opN, ht, q1, q2]
theorem qt_pop {n : Nat} {r : Rg} {f : Nat → Int} (h : Qt n r f) (hr : r.o < r.i) :
    (arun n none 10 r ap0).2 = ⟨5, r.o, f r.o, true⟩ ∧ (arun n none 10 r ap0).1 = ⟨r.i, r.o + 1, upd r.T (r.o % n) (r.o + n : Nat), r.V⟩ := by
  obtain ⟨ht, hv⟩ := h.full r.o (Nat.le_refl _) hr
  simp [arun, aX, aR, cN, cS, opN, lfN, mvV, mvR, ht, hv]
theorem Qt.pop {n : Nat} {r : Rg} {f : Nat → Int} (h : Qt n r f) (hr : r.o < r.i) :
    Qt n ⟨r.i, r.o + 1, upd r.T (r.o % n) (r.o + n : Nat), r.V⟩ f := by
  have hle := h.room
  refine ⟨by simp only []; omega, by simp only []; omega, fun p h1 h2 => ?_, fun p h1 h2 => ?_⟩
  · simp only [] at h1 h2
    have : p % n ≠ r.o % n := fun x => by have := mod_near x (by omega) (by omega); omega
    simp only [upd, if_neg this]
    exact h.full p (by omega) h2
  · simp only [] at h1 h2
    simp only [upd]
    by_cases e : p = r.o + n
    · subst e; simp
    · have : p % n ≠ r.o % n := fun x => by have := mod_near x (by omega) (by omega); omega
      rw [if_neg this]
      exact h.free p h1 (by omega)
theorem qt_none {n : Nat} {r : Rg} {f : Nat → Int} (hn : 2 ≤ n) (h : Qt n r f) (hr : r.o = r.i) :
    (arun n none 10 r ap0).2 = ⟨5, r.o, 0, false⟩ ∧ (arun n none 10 r ap0).1 = r := by
  have ht := h.free r.i (Nat.le_refl _) (by omega)
  rw [← hr] at ht
  have q1 : ¬ ((r.o : Int) = r.o + 1) := by omega
  have q2 : (r.o : Int) < r.o + 1 := by omega
  simp [arun, aX, aR, cN, opN, ht, q1, q2]
end Go.Proofs.Ytfnfbceblpaggaa
