/- The calls of package mem by states: what each returns and leaves is a function of the words and counts alone; two rows of the same words compare as the same. Conditions: the counts are below 2^62. -/
import Derived.Test.YtpfmmlbakbhklaaGreatDoorW3
namespace Go.Proofs.YtpfmmlbakbhklaaGreatDoor
open Go.RowKit

/-- A call that turns words p, b from s to s'. -/
abbrev Turns (t : TypeId) (p b : Nat) (w w' : World) (s' : St) : Prop := Mem t w' p b s' ∧ But p b w w'

theorem nat_of {a : Int} {n : Nat} (h : inB n a = true) : ∃ i : Nat, a = i ∧ i < n := by
  have := inB_yes.1 h
  exact ⟨a.toNat, by omega, by omega⟩

theorem load_any {w : World} {p b : Nat} {s : St} {k : Nat} (h : Mem 124 w p b s) (c : Cnt s k) (hk : k ≤ bnd) (a : Int) :
    Calls Tryz.prog 195 #[.pointer (some ⟨p, 0, none⟩), .int .i64 a] w fun e w' => e = .returned (.tuple #[.int .u64 (loadV s a), .int .i64 (errV s a)]) ∧ Turns 124 p b w w' (loadT s a) := by
  unfold bnd at hk
  have := c.d0
  have := c.d1
  cases ha : there s a
  · refine (load_out (by decide) (fault_no h a ha)).mono ?_
    rintro e w' ⟨rfl, hw⟩
    rw [hw]
    simp only [loadV, errV, loadT, ha]
    exact ⟨rfl, h, But.refl _ _ _⟩
  · obtain ⟨i, rfl, hi⟩ := nat_of ha
    refine (load_in h i hi c.d0 (by omega)).mono ?_
    rintro e w' ⟨rfl, hw⟩
    rw [hw]
    simp only [loadV, errV, loadT, ha]
    exact ⟨rfl, h.done _, But.setCell _ _ _ _ _ (Or.inl rfl)⟩

theorem store_any {w : World} {p b : Nat} {s : St} {k : Nat} (h : Mem 124 w p b s) (c : Cnt s k) (hk : k ≤ bnd) (a v : Int) :
    Calls Tryz.prog 100 #[.pointer (some ⟨p, 0, none⟩), .int .i64 a, .int .u64 v] w fun e w' => e = .returned (.int .i64 (errV s a)) ∧ Turns 124 p b w w' (storeT s a v) := by
  unfold bnd at hk
  have := c.d1
  have := c.l1
  cases ha : there s a
  · refine (store_out (by decide) (fault_no h a ha)).mono ?_
    rintro e w' ⟨rfl, hw⟩
    rw [hw]
    simp only [errV, storeT, ha]
    exact ⟨rfl, h, But.refl _ _ _⟩
  · obtain ⟨i, rfl, hi⟩ := nat_of ha
    refine (store_in h i v hi c.d0 (by omega) c.l0 (by omega)).mono ?_
    rintro e w' ⟨rfl, hw⟩
    rw [hw]
    simp only [errV, storeT, ha]
    exact ⟨rfl, h.laidW i v, But.laidW _ _ _ _ _ _ _⟩

theorem cas_any {w : World} {p b : Nat} {s : St} {k : Nat} (h : Mem 124 w p b s) (c : Cnt s k) (hk : k ≤ bnd) (a o v : Int) :
    Calls Tryz.prog 196 #[.pointer (some ⟨p, 0, none⟩), .int .i64 a, .int .u64 o, .int .u64 v] w fun e w' => e = .returned (.tuple #[.bool (casV s a o), .int .i64 (errV s a)]) ∧ Turns 124 p b w w' (casT s a o v) := by
  unfold bnd at hk
  have := c.d1
  have := c.l1
  cases ha : there s a
  · refine (cas_out (by decide) (fault_no h a ha)).mono ?_
    rintro e w' ⟨rfl, hw⟩
    rw [hw]
    simp only [errV, casT, casV, ha]
    exact ⟨rfl, h, But.refl _ _ _⟩
  · obtain ⟨i, rfl, hi⟩ := nat_of ha
    by_cases hx : s.xs.getD i 0 = o
    · refine (cas_yes h i o v hi hx c.d0 (by omega) c.l0 (by omega)).mono ?_
      rintro e w' ⟨rfl, hw⟩
      rw [hw]
      have hx' : s.xs.getD (i : Int).toNat 0 = o := hx
      have hb : (s.xs.getD (i : Int).toNat 0 == o) = true := by rw [hx']; exact beq_self_eq_true _
      simp only [errV, casT, casV, ha, hb, if_pos hx']
      exact ⟨rfl, h.laidW i v, But.laidW _ _ _ _ _ _ _⟩
    · refine (cas_not h i o v hi hx c.d0 (by omega)).mono ?_
      rintro e w' ⟨rfl, hw⟩
      rw [hw]
      have hx' : ¬ s.xs.getD (i : Int).toNat 0 = o := hx
      have hb : (s.xs.getD (i : Int).toNat 0 == o) = false := beq_eq_false_iff_ne.2 hx'
      simp only [errV, casT, casV, ha, hb, if_neg hx']
      exact ⟨rfl, h.done _, But.setCell _ _ _ _ _ (Or.inl rfl)⟩

theorem add_any {w : World} {p b : Nat} {s : St} {k : Nat} (h : Mem 124 w p b s) (c : Cnt s k) (hk : k ≤ bnd) (a v : Int) :
    Calls Tryz.prog 197 #[.pointer (some ⟨p, 0, none⟩), .int .i64 a, .int .u64 v] w fun e w' => e = .returned (.tuple #[.int .u64 (loadV s a), .int .i64 (errV s a)]) ∧ Turns 124 p b w w' (addT s a v) := by
  unfold bnd at hk
  have := c.d1
  have := c.l1
  cases ha : there s a
  · refine (add_out (by decide) (fault_no h a ha)).mono ?_
    rintro e w' ⟨rfl, hw⟩
    rw [hw]
    simp only [loadV, errV, addT, storeT, ha]
    exact ⟨rfl, h, But.refl _ _ _⟩
  · obtain ⟨i, rfl, hi⟩ := nat_of ha
    refine (add_in h i v hi c.d0 (by omega) c.l0 (by omega)).mono ?_
    rintro e w' ⟨rfl, hw⟩
    rw [hw]
    simp only [loadV, errV, addT, storeT, ha]
    exact ⟨rfl, h.laidW i _, But.laidW _ _ _ _ _ _ _⟩

theorem below_drewN {w0 w : World} {B : Nat} (h : Below B w0 w) : ∀ n, Below B w0 (w.drewN n)
  | 0 => h
  | n + 1 => (below_drewN h n).drew
end Go.Proofs.YtpfmmlbakbhklaaGreatDoor
