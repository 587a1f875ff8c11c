/- Plain arithmetic of places: a page is its places' sum; two pages' places are the same from a level on just if their rows are. And what is allowed together. No program, no conditions but the sizes. -/
import Derived.Test.YtiafnmhmpjhddaaS3
import Derived.Test.YtiafnmhmpjhddaaS2
namespace Go.Proofs.Ytiafnmhmpjhddaa
open Go.RowKit

/-- The sum of a page's first j places (from level 3 on), each as often as its level covers. -/
def sumN (a : Int) : Nat → Int
  | 0 => 0
  | j + 1 => sumN a j + ix a (3 - j) * sp (3 - j)
/-- Two pages' first j places are the same. -/
def sm (a b : Int) : Nat → Bool
  | 0 => true
  | j + 1 => sm a b j && ix a (3 - j) == ix b (3 - j)
theorem sumN_s (a : Int) (j : Nat) : sumN a (j + 1) = sumN a j + ix a (3 - j) * sp (3 - j) := rfl
theorem sm_s (a b : Int) (j : Nat) : sm a b (j + 1) = (sm a b j && ix a (3 - j) == ix b (3 - j)) := rfl
theorem ix3 {a : Int} (h0 : 0 ≤ a) (h1 : a ≤ 65535) : ix a 3 = a / 4096 := by rw [ix_yes (btw_t h0 h1) (by decide)]; simp [sp]; omega
theorem ix2 {a : Int} (h0 : 0 ≤ a) (h1 : a ≤ 65535) : ix a 2 = a / 256 % 16 := by rw [ix_yes (btw_t h0 h1) (by decide)]; simp [sp]
theorem ix1 {a : Int} (h0 : 0 ≤ a) (h1 : a ≤ 65535) : ix a 1 = a / 16 % 16 := by rw [ix_yes (btw_t h0 h1) (by decide)]; simp [sp]
theorem ix0 {a : Int} (h0 : 0 ≤ a) (h1 : a ≤ 65535) : ix a 0 = a % 16 := by rw [ix_yes (btw_t h0 h1) (by decide)]; simp [sp]
theorem sp_s : sp 0 = 1 ∧ sp 1 = 16 ∧ sp 2 = 256 ∧ sp 3 = 4096 := by decide
theorem sumN_all {a : Int} (h0 : 0 ≤ a) (h1 : a ≤ 65535) : sumN a 4 = a := by
  have : sumN a 4 = 0 + ix a 3 * sp 3 + ix a 2 * sp 2 + ix a 1 * sp 1 + ix a 0 * sp 0 := rfl
  rw [this, ix3 h0 h1, ix2 h0 h1, ix1 h0 h1, ix0 h0 h1, sp_s.1, sp_s.2.1, sp_s.2.2.1, sp_s.2.2.2]
  omega
theorem sm_1 (a b : Int) : sm a b 1 = (ix a 3 == ix b 3) := by rw [sm_s]; show (true && _) = _; rw [Bool.true_and]; rfl
theorem sm_2 (a b : Int) : sm a b 2 = (sm a b 1 && ix a 2 == ix b 2) := rfl
theorem sm_3 (a b : Int) : sm a b 3 = (sm a b 2 && ix a 1 == ix b 1) := rfl
theorem sm_4 (a b : Int) : sm a b 4 = (sm a b 3 && ix a 0 == ix b 0) := rfl
theorem row1 {a b : Int} (h0 : 0 ≤ a) (h1 : a ≤ 65535) (g0 : 0 ≤ b) (g1 : b ≤ 65535) : sm a b 1 = (a / 4096 == b / 4096) := by
  rw [sm_1, ix3 h0 h1, ix3 g0 g1]
theorem row2 {a b : Int} (h0 : 0 ≤ a) (h1 : a ≤ 65535) (g0 : 0 ≤ b) (g1 : b ≤ 65535) : sm a b 2 = (a / 256 == b / 256) := by
  rw [sm_2, row1 h0 h1 g0 g1, ix2 h0 h1, ix2 g0 g1, Bool.eq_iff_iff]
  simp only [Bool.and_eq_true, beq_iff_eq]
  omega
theorem row3 {a b : Int} (h0 : 0 ≤ a) (h1 : a ≤ 65535) (g0 : 0 ≤ b) (g1 : b ≤ 65535) : sm a b 3 = (a / 16 == b / 16) := by
  rw [sm_3, row2 h0 h1 g0 g1, ix1 h0 h1, ix1 g0 g1, Bool.eq_iff_iff]
  simp only [Bool.and_eq_true, beq_iff_eq]
  omega
theorem row4 {a b : Int} (h0 : 0 ≤ a) (h1 : a ≤ 65535) (g0 : 0 ≤ b) (g1 : b ≤ 65535) : sm a b 4 = (a == b) := by
  rw [sm_4, row3 h0 h1 g0 g1, ix0 h0 h1, ix0 g0 g1, Bool.eq_iff_iff]
  simp only [Bool.and_eq_true, beq_iff_eq]
  omega
/-- A level's bounds, and its place's. -/
theorem lev_in {a v : Int} (h0 : 0 ≤ a) (h1 : a ≤ 65535) (g0 : 0 ≤ v) (g1 : v ≤ 3) : 0 ≤ ix a v ∧ ix a v ≤ 15 ∧ 1 ≤ sp v ∧ sp v ≤ 4096 ∧ at' 7 a v = 112 + ix a v := by
  have e : 0 ≤ ix a v ∧ ix a v ≤ 15 ∧ 1 ≤ sp v ∧ sp v ≤ 4096 := by
    rw [ix_yes (btw_t h0 h1) (btw_t g0 g1)]
    rcases lev (btw_t g0 g1) with rfl | rfl | rfl | rfl
    · rw [sp_s.1]; omega
    · rw [sp_s.2.1]; omega
    · rw [sp_s.2.2.1]; omega
    · rw [sp_s.2.2.2]; omega
  refine ⟨e.1, e.2.1, e.2.2.1, e.2.2.2, ?_⟩
  unfold at'
  rw [show decide (0 ≤ ix a v) = true by simp [e.1], btw_t (by decide : (0 : Int) ≤ 7) (by decide)]
  simp
theorem mul_in {i s : Int} (h0 : 0 ≤ i) (h1 : i ≤ 15) (g0 : 1 ≤ s) (g1 : s ≤ 4096) : 0 ≤ i * s ∧ i * s ≤ 61440 := by
  refine ⟨Int.mul_nonneg h0 (by omega), ?_⟩
  calc i * s ≤ 15 * s := Int.mul_le_mul_of_nonneg_right h1 (by omega)
    _ ≤ 61440 := by omega
theorem sumN_in {a : Int} (h0 : 0 ≤ a) (h1 : a ≤ 65535) : ∀ (j : Nat), j ≤ 4 → 0 ≤ sumN a j ∧ sumN a j ≤ 61440 * j
  | 0, _ => ⟨Int.le_refl _, Int.le_refl _⟩
  | j + 1, hj => by
    have ih := sumN_in h0 h1 j (by omega)
    obtain ⟨k1, k2, k3, k4, _⟩ := lev_in (v := 3 - j) h0 h1 (by omega) (by omega)
    obtain ⟨m1, m2⟩ := mul_in k1 k2 k3 k4
    rw [sumN_s]
    omega

/-- What is allowed together. -/
theorem or_fin : ∀ r : Fin 8, ∀ a : Fin 8, ∀ b : Fin 8, ((bits .and .i64 (r : Nat) (a : Nat) == ((a : Nat) : Int)) && (bits .and .i64 (r : Nat) (b : Nat) == ((b : Nat) : Int))) = (btw (bits .or .i64 (a : Nat) (b : Nat)) 0 7 && bits .and .i64 (r : Nat) (bits .or .i64 (a : Nat) (b : Nat)) == bits .or .i64 (a : Nat) (b : Nat)) := by decide +kernel
theorem and_fin : ∀ r : Fin 8, ∀ a : Fin 8, ∀ b : Fin 8, (bits .and .i64 (r : Nat) (a : Nat) == ((a : Nat) : Int)) = true → (btw (bits .and .i64 (a : Nat) (b : Nat)) 0 7 && bits .and .i64 (r : Nat) (bits .and .i64 (a : Nat) (b : Nat)) == bits .and .i64 (a : Nat) (b : Nat)) = true := by decide +kernel
theorem rng_fin : ∀ a : Fin 8, ∀ b : Fin 8, (0 ≤ bits .and .i64 (a : Nat) (b : Nat) ∧ bits .and .i64 (a : Nat) (b : Nat) ≤ 7) ∧ (0 ≤ bits .or .i64 (a : Nat) (b : Nat) ∧ bits .or .i64 (a : Nat) (b : Nat) ≤ 7) := by decide +kernel
theorem al_or (e : En) (a b : Fin 8) : (al e (a : Nat) && al e (b : Nat)) = al e (bits .or .i64 (a : Nat) (b : Nat)) := by
  unfold al
  cases h1 : rt e
  · simp
  · cases h2 : e.p
    · simp
    · cases h3 : decide (0 < e.r)
      · simp
      · obtain ⟨p, r, l, f⟩ := e
        obtain ⟨g0, g7⟩ := rt_7 h1
        have := or_fin ⟨r.toNat, by omega⟩ a b
        simp only [Int.toNat_of_nonneg g0] at this
        have ba : btw ((a : Nat) : Int) 0 7 = true := btw_t (by omega) (by omega)
        have bb : btw ((b : Nat) : Int) 0 7 = true := btw_t (by omega) (by omega)
        simp only [ba, bb, Bool.true_and]
        exact this
theorem al_and (e : En) (a b : Fin 8) (h : al e (a : Nat) = true) : al e (bits .and .i64 (a : Nat) (b : Nat)) = true := by
  unfold al at h ⊢
  simp only [Bool.and_eq_true] at h
  obtain ⟨⟨⟨⟨h1, h2⟩, h3⟩, h4⟩, h5⟩ := h
  obtain ⟨p, r, l, f⟩ := e
  obtain ⟨g0, g7⟩ := rt_7 h1
  have := and_fin ⟨r.toNat, by omega⟩ a b
  simp only [Int.toNat_of_nonneg g0] at this
  rw [h1, h2, h3]
  simp only [Bool.true_and]
  exact this h5
theorem al_tb (e : En) (h : tb e = true) : al e 0 = false := by
  unfold tb at h
  simp only [Bool.and_eq_true, beq_iff_eq] at h
  unfold al
  rw [h.2]
  simp
end Go.Proofs.Ytiafnmhmpjhddaa
