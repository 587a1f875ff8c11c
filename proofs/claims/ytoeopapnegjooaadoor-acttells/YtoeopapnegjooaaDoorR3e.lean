/- What the document's answer tells of the text of any act. No conditions but that the act is one as may be handed over. -/
import Derived.Test.YtoeopapnegjooaaDoorR3a
import Derived.Test.YtoeopapnegjooaaDoorR3b
import Derived.Test.YtoeopapnegjooaaDoorR3c
import Derived.Test.YtoeopapnegjooaaDoorR3d
namespace Go.Proofs.YtoeopapnegjooaaDoor
open Go.RowKit

set_option maxRecDepth 100000 in
set_option maxHeartbeats 1000000 in
theorem rshow_neg (kd d a b : Int) (h : d < 0) (w : World) :
    Calls Tryd.prog 24 #[acV ⟨kd, d, a, b⟩] w fun e w' => e = .returned (.string ⟨#[]⟩) ∧ Below w.heap.size w w' := by
  have q : decide (d < 0) = true := by simp; omega
  go_enter Tryd.func24, Tryd.ntmps24
  go_wp2
  go_ret
  exact ⟨rfl, below_alloc _ _⟩

set_option maxRecDepth 100000 in
set_option maxHeartbeats 1000000 in
theorem rshow_low (kd d a b : Int) (h : ¬ d < 0) (hk : kd < 1) (w : World) :
    Calls Tryd.prog 24 #[acV ⟨kd, d, a, b⟩] w fun e w' => e = .returned (.string ⟨#[]⟩) ∧ Below w.heap.size w w' := by
  have q : decide (d < 0) = false := by simp; omega
  have q1 : decide (kd < 1) = true := by simp; omega
  go_enter Tryd.func24, Tryd.ntmps24
  go_wp2
  go_ret
  exact ⟨rfl, below_alloc _ _⟩

set_option maxRecDepth 100000 in
set_option maxHeartbeats 1000000 in
theorem rshow_high (kd d a b : Int) (h : ¬ d < 0) (hk : 4 < kd) (w : World) :
    Calls Tryd.prog 24 #[acV ⟨kd, d, a, b⟩] w fun e w' => e = .returned (.string ⟨#[]⟩) ∧ Below w.heap.size w w' := by
  have q : decide (d < 0) = false := by simp; omega
  have q1 : decide (kd < 1) = false := by simp; omega
  have q2 : decide (4 < kd) = true := by simp; omega
  go_enter Tryd.func24, Tryd.ntmps24
  go_wp2
  go_ret
  exact ⟨rfl, below_alloc _ _⟩

set_option maxRecDepth 100000 in
set_option maxHeartbeats 1000000 in
theorem rshow_1a (d a b : Int) (h : ¬ d < 0) (ha : a ≠ 0) (w : World) :
    Calls Tryd.prog 24 #[acV ⟨1, d, a, b⟩] w fun e w' => e = .returned (.string ⟨#[]⟩) ∧ Below w.heap.size w w' := by
  have q : decide (d < 0) = false := by simp; omega
  have q1 : (a != 0) = true := by simpa using ha
  go_enter Tryd.func24, Tryd.ntmps24
  go_wp2
  go_ret
  exact ⟨rfl, below_alloc _ _⟩

set_option maxRecDepth 100000 in
set_option maxHeartbeats 1000000 in
theorem rshow_1b (d b : Int) (h : ¬ d < 0) (hb : b ≠ 0) (w : World) :
    Calls Tryd.prog 24 #[acV ⟨1, d, 0, b⟩] w fun e w' => e = .returned (.string ⟨#[]⟩) ∧ Below w.heap.size w w' := by
  have q : decide (d < 0) = false := by simp; omega
  have q1 : (b != 0) = true := by simpa using hb
  go_enter Tryd.func24, Tryd.ntmps24
  go_wp2
  go_ret
  exact ⟨rfl, below_alloc _ _⟩

set_option maxRecDepth 100000 in
set_option maxHeartbeats 1000000 in
theorem rshow_2b (d a b : Int) (h : ¬ d < 0) (hb : b ≠ 0) (w : World) :
    Calls Tryd.prog 24 #[acV ⟨2, d, a, b⟩] w fun e w' => e = .returned (.string ⟨#[]⟩) ∧ Below w.heap.size w w' := by
  have q : decide (d < 0) = false := by simp; omega
  have q1 : (b != 0) = true := by simpa using hb
  go_enter Tryd.func24, Tryd.ntmps24
  go_wp2
  go_ret
  exact ⟨rfl, below_alloc _ _⟩

set_option maxRecDepth 100000 in
set_option maxHeartbeats 1000000 in
theorem rshow_4b (d a b : Int) (h : ¬ d < 0) (hb : b ≠ 0) (w : World) :
    Calls Tryd.prog 24 #[acV ⟨4, d, a, b⟩] w fun e w' => e = .returned (.string ⟨#[]⟩) ∧ Below w.heap.size w w' := by
  have q : decide (d < 0) = false := by simp; omega
  have q1 : (b != 0) = true := by simpa using hb
  go_enter Tryd.func24, Tryd.ntmps24
  go_wp2
  go_ret
  exact ⟨rfl, below_alloc _ _⟩

theorem rshow_at (x : Ac) (ho : x.Ok) (w : World) :
    Calls Tryd.prog 24 #[acV x] w fun e w' => e = .returned (.string (showB x)) ∧ Below w.heap.size w w' := by
  obtain ⟨kd, d, a, b⟩ := x
  obtain ⟨hd1, ha0, ha1, hb0, hb1⟩ := ho
  simp only [] at hd1 ha0 ha1 hb0 hb1
  by_cases hd : d < 0
  · have e : showB ⟨kd, d, a, b⟩ = ⟨#[]⟩ := by simp [showB, hd]
    rw [e]
    exact rshow_neg kd d a b hd w
  by_cases hl : kd < 1
  · have e : showB ⟨kd, d, a, b⟩ = ⟨#[]⟩ := by
      have h1 : kd ≠ 1 := by omega
      have h2 : kd ≠ 2 := by omega
      have h3 : kd ≠ 3 := by omega
      have h4 : kd ≠ 4 := by omega
      simp [showB, h1, h2, h3, h4]
    rw [e]
    exact rshow_low kd d a b hd hl w
  by_cases hh : 4 < kd
  · have e : showB ⟨kd, d, a, b⟩ = ⟨#[]⟩ := by
      have h1 : kd ≠ 1 := by omega
      have h2 : kd ≠ 2 := by omega
      have h3 : kd ≠ 3 := by omega
      have h4 : kd ≠ 4 := by omega
      simp [showB, h1, h2, h3, h4]
    rw [e]
    exact rshow_high kd d a b hd hh w
  by_cases h1 : kd = 1
  · subst h1
    by_cases hz : a = 0
    · subst hz
      by_cases hy : b = 0
      · subst hy
        obtain ⟨n, rfl⟩ := Int.eq_ofNat_of_zero_le (show 0 ≤ d by omega)
        have e : showB ⟨1, (n : Int), 0, 0⟩ = ((⟨#[108, 111, 97, 100]⟩ : ByteArray) ++ ⟨#[32]⟩) ++ dg n := by simp [showB, hd]
        rw [e]
        exact rshow_1 n (by omega) w
      · have e : showB ⟨1, d, 0, b⟩ = ⟨#[]⟩ := by simp [showB, hd, hy]
        rw [e]
        exact rshow_1b d b hd hy w
    · have e : showB ⟨1, d, a, b⟩ = ⟨#[]⟩ := by simp [showB, hd, hz]
      rw [e]
      exact rshow_1a d a b hd hz w
  obtain ⟨n, rfl⟩ := Int.eq_ofNat_of_zero_le (show 0 ≤ d by omega)
  obtain ⟨m, rfl⟩ := Int.eq_ofNat_of_zero_le ha0
  by_cases h3 : kd = 3
  · subst h3
    obtain ⟨j, rfl⟩ := Int.eq_ofNat_of_zero_le hb0
    have e : showB ⟨3, (n : Int), (m : Int), (j : Int)⟩ = ((((⟨#[99, 97, 115]⟩ : ByteArray) ++ ⟨#[32]⟩) ++ dg n) ++ ⟨#[32]⟩ ++ dg m) ++ ⟨#[32]⟩ ++ dg j := by simp [showB, hd, ByteArray.append_assoc]
    rw [e]
    exact rshow_3 n (by omega) m (by omega) j (by omega) w
  by_cases hy : b = 0
  · subst hy
    by_cases h2 : kd = 2
    · subst h2
      have e : showB ⟨2, (n : Int), (m : Int), 0⟩ = (((⟨#[115, 116, 111, 114, 101]⟩ : ByteArray) ++ ⟨#[32]⟩) ++ dg n) ++ ⟨#[32]⟩ ++ dg m := by simp [showB, hd, ByteArray.append_assoc]
      rw [e]
      exact rshow_2 n (by omega) m (by omega) w
    · have h4 : kd = 4 := by omega
      subst h4
      have e : showB ⟨4, (n : Int), (m : Int), 0⟩ = (((⟨#[97, 100, 100]⟩ : ByteArray) ++ ⟨#[32]⟩) ++ dg n) ++ ⟨#[32]⟩ ++ dg m := by simp [showB, hd, ByteArray.append_assoc]
      rw [e]
      exact rshow_4 n (by omega) m (by omega) w
  · by_cases h2 : kd = 2
    · subst h2
      have e : showB ⟨2, (n : Int), (m : Int), b⟩ = ⟨#[]⟩ := by simp [showB, hd, hy]
      rw [e]
      exact rshow_2b n m b hd hy w
    · have h4 : kd = 4 := by omega
      subst h4
      have e : showB ⟨4, (n : Int), (m : Int), b⟩ = ⟨#[]⟩ := by simp [showB, hd, hy]
      rw [e]
      exact rshow_4b n m b hd hy w
end Go.Proofs.YtoeopapnegjooaaDoor
