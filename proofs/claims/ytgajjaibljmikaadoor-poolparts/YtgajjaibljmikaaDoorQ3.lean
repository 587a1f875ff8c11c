/- Whose frames: what an owner's list says of its frames; how many frames all kinds together and all owners together have; of no function; no conditions. -/
import Derived.Test.YtgajjaibljmikaaDoorQ2
namespace Go.Proofs.YtgajjaibljmikaaDoor
open Go.RowKit

theorem rt_owner {d : Ds} (h : rt d = true) (ho : 1 ≤ d.o) : 3 ≤ d.k := by
  have := (rt_iff d).1 h
  omega
theorem oL_at {L : List Ds} (h : Rt L) {o : Int} (ho : 1 ≤ o) {j : Nat} (hj : j < (oL L o).length) : (oL L o).getD j 0 < L.length ∧ (L.getD ((oL L o).getD j 0) zd).o = o ∧ 3 ≤ (L.getD ((oL L o).getD j 0) zd).k := by
  have hm : (oL L o).getD j 0 ∈ oL L o := by
    have e : (oL L o).getD j 0 = (oL L o)[j] := by simp [List.getD, hj]
    rw [e]; exact List.getElem_mem hj
  obtain ⟨h1, h2⟩ := wh_mem.1 hm
  have h3 : (L.getD ((oL L o).getD j 0) zd).o = o := eq_of_beq h2
  exact ⟨h1, h3, rt_owner (h.at _ h1) (by rw [h3]; exact ho)⟩
theorem oL_rise {L : List Ds} {o : Int} {j : Nat} (hj : j + 1 < (oL L o).length) : (oL L o).getD j 0 < (oL L o).getD (j + 1) 0 := by
  have e0 : (oL L o).getD j 0 = (oL L o)[j] := by simp [List.getD, Nat.lt_of_succ_lt hj]
  have e1 : (oL L o).getD (j + 1) 0 = (oL L o)[j + 1] := by simp [List.getD, hj]
  rw [e0, e1]
  exact List.pairwise_iff_getElem.1 (wh_sorted (isO o) L) j (j + 1) _ _ (Nat.lt_succ_self j)

/-- How many have a number below m. -/
def sumC (f : Ds → Int) (L : List Ds) (m : Nat) : Nat := L.countP fun d => decide (0 ≤ f d ∧ f d < (m : Nat))
theorem sumC_zero (f : Ds → Int) (L : List Ds) : sumC f L 0 = 0 := by
  unfold sumC
  rw [List.countP_eq_zero]
  intro d _
  simp
theorem sumC_succ (f : Ds → Int) (L : List Ds) (m : Nat) : sumC f L (m + 1) = sumC f L m + L.countP fun d => f d == (m : Int) := by
  unfold sumC
  induction L with
  | nil => rfl
  | cons d L ih =>
    simp only [List.countP_cons, ih]
    by_cases h : f d = (m : Int)
    · have h1 : decide (0 ≤ f d ∧ f d < ((m + 1 : Nat) : Int)) = true := by simp; omega
      have h2 : decide (0 ≤ f d ∧ f d < ((m : Nat) : Int)) = false := by simp; omega
      have h3 : (f d == (m : Int)) = true := by simpa using h
      rw [h1, h2, h3]
      simp
      omega
    · have h3 : (f d == (m : Int)) = false := by simpa using h
      have h1 : decide (0 ≤ f d ∧ f d < ((m + 1 : Nat) : Int)) = decide (0 ≤ f d ∧ f d < ((m : Nat) : Int)) := by
        rw [decide_eq_decide]
        omega
      rw [h1, h3]
      simp
      omega
theorem sumC_all (f : Ds → Int) {L : List Ds} {m : Nat} (h : ∀ d ∈ L, 0 ≤ f d ∧ f d < (m : Nat)) : sumC f L m = L.length := by
  unfold sumC
  rw [List.countP_eq_length]
  intro d hd
  exact decide_eq_true (h d hd)
theorem cK_count (L : List Ds) (m : Nat) : cK L (m : Nat) = L.countP fun d => d.k == (m : Int) := wh_count _ _
theorem oL_count (L : List Ds) (m : Nat) : (oL L (m : Nat)).length = L.countP fun d => d.o == (m : Int) := wh_count _ _
theorem Rt.kinds {L : List Ds} (h : Rt L) : sumC (·.k) L 6 = L.length := sumC_all _ fun d hd => by
  have := (rt_iff d).1 (h d hd)
  omega
theorem Rt.owners {L : List Ds} (h : Rt L) : sumC (·.o) L 17 = L.length := sumC_all _ fun d hd => by
  have := (rt_iff d).1 (h d hd)
  omega
theorem sumC_le (f : Ds → Int) (L : List Ds) (m : Nat) : sumC f L m ≤ L.length := List.countP_le_length

/-- What Take did, where it was done. -/
theorem take_done {L : List Ds} {k o : Int} (h : kE L k o = 0) : ∃ i : Nat, i < L.length ∧ kF L k o = i ∧ kL L k o = L.set i ⟨k, o, 0, 0⟩ ∧ (kL L k o).getD i zd = ⟨k, o, 0, 0⟩ ∧ cK (kL L k o) 0 + 1 = cK L 0 := by
  unfold kE at h
  cases hfr : fr L with
  | nil => rw [hfr] at h; cases h
  | cons i q =>
    rw [hfr] at h
    simp only at h
    have hm : i ∈ fr L := by rw [hfr]; exact List.mem_cons_self
    obtain ⟨hi, hz⟩ := wh_mem.1 hm
    have hz' : (L.getD i zd).k = 0 := eq_of_beq hz
    obtain ⟨_, hn⟩ := tE_in h
    obtain ⟨_, _, hw, hr⟩ := nxE_right hn
    have ha : at' L (i : Nat) = L.getD i zd := rfl
    have hk : 1 ≤ k ∧ k ≤ 4 := by
      rw [ha] at hw
      have := (way_iff _ _ (by rw [hz']; omega)).1 hw
      omega
    have hD : nxD (at' L (i : Nat)) k o = ⟨k, o, 0, 0⟩ := by
      unfold nxD
      rw [if_neg (by omega)]
    have e1 : kF L k o = i := by unfold kF; rw [hfr]; exact if_pos h
    have e2 : kL L k o = L.set i ⟨k, o, 0, 0⟩ := by
      unfold kL; rw [hfr]
      show tL L (i : Nat) k o = _
      unfold tL
      rw [if_pos h, hD]
      rfl
    refine ⟨i, hi, e1, e2, by rw [e2, getD_set hi, if_pos rfl], ?_⟩
    rw [e2]
    unfold cK
    rw [wh_count, wh_count, List.countP_set hi]
    have hL : isK 0 L[i] = true := by
      have : L.getD i zd = L[i] := by simp [List.getD, hi]
      rw [← this]; exact hz
    have hpos : 0 < L.countP (isK 0) := List.countP_pos_iff.2 ⟨_, List.getElem_mem hi, hL⟩
    have hno : isK 0 ⟨k, o, 0, 0⟩ = false := by
      show (k == 0) = false
      simpa using (by omega : ¬ k = 0)
    rw [hL, hno]
    simp
    omega
/-- Take told that no frame is free: none is. -/
theorem take_none_free {L : List Ds} {k o : Int} (h : kE L k o = 12) : cK L 0 = 0 := by
  unfold kE at h
  cases hfr : fr L with
  | nil => unfold cK; rw [show wh (isK 0) L = [] from hfr]; rfl
  | cons i q =>
    rw [hfr] at h
    simp only at h
    exfalso
    unfold tE at h
    split at h
    · unfold nxE at h
      repeat' split at h
      all_goals omega
    · omega
end Go.Proofs.YtgajjaibljmikaaDoor
