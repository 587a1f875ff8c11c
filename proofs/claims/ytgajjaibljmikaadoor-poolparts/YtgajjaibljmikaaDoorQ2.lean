/- Pools as lists: taking the least free frame, giving one back; all taken; of no function; no conditions. -/
import Derived.Test.YtgajjaibljmikaaDoorR1
namespace Go.Proofs.YtgajjaibljmikaaDoor
open Go.RowKit

theorem getD_set {L : List Ds} {i : Nat} (hi : i < L.length) (d : Ds) (m : Nat) : (L.set i d).getD m zd = if m = i then d else L.getD m zd := by
  by_cases h : m = i
  · subst h; simp [List.getD, hi]
  · rw [if_neg h]; simp [List.getD, List.getElem?_set_ne (Ne.symm h)]
theorem getD_replicate (n m : Nat) : (List.replicate n zd).getD m zd = zd := by
  simp only [List.getD, List.getElem?_replicate]
  split <;> rfl

/-- Taking the least free frame, j. -/
theorem take_idx {L : List Ds} {j : Nat} {k o : Int} (hj : j < L.length) (hn : ∀ i, i < j → (L.getD i zd).k ≠ 0) (hz : L.getD j zd = zd) (h : nxE zd k o = 0) :
    kF L k o = j ∧ kE L k o = 0 ∧ kL L k o = L.set j (nxD zd k o) := by
  obtain ⟨q, hq⟩ := fr_head (L := L) hj (fun i hi => by have := hn i hi; simpa [isK] using this) (by rw [hz]; rfl)
  have hin : (0 : Int) ≤ (j : Nat) ∧ ((j : Nat) : Int) < L.length := ⟨by omega, by omega⟩
  have ha : at' L (j : Nat) = zd := hz
  have e : tE L (j : Nat) k o = 0 := by unfold tE; rw [if_pos hin, ha]; exact h
  refine ⟨?_, ?_, ?_⟩
  · unfold kF; rw [hq]; exact if_pos e
  · unfold kE; rw [hq]; exact e
  · unfold kL; rw [hq]; show tL L (j : Nat) k o = _; unfold tL; rw [if_pos e, ha]; rfl
theorem take_full {L : List Ds} (hn : ∀ i, i < L.length → (L.getD i zd).k ≠ 0) (k o : Int) : kE L k o = 12 ∧ kF L k o = 0 ∧ kL L k o = L ∧ cK L 0 = 0 := by
  have hq : fr L = [] := fr_none (fun i hi => by have := hn i hi; simpa [isK] using this)
  refine ⟨?_, ?_, ?_, ?_⟩
  · unfold kE; rw [hq]
  · unfold kF; rw [hq]
  · unfold kL; rw [hq]
  · unfold cK; rw [show wh (isK 0) L = [] from hq]; rfl
theorem turn_idx {L : List Ds} {j : Nat} {k o : Int} (hj : j < L.length) (h : nxE (L.getD j zd) k o = 0) : tE L (j : Nat) k o = 0 ∧ tL L (j : Nat) k o = L.set j (nxD (L.getD j zd) k o) := by
  have hin : (0 : Int) ≤ (j : Nat) ∧ ((j : Nat) : Int) < L.length := ⟨by omega, by omega⟩
  have e : tE L (j : Nat) k o = 0 := by unfold tE; rw [if_pos hin]; exact h
  exact ⟨e, by unfold tL; rw [if_pos e]; rfl⟩

abbrev mon : Ds := ⟨2, 0, 0, 0⟩
/-- The first i of N are taken. -/
structure F1 (L : List Ds) (N i : Nat) : Prop where
  len : L.length = N
  at_ : ∀ m, m < N → L.getD m zd = if m < i then mon else zd
theorem F1.zero (N : Nat) : F1 (List.replicate N zd) N 0 := ⟨by simp, fun m _ => by rw [getD_replicate, if_neg (by omega)]⟩
theorem F1.next {L : List Ds} {N i : Nat} (h : F1 L N i) (hi : i < N) : (kF L 2 0 = i ∧ kE L 2 0 = 0 ∧ kL L 2 0 = L.set i mon) ∧ F1 (L.set i mon) N (i + 1) := by
  refine ⟨take_idx (by rw [h.len]; exact hi) (fun m hm => by rw [h.at_ m (by omega), if_pos hm]; decide) (by rw [h.at_ i hi, if_neg (by omega)]) (by rfl), by rw [List.length_set]; exact h.len, fun m hm => ?_⟩
  rw [getD_set (by rw [h.len]; exact hi)]
  by_cases e : m = i
  · rw [if_pos e, if_pos (by omega)]
  · rw [if_neg e, h.at_ m hm]
    by_cases e2 : m < i
    · rw [if_pos e2, if_pos (by omega)]
    · rw [if_neg e2, if_neg (by omega)]
/-- A frame that is taken. -/
def Tk (d : Ds) : Prop := d = mon ∨ ∃ o : Int, 1 ≤ o ∧ o ≤ 16 ∧ d = ⟨4, o, 0, 0⟩
theorem Tk.k {d : Ds} (h : Tk d) : d.k ≠ 0 := by
  rcases h with rfl | ⟨o, _, _, rfl⟩
  · decide
  · show (4 : Int) ≠ 0; decide
theorem guest_rt {o : Int} (h : 1 ≤ o ∧ o ≤ 16) : rt ⟨4, o, 0, 0⟩ = true := (rt_iff _).2 (by simp; omega)
theorem Tk.give {d : Ds} (h : Tk d) : nxE d 0 0 = 0 ∧ nxD d 0 0 = zd := by
  rcases h with rfl | ⟨o, h1, h2, rfl⟩
  · exact ⟨rfl, rfl⟩
  · refine ⟨?_, rfl⟩
    unfold nxE
    rw [if_pos (guest_rt ⟨h1, h2⟩), if_pos rfl, if_pos (show way 4 0 = true from rfl), if_pos (show rt (nxD ⟨4, o, 0, 0⟩ 0 0) = true from rfl)]
theorem guest_take {o : Int} (h : 1 ≤ o ∧ o ≤ 16) : nxE zd 4 o = 0 ∧ nxD zd 4 o = ⟨4, o, 0, 0⟩ := by
  refine ⟨?_, rfl⟩
  unfold nxE
  rw [if_pos rt_zd, if_pos (show zd.r = 0 from rfl), if_pos (show way zd.k 4 = true from rfl), if_pos (show rt (nxD zd 4 o) = true from guest_rt h)]
/-- All of N are taken. -/
structure F2 (L : List Ds) (N : Nat) : Prop where
  len : L.length = N
  at_ : ∀ m, m < N → Tk (L.getD m zd)
theorem F1.all {L : List Ds} {N : Nat} (h : F1 L N N) : F2 L N := ⟨h.len, fun m hm => by rw [h.at_ m hm, if_pos hm]; exact .inl rfl⟩
theorem F2.give {L : List Ds} {N k : Nat} (h : F2 L N) (hk : k < N) : tE L (k : Nat) 0 0 = 0 ∧ tL L (k : Nat) 0 0 = L.set k zd := by
  have := turn_idx (L := L) (j := k) (k := 0) (o := 0) (by rw [h.len]; exact hk) (h.at_ k hk).give.1
  rw [(h.at_ k hk).give.2] at this
  exact this
theorem F2.take {L : List Ds} {N k : Nat} (h : F2 L N) (hk : k < N) {o : Int} (ho : 1 ≤ o ∧ o ≤ 16) :
    (kF (L.set k zd) 4 o = k ∧ kE (L.set k zd) 4 o = 0 ∧ kL (L.set k zd) 4 o = (L.set k zd).set k ⟨4, o, 0, 0⟩) ∧ F2 ((L.set k zd).set k ⟨4, o, 0, 0⟩) N := by
  have hl : (L.set k zd).length = N := by rw [List.length_set]; exact h.len
  have hkl : k < L.length := by rw [h.len]; exact hk
  refine ⟨?_, by rw [List.length_set]; exact hl, fun m hm => ?_⟩
  · rw [← (guest_take ho).2]
    exact take_idx (by rw [hl]; exact hk) (fun i hi => by rw [getD_set hkl, if_neg (by omega)]; exact (h.at_ i (by omega)).k) (by rw [getD_set hkl, if_pos rfl]) (guest_take ho).1
  · rw [getD_set (by rw [hl]; exact hk)]
    by_cases e : m = k
    · rw [if_pos e]; exact .inr ⟨o, ho.1, ho.2, rfl⟩
    · rw [if_neg e, getD_set hkl, if_neg e]; exact h.at_ m hm
theorem F2.full {L : List Ds} {N : Nat} (h : F2 L N) (k o : Int) : kE L k o = 12 ∧ kF L k o = 0 ∧ kL L k o = L ∧ cK L 0 = 0 :=
  take_full (fun i hi => (h.at_ i (by rw [← h.len]; exact hi)).k) k o
end Go.Proofs.YtgajjaibljmikaaDoor
