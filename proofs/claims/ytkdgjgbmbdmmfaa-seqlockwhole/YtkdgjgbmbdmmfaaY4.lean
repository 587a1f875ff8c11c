/- Many writers, each with values that are all alike, and readers: in whatever order they go on, a reader that is done has values that are all alike. Of no program; no conditions but that the number is small. -/
import Derived.Test.YtkdgjgbmbdmmfaaY2
namespace Go.Proofs.Ytkdgjgbmbdmmfaa
open Go.RowKit

/-- Values that are all alike, and none above most. -/
def Alike (n : Nat) (most : Int) (g : Nat → Int) : Prop := ∃ c, 0 ≤ c ∧ c ≤ most ∧ ∀ j, j < n → g j = c
structure WI (A n : Nat) (most : Int) (s : St) (k : Nat) (f : Nat → Wr) : Prop where
  ev : s.xs.getD A 0 % 2 = 0 → Alike n most (fun j => s.xs.getD (A + 1 + j) 0)
  cs : ∀ i, i < k → Alike n most (fun j => (f i).vs.getD j 0)
  pre : ∀ i, i < k → 2 ≤ (f i).t → (f i).t ≤ n + 2 → ∀ j : Nat, (j : Int) + 2 < (f i).t → j < n → s.xs.getD (A + 1 + j) 0 = (f i).vs.getD j 0
structure RI (A n : Nat) (most : Int) (s : St) (r : Rd) : Prop where
  rok : ROk r.x
  ad : r.x.ad = A
  nn : r.x.n = n
  us : r.x.vs.length = 16
  mid : 1 ≤ r.x.t → r.x.t ≤ n + 1 → r.x.m % 2 = 0 ∧ r.x.m ≤ s.xs.getD A 0 ∧ (r.x.m = s.xs.getD A 0 → ∀ j : Nat, (j : Int) + 1 < r.x.t → j < n → r.x.vs.getD j 0 = s.xs.getD (A + 1 + j) 0)
  fin : r.d = true → Alike n most (fun j => r.x.vs.getD j 0)
  dt : r.d = true → r.x.t = r.x.e

/-- The words are as they were, or the number is odd, or it has risen. -/
def Turned (A : Nat) (s s' : St) : Prop := s'.xs = s.xs ∨ s'.xs.getD A 0 % 2 = 1 ∨ s'.xs.getD A 0 = s.xs.getD A 0 + 1

theorem WI.step {A n : Nat} {most : Int} {s : St} {k : Nat} {f : Nat → Wr} (B : BI A n s k f) (H : WI A n most s k f) (i : Nat) (hi : i < k) (hN : s.xs.getD A 0 ≤ 1000000) :
    WI A n most (wS s (f i)).1 k (upd f i (wS s (f i)).2) ∧ Turned A s (wS s (f i)).1 := by
  obtain ⟨fit, rng, ok, ad, nn, vr, t1, inn, cnt⟩ := B
  obtain ⟨ev, cs, pre⟩ := H
  have oki := ok i hi
  have csi := cs i hi
  have prei := pre i hi
  have t1i := t1 i hi
  have inni := inn i hi
  have cge := cnt_ge n f i k hi
  have ctwo := fun j (hj : j < k) (hij : i ≠ j) => cnt_two n f i j hij k hi hj
  have N0 := (rng_get rng A).1
  have hway := way_of (s := s) oki (ad i hi) (nn i hi) fit
  generalize (wS s (f i)).1 = s' at hway ⊢
  generalize (wS s (f i)).2 = x' at hway ⊢
  have lift : ∀ (P : Nat → Wr → Prop) (y : Wr), P i y → (∀ j, j < k → j ≠ i → P j (f j)) → ∀ j, j < k → P j (upd f i y j) := by
    intro P y hy hr j hj
    by_cases e : j = i
    · subst e; rw [upd_at]; exact hy
    · rw [upd_ne _ _ e]; exact hr j hj e
  obtain ⟨a0, a1, n0, n1, t0, tt, he, m0, m1⟩ := oki
  cases hway with
  | done h =>
    have e : upd f i (f i) = f := by funext j; by_cases e : j = i <;> simp [upd, e]
    rw [e]
    exact ⟨⟨ev, cs, pre⟩, Or.inl rfl⟩
  | load _ hs h =>
    have hb : beginT 0 (s.xs.getD A 0) = 0 ∨ beginT 0 (s.xs.getD A 0) = 1 := by unfold beginT; split <;> simp
    refine ⟨⟨by rw [hs]; exact ev, lift (fun _ y => Alike n most (fun j => y.vs.getD j 0)) _ csi (fun j hj _ => cs j hj), ?_⟩, Or.inl hs⟩
    rw [hs]
    exact lift (fun _ y => 2 ≤ y.t → y.t ≤ n + 2 → ∀ j : Nat, (j : Int) + 2 < y.t → j < n → s.xs.getD (A + 1 + j) 0 = y.vs.getD j 0) _ (fun h2 => by simp only [] at h2; omega) (fun j hj _ => pre j hj)
  | yes _ hs h hm =>
    have hev := t1i h
    have ha64 : add64 (f i).m 1 = (f i).m + 1 := add64_le m0 (by omega) (by omega)
    have hN' : s'.xs.getD A 0 = (f i).m + 1 := by rw [hs, get_set (by omega), if_pos rfl, ha64]
    have hv : ∀ j, s'.xs.getD (A + 1 + j) 0 = s.xs.getD (A + 1 + j) 0 := fun j => by rw [hs, get_set (by omega), if_neg (by omega)]
    refine ⟨⟨fun e => by omega, lift (fun _ y => Alike n most (fun j => y.vs.getD j 0)) _ csi (fun j hj _ => cs j hj), ?_⟩, Or.inr (Or.inl (by omega))⟩
    refine lift (fun _ y => 2 ≤ y.t → y.t ≤ n + 2 → ∀ j : Nat, (j : Int) + 2 < y.t → j < n → s'.xs.getD (A + 1 + j) 0 = y.vs.getD j 0) _ (fun _ _ j hj => by simp only [] at hj; omega) (fun j hj _ h2 h3 a ha han => ?_)
    rw [hv]; exact pre j hj h2 h3 a ha han
  | no _ hs h hm =>
    refine ⟨⟨by rw [hs]; exact ev, lift (fun _ y => Alike n most (fun j => y.vs.getD j 0)) _ csi (fun j hj _ => cs j hj), ?_⟩, Or.inl hs⟩
    rw [hs]
    exact lift (fun _ y => 2 ≤ y.t → y.t ≤ n + 2 → ∀ j : Nat, (j : Int) + 2 < y.t → j < n → s.xs.getD (A + 1 + j) 0 = y.vs.getD j 0) _ (fun h2 => by simp only [] at h2; omega) (fun j hj _ => pre j hj)
  | val _ a ha hs h =>
    have hin0 : inb n (f i) = 1 := by unfold inb; rw [if_pos (by omega)]
    have hN' : s'.xs.getD A 0 = s.xs.getD A 0 := by rw [hs, get_set (by omega), if_neg (by omega)]
    refine ⟨⟨fun e => by omega, lift (fun _ y => Alike n most (fun j => y.vs.getD j 0)) _ csi (fun j hj _ => cs j hj), ?_⟩, Or.inr (Or.inl (by omega))⟩
    refine lift (fun _ y => 2 ≤ y.t → y.t ≤ n + 2 → ∀ j : Nat, (j : Int) + 2 < y.t → j < n → s'.xs.getD (A + 1 + j) 0 = y.vs.getD j 0) _ (fun _ _ j hj hjn => ?_) (fun j hj hji h2 h3 => ?_)
    · simp only [] at hj
      rw [hs, get_set (by omega)]
      by_cases e : j = a
      · subst e; rw [if_pos rfl]
      · rw [if_neg (by omega)]
        exact prei (by omega) (by omega) j (by omega) hjn
    · have hj1 : inb n (f j) = 1 := by unfold inb; rw [if_pos ⟨h2, h3⟩]
      have := ctwo j hj (Ne.symm hji)
      omega
  | last _ hs h =>
    have hm := inni (by omega) (by omega)
    have hin0 : inb n (f i) = 1 := by unfold inb; rw [if_pos (by omega)]
    have ha64 : add64 (f i).m 2 = (f i).m + 2 := add64_le m0 (by omega) (by omega)
    have hN' : s'.xs.getD A 0 = (f i).m + 2 := by rw [hs, get_set (by omega), if_pos rfl, ha64]
    have hv : ∀ j, s'.xs.getD (A + 1 + j) 0 = s.xs.getD (A + 1 + j) 0 := fun j => by rw [hs, get_set (by omega), if_neg (by omega)]
    refine ⟨⟨fun _ => ?_, lift (fun _ y => Alike n most (fun j => y.vs.getD j 0)) _ csi (fun j hj _ => cs j hj), ?_⟩, Or.inr (Or.inr (by omega))⟩
    · obtain ⟨c, c0, c1, hc⟩ := csi
      refine ⟨c, c0, c1, fun j hj => ?_⟩
      show s'.xs.getD (A + 1 + j) 0 = c
      rw [hv, prei (by omega) (by omega) j (by omega) hj]
      exact hc j hj
    · refine lift (fun _ y => 2 ≤ y.t → y.t ≤ n + 2 → ∀ j : Nat, (j : Int) + 2 < y.t → j < n → s'.xs.getD (A + 1 + j) 0 = y.vs.getD j 0) _ (fun _ h3 => by simp only [] at h3; omega) (fun j hj hji h2 h3 => ?_)
      have hj1 : inb n (f j) = 1 := by unfold inb; rw [if_pos ⟨h2, h3⟩]
      have := ctwo j hj (Ne.symm hji)
      omega
theorem WI.mem {A n : Nat} {most : Int} {s s' : St} {k : Nat} {f : Nat → Wr} (H : WI A n most s k f) (h : s'.xs = s.xs) : WI A n most s' k f :=
  ⟨by rw [h]; exact H.ev, H.cs, by rw [h]; exact H.pre⟩
theorem WI.push {A n : Nat} {most : Int} {s : St} {k : Nat} {f : Nat → Wr} (H : WI A n most s k f) (x : Wr) (ht : x.t = 0) (hc : Alike n most (fun j => x.vs.getD j 0)) : WI A n most s (k + 1) (upd f k x) := by
  have lift : ∀ (P : Wr → Prop), P x → (∀ j, j < k → P (f j)) → ∀ j, j < k + 1 → P (upd f k x j) := by
    intro P hy hr j hj
    by_cases e : j = k
    · subst e; rw [upd_at]; exact hy
    · rw [upd_ne _ _ e]; exact hr j (by omega)
  exact ⟨H.ev, lift (fun y => Alike n most (fun j => y.vs.getD j 0)) hc H.cs, lift (fun y => 2 ≤ y.t → y.t ≤ n + 2 → ∀ j : Nat, (j : Int) + 2 < y.t → j < n → s.xs.getD (A + 1 + j) 0 = y.vs.getD j 0) (fun e => by omega) H.pre⟩

theorem RI.stepW {A n : Nat} {most : Int} {s s' : St} {r : Rd} (H : RI A n most s r) (h1 : s.xs.getD A 0 ≤ s'.xs.getD A 0) (hT : Turned A s s') : RI A n most s' r := by
  refine { H with mid := fun h2 h3 => ?_ }
  obtain ⟨e1, e2, e3⟩ := H.mid h2 h3
  refine ⟨e1, by omega, fun e => ?_⟩
  rcases hT with hT | hT | hT
  · rw [hT] at e ⊢; exact e3 e
  · omega
  · omega
theorem RI.mem {A n : Nat} {most : Int} {s s' : St} {r : Rd} (H : RI A n most s r) (h : s'.xs = s.xs) : RI A n most s' r := H.stepW (by rw [h]; omega) (Or.inl h)
theorem RI.stepR {A n : Nat} {most : Int} {s : St} {r : Rd} (H : RI A n most s r) (hf : A + n < s.xs.length) (ev : s.xs.getD A 0 % 2 = 0 → Alike n most (fun j => s.xs.getD (A + 1 + j) 0)) :
    RI A n most (rS s r).1 (rS s r).2 ∧ (rS s r).1.xs = s.xs := by
  obtain ⟨rok, ad, nn, us, mid, fin, dt⟩ := H
  have rok' := rok
  obtain ⟨a0, a1, n0, n1, t0, t1, he⟩ := rok
  by_cases hd : r.x.t = r.x.e
  · have e : rS s r = (s, r) := by unfold rS; rw [if_pos hd]
    rw [e]
    exact ⟨⟨rok', ad, nn, us, mid, fin, dt⟩, rfl⟩
  · have hnd : r.d = false := by
      cases h : r.d
      · rfl
      · exact absurd (dt h) hd
    by_cases h0 : r.x.t = 0
    · obtain ⟨s1, s2⟩ := rS_0 (s := s) (r := r) (A := A) h0 hd ad (by omega)
      have hb : beginT 0 (s.xs.getD A 0) = 0 ∨ beginT 0 (s.xs.getD A 0) = 1 := by unfold beginT; split <;> simp
      have hbe : beginT 0 (s.xs.getD A 0) = 1 → s.xs.getD A 0 % 2 = 0 := by unfold beginT; split <;> simp_all
      rw [s2]
      refine ⟨⟨⟨a0, a1, n0, n1, by simp only []; omega, by simp only []; omega, he⟩, ad, nn, us, fun h2 _ => ?_, fun h => ?_, fun h => ?_⟩, s1⟩
      · simp only [] at h2 ⊢
        rw [s1]
        exact ⟨hbe (by omega), by omega, fun _ j hj => by omega⟩
      · simp only [] at h; rw [hnd] at h; cases h
      · simp only [] at h; rw [hnd] at h; cases h
    · by_cases hl : r.x.t = 1 + (n : Int)
      · obtain ⟨e1, e2, e3⟩ := mid (by omega) (by omega)
        by_cases hm : s.xs.getD A 0 = r.x.m
        · obtain ⟨s1, s2⟩ := rS_ly (s := s) (r := r) (A := A) (n := n) hl nn hd ad (by omega) hm
          rw [s2]
          refine ⟨⟨⟨a0, a1, n0, n1, by simp only []; omega, by simp only []; omega, he⟩, ad, nn, us, fun _ h3 => by simp only [] at h3; omega, fun _ => ?_, fun _ => by simp only []; omega⟩, s1⟩
          obtain ⟨c, c0, c1, hc⟩ := ev (by rw [hm]; exact e1)
          refine ⟨c, c0, c1, fun j hj => ?_⟩
          have := e3 hm.symm j (by omega) hj
          simp only []
          rw [this]
          exact hc j hj
        · obtain ⟨s1, s2⟩ := rS_ln (s := s) (r := r) (A := A) (n := n) hl nn hd ad (by omega) hm
          rw [s2]
          refine ⟨⟨⟨a0, a1, n0, n1, by simp only []; omega, by simp only []; omega, he⟩, ad, nn, us, fun h2 _ => by simp only [] at h2; omega, fun h => ?_, fun h => ?_⟩, s1⟩
          · simp only [] at h; rw [hnd] at h; cases h
          · simp only [] at h; rw [hnd] at h; cases h
      · obtain ⟨i, hi⟩ := Int.eq_ofNat_of_zero_le (show 0 ≤ r.x.t - 1 by omega)
        obtain ⟨s1, s2⟩ := rS_v (s := s) (r := r) (A := A) (i := i) (n := n) (by omega) nn (by omega) hd ad (by omega)
        obtain ⟨e1, e2, e3⟩ := mid (by omega) (by omega)
        rw [s2]
        refine ⟨⟨⟨a0, a1, n0, n1, by simp only []; omega, by simp only []; omega, he⟩, ad, nn, by simpa using us, fun _ _ => ?_, fun h => ?_, fun h => ?_⟩, s1⟩
        · simp only []
          rw [s1]
          refine ⟨e1, e2, fun em j hj hjn => ?_⟩
          rw [get_set (by omega)]
          by_cases e : j = i
          · subst e; rw [if_pos rfl]
          · rw [if_neg e]
            exact e3 em j (by omega) hjn
        · simp only [] at h; rw [hnd] at h; cases h
        · simp only [] at h; rw [hnd] at h; cases h
theorem rGo_k (r : Rd) (v : Int) : (rGo r v).k = r.k := by
  unfold rGo
  by_cases h0 : r.x.t = 0
  · rw [if_pos h0]
  · rw [if_neg h0]
    by_cases h1 : r.x.t < 1 + r.x.n
    · rw [if_pos h1]
    · rw [if_neg h1]
      by_cases h2 : v = r.x.m
      · rw [if_pos h2]
      · rw [if_neg h2]
/-- The number of tries rises by one at most. -/
theorem rS_k (s : St) (r : Rd) (h : 0 ≤ r.k) : 0 ≤ (rS s r).2.k ∧ (rS s r).2.k ≤ r.k + 1 := by
  unfold rS
  by_cases hd : r.x.t = r.x.e
  · rw [if_pos hd]; simp only []; omega
  · rw [if_neg hd]
    simp only []
    rw [rGo_k]
    unfold rTry
    by_cases h0 : r.x.t = 0
    · rw [if_pos h0]; simp only []; omega
    · rw [if_neg h0]; omega
end Go.Proofs.Ytkdgjgbmbdmmfaa
