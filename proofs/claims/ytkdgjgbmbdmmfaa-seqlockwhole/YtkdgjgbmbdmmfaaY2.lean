/- Many writers on one lock: in whatever order they go on, the number is odd just as long as one of them is at the values, and never goes back. Of no program; no conditions but that the number is small. -/
import Derived.Test.YtkdgjgbmbdmmfaaY1
namespace Go.Proofs.Ytkdgjgbmbdmmfaa
open Go.RowKit

/-- Is a writer at the values? -/
def inb (n : Int) (x : Wr) : Int := if 2 ≤ x.t ∧ x.t ≤ n + 2 then 1 else 0
def cntIn (n : Int) : Nat → (Nat → Wr) → Int
  | 0, _ => 0
  | k + 1, f => cntIn n k f + inb n (f k)
theorem inb_01 (n : Int) (x : Wr) : inb n x = 0 ∨ inb n x = 1 := by unfold inb; split <;> simp
theorem cnt_0 (n : Int) : ∀ (k : Nat) (f : Nat → Wr), 0 ≤ cntIn n k f
  | 0, _ => by simp [cntIn]
  | k + 1, f => by have := cnt_0 n k f; have := inb_01 n (f k); simp only [cntIn]; omega
theorem cnt_top (n : Int) : ∀ (k : Nat) (f : Nat → Wr), cntIn n k f ≤ k
  | 0, _ => by simp [cntIn]
  | k + 1, f => by have := cnt_top n k f; have := inb_01 n (f k); simp only [cntIn]; omega
theorem cnt_ge (n : Int) (f : Nat → Wr) (i : Nat) : ∀ (k : Nat), i < k → inb n (f i) ≤ cntIn n k f
  | k + 1, h => by
    have h0 := cnt_0 n k f
    have h1 := inb_01 n (f k)
    simp only [cntIn]
    by_cases e : i = k
    · subst e; omega
    · have := cnt_ge n f i k (by omega); omega
theorem cnt_two (n : Int) (f : Nat → Wr) (i j : Nat) (hij : i ≠ j) : ∀ (k : Nat), i < k → j < k → inb n (f i) + inb n (f j) ≤ cntIn n k f
  | k + 1, hi, hj => by
    have h1 := inb_01 n (f k)
    simp only [cntIn]
    by_cases e : i = k
    · subst e
      have := cnt_ge n f j i (by omega); omega
    · by_cases e' : j = k
      · subst e'
        have := cnt_ge n f i j (by omega); omega
      · have := cnt_two n f i j hij k (by omega) (by omega); omega
theorem cnt_congr (n : Int) (f g : Nat → Wr) : ∀ (k : Nat), (∀ i, i < k → f i = g i) → cntIn n k f = cntIn n k g
  | 0, _ => rfl
  | k + 1, h => by
    simp only [cntIn]
    rw [cnt_congr n f g k (fun i hi => h i (by omega)), h k (by omega)]
theorem cnt_upd (n : Int) (f : Nat → Wr) (i : Nat) (x : Wr) : ∀ (k : Nat), i < k → cntIn n k (upd f i x) = cntIn n k f - inb n (f i) + inb n x
  | k + 1, h => by
    simp only [cntIn]
    by_cases e : i = k
    · subst e
      rw [upd_at, cnt_congr n (upd f i x) f i (fun j hj => upd_ne _ _ (by omega))]
      omega
    · rw [upd_ne _ _ (Ne.symm e), cnt_upd n f i x k (by omega)]
      omega

/-- What is known of words and writers at any time. -/
structure BI (A n : Nat) (s : St) (k : Nat) (f : Nat → Wr) : Prop where
  fit : A + n < s.xs.length
  rng : ∀ v ∈ s.xs, 0 ≤ v ∧ v ≤ 18446744073709551615
  ok : ∀ i, i < k → WOk (f i)
  ad : ∀ i, i < k → (f i).ad = A
  nn : ∀ i, i < k → (f i).n = n
  vr : ∀ i, i < k → ∀ v ∈ (f i).vs, 0 ≤ v ∧ v ≤ 18446744073709551615
  t1 : ∀ i, i < k → (f i).t = 1 → (f i).m % 2 = 0
  inn : ∀ i, i < k → 2 ≤ (f i).t → (f i).t ≤ n + 2 → (f i).m + 1 = s.xs.getD A 0
  cnt : cntIn n k f = s.xs.getD A 0 % 2
theorem BI.mok {A n : Nat} {s : St} {k : Nat} {f : Nat → Wr} (h : BI A n s k f) (i : Nat) (hi : i < k) : MOk s (f i).ad (f i).n := by
  have := h.fit
  rw [h.ad i hi, h.nn i hi]
  exact ⟨by omega, h.rng⟩

/-- The ways of a writer's step. -/
inductive Way (A n : Nat) (s : St) (x : Wr) : St → Wr → Prop
  | done (h : x.t = x.e) : Way A n s x s x
  | load (s' : St) (hs : s'.xs = s.xs) (h : x.t = 0) : Way A n s x s' { x with m := s.xs.getD A 0, t := beginT 0 (s.xs.getD A 0) }
  | yes (s' : St) (hs : s'.xs = s.xs.set A (add64 x.m 1)) (h : x.t = 1) (hm : s.xs.getD A 0 = x.m) : Way A n s x s' { x with t := 2 }
  | no (s' : St) (hs : s'.xs = s.xs) (h : x.t = 1) (hm : s.xs.getD A 0 ≠ x.m) : Way A n s x s' { x with t := 0 }
  | val (s' : St) (i : Nat) (hi : i < n) (hs : s'.xs = s.xs.set (A + 1 + i) (x.vs.getD i 0)) (h : x.t = 2 + (i : Int)) : Way A n s x s' { x with t := x.t + 1 }
  | last (s' : St) (hs : s'.xs = s.xs.set A (add64 x.m 2)) (h : x.t = 2 + (n : Int)) : Way A n s x s' { x with t := x.t + 1 }
theorem way_of {A n : Nat} {s : St} {x : Wr} (ok : WOk x) (ha : x.ad = A) (hn : x.n = n) (hf : A + n < s.xs.length) : Way A n s x (wS s x).1 (wS s x).2 := by
  obtain ⟨a0, a1, n0, n1, t0, t1, he, m0, m1⟩ := ok
  by_cases hd : x.t = x.e
  · have e : wS s x = (s, x) := by unfold wS; rw [if_pos hd]
    rw [e]
    exact .done hd
  · by_cases h0 : x.t = 0
    · obtain ⟨s1, s2⟩ := wS_0 (s := s) h0 hd ha (by omega)
      rw [s2]
      exact .load _ s1 h0
    · by_cases h1 : x.t = 1
      · by_cases hm : s.xs.getD A 0 = x.m
        · obtain ⟨s1, s2⟩ := wS_1y (s := s) h1 hd ha (by omega) hm
          rw [s2]
          exact .yes _ s1 h1 hm
        · obtain ⟨s1, s2⟩ := wS_1n (s := s) h1 hd ha (by omega) hm
          rw [s2]
          exact .no _ s1 h1 hm
      · by_cases h2 : x.t = 2 + (n : Int)
        · obtain ⟨s1, s2⟩ := wS_l (s := s) h2 hn (by omega) hd ha (by omega)
          rw [s2]
          exact .last _ s1 h2
        · obtain ⟨i, hi⟩ := Int.eq_ofNat_of_zero_le (show 0 ≤ x.t - 2 by omega)
          obtain ⟨s1, s2⟩ := wS_v (s := s) (i := i) (n := n) (by omega) hn (by omega) hd ha (by omega)
          rw [s2]
          exact .val _ i (by omega) s1 (by omega)

theorem BI.step {A n : Nat} {s : St} {k : Nat} {f : Nat → Wr} (H : BI A n s k f) (i : Nat) (hi : i < k) (hN : s.xs.getD A 0 ≤ 1000000) :
    BI A n (wS s (f i)).1 k (upd f i (wS s (f i)).2) ∧ s.xs.getD A 0 ≤ (wS s (f i)).1.xs.getD A 0 ∧ (wS s (f i)).1.xs.getD A 0 ≤ s.xs.getD A 0 + 1 := by
  obtain ⟨fit, rng, ok, ad, nn, vr, t1, inn, cnt⟩ := H
  have oki := ok i hi
  have adi := ad i hi
  have nni := nn i hi
  have vri := vr i hi
  have t1i := t1 i hi
  have inni := inn i hi
  have cge := cnt_ge n f i k hi
  have ctwo := fun j (hj : j < k) (hij : i ≠ j) => cnt_two n f i j hij k hi hj
  have N0 := (rng_get rng A).1
  have hway := way_of (s := s) oki adi nni fit
  generalize (wS s (f i)).1 = s' at hway ⊢
  generalize (wS s (f i)).2 = x' at hway ⊢
  have cu := fun y => cnt_upd n f i y k hi
  -- what is asked of each writer, from what is asked of the one that goes on
  have lift : ∀ (P : Nat → Wr → Prop) (y : Wr), P i y → (∀ j, j < k → j ≠ i → P j (f j)) → ∀ j, j < k → P j (upd f i y j) := by
    intro P y hy hr j hj
    by_cases e : j = i
    · subst e; rw [upd_at]; exact hy
    · rw [upd_ne _ _ e]; exact hr j hj e
  have ok' := oki
  obtain ⟨a0, a1, n0, n1, t0, tt, he, m0, m1⟩ := oki
  cases hway with
  | done h =>
    have e : upd f i (f i) = f := by funext j; by_cases e : j = i <;> simp [upd, e]
    rw [e]
    exact ⟨⟨fit, rng, ok, ad, nn, vr, t1, inn, cnt⟩, by omega, by omega⟩
  | load _ hs h =>
    have hb : beginT 0 (s.xs.getD A 0) = 0 ∨ beginT 0 (s.xs.getD A 0) = 1 := by unfold beginT; split <;> simp
    have hbe : beginT 0 (s.xs.getD A 0) = 1 → s.xs.getD A 0 % 2 = 0 := by unfold beginT; split <;> simp_all
    have hr := rng_get rng A
    have hin0 : inb n (f i) = 0 := by unfold inb; rw [if_neg (by omega)]
    have hin1 : inb n { f i with m := s.xs.getD A 0, t := beginT 0 (s.xs.getD A 0) } = 0 := by unfold inb; rw [if_neg (by simp only []; omega)]
    refine ⟨⟨by rw [hs]; exact fit, by rw [hs]; exact rng, ?_, ?_, ?_, ?_, ?_, ?_, ?_⟩, by rw [hs]; omega, by rw [hs]; omega⟩
    · exact lift (fun _ y => WOk y) _ ⟨a0, a1, n0, n1, by simp only []; omega, by simp only []; omega, he, hr.1, hr.2⟩ (fun j hj _ => ok j hj)
    · exact lift (fun _ y => y.ad = A) _ adi (fun j hj _ => ad j hj)
    · exact lift (fun _ y => y.n = n) _ nni (fun j hj _ => nn j hj)
    · exact lift (fun _ y => ∀ v ∈ y.vs, 0 ≤ v ∧ v ≤ 18446744073709551615) _ vri (fun j hj _ => vr j hj)
    · exact lift (fun _ y => y.t = 1 → y.m % 2 = 0) _ hbe (fun j hj _ => t1 j hj)
    · rw [hs]
      exact lift (fun _ y => 2 ≤ y.t → y.t ≤ n + 2 → y.m + 1 = s.xs.getD A 0) _ (fun h2 => by simp only [] at h2; omega) (fun j hj _ => inn j hj)
    · rw [cu, hin0, hin1, hs]; omega
  | yes _ hs h hm =>
    have hev := t1i h
    have hin0 : inb n (f i) = 0 := by unfold inb; rw [if_neg (by omega)]
    have hin1 : inb n { f i with t := 2 } = 1 := by unfold inb; rw [if_pos (by simp only []; omega)]
    have ha64 : add64 (f i).m 1 = (f i).m + 1 := add64_le m0 (by omega) (by omega)
    have hN' : s'.xs.getD A 0 = (f i).m + 1 := by rw [hs, get_set (by omega), if_pos rfl, ha64]
    refine ⟨⟨by rw [hs]; simpa using fit, by rw [hs]; exact rng_set rng _ (add64_rng _ _).1 (add64_rng _ _).2, ?_, ?_, ?_, ?_, ?_, ?_, ?_⟩, by omega, by omega⟩
    · exact lift (fun _ y => WOk y) _ ⟨a0, a1, n0, n1, by simp, by simp only []; omega, he, m0, m1⟩ (fun j hj _ => ok j hj)
    · exact lift (fun _ y => y.ad = A) _ adi (fun j hj _ => ad j hj)
    · exact lift (fun _ y => y.n = n) _ nni (fun j hj _ => nn j hj)
    · exact lift (fun _ y => ∀ v ∈ y.vs, 0 ≤ v ∧ v ≤ 18446744073709551615) _ vri (fun j hj _ => vr j hj)
    · exact lift (fun _ y => y.t = 1 → y.m % 2 = 0) _ (fun e => by simp only [] at e; omega) (fun j hj _ => t1 j hj)
    · refine lift (fun _ y => 2 ≤ y.t → y.t ≤ n + 2 → y.m + 1 = s'.xs.getD A 0) _ (fun _ _ => hN'.symm) (fun j hj _ h2 h3 => ?_)
      have hj1 : inb n (f j) = 1 := by unfold inb; rw [if_pos ⟨h2, h3⟩]
      have := cnt_ge n f j k hj
      omega
    · rw [cu, hin0, hin1, hN']; omega
  | no _ hs h hm =>
    have hin0 : inb n (f i) = 0 := by unfold inb; rw [if_neg (by omega)]
    have hin1 : inb n { f i with t := 0 } = 0 := by unfold inb; rw [if_neg (by simp only []; omega)]
    refine ⟨⟨by rw [hs]; exact fit, by rw [hs]; exact rng, ?_, ?_, ?_, ?_, ?_, ?_, ?_⟩, by rw [hs]; omega, by rw [hs]; omega⟩
    · exact lift (fun _ y => WOk y) _ ⟨a0, a1, n0, n1, by simp, by simp only []; omega, he, m0, m1⟩ (fun j hj _ => ok j hj)
    · exact lift (fun _ y => y.ad = A) _ adi (fun j hj _ => ad j hj)
    · exact lift (fun _ y => y.n = n) _ nni (fun j hj _ => nn j hj)
    · exact lift (fun _ y => ∀ v ∈ y.vs, 0 ≤ v ∧ v ≤ 18446744073709551615) _ vri (fun j hj _ => vr j hj)
    · exact lift (fun _ y => y.t = 1 → y.m % 2 = 0) _ (fun e => by simp only [] at e; omega) (fun j hj _ => t1 j hj)
    · rw [hs]
      exact lift (fun _ y => 2 ≤ y.t → y.t ≤ n + 2 → y.m + 1 = s.xs.getD A 0) _ (fun h2 => by simp only [] at h2; omega) (fun j hj _ => inn j hj)
    · rw [cu, hin0, hin1, hs]; omega
  | val _ a ha hs h =>
    have hva := rng_get vri a
    have hin0 : inb n (f i) = 1 := by unfold inb; rw [if_pos (by omega)]
    have hin1 : inb n { f i with t := (f i).t + 1 } = 1 := by unfold inb; rw [if_pos (by simp only []; omega)]
    have hN' : s'.xs.getD A 0 = s.xs.getD A 0 := by rw [hs, get_set (by omega), if_neg (by omega)]
    refine ⟨⟨by rw [hs]; simpa using fit, by rw [hs]; exact rng_set rng _ hva.1 hva.2, ?_, ?_, ?_, ?_, ?_, ?_, ?_⟩, by omega, by omega⟩
    · exact lift (fun _ y => WOk y) _ ⟨a0, a1, n0, n1, by simp only []; omega, by simp only []; omega, he, m0, m1⟩ (fun j hj _ => ok j hj)
    · exact lift (fun _ y => y.ad = A) _ adi (fun j hj _ => ad j hj)
    · exact lift (fun _ y => y.n = n) _ nni (fun j hj _ => nn j hj)
    · exact lift (fun _ y => ∀ v ∈ y.vs, 0 ≤ v ∧ v ≤ 18446744073709551615) _ vri (fun j hj _ => vr j hj)
    · exact lift (fun _ y => y.t = 1 → y.m % 2 = 0) _ (fun e => by simp only [] at e; omega) (fun j hj _ => t1 j hj)
    · rw [hN']
      exact lift (fun _ y => 2 ≤ y.t → y.t ≤ n + 2 → y.m + 1 = s.xs.getD A 0) _ (fun _ _ => inni (by omega) (by omega)) (fun j hj _ => inn j hj)
    · rw [cu, hin0, hin1, hN']; omega
  | last _ hs h =>
    have hm := inni (by omega) (by omega)
    have hin0 : inb n (f i) = 1 := by unfold inb; rw [if_pos (by omega)]
    have hin1 : inb n { f i with t := (f i).t + 1 } = 0 := by unfold inb; rw [if_neg (by simp only []; omega)]
    have ha64 : add64 (f i).m 2 = (f i).m + 2 := add64_le m0 (by omega) (by omega)
    have hN' : s'.xs.getD A 0 = (f i).m + 2 := by rw [hs, get_set (by omega), if_pos rfl, ha64]
    refine ⟨⟨by rw [hs]; simpa using fit, by rw [hs]; exact rng_set rng _ (add64_rng _ _).1 (add64_rng _ _).2, ?_, ?_, ?_, ?_, ?_, ?_, ?_⟩, by omega, by omega⟩
    · exact lift (fun _ y => WOk y) _ ⟨a0, a1, n0, n1, by simp only []; omega, by simp only []; omega, he, m0, m1⟩ (fun j hj _ => ok j hj)
    · exact lift (fun _ y => y.ad = A) _ adi (fun j hj _ => ad j hj)
    · exact lift (fun _ y => y.n = n) _ nni (fun j hj _ => nn j hj)
    · exact lift (fun _ y => ∀ v ∈ y.vs, 0 ≤ v ∧ v ≤ 18446744073709551615) _ vri (fun j hj _ => vr j hj)
    · exact lift (fun _ y => y.t = 1 → y.m % 2 = 0) _ (fun e => by simp only [] at e; omega) (fun j hj _ => t1 j hj)
    · refine lift (fun _ y => 2 ≤ y.t → y.t ≤ n + 2 → y.m + 1 = s'.xs.getD A 0) _ (fun _ h3 => by simp only [] at h3; omega) (fun j hj hji h2 h3 => ?_)
      have hj1 : inb n (f j) = 1 := by unfold inb; rw [if_pos ⟨h2, h3⟩]
      have := ctwo j hj (Ne.symm hji)
      omega
    · rw [cu, hin0, hin1, hN']; omega
/-- What is known when one writer more has been made. -/
theorem BI.push {A n : Nat} {s : St} {k : Nat} {f : Nat → Wr} (H : BI A n s k f) (x : Wr) (ok : WOk x) (ha : x.ad = A) (hn : x.n = n) (ht : x.t = 0) (hv : ∀ v ∈ x.vs, 0 ≤ v ∧ v ≤ 18446744073709551615) : BI A n s (k + 1) (upd f k x) := by
  have lift : ∀ (P : Wr → Prop), P x → (∀ j, j < k → P (f j)) → ∀ j, j < k + 1 → P (upd f k x j) := by
    intro P hy hr j hj
    by_cases e : j = k
    · subst e; rw [upd_at]; exact hy
    · rw [upd_ne _ _ e]; exact hr j (by omega)
  refine ⟨H.fit, H.rng, lift _ ok H.ok, lift (fun y => y.ad = A) ha H.ad, lift (fun y => y.n = n) hn H.nn, lift (fun y => ∀ v ∈ y.vs, 0 ≤ v ∧ v ≤ 18446744073709551615) hv H.vr, lift (fun y => y.t = 1 → y.m % 2 = 0) (fun e => by omega) H.t1, lift (fun y => 2 ≤ y.t → y.t ≤ n + 2 → y.m + 1 = s.xs.getD A 0) (fun e => by omega) H.inn, ?_⟩
  simp only [cntIn]
  rw [cnt_congr n (upd f k x) f k (fun j hj => upd_ne _ _ (by omega)), upd_at, H.cnt]
  have : inb n x = 0 := by unfold inb; rw [if_neg (by omega)]
  omega
theorem BI.mem {A n : Nat} {s s' : St} {k : Nat} {f : Nat → Wr} (H : BI A n s k f) (h : s'.xs = s.xs) : BI A n s' k f :=
  ⟨by rw [h]; exact H.fit, by rw [h]; exact H.rng, H.ok, H.ad, H.nn, H.vr, H.t1, by rw [h]; exact H.inn, by rw [h]; exact H.cnt⟩
end Go.Proofs.Ytkdgjgbmbdmmfaa
