/- What is so of a ring and of all who push and pop, whatever order their steps are in. Of no function; no conditions. -/
import Derived.Test.YtfnfbceblpaggaaY1
namespace Go.Proofs.Ytfnfbceblpaggaa
open Go.RowKit

/-- It has claimed its position. -/
def Cl (a : Ap) : Prop := a.tn = 3 ∨ a.tn = 4 ∨ a.wh = true

/-- A ring of n slots; np who push (the one with the number k pushes 100 + k); ng who pop. D: which positions are pushed; E: which are popped; val: who has claimed a position to push. -/
structure OI (n np ng : Nat) (r : Rg) (P G : Nat → Ap) (D E : Nat → Bool) (val : Nat → Nat) : Prop where
  le : r.o ≤ r.i
  room : r.i ≤ r.o + n
  tP : ∀ p, r.o ≤ p → p < r.i → r.T (p % n) = if D p = true then ((p + 1 : Nat) : Int) else (p : Int)
  tG : ∀ p, p < r.o → r.i ≤ p + n → r.T (p % n) = if E p = true then ((p + n : Nat) : Int) else ((p + 1 : Nat) : Int)
  tF : ∀ q, r.i ≤ q → q < n → r.T q = (q : Int)
  old : ∀ p, p + n < r.i → E p = true
  dn : ∀ p, p < r.o → D p = true
  dn2 : ∀ p, r.i ≤ p → D p = false
  en : ∀ p, r.o ≤ p → E p = false
  vV : ∀ p, p < r.i → D p = true → E p = false → r.V (p % n) = ((100 + val p : Nat) : Int)
  own : ∀ p, p < r.i → val p < np ∧ Cl (P (val p)) ∧ (P (val p)).ps = p
  p1 : ∀ k, k < np → (P k).tn = 1 ∨ (P k).tn = 2 → (P k).ps ≤ r.i
  p2 : ∀ k, k < np → (P k).tn = 2 → (P k).ps = r.i → r.T (r.i % n) = (r.i : Int)
  p3 : ∀ k, k < np → (P k).tn = 3 ∨ (P k).tn = 4 → (P k).ps < r.i ∧ D (P k).ps = false ∧ val (P k).ps = k
  p4 : ∀ k, k < np → (P k).tn = 4 → r.V ((P k).ps % n) = ((100 + k : Nat) : Int)
  p5 : ∀ k, k < np → (P k).wh = true → (P k).tn = 5
  g1 : ∀ j, j < ng → (G j).tn = 1 ∨ (G j).tn = 2 → (G j).ps ≤ r.o
  g2 : ∀ j, j < ng → (G j).tn = 2 → (G j).ps = r.o → r.T (r.o % n) = ((r.o + 1 : Nat) : Int)
  g3 : ∀ j, j < ng → (G j).tn = 3 ∨ (G j).tn = 4 → (G j).ps < r.o ∧ E (G j).ps = false
  g4 : ∀ j, j < ng → (G j).tn = 4 ∨ (G j).wh = true → (G j).mv = ((100 + val (G j).ps : Nat) : Int)
  g5 : ∀ j, j < ng → (G j).wh = true → (G j).tn = 5 ∧ (G j).ps < r.o
  gd : ∀ i j, i < ng → j < ng → i ≠ j → Cl (G i) → Cl (G j) → (G i).ps ≠ (G j).ps

section
variable {n np ng : Nat} {r : Rg} {P G : Nat → Ap} {D E : Nat → Bool} {val : Nat → Nat}

theorem OI.first (np ng : Nat) : OI n np ng (rg0 n) (fun _ => ap0) (fun _ => ap0) (fun _ => false) (fun _ => false) (fun _ => 0) := by
  constructor <;> simp [rg0, Cl] <;> omega

/-- A slot is of one position at a time. -/
theorem OI.apart (H : OI n np ng r P G D E val) {p q : Nat} (hp : p < r.i) (hq : q < r.i) (hp2 : r.i ≤ p + n) (hq2 : r.i ≤ q + n) (h : p ≠ q) : p % n ≠ q % n := by
  have := H.le
  exact fun x => h (mod_near x (by omega) (by omega))
theorem mod_next {n p : Nat} (hn : 2 ≤ n) : (p + 1) % n ≠ p % n := fun x => by have := mod_near x (by omega) (by omega); omega

/-- The one who pushes turns, the ring does not; it had claimed nothing. -/
theorem OI.turnP (H : OI n np ng r P G D E val) {k : Nat} (hk : k < np) {a : Ap} (h0 : ¬ Cl (P k)) (h1 : ¬ Cl a) (h2 : a.tn = 1 ∨ a.tn = 2 → a.ps ≤ r.i) (h3 : a.tn = 2 → a.ps = r.i → r.T (r.i % n) = (r.i : Int)) :
    OI n np ng r (put P k a) G D E val := by
  have hw : a.wh = false := by cases h : a.wh with | false => rfl | true => exact absurd (Or.inr (Or.inr h)) h1
  have h34 : ¬ (a.tn = 3 ∨ a.tn = 4) := fun h => h1 (h.elim Or.inl (fun x => Or.inr (Or.inl x)))
  exact { H with
    own := fun p hp => by
      obtain ⟨a1, a2, a3⟩ := H.own p hp
      have : val p ≠ k := fun e => h0 (e ▸ a2)
      rw [put_ne _ _ this]
      exact ⟨a1, a2, a3⟩
    p1 := fun j hj h => by
      by_cases e : j = k
      · subst e; rw [put_at] at h ⊢; exact h2 h
      · rw [put_ne _ _ e] at h ⊢; exact H.p1 j hj h
    p2 := fun j hj h hps => by
      by_cases e : j = k
      · subst e; rw [put_at] at h hps; exact h3 h hps
      · rw [put_ne _ _ e] at h hps; exact H.p2 j hj h hps
    p3 := fun j hj h => by
      by_cases e : j = k
      · subst e; rw [put_at] at h; exact absurd h h34
      · rw [put_ne _ _ e] at h ⊢; exact H.p3 j hj h
    p4 := fun j hj h => by
      by_cases e : j = k
      · subst e; rw [put_at] at h; exact absurd (Or.inr h) h34
      · rw [put_ne _ _ e] at h ⊢; exact H.p4 j hj h
    p5 := fun j hj h => by
      by_cases e : j = k
      · subst e; rw [put_at] at h; rw [hw] at h; cases h
      · rw [put_ne _ _ e] at h ⊢; exact H.p5 j hj h }
theorem OI.turnG (H : OI n np ng r P G D E val) {k : Nat} {a : Ap} (h1 : ¬ Cl a) (h2 : a.tn = 1 ∨ a.tn = 2 → a.ps ≤ r.o) (h3 : a.tn = 2 → a.ps = r.o → r.T (r.o % n) = ((r.o + 1 : Nat) : Int)) :
    OI n np ng r P (put G k a) D E val := by
  have hw : a.wh = false := by cases h : a.wh with | false => rfl | true => exact absurd (Or.inr (Or.inr h)) h1
  have h34 : ¬ (a.tn = 3 ∨ a.tn = 4) := fun h => h1 (h.elim Or.inl (fun x => Or.inr (Or.inl x)))
  exact { H with
    g1 := fun j hj h => by
      by_cases e : j = k
      · subst e; rw [put_at] at h ⊢; exact h2 h
      · rw [put_ne _ _ e] at h ⊢; exact H.g1 j hj h
    g2 := fun j hj h hps => by
      by_cases e : j = k
      · subst e; rw [put_at] at h hps; exact h3 h hps
      · rw [put_ne _ _ e] at h hps; exact H.g2 j hj h hps
    g3 := fun j hj h => by
      by_cases e : j = k
      · subst e; rw [put_at] at h; exact absurd h h34
      · rw [put_ne _ _ e] at h ⊢; exact H.g3 j hj h
    g4 := fun j hj h => by
      by_cases e : j = k
      · subst e; rw [put_at] at h; rw [hw] at h; exact absurd (Or.inr (h.resolve_right (by simp))) h34
      · rw [put_ne _ _ e] at h ⊢; exact H.g4 j hj h
    g5 := fun j hj h => by
      by_cases e : j = k
      · subst e; rw [put_at] at h; rw [hw] at h; cases h
      · rw [put_ne _ _ e] at h ⊢; exact H.g5 j hj h
    gd := fun i j hi hj hij hc1 hc2 => by
      by_cases e : i = k
      · subst e; rw [put_at] at hc1; exact absurd hc1 h1
      · by_cases e' : j = k
        · subst e'; rw [put_at] at hc2; exact absurd hc2 h1
        · rw [put_ne _ _ e] at hc1 ⊢
          rw [put_ne _ _ e'] at hc2 ⊢
          exact H.gd i j hi hj hij hc1 hc2 }

/-- A position is claimed to push. -/
theorem OI.claimP (hn : 2 ≤ n) (H : OI n np ng r P G D E val) {k : Nat} (hk : k < np) (ht : (P k).tn = 2) (hps : (P k).ps = r.i) (mv : Int) :
    OI n np ng { r with i := r.i + 1 } (put P k ⟨3, r.i, mv, false⟩) G D E (put val r.i k) := by
  have hle := H.le
  have hT := H.p2 k hk ht hps
  have hnc : ¬ Cl (P k) := by
    rintro (h | h | h)
    · omega
    · omega
    · have := H.p5 k hk h; omega
  have hroom : r.i + 1 ≤ r.o + n ∧ ∀ p, p + n = r.i → E p = true := by
    by_cases hin : r.i < n
    · exact ⟨by omega, fun p hp => by omega⟩
    · obtain ⟨p, hp⟩ : ∃ p, r.i = p + n := ⟨r.i - n, by omega⟩
      have e : r.i % n = p % n := by rw [hp]; simp
      rw [e] at hT
      have hpo : p < r.o := by
        by_cases q : p < r.o
        · exact q
        · have := H.tP p (by omega) (by omega)
          rw [hT] at this
          split at this <;> omega
      refine ⟨by omega, fun p' hp' => ?_⟩
      obtain rfl : p' = p := by omega
      have := H.tG p' hpo (by omega)
      rw [hT] at this
      split at this
      · assumption
      · omega
  exact { H with
    le := by simp only []; omega
    room := by simp only []; omega
    tP := fun p h1 h2 => by
      simp only [] at h1 h2 ⊢
      by_cases e : p = r.i
      · subst e; rw [H.dn2 _ (Nat.le_refl _)]; simpa using hT
      · exact H.tP p h1 (by omega)
    tG := fun p h1 h2 => H.tG p h1 (by simp only [] at h2; omega)
    tF := fun q h1 h2 => H.tF q (by simp only [] at h1; omega) h2
    old := fun p h => by
      simp only [] at h
      by_cases e : p + n = r.i
      · exact hroom.2 p e
      · exact H.old p (by omega)
    dn2 := fun p h => H.dn2 p (by simp only [] at h; omega)
    vV := fun p h1 h2 h3 => by
      simp only [] at h1 ⊢
      have : p ≠ r.i := fun e => by rw [e, H.dn2 _ (Nat.le_refl _)] at h2; cases h2
      rw [put_ne _ _ this]
      exact H.vV p (by omega) h2 h3
    own := fun p h => by
      simp only [] at h
      by_cases e : p = r.i
      · subst e; rw [put_at, put_at]; exact ⟨hk, Or.inl rfl, rfl⟩
      · rw [put_ne _ _ e]
        obtain ⟨a1, a2, a3⟩ := H.own p (by omega)
        have : val p ≠ k := fun x => hnc (x ▸ a2)
        rw [put_ne _ _ this]
        exact ⟨a1, a2, a3⟩
    p1 := fun j hj h => by
      simp only []
      by_cases e : j = k
      · subst e; rw [put_at] at h; simp at h
      · rw [put_ne _ _ e] at h ⊢; have := H.p1 j hj h; omega
    p2 := fun j hj h hq => by
      simp only [] at hq
      by_cases e : j = k
      · subst e; rw [put_at] at h; simp at h
      · rw [put_ne _ _ e] at h hq; have := H.p1 j hj (Or.inr h); omega
    p3 := fun j hj h => by
      simp only []
      by_cases e : j = k
      · subst e; rw [put_at]; exact ⟨by simp, H.dn2 _ (Nat.le_refl _), by simp [put_at]⟩
      · rw [put_ne _ _ e] at h ⊢
        obtain ⟨a1, a2, a3⟩ := H.p3 j hj h
        refine ⟨by omega, a2, ?_⟩
        rw [put_ne _ _ (by omega)]; exact a3
    p4 := fun j hj h => by
      simp only []
      by_cases e : j = k
      · subst e; rw [put_at] at h; simp at h
      · rw [put_ne _ _ e] at h ⊢; exact H.p4 j hj h
    p5 := fun j hj h => by
      by_cases e : j = k
      · subst e; rw [put_at] at h; simp at h
      · rw [put_ne _ _ e] at h ⊢; exact H.p5 j hj h
    g4 := fun j hj h => by
      have : (G j).ps < r.o := h.elim (fun x => (H.g3 j hj (Or.inr x)).1) (fun x => (H.g5 j hj x).2)
      rw [put_ne _ _ (by omega)]
      exact H.g4 j hj h }
/-- The value is laid. -/
theorem OI.layP (H : OI n np ng r P G D E val) {k : Nat} (hk : k < np) (ht : (P k).tn = 3) (mv : Int) :
    OI n np ng { r with V := upd r.V ((P k).ps % n) ((100 + k : Nat) : Int) } (put P k ⟨4, (P k).ps, mv, (P k).wh⟩) G D E val := by
  have hle := H.le
  have hroom := H.room
  obtain ⟨a1, a2, a3⟩ := H.p3 k hk (Or.inl ht)
  have hlo : r.o ≤ (P k).ps := by
    by_cases q : (P k).ps < r.o
    · have := H.dn _ q; rw [a2] at this; cases this
    · omega
  have hw : (P k).wh = false := by cases h : (P k).wh with | false => rfl | true => have := H.p5 k hk h; omega
  exact { H with
    vV := fun p h1 h2 h3 => by
      have hne : p ≠ (P k).ps := fun e => by rw [e, a2] at h2; cases h2
      have hwin : r.i ≤ p + n := by
        by_cases q : p + n < r.i
        · have := H.old p q; rw [h3] at this; cases this
        · omega
      simp only [upd, if_neg (H.apart h1 a1 hwin (by omega) hne)]
      exact H.vV p h1 h2 h3
    own := fun p h => by
      obtain ⟨b1, b2, b3⟩ := H.own p h
      by_cases e : val p = k
      · rw [e, put_at]; rw [e] at b3; exact ⟨hk, Or.inr (Or.inl rfl), b3⟩
      · rw [put_ne _ _ e]; exact ⟨b1, b2, b3⟩
    p1 := fun j hj h => by
      by_cases e : j = k
      · subst e; rw [put_at] at h; simp at h
      · rw [put_ne _ _ e] at h ⊢; exact H.p1 j hj h
    p2 := fun j hj h hq => by
      by_cases e : j = k
      · subst e; rw [put_at] at h; simp at h
      · rw [put_ne _ _ e] at h hq; exact H.p2 j hj h hq
    p3 := fun j hj h => by
      by_cases e : j = k
      · subst e; rw [put_at]; exact ⟨a1, a2, a3⟩
      · rw [put_ne _ _ e] at h ⊢; exact H.p3 j hj h
    p4 := fun j hj h => by
      by_cases e : j = k
      · subst e; rw [put_at]; simp [upd]
      · rw [put_ne _ _ e] at h ⊢
        obtain ⟨b1, b2, b3⟩ := H.p3 j hj (Or.inr h)
        have hlo2 : r.o ≤ (P j).ps := by
          by_cases q : (P j).ps < r.o
          · have := H.dn _ q; rw [b2] at this; cases this
          · omega
        have hne : (P j).ps ≠ (P k).ps := fun x => e (by rw [x, a3] at b3; exact b3.symm)
        simp only [upd, if_neg (H.apart b1 a1 (by omega) (by omega) hne)]
        exact H.p4 j hj h
    p5 := fun j hj h => by
      by_cases e : j = k
      · subst e; rw [put_at] at h; simp only [] at h; rw [hw] at h; cases h
      · rw [put_ne _ _ e] at h ⊢; exact H.p5 j hj h }
/-- A push is done. -/
theorem OI.doneP (hn : 2 ≤ n) (H : OI n np ng r P G D E val) {k : Nat} (hk : k < np) (ht : (P k).tn = 4) (mv : Int) :
    OI n np ng { r with T := upd r.T ((P k).ps % n) (((P k).ps + 1 : Nat) : Int) } (put P k ⟨5, (P k).ps, mv, true⟩) G (put D (P k).ps true) E val := by
  have hle := H.le
  have hroom := H.room
  obtain ⟨a1, a2, a3⟩ := H.p3 k hk (Or.inr ht)
  have a4 := H.p4 k hk ht
  have hlo : r.o ≤ (P k).ps := by
    by_cases q : (P k).ps < r.o
    · have := H.dn _ q; rw [a2] at this; cases this
    · omega
  have hTp := H.tP _ hlo a1
  rw [a2] at hTp
  simp only [Bool.false_eq_true, if_false] at hTp
  exact { H with
    tP := fun p h1 h2 => by
      simp only [] at h1 h2
      by_cases e : p = (P k).ps
      · subst e; simp [upd, put_at]
      · rw [put_ne _ _ e]
        simp only [upd, if_neg (H.apart h2 a1 (by omega) (by omega) e)]
        exact H.tP p h1 h2
    tG := fun p h1 h2 => by
      simp only [] at h1 h2
      simp only [upd, if_neg (H.apart (p := p) (by omega) a1 h2 (by omega) (by omega))]
      exact H.tG p h1 h2
    tF := fun q h1 h2 => by
      simp only [] at h1
      have : q ≠ (P k).ps % n := by rw [Nat.mod_eq_of_lt (by omega)]; omega
      simp only [upd, if_neg this]
      exact H.tF q h1 h2
    dn := fun p h => by
      by_cases e : p = (P k).ps
      · rw [e, put_at]
      · rw [put_ne _ _ e]; exact H.dn p h
    dn2 := fun p h => by
      simp only [] at h
      rw [put_ne _ _ (by omega)]; exact H.dn2 p h
    vV := fun p h1 h2 h3 => by
      simp only []
      by_cases e : p = (P k).ps
      · rw [e, a4, a3]
      · rw [put_ne _ _ e] at h2; exact H.vV p h1 h2 h3
    own := fun p h => by
      obtain ⟨b1, b2, b3⟩ := H.own p h
      by_cases e : val p = k
      · rw [e, put_at]; rw [e] at b3; exact ⟨hk, Or.inr (Or.inr rfl), b3⟩
      · rw [put_ne _ _ e]; exact ⟨b1, b2, b3⟩
    p1 := fun j hj h => by
      by_cases e : j = k
      · subst e; rw [put_at] at h; simp at h
      · rw [put_ne _ _ e] at h ⊢; exact H.p1 j hj h
    p2 := fun j hj h hq => by
      by_cases e : j = k
      · subst e; rw [put_at] at h; simp at h
      · rw [put_ne _ _ e] at h hq
        have hT := H.p2 j hj h hq
        have : r.i % n ≠ (P k).ps % n := fun x => by rw [x, hTp] at hT; omega
        simp only [upd, if_neg this]
        exact hT
    p3 := fun j hj h => by
      by_cases e : j = k
      · subst e; rw [put_at] at h; simp at h
      · rw [put_ne _ _ e] at h ⊢
        obtain ⟨b1, b2, b3⟩ := H.p3 j hj h
        have hne : (P j).ps ≠ (P k).ps := fun x => e (by rw [x, a3] at b3; exact b3.symm)
        rw [put_ne _ _ hne]
        exact ⟨b1, b2, b3⟩
    p4 := fun j hj h => by
      by_cases e : j = k
      · subst e; rw [put_at] at h; simp at h
      · rw [put_ne _ _ e] at h ⊢; exact H.p4 j hj h
    p5 := fun j hj h => by
      by_cases e : j = k
      · subst e; rw [put_at]
      · rw [put_ne _ _ e] at h ⊢; exact H.p5 j hj h
    g2 := fun j hj h hq => by
      have hT := H.g2 j hj h hq
      simp only []
      have : r.o % n ≠ (P k).ps % n := fun x => by
        rw [x, hTp] at hT
        have e : (P k).ps = r.o + 1 := by omega
        rw [e] at x
        exact mod_next hn x.symm
      simp only [upd, if_neg this]
      exact hT }
/-- A position is claimed to pop. -/
theorem OI.claimG (hn : 2 ≤ n) (H : OI n np ng r P G D E val) {k : Nat} (hk : k < ng) (ht : (G k).tn = 2) (hps : (G k).ps = r.o) (mv : Int) :
    OI n np ng { r with o := r.o + 1 } P (put G k ⟨3, r.o, mv, false⟩) D E val := by
  have hle := H.le
  have hroom := H.room
  have hT := H.g2 k hk ht hps
  have hlt : r.o < r.i := by
    by_cases q : r.o < r.i
    · exact q
    · have e : r.o = r.i := by omega
      by_cases hin : r.i < n
      · have := H.tF r.i (Nat.le_refl _) hin
        rw [e, Nat.mod_eq_of_lt hin, this] at hT
        omega
      · obtain ⟨p, hp⟩ : ∃ p, r.i = p + n := ⟨r.i - n, by omega⟩
        have e2 : r.o % n = p % n := by rw [e, hp]; simp
        have := H.tG p (by omega) (by omega)
        rw [← e2, hT] at this
        split at this <;> omega
  have hD : D r.o = true := by
    have := H.tP r.o (Nat.le_refl _) hlt
    rw [hT] at this
    split at this
    · assumption
    · omega
  exact { H with
    le := by simp only []; omega
    room := by simp only []; omega
    tP := fun p h1 h2 => H.tP p (by simp only [] at h1; omega) h2
    tG := fun p h1 h2 => by
      simp only [] at h1 h2 ⊢
      by_cases e : p = r.o
      · rw [e, H.en _ (Nat.le_refl _), hT]; simp
      · exact H.tG p (by omega) h2
    dn := fun p h => by
      simp only [] at h
      by_cases e : p = r.o
      · rw [e]; exact hD
      · exact H.dn p (by omega)
    en := fun p h => H.en p (by simp only [] at h; omega)
    g1 := fun j hj h => by
      simp only []
      by_cases e : j = k
      · subst e; rw [put_at] at h; simp at h
      · rw [put_ne _ _ e] at h ⊢; have := H.g1 j hj h; omega
    g2 := fun j hj h hq => by
      simp only [] at hq
      by_cases e : j = k
      · subst e; rw [put_at] at h; simp at h
      · rw [put_ne _ _ e] at h hq; have := H.g1 j hj (Or.inr h); omega
    g3 := fun j hj h => by
      simp only []
      by_cases e : j = k
      · subst e; rw [put_at]; exact ⟨by simp, H.en _ (Nat.le_refl _)⟩
      · rw [put_ne _ _ e] at h ⊢; have := H.g3 j hj h; exact ⟨by omega, this.2⟩
    g4 := fun j hj h => by
      by_cases e : j = k
      · subst e; rw [put_at] at h; simp at h
      · rw [put_ne _ _ e] at h ⊢; exact H.g4 j hj h
    g5 := fun j hj h => by
      simp only []
      by_cases e : j = k
      · subst e; rw [put_at] at h; simp at h
      · rw [put_ne _ _ e] at h ⊢; have := H.g5 j hj h; exact ⟨this.1, by omega⟩
    gd := fun i j hi hj hij hc1 hc2 => by
      have big : ∀ m, m < ng → Cl (G m) → (G m).ps < r.o := by
        rintro m hm (h | h | h)
        · exact (H.g3 m hm (Or.inl h)).1
        · exact (H.g3 m hm (Or.inr h)).1
        · exact (H.g5 m hm h).2
      by_cases e : i = k
      · subst e
        rw [put_at]
        rw [put_ne _ _ (Ne.symm hij)] at hc2 ⊢
        have := big j hj hc2
        simp only []; omega
      · rw [put_ne _ _ e] at hc1 ⊢
        by_cases e' : j = k
        · subst e'
          rw [put_at]
          have := big i hi hc1
          simp only []; omega
        · rw [put_ne _ _ e'] at hc2 ⊢
          exact H.gd i j hi hj hij hc1 hc2 }
/-- The value is loaded. -/
theorem OI.takeG (H : OI n np ng r P G D E val) {k : Nat} (hk : k < ng) (ht : (G k).tn = 3) :
    OI n np ng r P (put G k ⟨4, (G k).ps, r.V ((G k).ps % n), (G k).wh⟩) D E val := by
  have hle := H.le
  obtain ⟨a1, a2⟩ := H.g3 k hk (Or.inl ht)
  have hv := H.vV _ (by omega) (H.dn _ a1) a2
  have hw : (G k).wh = false := by cases h : (G k).wh with | false => rfl | true => have := (H.g5 k hk h).1; omega
  exact { H with
    g1 := fun j hj h => by
      by_cases e : j = k
      · subst e; rw [put_at] at h; simp at h
      · rw [put_ne _ _ e] at h ⊢; exact H.g1 j hj h
    g2 := fun j hj h hq => by
      by_cases e : j = k
      · subst e; rw [put_at] at h; simp at h
      · rw [put_ne _ _ e] at h hq; exact H.g2 j hj h hq
    g3 := fun j hj h => by
      by_cases e : j = k
      · subst e; rw [put_at]; exact ⟨a1, a2⟩
      · rw [put_ne _ _ e] at h ⊢; exact H.g3 j hj h
    g4 := fun j hj h => by
      by_cases e : j = k
      · subst e; rw [put_at]; exact hv
      · rw [put_ne _ _ e] at h ⊢; exact H.g4 j hj h
    g5 := fun j hj h => by
      by_cases e : j = k
      · subst e; rw [put_at] at h; simp only [] at h; rw [hw] at h; cases h
      · rw [put_ne _ _ e] at h ⊢; exact H.g5 j hj h
    gd := fun i j hi hj hij hc1 hc2 => by
      have hck : Cl (G k) := Or.inl ht
      by_cases e : i = k
      · subst e
        rw [put_at]
        rw [put_ne _ _ (Ne.symm hij)] at hc2 ⊢
        exact H.gd i j hi hj hij hck hc2
      · rw [put_ne _ _ e] at hc1 ⊢
        by_cases e' : j = k
        · subst e'
          rw [put_at]
          exact H.gd i j hi hj hij hc1 hck
        · rw [put_ne _ _ e'] at hc2 ⊢
          exact H.gd i j hi hj hij hc1 hc2 }
/-- A pop is done. -/
theorem OI.doneG (hn : 2 ≤ n) (H : OI n np ng r P G D E val) {k : Nat} (hk : k < ng) (ht : (G k).tn = 4) :
    OI n np ng { r with T := upd r.T ((G k).ps % n) (((G k).ps + n : Nat) : Int) } P (put G k ⟨5, (G k).ps, (G k).mv, true⟩) D (put E (G k).ps true) val := by
  have hle := H.le
  have hroom := H.room
  obtain ⟨a1, a2⟩ := H.g3 k hk (Or.inr ht)
  have a4 := H.g4 k hk (Or.inl ht)
  have hwin : r.i ≤ (G k).ps + n := by
    by_cases q : (G k).ps + n < r.i
    · have := H.old _ q; rw [a2] at this; cases this
    · omega
  have hTp := H.tG _ a1 hwin
  rw [a2] at hTp
  simp only [Bool.false_eq_true, if_false] at hTp
  have hck : Cl (G k) := Or.inr (Or.inl ht)
  exact { H with
    tP := fun p h1 h2 => by
      simp only [] at h1 h2
      simp only [upd, if_neg (H.apart (p := p) h2 (by omega) (by omega) hwin (by omega))]
      exact H.tP p h1 h2
    tG := fun p h1 h2 => by
      simp only [] at h1 h2
      by_cases e : p = (G k).ps
      · subst e; simp [upd, put_at]
      · rw [put_ne _ _ e]
        simp only [upd, if_neg (H.apart (p := p) (by omega) (by omega) h2 hwin e)]
        exact H.tG p h1 h2
    tF := fun q h1 h2 => by
      simp only [] at h1
      have : q ≠ (G k).ps % n := by rw [Nat.mod_eq_of_lt (by omega)]; omega
      simp only [upd, if_neg this]
      exact H.tF q h1 h2
    old := fun p h => by
      by_cases e : p = (G k).ps
      · rw [e, put_at]
      · rw [put_ne _ _ e]; exact H.old p h
    en := fun p h => by
      simp only [] at h
      rw [put_ne _ _ (by omega)]; exact H.en p h
    vV := fun p h1 h2 h3 => by
      simp only []
      by_cases e : p = (G k).ps
      · rw [e, put_at] at h3; cases h3
      · rw [put_ne _ _ e] at h3; exact H.vV p h1 h2 h3
    p2 := fun j hj h hq => by
      have hT := H.p2 j hj h hq
      simp only []
      have : r.i % n ≠ (G k).ps % n := fun x => by
        rw [x, hTp] at hT
        have e : r.i = (G k).ps + 1 := by omega
        rw [e] at x
        exact mod_next hn x
      simp only [upd, if_neg this]
      exact hT
    g1 := fun j hj h => by
      by_cases e : j = k
      · subst e; rw [put_at] at h; simp at h
      · rw [put_ne _ _ e] at h ⊢; exact H.g1 j hj h
    g2 := fun j hj h hq => by
      by_cases e : j = k
      · subst e; rw [put_at] at h; simp at h
      · rw [put_ne _ _ e] at h hq
        have hT := H.g2 j hj h hq
        have : r.o % n ≠ (G k).ps % n := fun x => by rw [x, hTp] at hT; omega
        simp only [upd, if_neg this]
        exact hT
    g3 := fun j hj h => by
      by_cases e : j = k
      · subst e; rw [put_at] at h; simp at h
      · rw [put_ne _ _ e] at h ⊢
        obtain ⟨b1, b2⟩ := H.g3 j hj h
        have hcj : Cl (G j) := h.elim Or.inl (fun x => Or.inr (Or.inl x))
        rw [put_ne _ _ (H.gd j k hj hk e hcj hck)]
        exact ⟨b1, b2⟩
    g4 := fun j hj h => by
      by_cases e : j = k
      · subst e; rw [put_at]; exact a4
      · rw [put_ne _ _ e] at h ⊢; exact H.g4 j hj h
    g5 := fun j hj h => by
      by_cases e : j = k
      · subst e; rw [put_at]; exact ⟨rfl, a1⟩
      · rw [put_ne _ _ e] at h ⊢; exact H.g5 j hj h
    gd := fun i j hi hj hij hc1 hc2 => by
      by_cases e : i = k
      · subst e
        rw [put_at]
        rw [put_ne _ _ (Ne.symm hij)] at hc2 ⊢
        exact H.gd i j hi hj hij hck hc2
      · rw [put_ne _ _ e] at hc1 ⊢
        by_cases e' : j = k
        · subst e'
          rw [put_at]
          exact H.gd i j hi hj hij hc1 hck
        · rw [put_ne _ _ e'] at hc2 ⊢
          exact H.gd i j hi hj hij hc1 hc2 }
end
end Go.Proofs.Ytfnfbceblpaggaa
