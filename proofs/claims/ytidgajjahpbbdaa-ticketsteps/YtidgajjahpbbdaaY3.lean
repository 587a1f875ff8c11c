/- Steps of holders as functions of numbers: what is so whatever order they are in. Of no program; no conditions. -/
import Derived.Test.YtidgajjahpbbdaaY2
namespace Go.Proofs.Ytidgajjahpbbdaa
open Go.RowKit

/-- How many of the first k have P. -/
def cntP (P : Ho → Bool) (f : Nat → Ho) : Nat → Nat
  | 0 => 0
  | k + 1 => cntP P f k + (if P (f k) = true then 1 else 0)
theorem cntP_le (P : Ho → Bool) (f : Nat → Ho) : ∀ k, cntP P f k ≤ k
  | 0 => Nat.le_refl _
  | k + 1 => by have := cntP_le P f k; unfold cntP; split <;> omega
theorem cntP_upd (P : Ho → Bool) (f : Nat → Ho) (i : Nat) (x : Ho) : ∀ k, i < k → cntP P (upd f i x) k + (if P (f i) = true then 1 else 0) = cntP P f k + (if P x = true then 1 else 0)
  | 0, h => absurd h (by omega)
  | k + 1, h => by
    by_cases e : i = k
    · subst e
      have hs : ∀ j, j ≤ i → cntP P (upd f i x) j = cntP P f j := by
        intro j
        induction j with
        | zero => intro _; rfl
        | succ j ih =>
          intro hj
          unfold cntP
          rw [ih (by omega), upd_ne _ _ (by omega)]
      unfold cntP
      rw [hs i (Nat.le_refl _), upd_at]
      omega
    · have := cntP_upd P f i x k (by omega)
      unfold cntP
      rw [upd_ne _ _ (show k ≠ i from fun h => e h.symm)]
      omega
theorem cntP_none (P : Ho → Bool) (f : Nat → Ho) : ∀ k, (∀ i, i < k → P (f i) = false) → cntP P f k = 0
  | 0, _ => rfl
  | k + 1, h => by
    unfold cntP
    rw [cntP_none P f k (fun i hi => h i (by omega)), h k (by omega)]
    rfl

def pHas (x : Ho) : Bool := x.st != 0
def pGone (x : Ho) : Bool := x.st == 3

/-- Four words, of which the second is the next ticket, the third the one that is served. -/
abbrev s4 (n s d l : Int) : St := ⟨[0, n, s, 0], d, l⟩

theorem hX_0 {n s d l : Int} {x : Ho} (ha : x.ad = 1) (h : x.st = 0) : hX (s4 n s d l) x = ⟨1, x.lv, 1, n⟩ ∧ hT (s4 n s d l) x = s4 (add64 n 1) s (d + 1) (l + 1) := by
  obtain ⟨ad, lv, st, tk⟩ := x
  simp only [] at ha h
  subst ha; subst h
  exact ⟨rfl, rfl⟩
theorem hX_1y {n s d l : Int} {x : Ho} (ha : x.ad = 1) (h : x.st = 1) (he : s = x.tk) : hX (s4 n s d l) x = ⟨1, x.lv, 2, x.tk⟩ ∧ hT (s4 n s d l) x = s4 n s (d + 1) l := by
  obtain ⟨ad, lv, st, tk⟩ := x
  simp only [] at ha h he
  subst ha; subst h; subst he
  refine ⟨?_, rfl⟩
  show hGo ⟨1, lv, 1, s⟩ ⟨s, false, 0⟩ = _
  simp [hGo]
theorem hX_1n {n s d l : Int} {x : Ho} (ha : x.ad = 1) (h : x.st = 1) (he : s ≠ x.tk) : hX (s4 n s d l) x = x ∧ hT (s4 n s d l) x = s4 n s (d + 1) l := by
  obtain ⟨ad, lv, st, tk⟩ := x
  simp only [] at ha h he
  subst ha; subst h
  refine ⟨?_, rfl⟩
  show hGo ⟨1, lv, 1, tk⟩ ⟨s, false, 0⟩ = _
  simp [hGo, he]
theorem hX_2l {n s d l : Int} {x : Ho} (ha : x.ad = 1) (h : x.st = 2) (hl : x.lv = true) : hX (s4 n s d l) x = ⟨1, true, 3, x.tk⟩ ∧ hT (s4 n s d l) x = s4 n (add64 x.tk 1) (d + 1) (l + 1) := by
  obtain ⟨ad, lv, st, tk⟩ := x
  simp only [] at ha h hl
  subst ha; subst h; subst hl
  exact ⟨rfl, rfl⟩
theorem hX_no {s : St} {x : Ho} (h0 : x.st ≠ 0) (h1 : x.st ≠ 1) (h2 : x.st = 2 → x.lv = false) : hX s x = x ∧ hT s x = s := by
  have e : hNext x = ⟨0, 0, 0, 0⟩ := by
    unfold hNext
    rw [if_neg h0, if_neg h1, if_neg (by rintro ⟨a, b⟩; rw [h2 a] at b; cases b)]
  unfold hX hT
  rw [e]
  exact ⟨rfl, rfl⟩

/-- What is so of k holders, the next ticket n, the served one s: whatever order the steps are in. -/
structure TI (k : Nat) (f : Nat → Ho) (n s : Int) : Prop where
  ad : ∀ i, i < k → (f i).ad = 1
  st : ∀ i, i < k → 0 ≤ (f i).st ∧ (f i).st ≤ 3
  t0 : ∀ i, i < k → 0 ≤ (f i).tk
  tn : ∀ i, i < k → (f i).st ≠ 0 → (f i).tk < n
  dis : ∀ i j, i < k → j < k → i ≠ j → (f i).st ≠ 0 → (f j).st ≠ 0 → (f i).tk ≠ (f j).tk
  w : ∀ i, i < k → (f i).st = 1 → s ≤ (f i).tk
  h : ∀ i, i < k → (f i).st = 2 → (f i).tk = s
  g : ∀ i, i < k → (f i).st = 3 → (f i).tk < s
  s0 : 0 ≤ s
  sn : s ≤ n
  cn : n = cntP pHas f k
  cs : s = cntP pGone f k
  asks : ∀ i, i < k → (f i).st = 0 → (f i).tk = 0

theorem TI.nk {k : Nat} {f : Nat → Ho} {n s : Int} (H : TI k f n s) : n ≤ k := by
  have := H.cn
  have := cntP_le pHas f k
  omega
theorem TI.hok {k : Nat} {f : Nat → Ho} {n s : Int} (H : TI k f n s) (hk : k ≤ 1000) (i : Nat) (hi : i < k) : HOk (f i) := by
  have h1 := H.ad i hi
  have h2 := H.t0 i hi
  have h3 := H.nk
  refine ⟨by omega, by omega, h2, ?_⟩
  by_cases e : (f i).st = 0
  · rw [H.asks i hi e]; decide
  · have := H.tn i hi e; omega
theorem TI.first {k : Nat} {f : Nat → Ho} (h : ∀ i, i < k → f i = ⟨1, false, 0, 0⟩) : TI k f 0 0 := by
  have c1 := cntP_none pHas f k (fun i hi => by rw [h i hi]; rfl)
  have c2 := cntP_none pGone f k (fun i hi => by rw [h i hi]; rfl)
  refine ⟨fun i hi => by rw [h i hi], fun i hi => by rw [h i hi]; decide, fun i hi => by rw [h i hi]; decide, fun i hi e => absurd (by rw [h i hi]) e, fun i j hi hj _ e => absurd (by rw [h i hi]) e, fun i hi e => ?_, fun i hi e => ?_, fun i hi e => ?_, by decide, by decide, by rw [c1]; rfl, by rw [c2]; rfl, fun i hi _ => by rw [h i hi]⟩
  · rw [h i hi] at e; exact absurd e (by decide)
  · rw [h i hi] at e; exact absurd e (by decide)
  · rw [h i hi] at e; exact absurd e (by decide)

/-- Leave changes nothing that these speak of. -/
theorem lvT_st (x : Ho) : (lvT x).st = x.st ∧ (lvT x).tk = x.tk ∧ (lvT x).ad = x.ad := by
  unfold lvT; split <;> exact ⟨rfl, rfl, rfl⟩
theorem TI.alike {k : Nat} {f : Nat → Ho} {n s : Int} (H : TI k f n s) (i : Nat) (hi : i < k) (x : Ho) (h1 : x.st = (f i).st) (h2 : x.tk = (f i).tk) (h3 : x.ad = (f i).ad) : TI k (upd f i x) n s := by
  have e1 : ∀ j, (upd f i x j).st = (f j).st := fun j => by
    by_cases e : j = i
    · subst e; rw [upd_at]; exact h1
    · rw [upd_ne _ _ e]
  have e2 : ∀ j, (upd f i x j).tk = (f j).tk := fun j => by
    by_cases e : j = i
    · subst e; rw [upd_at]; exact h2
    · rw [upd_ne _ _ e]
  have e3 : ∀ j, (upd f i x j).ad = (f j).ad := fun j => by
    by_cases e : j = i
    · subst e; rw [upd_at]; exact h3
    · rw [upd_ne _ _ e]
  have c1 := cntP_upd pHas f i x k hi
  have c2 := cntP_upd pGone f i x k hi
  have p1 : pHas x = pHas (f i) := by unfold pHas; rw [h1]
  have p2 : pGone x = pGone (f i) := by unfold pGone; rw [h1]
  rw [p1] at c1
  rw [p2] at c2
  have d1 : cntP pHas (upd f i x) k = cntP pHas f k := by omega
  have d2 : cntP pGone (upd f i x) k = cntP pGone f k := by omega
  refine ⟨fun j hj => ?_, fun j hj => ?_, fun j hj => ?_, fun j hj => ?_, fun j l hj hl => ?_, fun j hj => ?_, fun j hj => ?_, fun j hj => ?_, H.s0, H.sn, by rw [d1]; exact H.cn, by rw [d2]; exact H.cs, fun j hj => ?_⟩
  · rw [e3]; exact H.ad j hj
  · rw [e1]; exact H.st j hj
  · rw [e2]; exact H.t0 j hj
  · rw [e1, e2]; exact H.tn j hj
  · rw [e1, e1, e2, e2]; exact H.dis j l hj hl
  · rw [e1, e2]; exact H.w j hj
  · rw [e1, e2]; exact H.h j hj
  · rw [e1, e2]; exact H.g j hj
  · rw [e1, e2]; exact H.asks j hj

theorem add64_1 {n : Int} (h0 : 0 ≤ n) (h1 : n ≤ 100000) : add64 n 1 = n + 1 := by unfold add64; omega
/-- One who asks has a ticket. -/
theorem TI.ask {k : Nat} {f : Nat → Ho} {n s : Int} (H : TI k f n s) (i : Nat) (hi : i < k) (h : (f i).st = 0) : TI k (upd f i ⟨1, (f i).lv, 1, n⟩) (n + 1) s := by
  have c1 := cntP_upd pHas f i ⟨1, (f i).lv, 1, n⟩ k hi
  have c2 := cntP_upd pGone f i ⟨1, (f i).lv, 1, n⟩ k hi
  have p1 : pHas (f i) = false := by unfold pHas; rw [h]; rfl
  have p2 : pGone (f i) = false := by unfold pGone; rw [h]; rfl
  have p3 : pHas ⟨1, (f i).lv, 1, n⟩ = true := rfl
  have p4 : pGone ⟨1, (f i).lv, 1, n⟩ = false := rfl
  rw [p1, p3] at c1
  rw [p2, p4] at c2
  have hn := H.cn
  have hs := H.cs
  have h0 := H.s0
  have hsn := H.sn
  simp only [if_true, Bool.false_eq_true, if_false] at c1 c2
  have key : ∀ (Q : Ho → Prop) j, j < k → (j ≠ i → Q (f j)) → Q ⟨1, (f i).lv, 1, n⟩ → Q (upd f i ⟨1, (f i).lv, 1, n⟩ j) := by
    intro Q j _ h1 h2
    by_cases e : j = i
    · subst e; rw [upd_at]; exact h2
    · rw [upd_ne _ _ e]; exact h1 e
  refine ⟨fun j hj => ?_, fun j hj => ?_, fun j hj => ?_, fun j hj => ?_, fun j l hj hl hne => ?_, fun j hj => ?_, fun j hj => ?_, fun j hj => ?_, h0, by omega, by omega, by omega, fun j hj => ?_⟩
  · exact key (fun x => x.ad = 1) j hj (fun _ => H.ad j hj) rfl
  · exact key (fun x => 0 ≤ x.st ∧ x.st ≤ 3) j hj (fun _ => H.st j hj) (by simp)
  · exact key (fun x => 0 ≤ x.tk) j hj (fun _ => H.t0 j hj) (by simp only []; omega)
  · exact key (fun x => x.st ≠ 0 → x.tk < n + 1) j hj (fun _ e => by have := H.tn j hj e; omega) (fun _ => by simp only []; omega)
  · by_cases ej : j = i
    · subst ej
      rw [upd_at, upd_ne _ _ (Ne.symm hne)]
      intro _ hl0
      have := H.tn l hl hl0
      simp only []
      omega
    · rw [upd_ne _ _ ej]
      by_cases el : l = i
      · subst el
        rw [upd_at]
        intro hj0 _
        have := H.tn j hj hj0
        simp only []
        omega
      · rw [upd_ne _ _ el]
        exact H.dis j l hj hl hne
  · exact key (fun x => x.st = 1 → s ≤ x.tk) j hj (fun _ => H.w j hj) (fun _ => by simp only []; omega)
  · exact key (fun x => x.st = 2 → x.tk = s) j hj (fun _ => H.h j hj) (fun e => absurd e (by simp))
  · exact key (fun x => x.st = 3 → x.tk < s) j hj (fun _ => H.g j hj) (fun e => absurd e (by simp))
  · exact key (fun x => x.st = 0 → x.tk = 0) j hj (fun _ => H.asks j hj) (fun e => absurd e (by simp))
/-- One who waits, and is served, holds. -/
theorem TI.hold {k : Nat} {f : Nat → Ho} {n s : Int} (H : TI k f n s) (i : Nat) (hi : i < k) (h : (f i).st = 1) (hs : s = (f i).tk) : TI k (upd f i ⟨1, (f i).lv, 2, (f i).tk⟩) n s := by
  have c1 := cntP_upd pHas f i ⟨1, (f i).lv, 2, (f i).tk⟩ k hi
  have c2 := cntP_upd pGone f i ⟨1, (f i).lv, 2, (f i).tk⟩ k hi
  have p1 : pHas (f i) = true := by unfold pHas; rw [h]; rfl
  have p2 : pGone (f i) = false := by unfold pGone; rw [h]; rfl
  have p3 : pHas ⟨1, (f i).lv, 2, (f i).tk⟩ = true := rfl
  have p4 : pGone ⟨1, (f i).lv, 2, (f i).tk⟩ = false := rfl
  rw [p1, p3] at c1
  rw [p2, p4] at c2
  have hn := H.cn
  have hs' := H.cs
  have h0 := H.s0
  have hsn := H.sn
  have ht0 := H.t0 i hi
  have htn := H.tn i hi (by omega)
  simp only [if_true, Bool.false_eq_true, if_false] at c1 c2
  have key : ∀ (Q : Ho → Prop) j, j < k → (j ≠ i → Q (f j)) → Q ⟨1, (f i).lv, 2, (f i).tk⟩ → Q (upd f i ⟨1, (f i).lv, 2, (f i).tk⟩ j) := by
    intro Q j _ h1 h2
    by_cases e : j = i
    · subst e; rw [upd_at]; exact h2
    · rw [upd_ne _ _ e]; exact h1 e
  refine ⟨fun j hj => ?_, fun j hj => ?_, fun j hj => ?_, fun j hj => ?_, fun j l hj hl hne => ?_, fun j hj => ?_, fun j hj => ?_, fun j hj => ?_, h0, by omega, by omega, by omega, fun j hj => ?_⟩
  · exact key (fun x => x.ad = 1) j hj (fun _ => H.ad j hj) rfl
  · exact key (fun x => 0 ≤ x.st ∧ x.st ≤ 3) j hj (fun _ => H.st j hj) (by simp)
  · exact key (fun x => 0 ≤ x.tk) j hj (fun _ => H.t0 j hj) ht0
  · exact key (fun x => x.st ≠ 0 → x.tk < n) j hj (fun _ => H.tn j hj) (fun _ => htn)
  · by_cases ej : j = i
    · subst ej
      rw [upd_at, upd_ne _ _ (Ne.symm hne)]
      intro _ hl0
      exact H.dis j l hj hl hne (by omega) hl0
    · rw [upd_ne _ _ ej]
      by_cases el : l = i
      · subst el
        rw [upd_at]
        intro hj0 _
        exact H.dis j l hj hl hne hj0 (by omega)
      · rw [upd_ne _ _ el]
        exact H.dis j l hj hl hne
  · exact key (fun x => x.st = 1 → s ≤ x.tk) j hj (fun _ => H.w j hj) (fun e => absurd e (by simp))
  · exact key (fun x => x.st = 2 → x.tk = s) j hj (fun _ => H.h j hj) (fun _ => hs.symm)
  · exact key (fun x => x.st = 3 → x.tk < s) j hj (fun _ => H.g j hj) (fun e => absurd e (by simp))
  · exact key (fun x => x.st = 0 → x.tk = 0) j hj (fun _ => H.asks j hj) (fun e => absurd e (by simp))
/-- One who holds leaves: the next one is served. -/
theorem TI.leave {k : Nat} {f : Nat → Ho} {n s : Int} (H : TI k f n s) (i : Nat) (hi : i < k) (h : (f i).st = 2) : TI k (upd f i ⟨1, true, 3, (f i).tk⟩) n ((f i).tk + 1) := by
  have c1 := cntP_upd pHas f i ⟨1, true, 3, (f i).tk⟩ k hi
  have c2 := cntP_upd pGone f i ⟨1, true, 3, (f i).tk⟩ k hi
  have p1 : pHas (f i) = true := by unfold pHas; rw [h]; rfl
  have p2 : pGone (f i) = false := by unfold pGone; rw [h]; rfl
  have p3 : pHas ⟨1, true, 3, (f i).tk⟩ = true := rfl
  have p4 : pGone ⟨1, true, 3, (f i).tk⟩ = true := rfl
  rw [p1, p3] at c1
  rw [p2, p4] at c2
  have hn := H.cn
  have hs' := H.cs
  have h0 := H.s0
  have hsn := H.sn
  have ht0 := H.t0 i hi
  have htn := H.tn i hi (by omega)
  have hts := H.h i hi h
  simp only [if_true, Bool.false_eq_true, if_false] at c1 c2
  have key : ∀ (Q : Ho → Prop) j, j < k → (j ≠ i → Q (f j)) → Q ⟨1, true, 3, (f i).tk⟩ → Q (upd f i ⟨1, true, 3, (f i).tk⟩ j) := by
    intro Q j _ h1 h2
    by_cases e : j = i
    · subst e; rw [upd_at]; exact h2
    · rw [upd_ne _ _ e]; exact h1 e
  refine ⟨fun j hj => ?_, fun j hj => ?_, fun j hj => ?_, fun j hj => ?_, fun j l hj hl hne => ?_, fun j hj => ?_, fun j hj => ?_, fun j hj => ?_, by omega, by omega, by omega, by omega, fun j hj => ?_⟩
  · exact key (fun x => x.ad = 1) j hj (fun _ => H.ad j hj) rfl
  · exact key (fun x => 0 ≤ x.st ∧ x.st ≤ 3) j hj (fun _ => H.st j hj) (by simp)
  · exact key (fun x => 0 ≤ x.tk) j hj (fun _ => H.t0 j hj) ht0
  · exact key (fun x => x.st ≠ 0 → x.tk < n) j hj (fun _ => H.tn j hj) (fun _ => htn)
  · by_cases ej : j = i
    · subst ej
      rw [upd_at, upd_ne _ _ (Ne.symm hne)]
      intro _ hl0
      exact H.dis j l hj hl hne (by omega) hl0
    · rw [upd_ne _ _ ej]
      by_cases el : l = i
      · subst el
        rw [upd_at]
        intro hj0 _
        exact H.dis j l hj hl hne hj0 (by omega)
      · rw [upd_ne _ _ el]
        exact H.dis j l hj hl hne
  · exact key (fun x => x.st = 1 → (f i).tk + 1 ≤ x.tk) j hj (fun ne e => by have a := H.w j hj e; have b := H.dis j i hj hi ne (by omega) (by omega); omega) (fun e => absurd e (by simp))
  · exact key (fun x => x.st = 2 → x.tk = (f i).tk + 1) j hj (fun ne e => by have a := H.h j hj e; have b := H.dis j i hj hi ne (by omega) (by omega); omega) (fun e => absurd e (by simp))
  · exact key (fun x => x.st = 3 → x.tk < (f i).tk + 1) j hj (fun _ e => by have := H.g j hj e; omega) (fun _ => by simp only []; omega)
  · exact key (fun x => x.st = 0 → x.tk = 0) j hj (fun _ => H.asks j hj) (fun e => absurd e (by simp))
end Go.Proofs.Ytidgajjahpbbdaa
