/- A step of a holder keeps what is so; tickets are held in their order. Of no program; no conditions. -/
import Derived.Test.YtidgajjahpbbdaaY3
namespace Go.Proofs.Ytidgajjahpbbdaa
open Go.RowKit

theorem Cnt.doT {s : St} {k : Nat} (h : Cnt s k) (x : Ac) : Cnt (doT s x) (k + 1) := by
  unfold Ytidgajjahpbbdaa.doT
  split
  · exact h.load _
  · split
    · exact h.store _ _
    · split
      · exact h.cas _ _ _
      · split
        · exact h.add _ _
        · exact h.mono (by omega)
theorem Cnt.hT {s : St} {k : Nat} (h : Cnt s k) (x : Ho) : Cnt (hT s x) (k + 1) := by
  unfold Ytidgajjahpbbdaa.hT
  split
  · exact h.mono (by omega)
  · exact h.doT _

/-- Besides, m have held. -/
structure TO (k : Nat) (f : Nat → Ho) (n s m : Int) : Prop where
  ti : TI k f n s
  nobody : (∀ i, i < k → (f i).st ≠ 2) → m = s
  somebody : ∀ i, i < k → (f i).st = 2 → m = s + 1
theorem TO.first {k : Nat} {f : Nat → Ho} (h : ∀ i, i < k → f i = ⟨1, false, 0, 0⟩) : TO k f 0 0 0 :=
  ⟨TI.first h, fun _ => rfl, fun i hi e => by rw [h i hi] at e; exact absurd e (by decide)⟩
theorem TO.alike {k : Nat} {f : Nat → Ho} {n s m : Int} (H : TO k f n s m) (i : Nat) (hi : i < k) (x : Ho) (h1 : x.st = (f i).st) (h2 : x.tk = (f i).tk) (h3 : x.ad = (f i).ad) : TO k (upd f i x) n s m := by
  have e1 : ∀ j, (upd f i x j).st = (f j).st := fun j => by
    by_cases e : j = i
    · subst e; rw [upd_at]; exact h1
    · rw [upd_ne _ _ e]
  exact ⟨H.ti.alike i hi x h1 h2 h3, fun h => H.nobody (fun j hj => by have := h j hj; rw [e1] at this; exact this), fun j hj e => H.somebody j hj (by rw [e1] at e; exact e)⟩
theorem TO.leaves {k : Nat} {f : Nat → Ho} {n s m : Int} (H : TO k f n s m) (i : Nat) (hi : i < k) : TO k (upd f i (lvT (f i))) n s m :=
  H.alike i hi _ (lvT_st _).1 (lvT_st _).2.1 (lvT_st _).2.2

/-- What a step tells of who holds now, and did not. -/
def newly (x y : Ho) : Bool := x.st != 2 && y.st == 2

theorem TO.step {k : Nat} {f : Nat → Ho} {n s m d l : Int} (H : TO k f n s m) (hk : k ≤ 1000) (i : Nat) (hi : i < k) :
    ∃ n' s' d' l', hT (s4 n s d l) (f i) = s4 n' s' d' l' ∧ TO k (upd f i (hX (s4 n s d l) (f i))) n' s' (if newly (f i) (hX (s4 n s d l) (f i)) = true then m + 1 else m) ∧ (newly (f i) (hX (s4 n s d l) (f i)) = true → (hX (s4 n s d l) (f i)).tk = m) := by
  have ha := H.ti.ad i hi
  have hst := H.ti.st i hi
  have hn0 := H.ti.nk
  have hs0 := H.ti.s0
  have hsn := H.ti.sn
  have key : ∀ (x : Ho) j, j ≠ i → upd f i x j = f j := fun x j e => upd_ne _ _ e
  by_cases h0 : (f i).st = 0
  · obtain ⟨e1, e2⟩ := hX_0 (n := n) (s := s) (d := d) (l := l) ha h0
    have e3 : newly (f i) (hX (s4 n s d l) (f i)) = false := by rw [e1]; unfold newly; simp
    have e4 : add64 n 1 = n + 1 := add64_1 (by omega) (by omega)
    rw [e3]
    refine ⟨_, _, _, _, e2, ?_, fun h => by cases h⟩
    rw [e1, e4]
    refine ⟨H.ti.ask i hi h0, fun h => H.nobody (fun j hj => ?_), fun j hj e => H.somebody j hj ?_⟩
    · by_cases e : j = i
      · subst e; omega
      · have := h j hj; rw [upd_ne _ _ e] at this; exact this
    · by_cases e' : j = i
      · subst e'; rw [upd_at] at e; exact absurd e (by simp)
      · rw [upd_ne _ _ e'] at e; exact e
  · by_cases h1 : (f i).st = 1
    · by_cases hs : s = (f i).tk
      · obtain ⟨e1, e2⟩ := hX_1y (n := n) (s := s) (d := d) (l := l) ha h1 hs
        have e3 : newly (f i) (hX (s4 n s d l) (f i)) = true := by rw [e1]; unfold newly; rw [h1]; rfl
        have nb : ∀ j, j < k → (f j).st ≠ 2 := fun j hj e => by
          have a := H.ti.h j hj e
          have b := H.ti.dis j i hj hi (fun c => by subst c; omega) (by omega) (by omega)
          omega
        have hm := H.nobody nb
        rw [e3]
        refine ⟨_, _, _, _, e2, ?_, fun _ => ?_⟩
        · rw [e1]
          refine ⟨H.ti.hold i hi h1 hs, fun h => ?_, fun j hj e => ?_⟩
          · have := h i hi; rw [upd_at] at this; exact absurd rfl this
          · simp only [if_true]; omega
        · rw [e1]; simp only []; omega
      · obtain ⟨e1, e2⟩ := hX_1n (n := n) (s := s) (d := d) (l := l) ha h1 hs
        have e3 : newly (f i) (hX (s4 n s d l) (f i)) = false := by rw [e1]; unfold newly; rw [h1]; rfl
        rw [e3]
        refine ⟨_, _, _, _, e2, ?_, fun h => by cases h⟩
        rw [e1]
        exact H.alike i hi _ rfl rfl rfl
    · by_cases h2 : (f i).st = 2 ∧ (f i).lv = true
      · obtain ⟨e1, e2⟩ := hX_2l (n := n) (s := s) (d := d) (l := l) ha h2.1 h2.2
        have e3 : newly (f i) (hX (s4 n s d l) (f i)) = false := by rw [e1]; unfold newly; simp
        have hts := H.ti.h i hi h2.1
        have hm := H.somebody i hi h2.1
        have e4 : add64 (f i).tk 1 = (f i).tk + 1 := add64_1 (by omega) (by omega)
        rw [e3]
        refine ⟨_, _, _, _, e2, ?_, fun h => by cases h⟩
        rw [e1, e4]
        refine ⟨H.ti.leave i hi h2.1, fun h => ?_, fun j hj e => ?_⟩
        · simp only [Bool.false_eq_true, if_false]; omega
        · by_cases e' : j = i
          · subst e'; rw [upd_at] at e; exact absurd e (by simp)
          · rw [upd_ne _ _ e'] at e
            have a := H.ti.h j hj e
            have b := H.ti.dis j i hj hi e' (by omega) (by omega)
            omega
      · obtain ⟨e1, e2⟩ := hX_no (s := s4 n s d l) (x := f i) h0 h1 (fun e => by cases hl : (f i).lv with | false => rfl | true => exact absurd ⟨e, hl⟩ h2)
        have e3 : newly (f i) (hX (s4 n s d l) (f i)) = false := by rw [e1]; unfold newly; cases hh : ((f i).st == 2) <;> simp_all
        rw [e3]
        refine ⟨_, _, _, _, e2, ?_, fun h => by cases h⟩
        rw [e1]
        exact H.alike i hi _ rfl rfl rfl
end Go.Proofs.Ytidgajjahpbbdaa
