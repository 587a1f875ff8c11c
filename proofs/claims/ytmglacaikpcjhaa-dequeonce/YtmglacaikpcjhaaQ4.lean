/- One owner and three thieves: what comes of a step of one of them. Of no function; no conditions. -/
import Derived.Test.YtmglacaikpcjhaaQ3
namespace Go.Proofs.Ytmglacaikpcjhaa
open Go.RowKit

theorem bd_none {lim : Int} : ∀ a : At, (none : Option At) = some a → -lim ≤ a.bt ∧ a.bt ≤ lim ∧ -lim ≤ a.tp ∧ a.tp ≤ lim := fun _ e => by cases e
theorem bd_some {a : At} (h0 : -100 ≤ a.bt) (h1 : a.bt ≤ 100) (h2 : -100 ≤ a.tp) (h3 : a.tp ≤ 100) : ∀ a', some a = some a' → -lim ≤ a'.bt ∧ a'.bt ≤ lim ∧ -lim ≤ a'.tp ∧ a'.tp ≤ lim := fun a' e => by
  obtain rfl := Option.some.inj e
  unfold lim
  omega
theorem bd_of {a b : At} (h : -lim ≤ a.bt ∧ a.bt ≤ lim ∧ -lim ≤ a.tp ∧ a.tp ≤ lim) (e1 : b.bt = a.bt) (e2 : b.tp = a.tp) : ∀ a', some b = some a' → -lim ≤ a'.bt ∧ a'.bt ≤ lim ∧ -lim ≤ a'.tp ∧ a'.tp ≤ lim := fun a' e => by
  obtain rfl := Option.some.inj e
  rw [e1, e2]
  exact h
/-- What was at position q is taken. -/
theorem H_take {H : Nat → Int} {i u : Nat} (H0 : ∀ i, 0 ≤ H i) (H1 : ∀ i, H i ≤ 1) (Hf : ∀ j, u ≤ j → H j = 0) (hi : i < u) : (∀ j, 0 ≤ updH H i 1 j) ∧ (∀ j, updH H i 1 j ≤ 1) ∧ (∀ j, u ≤ j → updH H i 1 j = 0) := by
  refine ⟨fun j => ?_, fun j => ?_, fun j hj => ?_⟩
  · unfold updH; split
    · omega
    · exact H0 j
  · unfold updH; split
    · omega
    · exact H1 j
  · unfold updH; rw [if_neg (by omega)]; exact Hf j hj
theorem updH_ne {H : Nat → Int} {i j : Nat} {v : Int} (h : j ≠ i) : updH H i v j = H j := by unfold updH; rw [if_neg h]

set_option maxHeartbeats 800000 in
theorem OX.stepP {n u : Nat} {D : Dq} {v tn tp bt vl : Int} {hs : Bool} {t : Nat → Option At} {H : Nat → Int} {pu ta : Int} (h : OX n D (some ⟨.push v, tn, tp, bt, vl, hs⟩) t u H pu ta) : StO n D ⟨.push v, tn, tp, bt, vl, hs⟩ t u H pu ta := by
  obtain ⟨E, pe, id, h⟩ := h
  have hbd := h.bd _ rfl
  have hB := h.B
  have hu := h.u1
  have hT0 := h.T0
  have hTE := h.TE
  have ho := h.ow
  simp only [Ow] at ho
  obtain ⟨o1, o2, o3, o4, o5, o6, o7, o8⟩ := ho
  rcases o8 with rfl | ⟨rfl, q1⟩ | ⟨rfl, q1, q2⟩ | ⟨rfl, q1, q2, q3⟩
  · rw [StO, if_neg (by simp [aX, aP])]
    simp only [aX, aP, aD]
    simp
    exact ⟨E, pe, id, { h with ow := by simp only [Ow]; exact ⟨o1, o2, o3, o4, o5, o6, o7, Or.inr (Or.inl ⟨trivial, trivial⟩)⟩, bd := fun a e => by obtain rfl := Option.some.inj e; unfold lim at hbd ⊢; simp only [] at hbd ⊢; omega }⟩
  · by_cases hc : (n : Int) ≤ bt - D.T
    · rw [StO, if_pos (by simp [aX, aP, hc]), if_neg (by simp [aX, aP, hc])]
      simp only [aD]
      simp
      exact ⟨E, pe, id, { h with ow := by simp only [Ow]; exact ⟨o1, o2, by omega⟩, bd := bd_none }⟩
    · rw [StO, if_neg (by simp [aX, aP, hc])]
      simp only [aX, aP, aD]
      simp [hc]
      exact ⟨E, pe, id, { h with ow := by simp only [Ow]; exact ⟨o1, o2, o3, o4, o5, o6, o7, Or.inr (Or.inr (Or.inl ⟨trivial, q1, by omega⟩))⟩, bd := bd_of hbd rfl rfl }⟩
  · rw [StO, if_neg (by simp [aX, aP])]
    simp only [aX, aP, aD, mvD]
    simp
    refine ⟨E, pe, id, { h with con := fun p a b => ?_, ow := ?_, bd := bd_of hbd rfl rfl, th := fun k hk => th_keep (h.th k hk) (by simp) (fun _ z => ⟨z, rfl⟩) }⟩
    · simp only [] at a
      simp only [upd]
      rw [if_neg (ix_ne (by omega) (by omega))]
      exact h.con p a b
    · simp only [Ow]
      refine ⟨o1, o2, o3, o4, o5, o6, o7, Or.inr (Or.inr (Or.inr ⟨trivial, q1, q2, ?_⟩))⟩
      simp [upd]
  · rw [StO, if_pos (by simp [aX, aP]), if_pos (by simp [aX, aP])]
    simp only [aD]
    simp
    have hn := h.n0
    refine ⟨E + 1, 0, fun p => if p = E then u - 1 else id p, h.T0, by simp only []; omega, by simp only []; omega, fun p a b => ?_, fun p q a b c => ?_, fun p a b => ?_, fun p a b => ?_, h.H0, h.H1, h.Hf, ?_, ?_, fun k hk => th_keep (h.th k hk) (by simp) (fun _ z => ⟨by omega, ?_⟩), h.n0, h.n1, h.u1, bd_none⟩
    · simp only [] at a ⊢
      by_cases e : p = E
      · rw [if_pos e, e, o1, ← q1, q3]; omega
      · rw [if_neg e]; exact h.con p a (by omega)
    · simp only [] at a ⊢
      rw [if_neg (by omega)]
      by_cases e : q = E
      · rw [if_pos e]; have := o7 p a (by omega); omega
      · rw [if_neg e]; exact h.mono p q a b (by omega)
    · simp only [] at a ⊢
      by_cases e : p = E
      · rw [if_pos e]; omega
      · rw [if_neg e]; exact h.idl p a (by omega)
    · simp only [] at a ⊢
      by_cases e : p = E
      · rw [if_pos e]; exact o5
      · rw [if_neg e]; exact h.Hz p a (by omega)
    · have := h.cnt; simp only []; omega
    · exact ⟨by simp only []; omega, rfl, by omega⟩
    · rw [if_neg (by omega)]

set_option maxHeartbeats 800000 in
theorem OX.stepG {n u : Nat} {D : Dq} {tn tp bt vl : Int} {hs : Bool} {t : Nat → Option At} {H : Nat → Int} {pu ta : Int} (h : OX n D (some ⟨.pop, tn, tp, bt, vl, hs⟩) t u H pu ta) : StO n D ⟨.pop, tn, tp, bt, vl, hs⟩ t u H pu ta := by
  obtain ⟨E, pe, id, h⟩ := h
  have hbd := h.bd _ rfl
  have hB := h.B
  have hu := h.u1
  have hT0 := h.T0
  have hTE := h.TE
  have ho := h.ow
  simp only [Ow] at ho
  obtain ⟨o0, ho⟩ := ho
  rcases ho with ⟨rfl, o1, o2, rfl⟩ | ⟨rfl, o1, o2, o3, rfl⟩ | ⟨rfl, o1, o2, o3, rfl⟩ | ⟨rfl, o1, o2, o3, o4, o5, o6, o7, o8, o9⟩ | ⟨rfl, o1, o2, o3, o4, rfl, o5, o6⟩ | ⟨rfl, o1, o2, o3, o4, o5, o6, o7⟩ | ⟨rfl, o1, o2, o3, o4⟩
  · rw [StO, if_neg (by simp [aX, aG])]
    simp only [aX, aG, aD]
    simp
    exact ⟨E, pe, id, { h with ow := by simp only [Ow]; exact ⟨o0, Or.inr (Or.inl ⟨trivial, trivial, o1, o2, trivial⟩)⟩, bd := fun a e => by obtain rfl := Option.some.inj e; unfold lim at hbd ⊢; simp only [] at hbd ⊢; omega }⟩
  · rw [StO, if_neg (by simp [aX, aG])]
    simp only [aX, aG, aD]
    simp
    exact ⟨E, pe, id, { h with ow := by simp only [Ow]; exact ⟨o0, Or.inr (Or.inr (Or.inl ⟨trivial, trivial, by omega, o3, trivial⟩))⟩, bd := bd_of hbd rfl rfl, th := fun k hk => th_keep (h.th k hk) (by simp) (fun _ z => ⟨z, rfl⟩) }⟩
  · by_cases hc : bt < D.T
    · rw [StO, if_neg (by simp [aX, aG, hc])]
      simp only [aX, aG, aD]
      simp [hc]
      exact ⟨E, pe, id, { h with ow := by simp only [Ow]; exact ⟨o0, Or.inr (Or.inr (Or.inr (Or.inr (Or.inr (Or.inr ⟨trivial, o1, o2, by omega, Or.inl ⟨trivial, o3⟩⟩)))))⟩, bd := fun a e => by obtain rfl := Option.some.inj e; unfold lim at hbd ⊢; simp only [] at hbd ⊢; omega }⟩
    · rw [StO, if_neg (by simp [aX, aG, hc])]
      simp only [aX, aG, aD]
      simp [hc]
      by_cases hl : D.T < bt
      · refine ⟨bt, 1, id, h.T0, by omega, by have := h.En; omega, fun p a b => h.con p a (by omega), fun p q a b c => h.mono p q a b (by omega), fun p a b => h.idl p a (by omega), fun p a b => h.Hz p a (by omega), h.H0, h.H1, h.Hf, by have := h.cnt; omega, ?_, fun k hk => th_keep (h.th k hk) (by omega) (fun _ z => ⟨hl, rfl⟩), h.n0, h.n1, h.u1, fun a e => by obtain rfl := Option.some.inj e; unfold lim at hbd ⊢; simp only [] at hbd ⊢; omega⟩
        simp only [Ow]
        exact ⟨by omega, Or.inr (Or.inr (Or.inr (Or.inl ⟨trivial, hl, o1, trivial, trivial, by omega, h.con bt (by omega) (by omega), h.Hz bt (by omega) (by omega), fun p a b => h.mono p bt a b (by omega), h.idl bt (by omega) (by omega)⟩)))⟩
      · exact ⟨E, pe, id, { h with ow := by simp only [Ow]; exact ⟨o0, Or.inr (Or.inr (Or.inr (Or.inr (Or.inl ⟨trivial, by omega, o1, o2, o3, trivial, by omega, by omega⟩))))⟩, bd := fun a e => by obtain rfl := Option.some.inj e; unfold lim at hbd ⊢; simp only [] at hbd ⊢; omega }⟩
  · rw [StO, if_pos (by simp [aX, aG, o1]), if_pos (by simp [aX, aG, o1])]
    simp only [aX, aG, aD, mvD]
    simp [o1]
    obtain ⟨g1, g2, g3⟩ := H_take h.H0 h.H1 h.Hf o9
    refine ⟨id bt, o9, o7, o6, bt, 0, id, h.T0, by omega, by have := h.En; omega, fun p a b => h.con p a (by omega), fun p q a b c => h.mono p q a b (by omega), fun p a b => h.idl p a (by omega), fun p a b => ?_, g1, g2, g3, by have := h.cnt; omega, ⟨by omega, rfl, by omega⟩, fun k hk => th_keep (h.th k hk) (by omega) (fun _ z => ⟨by omega, rfl⟩), h.n0, h.n1, h.u1, bd_none⟩
    rw [updH_ne (by have := o8 p a (by omega); omega)]
    exact h.Hz p a (by omega)
  · have hl : ¬ tp < bt := by omega
    rw [StO, if_neg (by simp [aX, aG, hl])]
    simp only [aX, aG, aD, mvD]
    simp [hl]
    exact ⟨E, pe, id, { h with ow := by simp only [Ow]; exact ⟨o0, Or.inr (Or.inr (Or.inr (Or.inr (Or.inr (Or.inl ⟨trivial, o1, o2, o3, o4, o5, o6, fun e => h.con bt (by omega) (by omega)⟩)))))⟩, bd := bd_of hbd rfl rfl }⟩
  · by_cases hc : D.T = tp
    · rw [StO, if_neg (by simp [aX, aG])]
      simp only [aX, aG, aD]
      simp [hc]
      have e1 : D.T = bt := by omega
      refine ⟨E, 1, id, by simp only []; omega, by simp only []; omega, by have := h.n0; simp only []; omega, fun p a b => by simp only [] at a; omega, fun p q a b c => by simp only [] at a; omega, fun p a b => by simp only [] at a; omega, fun p a b => by simp only [] at a; omega, h.H0, h.H1, h.Hf, by have := h.cnt; simp only []; omega, ?_, fun k hk => th_keep (h.th k hk) (by simp only []; omega) (fun e _ => by simp only [] at e; omega), h.n0, h.n1, h.u1, bd_of hbd rfl rfl⟩
      simp only [Ow]
      exact ⟨o0, Or.inr (Or.inr (Or.inr (Or.inr (Or.inr (Or.inr ⟨trivial, o2, o3, by omega, Or.inr ⟨trivial, trivial, o7 e1, h.Hz bt (by omega) (by omega), h.idl bt (by omega) (by omega)⟩⟩)))))⟩
    · rw [StO, if_neg (by simp [aX, aG])]
      simp only [aX, aG, aD]
      simp [hc]
      exact ⟨E, pe, id, { h with ow := by simp only [Ow]; exact ⟨o0, Or.inr (Or.inr (Or.inr (Or.inr (Or.inr (Or.inr ⟨trivial, o2, o3, by omega, Or.inl ⟨trivial, o4⟩⟩)))))⟩, bd := bd_of hbd rfl rfl }⟩
  · rcases o4 with ⟨rfl, o5⟩ | ⟨rfl, o5, o6, o7, o8⟩
    · rw [StO, if_pos (by simp [aX, aG]), if_neg (by simp [aX, aG])]
      simp only [aD]
      simp
      exact ⟨E, pe, id, { h with ow := by simp only [Ow]; omega, bd := bd_none, th := fun k hk => th_keep (h.th k hk) (by simp) (fun _ z => ⟨z, rfl⟩) }⟩
    · rw [StO, if_pos (by simp [aX, aG]), if_pos (by simp [aX, aG])]
      simp only [aX, aG, aD]
      simp
      obtain ⟨g1, g2, g3⟩ := H_take h.H0 h.H1 h.Hf o8
      exact ⟨id bt, o8, o7, o6, E, 0, id, h.T0, by simp only []; omega, h.En, fun p a b => by simp only [] at a; omega, fun p q a b c => by simp only [] at a; omega, fun p a b => by simp only [] at a; omega, fun p a b => by simp only [] at a; omega, g1, g2, g3, by have := h.cnt; simp only []; omega, ⟨by simp only []; omega, rfl, by omega⟩, fun k hk => th_keep (h.th k hk) (by simp) (fun _ z => ⟨z, rfl⟩), h.n0, h.n1, h.u1, bd_none⟩
theorem OX.stepO {n u : Nat} {D : Dq} {a : At} {t : Nat → Option At} {H : Nat → Int} {pu ta : Int} (h : OX n D (some a) t u H pu ta) : StO n D a t u H pu ta := by
  obtain ⟨kd, tn, tp, bt, vl, hs⟩ := a
  cases kd with
  | push v => exact h.stepP
  | pop => exact h.stepG
  | steal =>
    obtain ⟨E, pe, id, h⟩ := h
    have := h.ow
    simp only [Ow] at this

theorem ow_take {n u : Nat} {D : Dq} {o : Option At} {E pe : Int} {id : Int → Nat} {H : Nat → Int} (h : Ow n D o u E pe id H) (hT : D.T < E) : Ow n { D with T := D.T + 1 } o u E pe id (updH H (id D.T) 1) := by
  cases o with
  | none => exact h
  | some a =>
    obtain ⟨kd, tn, tp, bt, vl, hs⟩ := a
    cases kd with
    | push v =>
      simp only [Ow] at h ⊢
      obtain ⟨o1, o2, o3, o4, o5, o6, o7, o8⟩ := h
      refine ⟨o1, o2, o3, o4, ?_, o6, fun p a b => o7 p (by omega) b, ?_⟩
      · rw [updH_ne (by have := o7 D.T (by omega) hT; omega)]; exact o5
      · omega
    | pop =>
      simp only [Ow] at h ⊢
      obtain ⟨o0, h⟩ := h
      refine ⟨o0, ?_⟩
      rcases h with h | h | h | ⟨rfl, o1, o2, o3, o4, o5, o6, o7, o8, o9⟩ | ⟨rfl, o1, o2, o3, o4, o5, o6, o7⟩ | ⟨rfl, o1, o2, o3, o4, o5, o6, o7⟩ | ⟨rfl, o1, o2, o3, o4⟩
      · exact Or.inl h
      · exact Or.inr (Or.inl h)
      · exact Or.inr (Or.inr (Or.inl h))
      · refine Or.inr (Or.inr (Or.inr (Or.inl ⟨rfl, o1, o2, o3, o4, o5, o6, ?_, fun p a b => o8 p (by omega) b, o9⟩)))
        rw [updH_ne (by have := o8 D.T (by omega) hT; omega)]; exact o7
      · exact Or.inr (Or.inr (Or.inr (Or.inr (Or.inl ⟨rfl, o1, o2, o3, o4, o5, by omega, o7⟩))))
      · exact Or.inr (Or.inr (Or.inr (Or.inr (Or.inr (Or.inl ⟨rfl, o1, o2, o3, o4, by omega, o6, fun e => by omega⟩)))))
      · omega
    | steal => simp only [Ow] at h

/-- What comes of a step of a thief: it is on its way, has taken i, or is done without anything. -/
def StT (n : Nat) (D : Dq) (o : Option At) (c : At) (t : Nat → Option At) (k u : Nat) (H : Nat → Int) (pu ta : Int) : Prop :=
  if (aX n D c).tn = 6 then
    (if (aX n D c).hs = true then ∃ i : Nat, i < u ∧ H i = 0 ∧ (aX n D c).vl = 100 + (i : Int) ∧ OX n (aD n D c) o (setT t k none) u (updH H i 1) pu (ta + 1)
     else OX n (aD n D c) o (setT t k none) u H pu ta)
  else OX n (aD n D c) o (setT t k (some (aX n D c))) u H pu ta
set_option maxHeartbeats 800000 in
theorem OX.stepT {n u k : Nat} {D : Dq} {o : Option At} {c : At} {t : Nat → Option At} {H : Nat → Int} {pu ta : Int} (h : OX n D o t u H pu ta) (hk : k < 3) (hc : t k = some c) : StT n D o c t k u H pu ta := by
  obtain ⟨E, pe, id, h⟩ := h
  have hB := h.B
  have hT0 := h.T0
  have hTE := h.TE
  have ht := h.th k hk
  rw [hc] at ht
  simp only [Th] at ht
  obtain ⟨kd, tn, tp, bt, vl, hs⟩ := c
  simp only [] at ht
  obtain ⟨rfl, rfl, t1, t2, t3⟩ := ht
  rcases t3 with rfl | rfl | ⟨rfl, q⟩ | ⟨rfl, q⟩
  · rw [StT, if_neg (by simp [aX, aS])]
    simp only [aX, aS, aD]
    simp
    exact ⟨E, pe, id, { h with th := th_set h.th (by simp only [Th]; exact ⟨trivial, trivial, hT0, by omega, Or.inr (Or.inl trivial)⟩) }⟩
  · by_cases hb : D.B ≤ tp
    · rw [StT, if_pos (by simp [aX, aS, hb]), if_neg (by simp [aX, aS, hb])]
      simp only [aD]
      simp
      exact ⟨E, pe, id, { h with th := th_set h.th trivial }⟩
    · rw [StT, if_neg (by simp [aX, aS, hb])]
      simp only [aX, aS, aD]
      simp [hb]
      exact ⟨E, pe, id, { h with th := th_set h.th (by simp only [Th]; exact ⟨trivial, trivial, t1, t2, Or.inr (Or.inr (Or.inl ⟨trivial, fun e => by omega⟩))⟩) }⟩
  · rw [StT, if_neg (by simp [aX, aS])]
    simp only [aX, aS, aD, mvD]
    simp
    exact ⟨E, pe, id, { h with th := th_set h.th (by simp only [Th]; exact ⟨trivial, trivial, t1, t2, Or.inr (Or.inr (Or.inr ⟨trivial, fun e => ⟨q e, by rw [h.con tp (by omega) (by have := q e; omega)]⟩⟩))⟩) }⟩
  · by_cases hb : D.T = tp
    · rw [StT, if_pos (by simp [aX, aS]), if_pos (by simp [aX, aS, hb])]
      simp only [aX, aS, aD]
      simp [hb]
      obtain ⟨q1, q2⟩ := q hb.symm
      subst hb
      have hid := h.idl D.T (by omega) q1
      obtain ⟨g1, g2, g3⟩ := H_take h.H0 h.H1 h.Hf hid
      refine ⟨id D.T, hid, h.Hz D.T (by omega) q1, q2, E, pe, id, by simp only []; omega, by simp only []; omega, by have := h.En; simp only []; omega, fun p a b => h.con p (by simp only [] at a; omega) b, fun p q a b c => h.mono p q (by simp only [] at a; omega) b c, fun p a b => h.idl p (by simp only [] at a; omega) b, fun p a b => ?_, g1, g2, g3, by have := h.cnt; simp only []; omega, ow_take h.ow q1, th_set (fun j hj => th_keep (h.th j hj) (by simp only []; omega) (fun e _ => by simp only [] at e; omega)) trivial, h.n0, h.n1, h.u1, h.bd⟩
      simp only [] at a
      rw [updH_ne (by have := h.mono D.T p (by omega) (by omega) b; omega)]
      exact h.Hz p (by omega) b
    · rw [StT, if_pos (by simp [aX, aS]), if_neg (by simp [aX, aS, hb])]
      simp only [aD]
      simp [hb]
      exact ⟨E, pe, id, { h with th := th_set h.th trivial }⟩
/-- A pop of one alone, while the owner does nothing. -/
theorem OX.solo {n u : Nat} {D : Dq} {t : Nat → Option At} {H : Nat → Int} {pu ta : Int} (h : OX n D none t u H pu ta) (hT : D.T < D.B) :
    ∃ i : Nat, i < u ∧ H i = 0 ∧ D.V (ix n (D.B - 1)) = 100 + (i : Int) ∧ OX n (if D.T = D.B - 1 then { D with T := D.B } else { D with B := D.B - 1 }) none t u (updH H i 1) pu (ta + 1) := by
  obtain ⟨E, pe, id, h⟩ := h
  have hT0 := h.T0
  have ho := h.ow
  simp only [Ow] at ho
  obtain ⟨rfl, rfl, o3⟩ := ho
  have hid := h.idl (D.B - 1) (by omega) (by omega)
  obtain ⟨g1, g2, g3⟩ := H_take h.H0 h.H1 h.Hf hid
  refine ⟨id (D.B - 1), hid, h.Hz (D.B - 1) (by omega) (by omega), h.con (D.B - 1) (by omega) (by omega), ?_⟩
  by_cases hl : D.T = D.B - 1
  · rw [if_pos hl]
    exact ⟨D.B, 0, id, by simp only []; omega, by simp, by simp, fun p a b => by simp only [] at a; omega, fun p q a b c => by simp only [] at a; omega, fun p a b => by simp only [] at a; omega, fun p a b => by simp only [] at a; omega, g1, g2, g3, by have := h.cnt; simp only []; omega, by simp only [Ow]; exact ⟨trivial, trivial, o3⟩, fun j hj => th_keep (h.th j hj) (by simp only []; omega) (fun e _ => by simp only [] at e; omega), h.n0, h.n1, h.u1, bd_none⟩
  · rw [if_neg hl]
    refine ⟨D.B - 1, 0, id, h.T0, by simp only []; omega, by have := h.En; simp only []; omega, fun p a b => h.con p a (by omega), fun p q a b c => h.mono p q a b (by omega), fun p a b => h.idl p a (by omega), fun p a b => ?_, g1, g2, g3, by have := h.cnt; simp only []; omega, by simp only [Ow]; exact ⟨trivial, trivial, by omega⟩, fun j hj => th_keep (h.th j hj) (by simp) (fun _ z => ⟨by omega, rfl⟩), h.n0, h.n1, h.u1, bd_none⟩
    rw [updH_ne (by have := h.mono p (D.B - 1) a b (by omega); omega)]
    exact h.Hz p a (by omega)
theorem OX.first {n : Nat} (n0 : 1 ≤ n) (n1 : n ≤ 64) : OX n ⟨0, 0, fun _ => 0⟩ none (fun _ => none) 0 (fun _ => 0) 0 0 :=
  ⟨0, 0, fun _ => 0, by simp, by simp, by simp, fun p a b => by simp only [] at a; omega, fun p q a b c => by simp only [] at a; omega, fun p a b => by simp only [] at a; omega, fun p a b => by simp only [] at a; omega, by simp, by simp, by simp, by simp, by simp [Ow], fun k _ => trivial, n0, n1, by simp, bd_none⟩
end Go.Proofs.Ytmglacaikpcjhaa
