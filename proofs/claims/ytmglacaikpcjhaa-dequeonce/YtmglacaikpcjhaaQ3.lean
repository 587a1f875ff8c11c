/- One owner and three thieves: what is so in whatever order they go on. Of no function; no conditions. -/
import Derived.Test.YtmglacaikpcjhaaF1
namespace Go.Proofs.Ytmglacaikpcjhaa
open Go.RowKit

/-- The owner's task: what of the deque is its own (pe), where what is in the deque ends (E), which task pushed what (ix). -/
def Ow (n : Nat) (D : Dq) (o : Option At) (u : Nat) (E : Int) (pe : Int) (id : Int → Nat) (H : Nat → Int) : Prop := match o with
  | none => E = D.B ∧ pe = 0 ∧ E ≤ u
  | some a => match a.kd with
    | .push v => E = D.B ∧ pe = 0 ∧ 1 ≤ u ∧ v = 100 + ((u : Int) - 1) ∧ H (u - 1) = 0 ∧ E ≤ (u : Int) - 1 ∧ (∀ p, D.T ≤ p → p < E → (id p : Int) < (u : Int) - 1) ∧
        (a.tn = 1 ∨ (a.tn = 0 ∧ a.bt = D.B) ∨ (a.tn = 3 ∧ a.bt = D.B ∧ a.bt - D.T < n) ∨ (a.tn = 5 ∧ a.bt = D.B ∧ a.bt - D.T < n ∧ D.V (ix n a.bt) = v))
    | .pop => E ≤ u ∧ ((a.tn = 1 ∧ E = D.B ∧ pe = 0 ∧ a.hs = false) ∨ (a.tn = 2 ∧ a.bt = D.B - 1 ∧ E = D.B ∧ pe = 0 ∧ a.hs = false) ∨ (a.tn = 0 ∧ D.B = a.bt ∧ E = a.bt + 1 ∧ pe = 0 ∧ a.hs = false) ∨
        (a.tn = 3 ∧ a.tp < a.bt ∧ D.B = a.bt ∧ E = a.bt ∧ pe = 1 ∧ 0 ≤ a.bt ∧ D.V (ix n a.bt) = 100 + (id a.bt : Int) ∧ H (id a.bt) = 0 ∧ (∀ p, D.T ≤ p → p < E → id p < id a.bt) ∧ id a.bt < u) ∨
        (a.tn = 3 ∧ a.tp = a.bt ∧ D.B = a.bt ∧ E = a.bt + 1 ∧ pe = 0 ∧ a.hs = false ∧ a.tp ≤ D.T ∧ 0 ≤ a.bt) ∨
        (a.tn = 4 ∧ a.tp = a.bt ∧ D.B = a.bt ∧ E = a.bt + 1 ∧ pe = 0 ∧ a.tp ≤ D.T ∧ 0 ≤ a.bt ∧ (D.T = a.bt → a.vl = 100 + (id a.bt : Int))) ∨
        (a.tn = 5 ∧ D.B = a.bt ∧ E = a.bt + 1 ∧ D.T = E ∧ ((a.hs = false ∧ pe = 0) ∨ (a.hs = true ∧ pe = 1 ∧ a.vl = 100 + (id a.bt : Int) ∧ H (id a.bt) = 0 ∧ id a.bt < u))))
    | .steal => False
/-- A thief. -/
def Th (D : Dq) (E : Int) (id : Int → Nat) (t : Option At) : Prop := match t with
  | none => True
  | some c => c.kd = .steal ∧ c.bt = 0 ∧ 0 ≤ c.tp ∧ c.tp ≤ D.T ∧
      (c.tn = 0 ∨ c.tn = 1 ∨ (c.tn = 3 ∧ (c.tp = D.T → D.T < E)) ∨ (c.tn = 4 ∧ (c.tp = D.T → D.T < E ∧ c.vl = 100 + (id c.tp : Int))))
/-- What is so in whatever order. -/
structure OI (n : Nat) (D : Dq) (o : Option At) (t : Nat → Option At) (u : Nat) (H : Nat → Int) (pu ta : Int) (E pe : Int) (id : Int → Nat) : Prop where
  T0 : 0 ≤ D.T
  TE : D.T ≤ E
  En : E - D.T ≤ n
  con : ∀ p, D.T ≤ p → p < E → D.V (ix n p) = 100 + (id p : Int)
  mono : ∀ p q, D.T ≤ p → p < q → q < E → id p < id q
  idl : ∀ p, D.T ≤ p → p < E → id p < u
  Hz : ∀ p, D.T ≤ p → p < E → H (id p) = 0
  H0 : ∀ i, 0 ≤ H i
  H1 : ∀ i, H i ≤ 1
  Hf : ∀ i, u ≤ i → H i = 0
  cnt : pu = ta + (E - D.T) + pe
  ow : Ow n D o u E pe id H
  th : ∀ k, k < 3 → Th D E id (t k)
  n0 : 1 ≤ n
  n1 : n ≤ 64
  u1 : u ≤ 20
  bd : ∀ a, o = some a → -lim ≤ a.bt ∧ a.bt ≤ lim ∧ -lim ≤ a.tp ∧ a.tp ≤ lim
def OX (n : Nat) (D : Dq) (o : Option At) (t : Nat → Option At) (u : Nat) (H : Nat → Int) (pu ta : Int) : Prop := ∃ E pe id, OI n D o t u H pu ta E pe id

theorem OI.B {n u : Nat} {D : Dq} {o : Option At} {t : Nat → Option At} {H : Nat → Int} {pu ta E pe : Int} {id : Int → Nat} (h : OI n D o t u H pu ta E pe id) : E - 1 ≤ D.B ∧ D.B ≤ E ∧ E ≤ u := by
  have ho := h.ow
  cases o with
  | none => simp only [Ow] at ho; omega
  | some a =>
    cases hk : a.kd with
    | push v => simp only [Ow, hk] at ho; omega
    | pop => simp only [Ow, hk] at ho; omega
    | steal => simp only [Ow, hk] at ho
theorem OI.smO {n u : Nat} {D : Dq} {a : At} {t : Nat → Option At} {H : Nat → Int} {pu ta E pe : Int} {id : Int → Nat} (h : OI n D (some a) t u H pu ta E pe id) : Sm n D a := by
  obtain ⟨hb0, hb1, hp0, hp1⟩ := h.bd a rfl
  have hB := h.B
  have ho := h.ow
  have hT0 := h.T0
  have hTE := h.TE
  have hu := h.u1
  have hLim : lim = 1000000000 := rfl
  refine ⟨by omega, by omega, by omega, by omega, hp0, hp1, hb0, hb1, h.n0, h.n1, ?_, ?_⟩
  · cases hk : a.kd with
    | push v => simp only [Ow, hk] at ho; simp only [turnOk]; omega
    | pop => simp only [Ow, hk] at ho; simp only [turnOk]; omega
    | steal => simp only [Ow, hk] at ho
  · intro h3
    cases hk : a.kd with
    | push v => simp only [Ow, hk] at ho; simp only [posV]; omega
    | pop => simp only [Ow, hk] at ho; simp only [posV]; omega
    | steal => simp only [Ow, hk] at ho
theorem OI.smT {n u k : Nat} {D : Dq} {o : Option At} {c : At} {t : Nat → Option At} {H : Nat → Int} {pu ta E pe : Int} {id : Int → Nat} (h : OI n D o t u H pu ta E pe id) (hk : k < 3) (hc : t k = some c) : Sm n D c := by
  have hB := h.B
  have hT0 := h.T0
  have hTE := h.TE
  have hu := h.u1
  have ht := h.th k hk
  rw [hc] at ht
  simp only [Th] at ht
  have hLim : lim = 1000000000 := rfl
  refine ⟨by omega, by omega, by omega, by omega, by omega, by omega, by omega, by omega, h.n0, h.n1, ?_, ?_⟩
  · rw [ht.1]; simp only [turnOk]; omega
  · intro _; rw [ht.1]; simp only [posV]; omega

/-- A task of the owner begins. -/
theorem OX.begP {n u : Nat} {D : Dq} {t : Nat → Option At} {H : Nat → Int} {pu ta : Int} (h : OX n D none t u H pu ta) (hu : u < 20) : OX n D (some ⟨.push (100 + (u : Int)), 1, 0, 0, 0, false⟩) t (u + 1) H pu ta := by
  obtain ⟨E, pe, id, h⟩ := h
  have ho := h.ow
  simp only [Ow] at ho
  refine ⟨E, pe, id, { h with idl := fun p a b => by have := h.idl p a b; omega, Hf := fun i hi => h.Hf i (by omega), ow := ?_, u1 := by omega, bd := fun a e => by obtain rfl := Option.some.inj e; unfold lim; simp }⟩
  simp only [Ow]
  refine ⟨ho.1, ho.2.1, by omega, by omega, h.Hf _ (by omega), by omega, fun p a b => by have := h.idl p a b; omega, Or.inl trivial⟩
theorem OX.begG {n u : Nat} {D : Dq} {t : Nat → Option At} {H : Nat → Int} {pu ta : Int} (h : OX n D none t u H pu ta) (hu : u < 20) : OX n D (some ⟨.pop, 1, 0, 0, 0, false⟩) t (u + 1) H pu ta := by
  obtain ⟨E, pe, id, h⟩ := h
  have ho := h.ow
  simp only [Ow] at ho
  refine ⟨E, pe, id, { h with idl := fun p a b => by have := h.idl p a b; omega, Hf := fun i hi => h.Hf i (by omega), ow := ?_, u1 := by omega, bd := fun a e => by obtain rfl := Option.some.inj e; unfold lim; simp }⟩
  simp only [Ow]
  exact ⟨by omega, Or.inl ⟨trivial, ho.1, ho.2.1, trivial⟩⟩
def setT (t : Nat → Option At) (k : Nat) (c : Option At) : Nat → Option At := fun j => if j = k then c else t j
theorem th_set {D : Dq} {E : Int} {id : Int → Nat} {t : Nat → Option At} {k : Nat} {c : Option At} (h : ∀ j, j < 3 → Th D E id (t j)) (hc : Th D E id c) : ∀ j, j < 3 → Th D E id (setT t k c j) := by
  intro j hj
  unfold setT
  split
  · exact hc
  · exact h j hj
theorem OX.tbeg {n u k : Nat} {D : Dq} {o : Option At} {t : Nat → Option At} {H : Nat → Int} {pu ta : Int} (h : OX n D o t u H pu ta) : OX n D o (setT t k (some ⟨.steal, 0, 0, 0, 0, false⟩)) u H pu ta := by
  obtain ⟨E, pe, id, h⟩ := h
  exact ⟨E, pe, id, { h with th := th_set h.th (by simp only [Th]; exact ⟨trivial, trivial, by omega, h.T0, Or.inl trivial⟩) }⟩

/-- What a thief knows stays so when E is not less than T was, and what lies there is as it was. -/
theorem th_keep {D D' : Dq} {E E' : Int} {id id' : Int → Nat} {t : Option At} (h : Th D E id t) (hT : D.T ≤ D'.T) (hE : D'.T = D.T → D.T < E → D.T < E' ∧ id' D.T = id D.T) : Th D' E' id' t := by
  cases t with
  | none => trivial
  | some c =>
    simp only [Th] at h ⊢
    obtain ⟨h1, h2, h3, h4, h5⟩ := h
    refine ⟨h1, h2, h3, by omega, ?_⟩
    rcases h5 with h5 | h5 | ⟨h5, h6⟩ | ⟨h5, h6⟩
    · exact Or.inl h5
    · exact Or.inr (Or.inl h5)
    · refine Or.inr (Or.inr (Or.inl ⟨h5, fun e => ?_⟩))
      have eT : D'.T = D.T := by omega
      rw [eT]
      exact (hE eT (h6 (by omega))).1
    · refine Or.inr (Or.inr (Or.inr ⟨h5, fun e => ?_⟩))
      have eT : D'.T = D.T := by omega
      have ec : c.tp = D.T := by omega
      obtain ⟨q1, q2⟩ := h6 ec
      obtain ⟨r1, r2⟩ := hE eT q1
      rw [eT]
      refine ⟨r1, ?_⟩
      rw [q2, ec, r2]

def updH (H : Nat → Int) (i : Nat) (v : Int) : Nat → Int := fun k => if k = i then v else H k

/-- What comes of a step of the owner: it is on its way, has pushed, has taken i, or is done without anything. -/
def StO (n : Nat) (D : Dq) (a : At) (t : Nat → Option At) (u : Nat) (H : Nat → Int) (pu ta : Int) : Prop :=
  if (aX n D a).tn = 6 then
    (if (aX n D a).hs = true then (match a.kd with
      | .push _ => OX n (aD n D a) none t u H (pu + 1) ta
      | .pop => ∃ i : Nat, i < u ∧ H i = 0 ∧ (aX n D a).vl = 100 + (i : Int) ∧ OX n (aD n D a) none t u (updH H i 1) pu (ta + 1)
      | .steal => False)
     else OX n (aD n D a) none t u H pu ta)
  else OX n (aD n D a) (some (aX n D a)) t u H pu ta
end Go.Proofs.Ytmglacaikpcjhaa
