/- The document's task and the program's: as each goes on the one tells what the other tells. Conditions: the deque is one that can be; the counts are below 2^62. -/
import Derived.Test.YtmglacaikpcjhaaR5
namespace Go.Proofs.Ytmglacaikpcjhaa
open Go.RowKit

def kdN : Kd → Int
  | .push _ => 0
  | .pop => 1
  | .steal => 2
/-- The document's number of a turn. -/
def tnN (k : Kd) (t : Int) : Int := match k with
  | .push _ => if t = 1 then 0 else if t = 0 then 1 else if t = 3 then 2 else 3
  | .pop => if t = 1 then 0 else if t = 2 then 1 else if t = 0 then 2 else t
  | .steal => if t = 0 then 0 else if t = 1 then 1 else if t = 3 then 2 else 3
def vlN (k : Kd) (v : Int) : Int := match k with
  | .push u => u
  | .pop => v
  | .steal => v
/-- The program's task is as the document's. -/
structure Lk (x : Tk) (u : Us) : Prop where
  ad : u.ad = x.ad
  sz : u.sz = x.sz
  kd : u.kd = kdN x.kd
  tp : u.tp = x.tp
  bt : u.bt = x.bt
  dn : u.dn = (x.tn == 6)
  tn : x.tn ≠ 6 → u.tn = tnN x.kd x.tn
  v : x.tn ≠ 6 → u.v = vlN x.kd x.vl
  got : x.tn ≠ 6 → u.got = x.hs
  h0 : x.tn ≠ 6 → u.hs = false
  h1 : x.tn = 6 → u.hs = x.hs
  v1 : x.tn = 6 → x.hs = true → u.v = x.vl
theorem Lk.uok {x : Tk} {u : Us} (h : Lk x u) (y : YOk x) : UOk u := by
  refine ⟨by rw [h.ad, h.sz]; exact y.xo.ok.q, by rw [h.tp]; exact y.xo.ok.p0, by rw [h.tp]; exact y.xo.ok.p1, by rw [h.bt]; exact y.xo.ok.b0, by rw [h.bt]; exact y.xo.ok.b1, fun hd => ?_⟩
  have h6 : x.tn ≠ 6 := by
    have := h.dn
    rw [hd] at this
    exact beq_eq_false_iff_ne.1 this.symm
  have ht := y.xo.t
  rw [h.kd, h.tn h6]
  revert ht h6
  generalize x.tn = t
  cases x.kd with
  | push v =>
    simp only [turnOk, kdN, tnN]
    intro h6 ht
    rcases ht with rfl | rfl | rfl | rfl | rfl <;> simp_all
  | pop =>
    simp only [turnOk, kdN, tnN]
    intro h6 ht
    rcases ht with rfl | rfl | rfl | rfl | rfl | rfl | rfl <;> simp_all
  | steal =>
    simp only [turnOk, kdN, tnN]
    intro h6 ht
    rcases ht with rfl | rfl | rfl | rfl | rfl <;> simp_all
/-- A task on its way, and the document's, written out. -/
theorem Lk.form {x : Tk} {u : Us} (h : Lk x u) (h6 : x.tn ≠ 6) : u = ⟨x.ad, x.sz, kdN x.kd, vlN x.kd x.vl, tnN x.kd x.tn, x.tp, x.bt, x.hs, false, false⟩ := by
  have h1 := h.ad
  have h2 := h.sz
  have h3 := h.kd
  have h4 := h.tp
  have h5 := h.bt
  have h7 := h.dn
  have h8 := h.tn h6
  have h9 := h.v h6
  have h10 := h.got h6
  have h11 := h.h0 h6
  rw [beq_eq_false_iff_ne.2 h6] at h7
  obtain ⟨a, b, c, d, e, f, g, i, j, k⟩ := u
  simp only [] at h1 h2 h3 h4 h5 h7 h8 h9 h10 h11
  subst h1 h2 h3 h4 h5 h7 h8 h9 h10 h11
  rfl
theorem Lk.next {x : Tk} {u : Us} (h : Lk x u) (y : YOk x) : uNext u = tNext x := by
  by_cases h6 : x.tn = 6
  · unfold uNext
    rw [if_pos (by rw [h.dn, h6]; rfl)]
    simp [tNext, h6]
  · rw [h.form h6]
    have ht := y.xo.t
    clear h
    obtain ⟨ad, sz, kd, tn, tp, bt, vl, hs⟩ := x
    clear y
    simp only [] at h6 ht
    cases kd with
    | push v =>
      simp only [turnOk] at ht
      rcases ht with rfl | rfl | rfl | rfl | rfl <;> first | rfl | exact absurd rfl h6
    | pop =>
      simp only [turnOk] at ht
      rcases ht with rfl | rfl | rfl | rfl | rfl | rfl | rfl <;> first | rfl | exact absurd rfl h6
    | steal =>
      simp only [turnOk] at ht
      rcases ht with rfl | rfl | rfl | rfl | rfl <;> first | rfl | exact absurd rfl h6
theorem Lk.turn {x : Tk} {u : Us} (h : Lk x u) (y : YOk x) (s : St) : uT s u = tT s x := by
  unfold uT tT
  by_cases h6 : x.tn = 6
  · rw [if_pos h6, if_pos (by rw [h.dn, h6]; rfl)]
  · rw [if_neg h6, if_neg (by rw [h.dn]; simpa using h6), h.next y]
theorem Lk.mid (ad sz : Int) (kd : Kd) (tn tp bt vl : Int) (hs : Bool) (h6 : tn ≠ 6) : Lk ⟨ad, sz, kd, tn, tp, bt, vl, hs⟩ ⟨ad, sz, kdN kd, vlN kd vl, tnN kd tn, tp, bt, hs, false, false⟩ :=
  ⟨rfl, rfl, rfl, rfl, rfl, (beq_eq_false_iff_ne.2 h6).symm, fun _ => rfl, fun _ => rfl, fun _ => rfl, fun _ => rfl, fun c => absurd c h6, fun c => absurd c h6⟩
theorem Lk.fin (ad sz : Int) (kd : Kd) (tp bt vl v tn : Int) (got hs : Bool) (hv : hs = true → v = vl) : Lk ⟨ad, sz, kd, 6, tp, bt, vl, hs⟩ ⟨ad, sz, kdN kd, v, tn, tp, bt, got, true, hs⟩ :=
  ⟨rfl, rfl, rfl, rfl, rfl, rfl, fun c => absurd rfl c, fun c => absurd rfl c, fun c => absurd rfl c, fun c => absurd rfl c, fun _ => rfl, fun _ h => hv h⟩
theorem lk_push {ad sz v tn tp bt vl : Int} {hs : Bool} (ht : tn = 0 ∨ tn = 1 ∨ tn = 3 ∨ tn = 5) (r : Re) :
    Lk (goP v ⟨ad, sz, .push v, tn, tp, bt, vl, hs⟩ r) (uP ⟨ad, sz, 0, v, tnN (.push v) tn, tp, bt, hs, false, false⟩ r) := by
  rcases ht with rfl | rfl | rfl | rfl
  · by_cases hc : sz ≤ difA bt r.v
    · have e1 : goP v ⟨ad, sz, .push v, 0, tp, bt, vl, hs⟩ r = ⟨ad, sz, .push v, 6, tp, bt, vl, false⟩ := by simp [goP, hc]
      have e2 : uP ⟨ad, sz, 0, v, tnN (.push v) 0, tp, bt, hs, false, false⟩ r = ⟨ad, sz, kdN (.push v), v, 1, tp, bt, hs, true, false⟩ := by simp [uP, tnN, hc, kdN]
      rw [e1, e2]; exact Lk.fin _ _ _ _ _ _ _ _ _ _ (fun c => by cases c)
    · have e1 : goP v ⟨ad, sz, .push v, 0, tp, bt, vl, hs⟩ r = ⟨ad, sz, .push v, 3, tp, bt, vl, hs⟩ := by simp [goP, hc]
      have e2 : uP ⟨ad, sz, 0, v, tnN (.push v) 0, tp, bt, hs, false, false⟩ r = ⟨ad, sz, kdN (.push v), vlN (.push v) vl, tnN (.push v) 3, tp, bt, hs, false, false⟩ := by simp [uP, tnN, hc, kdN, vlN]
      rw [e1, e2]; exact Lk.mid _ _ _ _ _ _ _ _ (by decide)
  · exact Lk.mid ad sz (.push v) 0 tp r.v vl hs (by decide)
  · exact Lk.mid ad sz (.push v) 5 tp bt vl hs (by decide)
  · exact Lk.fin ad sz (.push v) tp bt v v 4 hs true (fun _ => rfl)
theorem lk_pop {ad sz tn tp bt vl : Int} {hs : Bool} (ht : tn = 0 ∨ tn = 1 ∨ tn = 2 ∨ tn = 3 ∨ tn = 4 ∨ tn = 5) (r : Re) :
    Lk (goG ⟨ad, sz, .pop, tn, tp, bt, vl, hs⟩ r) (uG ⟨ad, sz, 1, vl, tnN .pop tn, tp, bt, hs, false, false⟩ r) := by
  rcases ht with rfl | rfl | rfl | rfl | rfl | rfl
  · by_cases hc : 0 < difA r.v bt
    · have e1 : goG ⟨ad, sz, .pop, 0, tp, bt, vl, hs⟩ r = ⟨ad, sz, .pop, 5, r.v, bt, vl, hs⟩ := by simp [goG, hc]
      have e2 : uG ⟨ad, sz, 1, vl, tnN .pop 0, tp, bt, hs, false, false⟩ r = ⟨ad, sz, kdN .pop, vlN .pop vl, tnN .pop 5, r.v, bt, hs, false, false⟩ := by simp [uG, tnN, hc, kdN, vlN]
      rw [e1, e2]; exact Lk.mid _ _ _ _ _ _ _ _ (by decide)
    · have e1 : goG ⟨ad, sz, .pop, 0, tp, bt, vl, hs⟩ r = ⟨ad, sz, .pop, 3, r.v, bt, vl, hs⟩ := by simp [goG, hc]
      have e2 : uG ⟨ad, sz, 1, vl, tnN .pop 0, tp, bt, hs, false, false⟩ r = ⟨ad, sz, kdN .pop, vlN .pop vl, tnN .pop 3, r.v, bt, hs, false, false⟩ := by simp [uG, tnN, hc, kdN, vlN]
      rw [e1, e2]; exact Lk.mid _ _ _ _ _ _ _ _ (by decide)
  · exact Lk.mid ad sz .pop 2 tp (dec64 r.v) vl hs (by decide)
  · exact Lk.mid ad sz .pop 0 tp bt vl hs (by decide)
  · by_cases hc : difA tp bt < 0
    · have e1 : goG ⟨ad, sz, .pop, 3, tp, bt, vl, hs⟩ r = ⟨ad, sz, .pop, 6, tp, bt, r.v, true⟩ := by simp [goG, hc]
      have e2 : uG ⟨ad, sz, 1, vl, tnN .pop 3, tp, bt, hs, false, false⟩ r = ⟨ad, sz, kdN .pop, r.v, 4, tp, bt, hs, true, true⟩ := by simp [uG, tnN, hc, kdN]
      rw [e1, e2]; exact Lk.fin _ _ _ _ _ _ _ _ _ _ (fun _ => rfl)
    · have e1 : goG ⟨ad, sz, .pop, 3, tp, bt, vl, hs⟩ r = ⟨ad, sz, .pop, 4, tp, bt, r.v, hs⟩ := by simp [goG, hc]
      have e2 : uG ⟨ad, sz, 1, vl, tnN .pop 3, tp, bt, hs, false, false⟩ r = ⟨ad, sz, kdN .pop, vlN .pop r.v, tnN .pop 4, tp, bt, hs, false, false⟩ := by simp [uG, tnN, hc, kdN, vlN]
      rw [e1, e2]; exact Lk.mid _ _ _ _ _ _ _ _ (by decide)
  · exact Lk.mid ad sz .pop 5 tp bt vl r.ok (by decide)
  · exact Lk.fin ad sz .pop tp bt vl vl 5 hs hs (fun _ => rfl)
theorem lk_steal {ad sz tn tp bt vl : Int} {hs : Bool} (ht : tn = 0 ∨ tn = 1 ∨ tn = 3 ∨ tn = 4) (r : Re) :
    Lk (goS ⟨ad, sz, .steal, tn, tp, bt, vl, hs⟩ r) (uS ⟨ad, sz, 2, vl, tnN .steal tn, tp, bt, hs, false, false⟩ r) := by
  rcases ht with rfl | rfl | rfl | rfl
  · exact Lk.mid ad sz .steal 1 r.v bt vl hs (by decide)
  · by_cases hc : 0 ≤ difA tp r.v
    · have e1 : goS ⟨ad, sz, .steal, 1, tp, bt, vl, hs⟩ r = ⟨ad, sz, .steal, 6, tp, bt, vl, false⟩ := by simp [goS, hc]
      have e2 : uS ⟨ad, sz, 2, vl, tnN .steal 1, tp, bt, hs, false, false⟩ r = ⟨ad, sz, kdN .steal, vl, 2, tp, bt, hs, true, false⟩ := by simp [uS, tnN, hc, kdN]
      rw [e1, e2]; exact Lk.fin _ _ _ _ _ _ _ _ _ _ (fun c => by cases c)
    · have e1 : goS ⟨ad, sz, .steal, 1, tp, bt, vl, hs⟩ r = ⟨ad, sz, .steal, 3, tp, bt, vl, hs⟩ := by simp [goS, hc]
      have e2 : uS ⟨ad, sz, 2, vl, tnN .steal 1, tp, bt, hs, false, false⟩ r = ⟨ad, sz, kdN .steal, vlN .steal vl, tnN .steal 3, tp, bt, hs, false, false⟩ := by simp [uS, tnN, hc, kdN, vlN]
      rw [e1, e2]; exact Lk.mid _ _ _ _ _ _ _ _ (by decide)
  · exact Lk.mid ad sz .steal 4 tp bt r.v hs (by decide)
  · exact Lk.fin ad sz .steal tp bt vl vl 4 hs r.ok (fun _ => rfl)
theorem Lk.step {x : Tk} {u : Us} (h : Lk x u) (y : YOk x) (s : St) : Lk (tX s x) (uX s u) := by
  unfold tX uX
  by_cases h6 : x.tn = 6
  · rw [if_pos h6, if_pos (by rw [h.dn, h6]; rfl)]; exact h
  · have hd : ¬ u.dn = true := by rw [h.dn]; simpa using h6
    rw [if_neg h6, if_neg hd, h.next y]
    have ht := y.xo.t
    rw [h.form h6]
    clear h hd
    generalize doR s (tNext x) = r
    clear y
    obtain ⟨ad, sz, kd, tn, tp, bt, vl, hs⟩ := x
    simp only [] at h6 ht
    unfold tGo uGo
    by_cases he : r.e = 0
    · rw [if_pos he, if_pos he]
      cases kd with
      | push v => exact lk_push (by simp only [turnOk] at ht; omega) r
      | pop => exact lk_pop (by simp only [turnOk] at ht; omega) r
      | steal => exact lk_steal (by simp only [turnOk] at ht; omega) r
    · rw [if_neg he, if_neg he]
      exact Lk.fin ad sz kd tp bt vl _ _ hs false (fun c => by cases c)
theorem Lk.newP (ad sz v : Int) : Lk (newP ad sz v) ⟨ad, sz, 0, v, 0, 0, 0, false, false, false⟩ := Lk.mid ad sz (.push v) 1 0 0 0 false (by decide)
theorem Lk.newG (ad sz : Int) : Lk (newG ad sz) ⟨ad, sz, 1, 0, 0, 0, 0, false, false, false⟩ := Lk.mid ad sz .pop 1 0 0 0 false (by decide)
theorem Lk.newS (ad sz : Int) : Lk (newS ad sz) ⟨ad, sz, 2, 0, 0, 0, 0, false, false, false⟩ := Lk.mid ad sz .steal 0 0 0 0 false (by decide)
/-- What is told. -/
theorem Lk.res {x : Tk} {u : Us} (h : Lk x u) : u.hs = resB x ∧ u.dn = (x.tn == 6) ∧ (resB x = true → u.v = resV x) ∧ (resB x = false → resV x = 0) := by
  refine ⟨?_, h.dn, fun e => ?_, fun e => by simp [resV, e]⟩
  · unfold resB
    by_cases h6 : x.tn = 6
    · rw [h.h1 h6, h6]; simp
    · rw [h.h0 h6, beq_eq_false_iff_ne.2 h6]; rfl
  · have e' := e
    unfold resB at e'
    simp at e'
    rw [h.v1 e'.1 e'.2]
    simp [resV, e]
end Go.Proofs.Ytmglacaikpcjhaa
