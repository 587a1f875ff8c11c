/- An owner's pop and a thief's steal, both at the last value: what is so in whatever order they go on. Of no function; no conditions. -/
import Derived.Test.YtmglacaikpcjhaaQ1
namespace Go.Proofs.Ytmglacaikpcjhaa
open Go.RowKit

/-- How many steps are left at most. -/
def rem (kd : Kd) (tn : Int) : Nat := match kd with
  | .push _ => if tn = 1 then 4 else if tn = 0 then 3 else if tn = 3 then 2 else if tn = 5 then 1 else 0
  | .pop => if tn = 1 then 6 else if tn = 2 then 5 else if tn = 0 then 4 else if tn = 3 then 3 else if tn = 4 then 2 else if tn = 5 then 1 else 0
  | .steal => if tn = 0 then 4 else if tn = 1 then 3 else if tn = 3 then 2 else if tn = 4 then 1 else 0
theorem rem_le (kd : Kd) (tn : Int) : rem kd tn ≤ 6 := by
  unfold rem
  split <;> (repeat' split) <;> omega
theorem rem_zero {kd : Kd} {tn : Int} (ht : turnOk kd tn) (h : rem kd tn = 0) : tn = 6 := by
  cases kd <;> simp only [turnOk] at ht <;> simp only [rem] at h
  · rcases ht with rfl | rfl | rfl | rfl | rfl <;> first | rfl | simp at h
  · rcases ht with rfl | rfl | rfl | rfl | rfl | rfl | rfl <;> first | rfl | simp at h
  · rcases ht with rfl | rfl | rfl | rfl | rfl <;> first | rfl | simp at h
theorem tGo_kd (x : Tk) (r : Re) : (tGo x r).kd = x.kd := by
  unfold tGo
  split
  · cases hk : x.kd with
    | push v => simp only [goP]; repeat' split
                all_goals simp [hk]
    | pop => simp only [goG]; repeat' split
             all_goals simp [hk]
    | steal => simp only [goS]; repeat' split
               all_goals simp [hk]
  · rfl
theorem rem_next (s : St) {x : Tk} (ht : turnOk x.kd x.tn) (h6 : x.tn ≠ 6) : rem (tX s x).kd (tX s x).tn < rem x.kd x.tn := by
  have hk : (tX s x).kd = x.kd := by unfold tX; split <;> first | rfl | exact tGo_kd _ _
  rw [hk]
  unfold tX
  rw [if_neg h6]
  generalize doR s (tNext x) = r
  obtain ⟨ad, sz, kd, tn, tp, bt, vl, hs⟩ := x
  simp only [] at ht h6 ⊢
  unfold tGo
  split
  · cases kd <;> simp only [turnOk] at ht
    · rcases ht with rfl | rfl | rfl | rfl | rfl <;> first | exact absurd rfl h6 | (simp [goP, rem]; done) | (simp [goP]; split <;> simp [rem])
    · rcases ht with rfl | rfl | rfl | rfl | rfl | rfl | rfl <;> first | exact absurd rfl h6 | (simp [goG, rem]; done) | (simp [goG]; split <;> simp [rem])
    · rcases ht with rfl | rfl | rfl | rfl | rfl <;> first | exact absurd rfl h6 | (simp [goS, rem]; done) | (simp [goS]; split <;> simp [rem])
  · cases kd <;> simp only [turnOk] at ht
    · rcases ht with rfl | rfl | rfl | rfl | rfl <;> (try exact absurd rfl h6) <;> simp [rem]
    · rcases ht with rfl | rfl | rfl | rfl | rfl | rfl | rfl <;> (try exact absurd rfl h6) <;> simp [rem]
    · rcases ht with rfl | rfl | rfl | rfl | rfl <;> (try exact absurd rfl h6) <;> simp [rem]
theorem run_ends : ∀ (k : Nat) (s : St) (x : Tk), SOk s → YOk x → rem x.kd x.tn ≤ k → (run k s x).2.tn = 6
  | 0, _, x, _, hy, h => rem_zero (kd := x.kd) hy.xo.t (Nat.le_zero.1 h)
  | k + 1, s, x, hs, hy, h => by
    rw [run]
    by_cases h6 : x.tn = 6
    · rw [show tT s x = s by simp [tT, h6], show tX s x = x by simp [tX, h6], run_done h6]
      exact h6
    · exact run_ends k _ _ (hs.next hy) (hy.next hs) (by have := rem_next s hy.xo.t h6; omega)
theorem run_ok : ∀ (k : Nat) {s : St} {x : Tk} {c : Nat}, SOk s → YOk x → Cnt s c → SOk (run k s x).1 ∧ YOk (run k s x).2 ∧ Cnt (run k s x).1 (c + k)
  | 0, _, _, _, h1, h2, h3 => ⟨h1, h2, h3⟩
  | k + 1, s, x, c, h1, h2, h3 => by
    rw [run]
    obtain ⟨a, b, d⟩ := run_ok k (h1.next h2) (h2.next h1) (h3.next x)
    exact ⟨a, b, d.mono (by omega)⟩

/-- One value v, an owner's pop a and a thief's steal c. -/
structure LP (v : Int) (D : Dq) (a c : At) : Prop where
  V0 : D.V 0 = v
  ak : a.kd = .pop
  ck : c.kd = .steal
  at_ : turnOk .pop a.tn
  ct : turnOk .steal c.tn
  ab : a.bt = 0
  cb : c.bt = 0
  B1 : a.tn = 1 ∨ a.tn = 2 ∨ a.tn = 6 → D.B = 1
  B0 : a.tn = 0 ∨ a.tn = 3 ∨ a.tn = 4 ∨ a.tn = 5 → D.B = 0
  T0 : 0 ≤ D.T
  T1 : D.T ≤ 1
  ap0 : 0 ≤ a.tp
  ap1 : a.tp ≤ 1
  ap : a.tn = 3 ∨ a.tn = 4 → a.tp = 0
  av : a.tn = 4 → a.vl = v
  aT : a.tn = 5 ∨ a.tn = 6 → D.T = 1
  ah : a.hs = true → (a.tn = 5 ∨ a.tn = 6) ∧ a.vl = v
  cp0 : 0 ≤ c.tp
  cp1 : c.tp ≤ 1
  cp : c.tn = 3 ∨ c.tn = 4 → c.tp = 0
  cv : c.tn = 4 → c.vl = v
  ch : c.hs = true → c.tn = 6 ∧ c.vl = v
  one : (D.T = 0 ∧ a.hs = false ∧ c.hs = false) ∨ (D.T = 1 ∧ a.hs = !c.hs)
theorem LP.smA {v : Int} {D : Dq} {a c : At} (h : LP v D a c) : Sm 4 D a := by
  have hb : D.B = 0 ∨ D.B = 1 := by
    have h1 := h.B1
    have h2 := h.B0
    have ht := h.at_
    simp only [turnOk] at ht
    omega
  have := h.T0; have := h.T1; have := h.ap0; have := h.ap1; have := h.ab
  have hLim : lim = 1000000000 := rfl
  exact ⟨by omega, by omega, by omega, by omega, by omega, by omega, by omega, by omega, by omega, by omega, by rw [h.ak]; exact h.at_, fun _ => by rw [h.ak]; simp only [posV]; omega⟩
theorem LP.smC {v : Int} {D : Dq} {a c : At} (h : LP v D a c) : Sm 4 D c := by
  have hb : D.B = 0 ∨ D.B = 1 := by
    have h1 := h.B1
    have h2 := h.B0
    have ht := h.at_
    simp only [turnOk] at ht
    omega
  have := h.T0; have := h.T1; have := h.cp0; have := h.cp1; have := h.cb
  have hLim : lim = 1000000000 := rfl
  exact ⟨by omega, by omega, by omega, by omega, by omega, by omega, by omega, by omega, by omega, by omega, by rw [h.ck]; exact h.ct, fun _ => by rw [h.ck]; simp only [posV]; omega⟩
theorem ix40 : ix 4 0 = 0 := rfl
theorem LP.stepA {v : Int} {D : Dq} {a c : At} (h : LP v D a c) : LP v (aD 4 D a) (aX 4 D a) c := by
  obtain ⟨V0, ak, ck, at_, ct, ab, cb, B1, B0, T0, T1, ap0, ap1, ap, av, aT, ah, cp0, cp1, cp, cv, ch, one⟩ := h
  obtain ⟨kd, tn, tp, bt, vl, hs⟩ := a
  obtain ⟨T, B, V⟩ := D
  simp only [] at *
  subst ak ab
  simp only [turnOk] at at_
  rcases at_ with rfl | rfl | rfl | rfl | rfl | rfl | rfl
  · simp at B0
    subst B0
    have hh : hs = false := by cases hs with
      | false => rfl
      | true => have := (ah rfl).1; omega
    subst hh
    by_cases hT : 0 < T
    · obtain rfl : T = 1 := by omega
      simp only [aD, aX, aG]
      simp
      exact ⟨V0, rfl, ck, by simp [turnOk], ct, rfl, cb, by simp, by simp, by simp, by simp, by simp, by simp, by simp, by simp, by simp, by simp, cp0, cp1, cp, cv, ch, one⟩
    · obtain rfl : T = 0 := by omega
      simp only [aD, aX, aG]
      simp
      exact ⟨V0, rfl, ck, by simp [turnOk], ct, rfl, cb, by simp, by simp, by simp, by simp, by simp, by simp, by simp, by simp, by simp, by simp, cp0, cp1, cp, cv, ch, one⟩
  · simp at B1
    subst B1
    have hh : hs = false := by cases hs with
      | false => rfl
      | true => have := (ah rfl).1; omega
    subst hh
    simp only [aD, aX, aG]
    simp
    exact ⟨V0, rfl, ck, by simp [turnOk], ct, rfl, cb, by simp, by simp, T0, T1, ap0, ap1, by simp, by simp, by simp, by simp, cp0, cp1, cp, cv, ch, one⟩
  · have hh : hs = false := by cases hs with
      | false => rfl
      | true => have := (ah rfl).1; omega
    subst hh
    simp only [aD, aX, aG]
    simp
    exact ⟨V0, rfl, ck, by simp [turnOk], ct, rfl, cb, by simp, by simp, T0, T1, ap0, ap1, by simp, by simp, by simp, by simp, cp0, cp1, cp, cv, ch, one⟩
  · have hh : hs = false := by cases hs with
      | false => rfl
      | true => have := (ah rfl).1; omega
    subst hh
    simp at ap B0
    subst ap B0
    simp only [aD, aX, aG, mvD, ix40]
    simp
    exact ⟨V0, rfl, ck, by simp [turnOk], ct, rfl, cb, by simp, by simp, T0, T1, by simp, by simp, by simp, fun _ => V0, by simp, by simp, cp0, cp1, cp, cv, ch, one⟩
  · have hh : hs = false := by cases hs with
      | false => rfl
      | true => have := (ah rfl).1; omega
    subst hh
    simp at ap B0 av
    subst ap B0 av
    by_cases hT : T = 0
    · subst hT
      simp only [aD, aX, aG]
      simp
      simp at one
      exact ⟨V0, rfl, ck, by simp [turnOk], ct, rfl, cb, by simp, by simp, by simp, by simp, by simp, by simp, by simp, by simp, by simp, by simp, cp0, cp1, cp, cv, ch, by simp [one]⟩
    · obtain rfl : T = 1 := by omega
      simp only [aD, aX, aG]
      simp
      exact ⟨V0, rfl, ck, by simp [turnOk], ct, rfl, cb, by simp, by simp, by simp, by simp, by simp, by simp, by simp, by simp, by simp, by simp, cp0, cp1, cp, cv, ch, one⟩
  · simp at B0 aT
    subst B0 aT
    simp only [aD, aX, aG]
    simp
    exact ⟨V0, rfl, ck, by simp [turnOk], ct, rfl, cb, by simp, by simp, by simp, by simp, ap0, ap1, by simp, by simp, by simp, fun z => ⟨by simp, (ah z).2⟩, cp0, cp1, cp, cv, ch, one⟩
  · simp only [aD, aX]
    simp
    exact ⟨V0, rfl, ck, by simp [turnOk], ct, rfl, cb, B1, B0, T0, T1, ap0, ap1, ap, av, aT, ah, cp0, cp1, cp, cv, ch, one⟩
theorem LP.stepC {v : Int} {D : Dq} {a c : At} (h : LP v D a c) : LP v (aD 4 D c) a (aX 4 D c) := by
  obtain ⟨V0, ak, ck, at_, ct, ab, cb, B1, B0, T0, T1, ap0, ap1, ap, av, aT, ah, cp0, cp1, cp, cv, ch, one⟩ := h
  obtain ⟨kd, tn, tp, bt, vl, hs⟩ := c
  obtain ⟨T, B, V⟩ := D
  simp only [] at *
  subst ck cb
  have hB : B = 0 ∨ B = 1 := by simp only [turnOk] at at_; omega
  simp only [turnOk] at ct
  rcases ct with rfl | rfl | rfl | rfl | rfl
  · have hh : hs = false := by cases hs with
      | false => rfl
      | true => have := (ch rfl).1; omega
    subst hh
    simp only [aD, aX, aS]
    simp
    exact ⟨V0, ak, rfl, at_, by simp [turnOk], ab, rfl, B1, B0, T0, T1, ap0, ap1, ap, av, aT, ah, T0, T1, by simp, by simp, by simp, one⟩
  · have hh : hs = false := by cases hs with
      | false => rfl
      | true => have := (ch rfl).1; omega
    subst hh
    by_cases hc : B ≤ tp
    · simp only [aD, aX, aS]
      simp [hc]
      exact ⟨V0, ak, rfl, at_, by simp [turnOk], ab, rfl, B1, B0, T0, T1, ap0, ap1, ap, av, aT, ah, cp0, cp1, by simp, by simp, by simp, one⟩
    · simp only [aD, aX, aS]
      simp [hc]
      exact ⟨V0, ak, rfl, at_, by simp [turnOk], ab, rfl, B1, B0, T0, T1, ap0, ap1, ap, av, aT, ah, cp0, cp1, fun _ => by simp only []; omega, by simp, by simp, one⟩
  · have hh : hs = false := by cases hs with
      | false => rfl
      | true => have := (ch rfl).1; omega
    subst hh
    simp at cp
    subst cp
    simp only [aD, aX, aS, mvD, ix40]
    simp
    exact ⟨V0, ak, rfl, at_, by simp [turnOk], ab, rfl, B1, B0, T0, T1, ap0, ap1, ap, av, aT, ah, by simp, by simp, by simp, fun _ => V0, by simp, one⟩
  · have hh : hs = false := by cases hs with
      | false => rfl
      | true => have := (ch rfl).1; omega
    subst hh
    simp at cp cv
    subst cp cv
    by_cases hT : T = 0
    · subst hT
      simp only [aD, aX, aS]
      simp
      simp at one
      have h5 : ¬ (a.tn = 5 ∨ a.tn = 6) := fun z => by have := aT z; omega
      exact ⟨V0, ak, rfl, at_, by simp [turnOk], ab, rfl, B1, B0, by simp, by simp, ap0, ap1, ap, av, fun z => absurd z h5, ah, by simp, by simp, by simp, by simp, by simp, by simp [one]⟩
    · obtain rfl : T = 1 := by omega
      simp only [aD, aX, aS]
      simp
      exact ⟨V0, ak, rfl, at_, by simp [turnOk], ab, rfl, B1, B0, by simp, by simp, ap0, ap1, ap, av, fun _ => rfl, ah, by simp, by simp, by simp, by simp, by simp, one⟩
  · simp only [aD, aX]
    simp
    exact ⟨V0, ak, rfl, at_, by simp [turnOk], ab, rfl, B1, B0, T0, T1, ap0, ap1, ap, av, aT, ah, cp0, cp1, cp, cv, ch, one⟩

/-- The same, of words and tasks. -/
def LQ (v : Int) (s : St) (x y : Tk) : Prop := ∃ D a c, Rep 0 4 s.xs D ∧ x = toTk 0 4 a ∧ y = toTk 0 4 c ∧ LP v D a c
theorem LQ.stepA {v : Int} {s : St} {x y : Tk} (h : LQ v s x y) : LQ v (tT s x) (tX s x) y := by
  obtain ⟨D, a, c, hr, rfl, rfl, hp⟩ := h
  obtain ⟨e1, e2⟩ := rep_step hr hp.smA
  exact ⟨_, _, _, e2, e1, rfl, hp.stepA⟩
theorem LQ.stepC {v : Int} {s : St} {x y : Tk} (h : LQ v s x y) : LQ v (tT s y) x (tX s y) := by
  obtain ⟨D, a, c, hr, rfl, rfl, hp⟩ := h
  obtain ⟨e1, e2⟩ := rep_step hr hp.smC
  exact ⟨_, _, _, e2, rfl, e1, hp.stepC⟩
theorem LQ.runA {v : Int} : ∀ (k : Nat) {s : St} {x y : Tk}, LQ v s x y → LQ v (run k s x).1 (run k s x).2 y
  | 0, _, _, _, h => h
  | k + 1, s, x, y, h => by rw [run]; exact LQ.runA k h.stepA
theorem LQ.runC {v : Int} : ∀ (k : Nat) {s : St} {x y : Tk}, LQ v s x y → LQ v (run k s y).1 x (run k s y).2
  | 0, _, _, _, h => h
  | k + 1, s, x, y, h => by rw [run]; exact LQ.runC k h.stepC
theorem LQ.ends {v : Int} {s : St} {x y : Tk} (h : LQ v s x y) (hx : x.tn = 6) (hy : y.tn = 6) :
    s.xs.getD 0 0 = 1 ∧ s.xs.getD 1 0 = 1 ∧ 2 ≤ s.xs.length ∧ resB x = !resB y ∧ (resB x = true → resV x = v) ∧ (resB y = true → resV y = v) := by
  obtain ⟨D, a, c, hr, rfl, rfl, hp⟩ := h
  simp only [] at hx hy
  have hT := hp.aT (Or.inr hx)
  have hB := hp.B1 (Or.inr (Or.inr hx))
  have ho := hp.one
  have e1 := hr.hT
  have e2 := hr.hB
  have e3 := hr.len
  rw [hT] at e1
  rw [hB] at e2
  have h1 : resB (toTk 0 4 a) = a.hs := by simp [resB, hx]
  have h2 : resB (toTk 0 4 c) = c.hs := by simp [resB, hy]
  refine ⟨e1, e2, by omega, ?_, fun z => ?_, fun z => ?_⟩
  · rw [h1, h2]
    rcases ho with ho | ho
    · omega
    · exact ho.2
  · rw [resV, if_pos z]
    rw [h1] at z
    exact (hp.ah z).2
  · rw [resV, if_pos z]
    rw [h2] at z
    exact (hp.ch z).2
theorem LQ.first {v : Int} {s : St} (h : Rep 0 4 s.xs ⟨0, 1, fun k => if k = 0 then v else 0⟩) : LQ v s (newG 0 4) (newS 0 4) :=
  ⟨_, ⟨.pop, 1, 0, 0, 0, false⟩, ⟨.steal, 0, 0, 0, 0, false⟩, h, by simp [toTk, rp0], by simp [toTk, rp0], by simp, rfl, rfl, by simp [turnOk], by simp [turnOk], rfl, rfl, by simp, by simp, by simp, by simp, by simp, by simp, by simp, by simp, by simp, by simp, by simp, by simp, by simp, by simp, by simp, by simp⟩
end Go.Proofs.Ytmglacaikpcjhaa
