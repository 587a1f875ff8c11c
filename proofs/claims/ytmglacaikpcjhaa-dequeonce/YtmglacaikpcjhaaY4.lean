/- The world of DequeOnce, with its owner and its thieves: what one turn leaves of it. Conditions: the words, the tasks and the counts are such as came of it. -/
import Derived.Test.YtmglacaikpcjhaaY2a
import Derived.Test.YtmglacaikpcjhaaY2b
import Derived.Test.YtmglacaikpcjhaaY2c
import Derived.Test.YtmglacaikpcjhaaY3a
import Derived.Test.YtmglacaikpcjhaaY3b
import Derived.Test.YtmglacaikpcjhaaY0
namespace Go.Proofs.Ytmglacaikpcjhaa
open Go.RowKit

theorem But5.bel {x h g p b : Nat} {w0 w w' : World} (a : But5 x h g p b w w') (k : Below w0.heap.size w0 w) (h1 : w0.heap.size ≤ x) (h2 : w0.heap.size ≤ h) (h3 : w0.heap.size ≤ g) (h4 : w0.heap.size ≤ p) (h5 : w0.heap.size ≤ b) : Below w0.heap.size w0 w' :=
  { k with os := a.os.trans k.os, tape := a.tape.trans k.tape, output := a.output.trans k.output, size := Nat.le_trans k.size a.size, block := fun i hi => (a.block i (Nat.lt_of_lt_of_le hi k.size) (by omega) (by omega) (by omega) (by omega) (by omega)).trans (k.block i hi) }
/-- The pointer of one of the four: 0 to 2 the thieves, 3 the owner. -/
def Xr.g (c : Xr) (k : Nat) : Option Nat := if k = 0 then c.t0 else if k = 1 then c.t1 else if k = 2 then c.t2 else c.ow
theorem Xr.g_setT (c : Xr) {k j : Nat} (o : Option Nat) (hk : k < 3) (hj : j < 4) : (c.setT k o).g j = if j = k then o else c.g j := by
  have a1 : k = 0 ∨ k = 1 ∨ k = 2 := by omega
  have a2 : j = 0 ∨ j = 1 ∨ j = 2 ∨ j = 3 := by omega
  rcases a1 with rfl | rfl | rfl <;> rcases a2 with rfl | rfl | rfl | rfl <;> simp [Xr.g, Xr.setT]
theorem Xr.setT_f (c : Xr) (k : Nat) (o : Option Nat) : (c.setT k o).p = c.p ∧ (c.setT k o).n = c.n ∧ (c.setT k o).gh = c.gh ∧ (c.setT k o).N = c.N ∧ (c.setT k o).po = c.po ∧ (c.setT k o).u = c.u ∧ (c.setT k o).pu = c.pu ∧ (c.setT k o).ta = c.ta := by
  unfold Xr.setT
  split
  · simp
  · split <;> simp
/-- A task, where there is one, lies apart from all else. -/
def Tq (w0 w : World) (n p b r gx gh : Nat) (og : Option Nat) (o : Option At) : Prop := match og, o with
  | none, none => True
  | some g, some a => IsTk w g (toTk 3 n a) ∧ YOk (toTk 3 n a) ∧ g ≠ p ∧ g ≠ b ∧ g ≠ r ∧ g ≠ gx ∧ g ≠ gh ∧ w0.heap.size ≤ g
  | _, _ => False
theorem tq_none {w0 w : World} {n p b r gx gh : Nat} {o : Option At} (h : Tq w0 w n p b r gx gh none o) : o = none := by
  cases o with
  | none => rfl
  | some a => simp [Tq] at h
theorem tq_noneG {w0 w : World} {n p b r gx gh : Nat} {og : Option Nat} (h : Tq w0 w n p b r gx gh og none) : og = none := by
  cases og with
  | none => rfl
  | some a => simp [Tq] at h
theorem tq_some {w0 w : World} {n p b r gx gh : Nat} {og : Option Nat} {a : At} (h : Tq w0 w n p b r gx gh og (some a)) : ∃ g, og = some g ∧ IsTk w g (toTk 3 n a) ∧ YOk (toTk 3 n a) ∧ g ≠ p ∧ g ≠ b ∧ g ≠ r ∧ g ≠ gx ∧ g ≠ gh ∧ w0.heap.size ≤ g := by
  cases og with
  | none => simp [Tq] at h
  | some g => exact ⟨g, rfl, h⟩
structure XW (w0 : World) (p b r gx gh n N k : Nat) (w : World) (s : St) (D : Dq) (c : Xr) (O : Nat → Option At) (H : Nat → Int) : Prop where
  kn : Kn w0 p b r 3 n w s
  x : IsX w gx c
  h : IsH w gh N H
  cp : c.p = p
  cn : c.n = n
  cg : c.gh = gh
  cN : c.N = N
  xp : gx ≠ p
  xb : gx ≠ b
  xr : gx ≠ r
  xh : gx ≠ gh
  hp : gh ≠ p
  hb : gh ≠ b
  hr : gh ≠ r
  x0 : w0.heap.size ≤ gx
  h0 : w0.heap.size ≤ gh
  so : SOk s
  co : Cnt s k
  rep : Rep 3 n s.xs D
  tk : ∀ j, j < 4 → Tq w0 w n p b r gx gh (c.g j) (O j)
  ap : ∀ i j, i < 4 → j < 4 → i ≠ j → ∀ g, c.g i = some g → c.g j ≠ some g
  po : ∀ a, O 3 = some a → (c.po = true ↔ a.kd = .pop)
theorem XW.next {w0 w w' : World} {p b r gx gh n N k k' : Nat} {s s' : St} {D D' : Dq} {c c' : Xr} {O : Nat → Option At} {H H' : Nat → Int} (h : XW w0 p b r gx gh n N k w s D c O H)
    (i : Nat) (_hi : i < 4) {g : Nat} (hg0 : w0.heap.size ≤ g) (hgr : g ≠ r) (hgj : ∀ j, j < 4 → j ≠ i → c.g j ≠ some g) (hB : But5 gx gh g p b w w') (hm : Mem 78 w' p b s') (hx : IsX w' gx c') (hh : IsH w' gh N H')
    (e : c'.p = c.p ∧ c'.n = c.n ∧ c'.gh = c.gh ∧ c'.N = c.N) (og : Option Nat) (oa : Option At) (hc' : ∀ j, j < 4 → c'.g j = if j = i then og else c.g j) (hT : Tq w0 w' n p b r gx gh og oa) (hap : ∀ g', og = some g' → ∀ j, j < 4 → j ≠ i → c.g j ≠ some g')
    (so : SOk s') (co : Cnt s' k') (rep : Rep 3 n s'.xs D') (po : ∀ a, setT O i oa 3 = some a → (c'.po = true ↔ a.kd = .pop)) : XW w0 p b r gx gh n N k' w' s' D' c' (setT O i oa) H' where
  kn := { h.kn with mem := hm, deq := (hB.block _ (lt_of_block h.kn.deq) h.xr.symm h.hr.symm hgr.symm h.kn.rp h.kn.rb).trans h.kn.deq, bel := hB.bel h.kn.bel h.x0 h.h0 hg0 h.kn.p0 h.kn.b0 }
  x := hx
  h := hh
  cp := e.1.trans h.cp
  cn := e.2.1.trans h.cn
  cg := e.2.2.1.trans h.cg
  cN := e.2.2.2.trans h.cN
  xp := h.xp
  xb := h.xb
  xr := h.xr
  xh := h.xh
  hp := h.hp
  hb := h.hb
  hr := h.hr
  x0 := h.x0
  h0 := h.h0
  so := so
  co := co
  rep := rep
  tk := fun j hj => by
    rw [hc' j hj]
    unfold setT
    by_cases q : j = i
    · rw [if_pos q, if_pos q]; exact hT
    · rw [if_neg q, if_neg q]
      have hj1 := h.tk j hj
      have hj2 := hgj j hj q
      cases hg : c.g j with
      | none => rw [hg] at hj1; rw [tq_none hj1]; trivial
      | some g1 =>
        rw [hg] at hj1 hj2
        cases ho : O j with
        | none => rw [ho] at hj1; exact hj1.elim
        | some a =>
          rw [ho] at hj1
          obtain ⟨a1, a2, a3, a4, a5, a6, a7, a8⟩ := hj1
          exact ⟨a1.keep (hB.block _ a1.lt a6 a7 (fun z => hj2 (by rw [z])) a3 a4), a2, a3, a4, a5, a6, a7, a8⟩
  ap := fun a j ha hj hne g' hg' => by
    rw [hc' a ha] at hg'
    rw [hc' j hj]
    by_cases q : a = i
    · rw [if_pos q] at hg'
      rw [if_neg (by omega)]
      exact hap g' hg' j hj (by omega)
    · rw [if_neg q] at hg'
      by_cases q2 : j = i
      · rw [if_pos q2]
        intro z
        exact hap g' z a ha q hg'
      · rw [if_neg q2]
        exact h.ap a j ha hj hne g' hg'
  po := po

theorem OX.congr {n u : Nat} {D : Dq} {o : Option At} {t t' : Nat → Option At} {H : Nat → Int} {pu ta : Int} (h : OX n D o t u H pu ta) (e : ∀ k, k < 3 → t' k = t k) : OX n D o t' u H pu ta := by
  obtain ⟨E, pe, id, h⟩ := h
  exact ⟨E, pe, id, { h with th := fun k hk => by rw [e k hk]; exact h.th k hk }⟩
theorem OX.set3 {n u : Nat} {D : Dq} {o : Option At} {t : Nat → Option At} {H : Nat → Int} {pu ta : Int} (h : OX n D o t u H pu ta) (a : Option At) : OX n D o (setT t 3 a) u H pu ta :=
  h.congr fun k hk => by unfold setT; rw [if_neg (by omega)]
theorem setT3 (O : Nat → Option At) (o : Option At) : setT O 3 o 3 = o := by simp [setT]
theorem setT3' (O : Nat → Option At) (o : Option At) {k : Nat} (hk : k < 3) : setT O k o 3 = O 3 := by unfold setT; rw [if_neg (by omega)]
def remO : Option At → Nat
  | none => 0
  | some a => rem a.kd a.tn
theorem remO_le (o : Option At) : remO o ≤ 6 := by
  cases o with
  | none => simp [remO]
  | some a => exact rem_le _ _
/-- The world, whatever its words and tasks are: k acts are behind, the owner's task has at most m to go. -/
def XI (w0 : World) (p b r gx gh n N k m : Nat) (w : World) : Prop := ∃ (s : St) (D : Dq) (c : Xr) (O : Nat → Option At) (H : Nat → Int) (u : Nat),
  XW w0 p b r gx gh n N k w s D c O H ∧ c.u = u ∧ OX n D (O 3) O u H c.pu c.ta ∧ u ≤ N ∧ remO (O 3) ≤ m ∧ (0 ≤ c.pu ∧ c.pu ≤ k ∧ 0 ≤ c.ta ∧ c.ta ≤ k)
theorem XI.mono {w0 w : World} {p b r gx gh n N k k' m m' : Nat} (h : XI w0 p b r gx gh n N k m w) (hk : k ≤ k') (hm : m ≤ m') : XI w0 p b r gx gh n N k' m' w := by
  obtain ⟨s, D, c, O, H, u, h1, h2, h3, h4, h5, h6⟩ := h
  exact ⟨s, D, c, O, H, u, { h1 with co := h1.co.mono hk }, h2, h3, h4, Nat.le_trans h5 hm, by omega⟩
theorem rem_pos {kd : Kd} {tn : Int} (ht : turnOk kd tn) (h : tn ≠ 6) : 1 ≤ rem kd tn := by
  by_cases q : rem kd tn = 0
  · exact absurd (rem_zero ht q) h
  · omega
theorem ow_tn {n u : Nat} {D : Dq} {a : At} {t : Nat → Option At} {H : Nat → Int} {pu ta : Int} (h : OX n D (some a) t u H pu ta) : a.tn ≠ 6 := by
  obtain ⟨E, pe, id, h⟩ := h
  have := h.ow
  obtain ⟨kd, tn, tp, bt, vl, hs⟩ := a
  intro z
  simp only [] at z
  subst z
  cases kd <;> simp only [Ow] at this <;> omega
theorem resB_at {n : Nat} {a : At} (h : a.tn = 6) : resB (toTk 3 n a) = a.hs := by simp [resB, h]
theorem resV_at {n : Nat} {a : At} (h : a.tn = 6) (hb : a.hs = true) : resV (toTk 3 n a) = a.vl := by simp [resV, resB, h, hb]
theorem ptr_ne {x : Option Nat} {g : Nat} (h : x = some g) : x ≠ none := by rw [h]; simp

/-- What a step of one that has a task leaves: hst is what the pure step says. -/
theorem XW.keepH {w0 w w' : World} {p b r gx gh n N k g : Nat} {s : St} {D : Dq} {c : Xr} {O : Nat → Option At} {H : Nat → Int} (h : XW w0 p b r gx gh n N k w s D c O H) (hg : g ≠ gh) (hB : But5 gx gx g p b w w') : IsH w' gh N H :=
  h.h.keep (hB.block _ h.h.lt h.xh.symm h.xh.symm hg.symm h.hp h.hb)
theorem But5.toH {x h g p b : Nat} {w w' : World} (a : But5 x x g p b w w') : But5 x h g p b w w' := ⟨a.os, a.tape, a.output, a.size, fun k hk q1 _ q3 q4 q5 => a.block k hk q1 q1 q3 q4 q5⟩
theorem OX.u1 {n u : Nat} {D : Dq} {o : Option At} {t : Nat → Option At} {H : Nat → Int} {pu ta : Int} (h : OX n D o t u H pu ta) : u ≤ 20 := by
  obtain ⟨E, pe, id, h⟩ := h
  exact h.u1

set_option maxHeartbeats 1000000 in
/-- The owner's task goes on. -/
theorem XI.own {w0 w : World} {p b r gx gh n N k m : Nat} (h : XI w0 p b r gx gh n N k m w) (lv : Value) (hN : N ≤ 20) (hk : k ≤ 90000)
    (hsome : ∀ (s : St) (D : Dq) (c : Xr) (O : Nat → Option At) (H : Nat → Int) (u : Nat), XW w0 p b r gx gh n N k w s D c O H → c.u = (u : Int) → OX n D (O 3) O u H c.pu c.ta → u ≤ N → O 3 = none → (0 ≤ c.pu ∧ c.pu ≤ k ∧ 0 ≤ c.ta ∧ c.ta ≤ k) → Calls Try.prog 23 #[.pointer (some ⟨gx, 0, none⟩), lv] w fun e w' => e = .returned (.tuple #[]) ∧ XI w0 p b r gx gh n N (k + 1) (m - 1) w') :
    Calls Try.prog 23 #[.pointer (some ⟨gx, 0, none⟩), lv] w fun e w' => e = .returned (.tuple #[]) ∧ XI w0 p b r gx gh n N (k + 1) (m - 1) w' := by
  obtain ⟨s, D, c, O, H, u, hX, hu, hO, huN, hrm, hpt⟩ := h
  cases ho : O 3 with
  | none => exact hsome s D c O H u hX hu hO huN ho hpt
  | some a =>
    clear hsome
    have ht3 := hX.tk 3 (by omega)
    rw [ho] at ht3 hO hrm
    obtain ⟨g, hg, gt, gy, gp, gb, gr, ggx, ggh, g0⟩ := tq_some ht3
    have hcg : c.ow = some g := by simpa [Xr.g] using hg
    have hs : Hs w c.p b g s (toTk 3 n a) := by rw [hX.cp]; exact ⟨hX.kn.mem, gt, gp, gb⟩
    have hbk : k ≤ bnd := by unfold bnd; omega
    have hst := hO.stepO
    have h6a := ow_tn hO
    obtain ⟨e1, e2⟩ := rep_step hX.rep (by obtain ⟨E, pe, id, hOI⟩ := hO; exact hOI.smO)
    have hrn := rem_next s (x := toTk 3 n a) gy.xo.t h6a
    rw [e1] at hrn
    simp only [remO] at hrm
    have hpop := hX.po a ho
    have hgj : ∀ j, j < 4 → j ≠ 3 → c.g j ≠ some g := fun j hj hne => hX.ap 3 j (by omega) hj (by omega) g hg
    have hso := hX.so.next gy
    have hyo := gy.next hX.so
    rw [e1] at hyo
    have hco := hX.co.next (toTk 3 n a)
    have hxp : gx ≠ c.p := by rw [hX.cp]; exact hX.xp
    have hgow : ∀ (c' : Xr), c'.t0 = c.t0 → c'.t1 = c.t1 → c'.t2 = c.t2 → c'.ow = none → ∀ j, j < 4 → c'.g j = if j = 3 then none else c.g j := by
      intro c' q0 q1 q2 q3 j hj
      have : j = 0 ∨ j = 1 ∨ j = 2 ∨ j = 3 := by omega
      rcases this with rfl | rfl | rfl | rfl <;> simp [Xr.g, q0, q1, q2, q3]
    by_cases h6 : (aX n D a).tn = 6
    · rw [StO, if_pos h6] at hst
      by_cases hb : (aX n D a).hs = true
      · rw [if_pos hb] at hst
        cases hkd : a.kd with
        | push v =>
          rw [hkd] at hst
          simp only [] at hst
          have hpo : c.po = false := by
            cases hc : c.po with
            | false => rfl
            | true => rw [hkd] at hpop; exact absurd (hpop.1 hc) (by simp)
          refine (own_push hX.x hcg hs gy.xo hX.co hbk ggx.symm hxp hX.xb lv hpo hpt.1 (by omega) (by rw [e1]; exact h6) (by rw [e1, resB_at h6]; exact hb)).mono ?_
          rintro e w' ⟨rfl, k1, k2, k3⟩
          rw [hX.cp] at k2 k3
          refine ⟨rfl, _, aD n D a, _, setT O 3 none, H, u, hX.next 3 (by omega) g0 gr hgj k3.toH k2 k1 (hX.keepH ggh k3) ⟨rfl, rfl, rfl, rfl⟩ none none (hgow _ rfl rfl rfl rfl) trivial (by simp) hso hco e2 (by rw [setT3]; simp), hu, ?_, huN, by rw [setT3]; simp [remO], ?_⟩
          · rw [setT3]; exact hst.set3 _
          · simp only []; omega
        | pop =>
          rw [hkd] at hst
          simp only [] at hst
          have hpo : c.po = true := hpop.2 hkd
          obtain ⟨i, hi, hi0, hiv, hst⟩ := hst
          refine (own_take hX.x hcg hs gy.xo hX.co hbk ggx.symm hxp hX.xb lv hpo (H := H) (i := i) (by rw [hX.cg, hX.cN]; exact hX.h) (by rw [hX.cg]; exact hX.xh) (by rw [hX.cg, hX.cp]; exact ⟨ggh.symm, hX.hp, hX.hb⟩) (by rw [hX.cN]; omega) (by rw [hX.cN]; exact hN) hi0 hpt.2.2.1 (by omega) (by rw [e1]; exact h6) (by rw [e1, resB_at h6]; exact hb) (by rw [e1, resV_at h6 hb]; exact hiv)).mono ?_
          rintro e w' ⟨rfl, k1, kh, k2, k3⟩
          rw [hX.cp] at k2 k3
          rw [hX.cg] at k3 kh
          rw [hX.cN] at kh
          refine ⟨rfl, _, aD n D a, _, setT O 3 none, _, u, hX.next 3 (by omega) g0 gr hgj k3 k2 k1 kh ⟨rfl, rfl, rfl, rfl⟩ none none (hgow _ rfl rfl rfl rfl) trivial (by simp) hso hco e2 (by rw [setT3]; simp), hu, ?_, huN, by rw [setT3]; simp [remO], ?_⟩
          · rw [setT3]; exact hst.set3 _
          · simp only []; omega
        | steal => rw [hkd] at hst; exact hst.elim
      · rw [if_neg hb] at hst
        refine (own_no hX.x hcg hs gy.xo hX.co hbk ggx.symm hxp hX.xb lv (by rw [e1]; exact h6) (by rw [e1, resB_at h6]; simpa using hb)).mono ?_
        rintro e w' ⟨rfl, k1, k2, k3⟩
        rw [hX.cp] at k2 k3
        refine ⟨rfl, _, aD n D a, _, setT O 3 none, H, u, hX.next 3 (by omega) g0 gr hgj k3.toH k2 k1 (hX.keepH ggh k3) ⟨rfl, rfl, rfl, rfl⟩ none none (hgow _ rfl rfl rfl rfl) trivial (by simp) hso hco e2 (by rw [setT3]; simp), hu, ?_, huN, by rw [setT3]; simp [remO], ?_⟩
        · rw [setT3]; exact hst.set3 _
        · simp only []; omega
    · rw [StO, if_neg h6] at hst
      refine (own_go hX.x hcg hs gy.xo hX.co hbk ggx.symm hxp hX.xb lv (by rw [e1]; exact h6)).mono ?_
      rintro e w' ⟨rfl, k1, k2, k3⟩
      rw [hX.cp] at k2 k3
      rw [e1] at k2
      have hkd : (aX n D a).kd = a.kd := by
        have : (toTk 3 n (aX n D a)).kd = (toTk 3 n a).kd := by rw [← e1]; unfold tX; split <;> first | rfl | exact tGo_kd _ _
        exact this
      refine ⟨rfl, _, aD n D a, _, setT O 3 (some (aX n D a)), H, u, hX.next 3 (by omega) g0 gr hgj (But5.of3 k3) k2.mem k1 (hX.keepH ggh (But5.of3 k3)) ⟨rfl, rfl, rfl, rfl⟩ (some g) (some (aX n D a)) (fun j hj => ?_) ⟨k2.tk, hyo, gp, gb, gr, ggx, ggh, g0⟩ (fun g' e' => by obtain rfl := Option.some.inj e'; exact hgj) hso hco e2 (fun a' e' => ?_), hu, ?_, huN, ?_, ?_⟩
      · by_cases q : j = 3
        · rw [if_pos q, q]; exact hg
        · rw [if_neg q]
      · rw [setT3] at e'
        obtain rfl := Option.some.inj e'
        rw [hkd]; exact hpop
      · rw [setT3]; exact hst.set3 _
      · rw [setT3]; simp only [remO]; simp only [] at hrn; omega
      · omega
theorem XW.qok {w0 w : World} {p b r gx gh n N k u : Nat} {s : St} {D : Dq} {c : Xr} {O : Nat → Option At} {H : Nat → Int} {o : Option At} {pu ta : Int} (h : XW w0 p b r gx gh n N k w s D c O H) (hO : OX n D o O u H pu ta) : QOk 3 c.n := by
  obtain ⟨E, pe, id, hI⟩ := hO
  have := hI.n0
  have := hI.n1
  rw [h.cn]
  exact ⟨by omega, by omega, by omega, by omega⟩
theorem gOw (c : Xr) (o : Option Nat) (c' : Xr) (q0 : c'.t0 = c.t0) (q1 : c'.t1 = c.t1) (q2 : c'.t2 = c.t2) (q3 : c'.ow = o) (j : Nat) (hj : j < 4) : c'.g j = if j = 3 then o else c.g j := by
  have : j = 0 ∨ j = 1 ∨ j = 2 ∨ j = 3 := by omega
  rcases this with rfl | rfl | rfl | rfl <;> simp [Xr.g, q0, q1, q2, q3]
theorem XW.fresh {w0 w : World} {p b r gx gh n N k g j : Nat} {s : St} {D : Dq} {c : Xr} {O : Nat → Option At} {H : Nat → Int} (h : XW w0 p b r gx gh n N k w s D c O H) (hj : j < 4) (hg : w.heap.size ≤ g) : c.g j ≠ some g := by
  intro e
  have := h.tk j hj
  rw [e] at this
  cases ho : O j with
  | none => rw [ho] at this; exact this.elim
  | some a =>
    rw [ho] at this
    have := this.1.lt
    omega
theorem XW.notX {w0 w : World} {p b r gx gh n N k j : Nat} {s : St} {D : Dq} {c : Xr} {O : Nat → Option At} {H : Nat → Int} (h : XW w0 p b r gx gh n N k w s D c O H) (hj : j < 4) : c.g j ≠ some gx := by
  intro e
  have := h.tk j hj
  rw [e] at this
  cases ho : O j with
  | none => rw [ho] at this; exact this.elim
  | some a =>
    rw [ho] at this
    exact this.2.2.2.2.2.1 rfl
theorem mem_gx {w0 w w' : World} {p b r gx gh n N k : Nat} {s : St} {D : Dq} {c : Xr} {O : Nat → Option At} {H : Nat → Int} (h : XW w0 p b r gx gh n N k w s D c O H) (hB : But gx gx w w') : Mem 78 w' p b s :=
  h.kn.mem.but hB h.xp.symm h.xp.symm h.xb.symm h.xb.symm
theorem XW.tq {w0 w w' : World} {p b r gx gh n N k g : Nat} {s : St} {D : Dq} {c : Xr} {O : Nat → Option At} {H : Nat → Int} {a : At} (h : XW w0 p b r gx gh n N k w s D c O H) (hg : w.heap.size ≤ g) (ht : IsTk w' g (toTk 3 n a)) (hy : YOk (toTk 3 n a)) : Tq w0 w' n p b r gx gh (some g) (some a) := by
  have h1 := h.kn.mem.lt
  have h2 := lt_of_block h.kn.deq
  have h3 := h.x.lt
  have h4 := h.h.lt
  have h5 := h.kn.bel.size
  exact ⟨ht, hy, by omega, by omega, by omega, by omega, by omega, by omega⟩

set_option maxHeartbeats 1000000 in
theorem XI.owner {w0 w : World} {p b r gx gh n N k : Nat} (h : XI w0 p b r gx gh n N k 6 w) (lq : Option Addr) (lc : Nat) (lf : Nat → Nat) (hl : PL w0 lq N lf) (hN : N ≤ 20) (hk : k ≤ 90000) :
    Calls Try.prog 23 #[.pointer (some ⟨gx, 0, none⟩), .slice lq N lc] w fun e w' => e = .returned (.tuple #[]) ∧ XI w0 p b r gx gh n N (k + 1) 6 w' := by
  have hh := h.mono (Nat.le_refl _) (show 6 ≤ 7 by omega)
  refine (hh.own (.slice lq N lc) hN hk ?_)
  intro s D c O H u hX hu hO huN ho hpt
  have ht3 := hX.tk 3 (by omega)
  rw [ho] at ht3 hO
  have hcg : c.ow = none := by simpa [Xr.g] using tq_noneG ht3
  have hq := hX.qok hO
  by_cases hul : u < N
  · obtain ⟨lb, lo, rfl, hb, hc⟩ := hl.2.2 (by omega)
    have hcu := (hX.kn.bel.cell (p := ⟨lb, lo + u, none⟩) hb).trans (hc u hul)
    have hy := hl.2.1 u
    by_cases hod : lf u % 2 = 1
    · refine (own_newG hX.x hcg hu hq lb lo N lc (lf u) hul hN hy hod hcu).mono ?_
      rintro e w' ⟨rfl, g, hg, k1, k2, k3⟩
      rw [hX.cn] at k1
      refine ⟨rfl, s, D, _, setT O 3 (some ⟨.pop, 1, 0, 0, 0, false⟩), H, u + 1, hX.next 3 (by omega) hX.x0 hX.xr (fun j hj _ => hX.notX hj) (But5.of1 k3) (mem_gx hX k3) k2 (hX.h.keep (k3.block _ hX.h.lt hX.xh.symm hX.xh.symm)) ⟨rfl, rfl, rfl, rfl⟩ (some g) (some ⟨.pop, 1, 0, 0, 0, false⟩) (gOw c (some g) _ rfl rfl rfl rfl) (hX.tq hg k1 (newG_ok (by rw [← hX.cn]; exact hq))) (fun g' e' j hj _ => by obtain rfl := Option.some.inj e'; exact hX.fresh hj hg) hX.so (hX.co.mono (by omega)) hX.rep (fun a e' => ?_), by simp, ?_, by omega, remO_le _, by simp only []; omega⟩
      · rw [setT3] at e'
        obtain rfl := Option.some.inj e'
        simp
      · rw [setT3]; exact (hO.begG (by omega)).set3 _
    · refine (own_newP hX.x hcg hu hq lb lo N lc (lf u) hul hN hy (by omega) hcu).mono ?_
      rintro e w' ⟨rfl, g, hg, k1, k2, k3⟩
      rw [hX.cn] at k1
      refine ⟨rfl, s, D, _, setT O 3 (some ⟨.push (100 + (u : Int)), 1, 0, 0, 0, false⟩), H, u + 1, hX.next 3 (by omega) hX.x0 hX.xr (fun j hj _ => hX.notX hj) (But5.of1 k3) (mem_gx hX k3) k2 (hX.h.keep (k3.block _ hX.h.lt hX.xh.symm hX.xh.symm)) ⟨rfl, rfl, rfl, rfl⟩ (some g) (some ⟨.push (100 + (u : Int)), 1, 0, 0, 0, false⟩) (gOw c (some g) _ rfl rfl rfl rfl) (hX.tq hg k1 (newP_ok (by rw [← hX.cn]; exact hq) (by omega) (by omega))) (fun g' e' j hj _ => by obtain rfl := Option.some.inj e'; exact hX.fresh hj hg) hX.so (hX.co.mono (by omega)) hX.rep (fun a e' => ?_), by simp, ?_, by omega, remO_le _, by simp only []; omega⟩
      · rw [setT3] at e'
        obtain rfl := Option.some.inj e'
        simp
      · rw [setT3]; exact (hO.begP (by omega)).set3 _
  · refine (own_stop hX.x hcg lq N lc (by rw [hu]; omega)).mono ?_
    rintro e w' ⟨rfl, rfl⟩
    exact ⟨rfl, s, D, c, O, H, u, { hX with co := hX.co.mono (by omega) }, hu, by rw [ho]; exact hO, huN, remO_le _, by omega⟩
theorem XI.ownNil {w0 w : World} {p b r gx gh n N k m : Nat} (h : XI w0 p b r gx gh n N k m w) (hN : N ≤ 20) (hk : k ≤ 90000) :
    Calls Try.prog 23 #[.pointer (some ⟨gx, 0, none⟩), .slice none 0 0] w fun e w' => e = .returned (.tuple #[]) ∧ XI w0 p b r gx gh n N (k + 1) (m - 1) w' := by
  refine (h.own _ hN hk ?_)
  intro s D c O H u hX hu hO huN ho hpt
  have ht3 := hX.tk 3 (by omega)
  rw [ho] at ht3
  have hcg : c.ow = none := by simpa [Xr.g] using tq_noneG ht3
  refine (own_stop hX.x hcg none 0 0 (by rw [hu]; omega)).mono ?_
  rintro e w' ⟨rfl, rfl⟩
  exact ⟨rfl, s, D, c, O, H, u, { hX with co := hX.co.mono (by omega) }, hu, hO, huN, by rw [ho]; simp [remO], by omega⟩

set_option maxHeartbeats 1000000 in
theorem XI.thief0 {w0 w : World} {p b r gx gh n N k m : Nat} (h : XI w0 p b r gx gh n N k m w) (hN : N ≤ 20) (hk : k ≤ 90000) :
    Calls Try.prog 24 #[.pointer (some ⟨gx, 0, none⟩), .int .i64 0] w fun e w' => e = .returned (.tuple #[]) ∧ XI w0 p b r gx gh n N (k + 1) m w' := by
  obtain ⟨s, D, c, O, H, u, hX, hu, hO, huN, hrm, hpt⟩ := h
  have htk := hX.tk 0 (by omega)
  have hq := hX.qok hO
  cases ho : O 0 with
  | none =>
    rw [ho] at htk
    have hcg : c.t0 = none := by simpa [Xr.g] using tq_noneG htk
    refine (thief_new0 hX.x hcg hq).mono ?_
    rintro e w' ⟨rfl, g, hg, k1, k2, k3⟩
    rw [hX.cn] at k1
    obtain ⟨f1, f2, f3, f4, f5, f6, f7, f8⟩ := c.setT_f 0 (some g)
    refine ⟨rfl, s, D, _, setT O 0 (some ⟨.steal, 0, 0, 0, 0, false⟩), H, u, hX.next 0 (by omega) hX.x0 hX.xr (fun j hj _ => hX.notX hj) (But5.of1 k3) (mem_gx hX k3) k2 (hX.h.keep (k3.block _ hX.h.lt hX.xh.symm hX.xh.symm)) ⟨f1, f2, f3, f4⟩ (some g) (some ⟨.steal, 0, 0, 0, 0, false⟩) (fun j hj => c.g_setT (some g) (by omega) hj) (hX.tq hg k1 (newS_ok (by rw [← hX.cn]; exact hq))) (fun g' e' j hj _ => by obtain rfl := Option.some.inj e'; exact hX.fresh hj hg) hX.so (hX.co.mono (by omega)) hX.rep (fun a e' => ?_), f6.trans hu, ?_, huN, ?_, ?_⟩
    · rw [setT3' _ _ (by omega)] at e'
      rw [f5]; exact hX.po a e'
    · rw [setT3' _ _ (by omega), f7, f8]; exact hO.tbeg
    · rw [setT3' _ _ (by omega)]; exact hrm
    · rw [f7, f8]; omega
  | some a =>
    rw [ho] at htk
    obtain ⟨g, hg, gt, gy, gp, gb, gr, ggx, ggh, g0⟩ := tq_some htk
    have hcg : c.t0 = some g := by simpa [Xr.g] using hg
    have hs : Hs w c.p b g s (toTk 3 n a) := by rw [hX.cp]; exact ⟨hX.kn.mem, gt, gp, gb⟩
    have hbk : k ≤ bnd := by unfold bnd; omega
    have hst := hO.stepT (k := 0) (by omega) ho
    obtain ⟨e1, e2⟩ := rep_step hX.rep (by obtain ⟨E, pe, id, hOI⟩ := hO; exact hOI.smT (k := 0) (by omega) ho)
    have hgj : ∀ j, j < 4 → j ≠ 0 → c.g j ≠ some g := fun j hj hne => hX.ap 0 j (by omega) hj (by omega) g hg
    have hso := hX.so.next gy
    have hyo := gy.next hX.so
    rw [e1] at hyo
    have hco := hX.co.next (toTk 3 n a)
    have hxp : gx ≠ c.p := by rw [hX.cp]; exact hX.xp
    by_cases h6 : (aX n D a).tn = 6
    · rw [StT, if_pos h6] at hst
      by_cases hb : (aX n D a).hs = true
      · rw [if_pos hb] at hst
        obtain ⟨i, hi, hi0, hiv, hst⟩ := hst
        refine (thief_yes0 hX.x hcg hs gy.xo hX.co hbk ggx.symm hxp hX.xb (H := H) (i := i) (by rw [hX.cg, hX.cN]; exact hX.h) (by rw [hX.cg]; exact hX.xh) (by rw [hX.cg, hX.cp]; exact ⟨ggh.symm, hX.hp, hX.hb⟩) (by rw [hX.cN]; omega) (by rw [hX.cN]; exact hN) hi0 hpt.2.2.1 (by omega) (by rw [e1]; exact h6) (by rw [e1, resB_at h6]; exact hb) (by rw [e1, resV_at h6 hb]; exact hiv)).mono ?_
        rintro e w' ⟨rfl, k1, kh, k2, k3⟩
        rw [hX.cp] at k2 k3
        rw [hX.cg] at k3 kh
        rw [hX.cN] at kh
        obtain ⟨f1, f2, f3, f4, f5, f6, f7, f8⟩ := Xr.setT_f { c with ta := c.ta + 1 } 0 none
        refine ⟨rfl, _, aD n D a, _, setT O 0 none, _, u, hX.next 0 (by omega) g0 gr hgj k3 k2 k1 kh ⟨f1, f2, f3, f4⟩ none none (fun j hj => Xr.g_setT { c with ta := c.ta + 1 } none (by omega) hj) trivial (by simp) hso hco e2 (fun a e' => ?_), f6.trans hu, ?_, huN, ?_, ?_⟩
        · rw [setT3' _ _ (by omega)] at e'
          rw [f5]; exact hX.po a e'
        · rw [setT3' _ _ (by omega), f7, f8]; exact hst
        · rw [setT3' _ _ (by omega)]; exact hrm
        · rw [f7, f8]; simp only []; omega
      · rw [if_neg hb] at hst
        refine (thief_no0 hX.x hcg hs gy.xo hX.co hbk ggx.symm hxp hX.xb (by rw [e1]; exact h6) (by rw [e1, resB_at h6]; simpa using hb)).mono ?_
        rintro e w' ⟨rfl, k1, k2, k3⟩
        rw [hX.cp] at k2 k3
        obtain ⟨f1, f2, f3, f4, f5, f6, f7, f8⟩ := c.setT_f 0 none
        refine ⟨rfl, _, aD n D a, _, setT O 0 none, H, u, hX.next 0 (by omega) g0 gr hgj k3.toH k2 k1 (hX.keepH ggh k3) ⟨f1, f2, f3, f4⟩ none none (fun j hj => c.g_setT none (by omega) hj) trivial (by simp) hso hco e2 (fun a e' => ?_), f6.trans hu, ?_, huN, ?_, ?_⟩
        · rw [setT3' _ _ (by omega)] at e'
          rw [f5]; exact hX.po a e'
        · rw [setT3' _ _ (by omega), f7, f8]; exact hst
        · rw [setT3' _ _ (by omega)]; exact hrm
        · rw [f7, f8]; omega
    · rw [StT, if_neg h6] at hst
      refine (thief_go0 hX.x hcg hs gy.xo hX.co hbk ggx.symm hxp hX.xb (by rw [e1]; exact h6)).mono ?_
      rintro e w' ⟨rfl, k1, k2, k3⟩
      rw [hX.cp] at k2 k3
      rw [e1] at k2
      refine ⟨rfl, _, aD n D a, _, setT O 0 (some (aX n D a)), H, u, hX.next 0 (by omega) g0 gr hgj (But5.of3 k3) k2.mem k1 (hX.keepH ggh (But5.of3 k3)) ⟨rfl, rfl, rfl, rfl⟩ (some g) (some (aX n D a)) (fun j hj => ?_) ⟨k2.tk, hyo, gp, gb, gr, ggx, ggh, g0⟩ (fun g' e' => by obtain rfl := Option.some.inj e'; exact hgj) hso hco e2 (fun a' e' => ?_), hu, ?_, huN, ?_, ?_⟩
      · by_cases q : j = 0
        · rw [if_pos q, q]; exact hg
        · rw [if_neg q]
      · rw [setT3' _ _ (by omega)] at e'
        exact hX.po a' e'
      · rw [setT3' _ _ (by omega)]; exact hst
      · rw [setT3' _ _ (by omega)]; exact hrm
      · omega

set_option maxHeartbeats 1000000 in
theorem XI.thief1 {w0 w : World} {p b r gx gh n N k m : Nat} (h : XI w0 p b r gx gh n N k m w) (hN : N ≤ 20) (hk : k ≤ 90000) :
    Calls Try.prog 24 #[.pointer (some ⟨gx, 0, none⟩), .int .i64 1] w fun e w' => e = .returned (.tuple #[]) ∧ XI w0 p b r gx gh n N (k + 1) m w' := by
  obtain ⟨s, D, c, O, H, u, hX, hu, hO, huN, hrm, hpt⟩ := h
  have htk := hX.tk 1 (by omega)
  have hq := hX.qok hO
  cases ho : O 1 with
  | none =>
    rw [ho] at htk
    have hcg : c.t1 = none := by simpa [Xr.g] using tq_noneG htk
    refine (thief_new1 hX.x hcg hq).mono ?_
    rintro e w' ⟨rfl, g, hg, k1, k2, k3⟩
    rw [hX.cn] at k1
    obtain ⟨f1, f2, f3, f4, f5, f6, f7, f8⟩ := c.setT_f 1 (some g)
    refine ⟨rfl, s, D, _, setT O 1 (some ⟨.steal, 0, 0, 0, 0, false⟩), H, u, hX.next 1 (by omega) hX.x0 hX.xr (fun j hj _ => hX.notX hj) (But5.of1 k3) (mem_gx hX k3) k2 (hX.h.keep (k3.block _ hX.h.lt hX.xh.symm hX.xh.symm)) ⟨f1, f2, f3, f4⟩ (some g) (some ⟨.steal, 0, 0, 0, 0, false⟩) (fun j hj => c.g_setT (some g) (by omega) hj) (hX.tq hg k1 (newS_ok (by rw [← hX.cn]; exact hq))) (fun g' e' j hj _ => by obtain rfl := Option.some.inj e'; exact hX.fresh hj hg) hX.so (hX.co.mono (by omega)) hX.rep (fun a e' => ?_), f6.trans hu, ?_, huN, ?_, ?_⟩
    · rw [setT3' _ _ (by omega)] at e'
      rw [f5]; exact hX.po a e'
    · rw [setT3' _ _ (by omega), f7, f8]; exact hO.tbeg
    · rw [setT3' _ _ (by omega)]; exact hrm
    · rw [f7, f8]; omega
  | some a =>
    rw [ho] at htk
    obtain ⟨g, hg, gt, gy, gp, gb, gr, ggx, ggh, g0⟩ := tq_some htk
    have hcg : c.t1 = some g := by simpa [Xr.g] using hg
    have hs : Hs w c.p b g s (toTk 3 n a) := by rw [hX.cp]; exact ⟨hX.kn.mem, gt, gp, gb⟩
    have hbk : k ≤ bnd := by unfold bnd; omega
    have hst := hO.stepT (k := 1) (by omega) ho
    obtain ⟨e1, e2⟩ := rep_step hX.rep (by obtain ⟨E, pe, id, hOI⟩ := hO; exact hOI.smT (k := 1) (by omega) ho)
    have hgj : ∀ j, j < 4 → j ≠ 1 → c.g j ≠ some g := fun j hj hne => hX.ap 1 j (by omega) hj (by omega) g hg
    have hso := hX.so.next gy
    have hyo := gy.next hX.so
    rw [e1] at hyo
    have hco := hX.co.next (toTk 3 n a)
    have hxp : gx ≠ c.p := by rw [hX.cp]; exact hX.xp
    by_cases h6 : (aX n D a).tn = 6
    · rw [StT, if_pos h6] at hst
      by_cases hb : (aX n D a).hs = true
      · rw [if_pos hb] at hst
        obtain ⟨i, hi, hi0, hiv, hst⟩ := hst
        refine (thief_yes1 hX.x hcg hs gy.xo hX.co hbk ggx.symm hxp hX.xb (H := H) (i := i) (by rw [hX.cg, hX.cN]; exact hX.h) (by rw [hX.cg]; exact hX.xh) (by rw [hX.cg, hX.cp]; exact ⟨ggh.symm, hX.hp, hX.hb⟩) (by rw [hX.cN]; omega) (by rw [hX.cN]; exact hN) hi0 hpt.2.2.1 (by omega) (by rw [e1]; exact h6) (by rw [e1, resB_at h6]; exact hb) (by rw [e1, resV_at h6 hb]; exact hiv)).mono ?_
        rintro e w' ⟨rfl, k1, kh, k2, k3⟩
        rw [hX.cp] at k2 k3
        rw [hX.cg] at k3 kh
        rw [hX.cN] at kh
        obtain ⟨f1, f2, f3, f4, f5, f6, f7, f8⟩ := Xr.setT_f { c with ta := c.ta + 1 } 1 none
        refine ⟨rfl, _, aD n D a, _, setT O 1 none, _, u, hX.next 1 (by omega) g0 gr hgj k3 k2 k1 kh ⟨f1, f2, f3, f4⟩ none none (fun j hj => Xr.g_setT { c with ta := c.ta + 1 } none (by omega) hj) trivial (by simp) hso hco e2 (fun a e' => ?_), f6.trans hu, ?_, huN, ?_, ?_⟩
        · rw [setT3' _ _ (by omega)] at e'
          rw [f5]; exact hX.po a e'
        · rw [setT3' _ _ (by omega), f7, f8]; exact hst
        · rw [setT3' _ _ (by omega)]; exact hrm
        · rw [f7, f8]; simp only []; omega
      · rw [if_neg hb] at hst
        refine (thief_no1 hX.x hcg hs gy.xo hX.co hbk ggx.symm hxp hX.xb (by rw [e1]; exact h6) (by rw [e1, resB_at h6]; simpa using hb)).mono ?_
        rintro e w' ⟨rfl, k1, k2, k3⟩
        rw [hX.cp] at k2 k3
        obtain ⟨f1, f2, f3, f4, f5, f6, f7, f8⟩ := c.setT_f 1 none
        refine ⟨rfl, _, aD n D a, _, setT O 1 none, H, u, hX.next 1 (by omega) g0 gr hgj k3.toH k2 k1 (hX.keepH ggh k3) ⟨f1, f2, f3, f4⟩ none none (fun j hj => c.g_setT none (by omega) hj) trivial (by simp) hso hco e2 (fun a e' => ?_), f6.trans hu, ?_, huN, ?_, ?_⟩
        · rw [setT3' _ _ (by omega)] at e'
          rw [f5]; exact hX.po a e'
        · rw [setT3' _ _ (by omega), f7, f8]; exact hst
        · rw [setT3' _ _ (by omega)]; exact hrm
        · rw [f7, f8]; omega
    · rw [StT, if_neg h6] at hst
      refine (thief_go1 hX.x hcg hs gy.xo hX.co hbk ggx.symm hxp hX.xb (by rw [e1]; exact h6)).mono ?_
      rintro e w' ⟨rfl, k1, k2, k3⟩
      rw [hX.cp] at k2 k3
      rw [e1] at k2
      refine ⟨rfl, _, aD n D a, _, setT O 1 (some (aX n D a)), H, u, hX.next 1 (by omega) g0 gr hgj (But5.of3 k3) k2.mem k1 (hX.keepH ggh (But5.of3 k3)) ⟨rfl, rfl, rfl, rfl⟩ (some g) (some (aX n D a)) (fun j hj => ?_) ⟨k2.tk, hyo, gp, gb, gr, ggx, ggh, g0⟩ (fun g' e' => by obtain rfl := Option.some.inj e'; exact hgj) hso hco e2 (fun a' e' => ?_), hu, ?_, huN, ?_, ?_⟩
      · by_cases q : j = 1
        · rw [if_pos q, q]; exact hg
        · rw [if_neg q]
      · rw [setT3' _ _ (by omega)] at e'
        exact hX.po a' e'
      · rw [setT3' _ _ (by omega)]; exact hst
      · rw [setT3' _ _ (by omega)]; exact hrm
      · omega

set_option maxHeartbeats 1000000 in
theorem XI.thief2 {w0 w : World} {p b r gx gh n N k m : Nat} (h : XI w0 p b r gx gh n N k m w) (hN : N ≤ 20) (hk : k ≤ 90000) :
    Calls Try.prog 24 #[.pointer (some ⟨gx, 0, none⟩), .int .i64 2] w fun e w' => e = .returned (.tuple #[]) ∧ XI w0 p b r gx gh n N (k + 1) m w' := by
  obtain ⟨s, D, c, O, H, u, hX, hu, hO, huN, hrm, hpt⟩ := h
  have htk := hX.tk 2 (by omega)
  have hq := hX.qok hO
  cases ho : O 2 with
  | none =>
    rw [ho] at htk
    have hcg : c.t2 = none := by simpa [Xr.g] using tq_noneG htk
    refine (thief_new2 hX.x hcg hq).mono ?_
    rintro e w' ⟨rfl, g, hg, k1, k2, k3⟩
    rw [hX.cn] at k1
    obtain ⟨f1, f2, f3, f4, f5, f6, f7, f8⟩ := c.setT_f 2 (some g)
    refine ⟨rfl, s, D, _, setT O 2 (some ⟨.steal, 0, 0, 0, 0, false⟩), H, u, hX.next 2 (by omega) hX.x0 hX.xr (fun j hj _ => hX.notX hj) (But5.of1 k3) (mem_gx hX k3) k2 (hX.h.keep (k3.block _ hX.h.lt hX.xh.symm hX.xh.symm)) ⟨f1, f2, f3, f4⟩ (some g) (some ⟨.steal, 0, 0, 0, 0, false⟩) (fun j hj => c.g_setT (some g) (by omega) hj) (hX.tq hg k1 (newS_ok (by rw [← hX.cn]; exact hq))) (fun g' e' j hj _ => by obtain rfl := Option.some.inj e'; exact hX.fresh hj hg) hX.so (hX.co.mono (by omega)) hX.rep (fun a e' => ?_), f6.trans hu, ?_, huN, ?_, ?_⟩
    · rw [setT3' _ _ (by omega)] at e'
      rw [f5]; exact hX.po a e'
    · rw [setT3' _ _ (by omega), f7, f8]; exact hO.tbeg
    · rw [setT3' _ _ (by omega)]; exact hrm
    · rw [f7, f8]; omega
  | some a =>
    rw [ho] at htk
    obtain ⟨g, hg, gt, gy, gp, gb, gr, ggx, ggh, g0⟩ := tq_some htk
    have hcg : c.t2 = some g := by simpa [Xr.g] using hg
    have hs : Hs w c.p b g s (toTk 3 n a) := by rw [hX.cp]; exact ⟨hX.kn.mem, gt, gp, gb⟩
    have hbk : k ≤ bnd := by unfold bnd; omega
    have hst := hO.stepT (k := 2) (by omega) ho
    obtain ⟨e1, e2⟩ := rep_step hX.rep (by obtain ⟨E, pe, id, hOI⟩ := hO; exact hOI.smT (k := 2) (by omega) ho)
    have hgj : ∀ j, j < 4 → j ≠ 2 → c.g j ≠ some g := fun j hj hne => hX.ap 2 j (by omega) hj (by omega) g hg
    have hso := hX.so.next gy
    have hyo := gy.next hX.so
    rw [e1] at hyo
    have hco := hX.co.next (toTk 3 n a)
    have hxp : gx ≠ c.p := by rw [hX.cp]; exact hX.xp
    by_cases h6 : (aX n D a).tn = 6
    · rw [StT, if_pos h6] at hst
      by_cases hb : (aX n D a).hs = true
      · rw [if_pos hb] at hst
        obtain ⟨i, hi, hi0, hiv, hst⟩ := hst
        refine (thief_yes2 hX.x hcg hs gy.xo hX.co hbk ggx.symm hxp hX.xb (H := H) (i := i) (by rw [hX.cg, hX.cN]; exact hX.h) (by rw [hX.cg]; exact hX.xh) (by rw [hX.cg, hX.cp]; exact ⟨ggh.symm, hX.hp, hX.hb⟩) (by rw [hX.cN]; omega) (by rw [hX.cN]; exact hN) hi0 hpt.2.2.1 (by omega) (by rw [e1]; exact h6) (by rw [e1, resB_at h6]; exact hb) (by rw [e1, resV_at h6 hb]; exact hiv)).mono ?_
        rintro e w' ⟨rfl, k1, kh, k2, k3⟩
        rw [hX.cp] at k2 k3
        rw [hX.cg] at k3 kh
        rw [hX.cN] at kh
        obtain ⟨f1, f2, f3, f4, f5, f6, f7, f8⟩ := Xr.setT_f { c with ta := c.ta + 1 } 2 none
        refine ⟨rfl, _, aD n D a, _, setT O 2 none, _, u, hX.next 2 (by omega) g0 gr hgj k3 k2 k1 kh ⟨f1, f2, f3, f4⟩ none none (fun j hj => Xr.g_setT { c with ta := c.ta + 1 } none (by omega) hj) trivial (by simp) hso hco e2 (fun a e' => ?_), f6.trans hu, ?_, huN, ?_, ?_⟩
        · rw [setT3' _ _ (by omega)] at e'
          rw [f5]; exact hX.po a e'
        · rw [setT3' _ _ (by omega), f7, f8]; exact hst
        · rw [setT3' _ _ (by omega)]; exact hrm
        · rw [f7, f8]; simp only []; omega
      · rw [if_neg hb] at hst
        refine (thief_no2 hX.x hcg hs gy.xo hX.co hbk ggx.symm hxp hX.xb (by rw [e1]; exact h6) (by rw [e1, resB_at h6]; simpa using hb)).mono ?_
        rintro e w' ⟨rfl, k1, k2, k3⟩
        rw [hX.cp] at k2 k3
        obtain ⟨f1, f2, f3, f4, f5, f6, f7, f8⟩ := c.setT_f 2 none
        refine ⟨rfl, _, aD n D a, _, setT O 2 none, H, u, hX.next 2 (by omega) g0 gr hgj k3.toH k2 k1 (hX.keepH ggh k3) ⟨f1, f2, f3, f4⟩ none none (fun j hj => c.g_setT none (by omega) hj) trivial (by simp) hso hco e2 (fun a e' => ?_), f6.trans hu, ?_, huN, ?_, ?_⟩
        · rw [setT3' _ _ (by omega)] at e'
          rw [f5]; exact hX.po a e'
        · rw [setT3' _ _ (by omega), f7, f8]; exact hst
        · rw [setT3' _ _ (by omega)]; exact hrm
        · rw [f7, f8]; omega
    · rw [StT, if_neg h6] at hst
      refine (thief_go2 hX.x hcg hs gy.xo hX.co hbk ggx.symm hxp hX.xb (by rw [e1]; exact h6)).mono ?_
      rintro e w' ⟨rfl, k1, k2, k3⟩
      rw [hX.cp] at k2 k3
      rw [e1] at k2
      refine ⟨rfl, _, aD n D a, _, setT O 2 (some (aX n D a)), H, u, hX.next 2 (by omega) g0 gr hgj (But5.of3 k3) k2.mem k1 (hX.keepH ggh (But5.of3 k3)) ⟨rfl, rfl, rfl, rfl⟩ (some g) (some (aX n D a)) (fun j hj => ?_) ⟨k2.tk, hyo, gp, gb, gr, ggx, ggh, g0⟩ (fun g' e' => by obtain rfl := Option.some.inj e'; exact hgj) hso hco e2 (fun a' e' => ?_), hu, ?_, huN, ?_, ?_⟩
      · by_cases q : j = 2
        · rw [if_pos q, q]; exact hg
        · rw [if_neg q]
      · rw [setT3' _ _ (by omega)] at e'
        exact hX.po a' e'
      · rw [setT3' _ _ (by omega)]; exact hst
      · rw [setT3' _ _ (by omega)]; exact hrm
      · omega

theorem XI.thief {w0 w : World} {p b r gx gh n N k m j : Nat} (h : XI w0 p b r gx gh n N k m w) (hN : N ≤ 20) (hk : k ≤ 90000) (hj : j < 3) :
    Calls Try.prog 24 #[.pointer (some ⟨gx, 0, none⟩), .int .i64 (j : Int)] w fun e w' => e = .returned (.tuple #[]) ∧ XI w0 p b r gx gh n N (k + 1) m w' := by
  have : j = 0 ∨ j = 1 ∨ j = 2 := by omega
  rcases this with rfl | rfl | rfl
  · exact h.thief0 hN hk
  · exact h.thief1 hN hk
  · exact h.thief2 hN hk
end Go.Proofs.Ytmglacaikpcjhaa
