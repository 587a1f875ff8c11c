/- The world of DequeOnce at its start, and when nobody is on the way: what a pop alone leaves. Conditions: the words, the tasks and the counts are such as came of it. -/
import Derived.Test.YtmglacaikpcjhaaY4
namespace Go.Proofs.Ytmglacaikpcjhaa
open Go.RowKit

theorem rep_new3 {n : Nat} (h : n ≤ 15) : Rep 3 n (List.replicate 20 0) ⟨0, 0, fun _ => 0⟩ := by
  have z : ∀ j, (List.replicate 20 (0 : Int)).getD j 0 = 0 := fun j => by
    simp only [List.getD, List.getElem?_replicate]
    split <;> rfl
  exact ⟨by simp; omega, z _, z _, fun j _ => z _⟩
theorem XI.first {w0 w w' : World} {p b r gx gh n N : Nat} (K : Kn w0 p b r 3 n w ⟨List.replicate 20 0, 0, 0⟩) (hB : Below w.heap.size w w') (hh : IsH w' gh N (fun _ => 0)) (hx : IsX w' gx ⟨p, n, none, false, 0, none, none, none, gh, N, 0, 0⟩)
    (h1 : w.heap.size ≤ gh) (h2 : w.heap.size ≤ gx) (hne : gx ≠ gh) (n0 : 1 ≤ n) (n1 : n ≤ 4) : XI w0 p b r gx gh n N 0 6 w' := by
  have l1 := K.mem.lt
  have l2 := lt_of_block K.deq
  have l3 := K.bel.size
  have hg : ∀ j, Xr.g ⟨p, n, none, false, 0, none, none, none, gh, N, 0, 0⟩ j = none := fun j => by simp [Xr.g]
  exact ⟨⟨List.replicate 20 0, 0, 0⟩, ⟨0, 0, fun _ => 0⟩, _, fun _ => none, fun _ => 0, 0, {
    kn := K.below hB, x := hx, h := hh, cp := rfl, cn := rfl, cg := rfl, cN := rfl, xp := by omega, xb := by omega, xr := by omega, xh := hne, hp := by omega, hb := by omega, hr := by omega, x0 := by omega, h0 := by omega,
    so := sok_of (by kernel_rfl), co := cnt_of (by kernel_rfl), rep := rep_new3 (by omega), tk := fun j _ => by rw [hg]; trivial, ap := fun i j _ _ _ g e => by rw [hg] at e; exact absurd e (by simp), po := fun a e => absurd e (by simp) }, rfl, OX.first n0 (by omega), by omega, by simp [remO], by simp⟩
theorem XI.bel {w0 w : World} {p b r gx gh n N k m : Nat} (h : XI w0 p b r gx gh n N k m w) : Below w0.heap.size w0 w := by
  obtain ⟨s, D, c, O, H, u, hX, _⟩ := h
  exact hX.kn.bel
theorem XI.c12 {w0 w : World} {p b r gx gh n N k m : Nat} (h : XI w0 p b r gx gh n N k m w) : w.cell? ⟨gx, 12, none⟩ = some (.bool false) := by
  obtain ⟨s, D, c, O, H, u, hX, _⟩ := h
  exact hX.x.xc.c12
/-- The owner does nothing; at most m values are there. -/
def XJ (w0 : World) (p b r gx gh n N k m : Nat) (w : World) : Prop := ∃ (s : St) (D : Dq) (c : Xr) (O : Nat → Option At) (H : Nat → Int) (u : Nat),
  XW w0 p b r gx gh n N k w s D c O H ∧ c.u = u ∧ OX n D none O u H c.pu c.ta ∧ O 3 = none ∧ u ≤ N ∧ D.B ≤ D.T + m ∧ (0 ≤ c.pu ∧ c.pu ≤ k ∧ 0 ≤ c.ta ∧ c.ta ≤ k)
theorem XJ.bel {w0 w : World} {p b r gx gh n N k m : Nat} (h : XJ w0 p b r gx gh n N k m w) : Below w0.heap.size w0 w := by
  obtain ⟨s, D, c, O, H, u, hX, _⟩ := h
  exact hX.kn.bel
theorem XJ.c0 {w0 w : World} {p b r gx gh n N k m : Nat} (h : XJ w0 p b r gx gh n N k m w) : w.cell? ⟨r, 0, none⟩ = some (.int .i64 3) := by
  obtain ⟨s, D, c, O, H, u, hX, _⟩ := h
  exact hX.kn.c0
theorem XJ.c1 {w0 w : World} {p b r gx gh n N k m : Nat} (h : XJ w0 p b r gx gh n N k m w) : w.cell? ⟨r, 1, none⟩ = some (.int .i64 n) := by
  obtain ⟨s, D, c, O, H, u, hX, _⟩ := h
  exact hX.kn.c1
theorem XI.rest {w0 w : World} {p b r gx gh n N k : Nat} (h : XI w0 p b r gx gh n N k 0 w) (hn : n ≤ 10) : XJ w0 p b r gx gh n N k 10 w := by
  obtain ⟨s, D, c, O, H, u, hX, hu, hO, huN, hrm, hpt⟩ := h
  have h3 : O 3 = none := by
    cases ho : O 3 with
    | none => rfl
    | some a =>
      have ht3 := hX.tk 3 (by omega)
      rw [ho] at ht3 hO hrm
      obtain ⟨g, hg, gt, gy, _⟩ := tq_some ht3
      have := rem_pos gy.xo.t (ow_tn hO)
      simp only [remO] at hrm
      simp only [] at this
      omega
  rw [h3] at hO
  refine ⟨s, D, c, O, H, u, hX, hu, hO, h3, huN, ?_, hpt⟩
  obtain ⟨E, pe, id, hI⟩ := hO
  have h1 := hI.En
  have h2 := hI.B
  omega
set_option maxHeartbeats 1000000 in
/-- A pop alone. -/
theorem XJ.pop {w0 w w1 : World} {p b r gx gh n N k m g : Nat} (h : XJ w0 p b r gx gh n N k (m + 1) w) (hN : N ≤ 20) (hk : k ≤ 90000) (hx : IsTk w1 g (newG 3 n)) (hg : w.heap.size ≤ g) (hB : Below w.heap.size w w1) :
    Calls Try.prog 25 #[.pointer (some ⟨p, 0, none⟩), .pointer (some ⟨g, 0, none⟩)] w1 fun e w2 => ∃ (v : Int) (bb : Bool), e = .returned (.tuple #[.int .u64 v, .bool bb]) ∧ (bb = false → XJ w0 p b r gx gh n N (k + 20) m w2) ∧
      (bb = true → Calls Try.prog 26 #[.pointer (some ⟨gx, 0, none⟩), .int .u64 v] w2 fun e w3 => e = .returned (.tuple #[]) ∧ XJ w0 p b r gx gh n N (k + 20) m w3) := by
  obtain ⟨s, D, c, O, H, u, hX, hu, hO, ho, huN, hm, hpt⟩ := h
  have hq := hX.qok hO
  rw [hX.cn] at hq
  obtain ⟨hh, hkn, hgr, hg0⟩ := hX.kn.task hx hg hB
  have hy := newG_ok hq
  obtain ⟨q1, q2, q3⟩ := run_ok 10 hX.so hy hX.co
  have hOO := hO
  obtain ⟨E, pe, id, hI⟩ := hOO
  have hBB := hI.B
  have hT0 := hI.T0
  have hTE := hI.TE
  have how := hI.ow
  have hu1 := hI.u1
  simp only [Ow] at how
  have hps := pop_solo (ad := 3) (n := n) (s := s) (D := D) hX.rep hI.n0 hI.n1 hT0 (by omega) (by unfold lim; omega)
  refine (run_at hh hy hX.co (by unfold bnd; omega) hX.so).mono ?_
  rintro e w2 ⟨rfl, T1, T2⟩
  have hps' : Ran 3 n (run 10 s (newG 3 n)) _ _ _ := hps
  generalize run 10 s (newG 3 n) = R at *
  obtain ⟨s2, x2⟩ := R
  simp only [] at q1 q2 q3 T1 T2 hps' ⊢
  have hc3 : c.g 3 = none := by have := hX.tk 3 (by omega); rw [ho] at this; exact tq_noneG this
  have hco : c.ow = none := by simpa [Xr.g] using hc3
  have l1 := hX.x.lt
  have l2 := hX.h.lt
  have hB2 : But5 gx gh g p b w w2 := (But5.ofB hB).trans (But5.of3 T2)
  have hxx : IsX w2 gx c := (hX.x.below hB).keep (T2.block _ (hX.x.below hB).lt (by omega) hX.xp hX.xb)
  have hhh : IsH w2 gh N H := (hX.h.below hB).keep (T2.block _ (hX.h.below hB).lt (by omega) hX.hp hX.hb)
  have hnx := fun (D' : Dq) (rep : Rep 3 n s2.xs D') => hX.next (k' := k + 20) 3 (by omega) hg0 hgr (fun j hj _ => hX.fresh hj hg) hB2 T1.mem hxx hhh ⟨rfl, rfl, rfl, rfl⟩ none none (gOw c none c rfl rfl rfl hco) trivial (by simp) q1 (q3.mono (by omega)) rep (by rw [setT3]; simp)
  refine ⟨resV x2, resB x2, rfl, fun hb => ?_, fun hb => ?_⟩
  · have his := hps'.is
    rw [hb] at his
    have hle : D.B ≤ D.T := by simpa using his
    have hrep := hps'.rep
    rw [if_pos hle] at hrep
    exact ⟨s2, D, c, setT O 3 none, H, u, hnx D hrep, hu, hO.set3 _, setT3 _ _, huN, by omega, by omega⟩
  · have his := hps'.is
    rw [hb] at his
    have hlt : ¬ D.B ≤ D.T := by simpa using his
    have hrep := hps'.rep
    rw [if_neg hlt] at hrep
    have hv := hps'.vl (by simpa using hlt)
    obtain ⟨i, hi, hi0, hiv, hst⟩ := hO.solo (by omega)
    rw [hv, hiv]
    have hX2 := hnx _ hrep
    refine (take_at (c := c) (H := H) (i := i) hxx (by rw [hX.cg, hX.cN]; exact hhh) (by rw [hX.cg]; exact hX.xh) (by rw [hX.cN]; omega) (by rw [hX.cN]; exact hN) hi0 hpt.2.2.1 (by omega)).mono ?_
    rintro e w3 ⟨rfl, k1, k2, k3⟩
    rw [hX.cg] at k2 k3
    rw [hX.cN] at k2
    refine ⟨rfl, s2, _, _, setT (setT O 3 none) 3 none, _, u, hX2.next (k' := k + 20) 3 (by omega) hX.x0 hX.xr (fun j hj _ => hX2.notX hj) (But5.of2 k3) (T1.mem.but k3 hX.xp.symm hX.hp.symm hX.xb.symm hX.hb.symm) k1 k2 ⟨rfl, rfl, rfl, rfl⟩ none none (gOw c none _ rfl rfl rfl hco) trivial (by simp) hX2.so hX2.co hrep (by rw [setT3]; simp), hu, (hst.set3 _).set3 _, setT3 _ _, huN, ?_, by simp only []; omega⟩
    by_cases hl : D.T = D.B - 1
    · rw [if_pos hl]; simp only []; omega
    · rw [if_neg hl]; simp only []; omega
/-- What is left at the end. -/
structure XE (w0 : World) (gx gh N : Nat) (c : Xr) (H : Nat → Int) (w : World) : Prop where
  x : IsX w gx c
  h : IsH w gh N H
  cg : c.gh = gh
  cN : c.N = N
  H0 : ∀ i, 0 ≤ H i
  H1 : ∀ i, H i ≤ 1
  eq : c.pu = c.ta
  bel : Below w0.heap.size w0 w
theorem XJ.ends {w0 w : World} {p b r gx gh n N k : Nat} (h : XJ w0 p b r gx gh n N k 0 w) : ∃ c H, XE w0 gx gh N c H w := by
  obtain ⟨s, D, c, O, H, u, hX, hu, hO, ho, huN, hm, hpt⟩ := h
  obtain ⟨E, pe, id, hI⟩ := hO
  have how := hI.ow
  simp only [Ow] at how
  have hTE := hI.TE
  have hc := hI.cnt
  exact ⟨c, H, hX.x, hX.h, hX.cg, hX.cN, hI.H0, hI.H1, by omega, hX.kn.bel⟩
theorem isH_new (w : World) (N : Nat) : IsH (w.alloc (.cells (madeCells #[(.int .i64 0 : Value)] N) 3)) w.heap.size N (fun _ => 0) := by
  unfold IsH
  rw [heap_alloc_new]
  congr 2
  apply Array.ext
  · simp [hdA, madeCells]
  · intro i h1 h2
    simp [hdA, madeCells]
    rw [show i % 1 = 0 by omega]
    rfl
theorem info3 : (Try.prog.info? 3).map (fun i => (i.zero, i.size, i.bytes)) = some (some (.int .i64 0), 1, 8) := by kernel_rfl
end Go.Proofs.Ytmglacaikpcjhaa
