/- One writer, then one reader, alone: what each step leaves. Conditions: the lock's words are there, and its number is even and small. -/
import Derived.Test.YtkdgjgbmbdmmfaaS13
import Derived.Test.YtkdgjgbmbdmmfaaK
namespace Go.Proofs.Ytkdgjgbmbdmmfaa
open Go.RowKit

/-- What stands while one writes and one reads. -/
structure En (w0 w : World) (p b g h lk : Nat) (la ln : Int) (s : St) (x : Wr) (r : Rd) : Prop where
  mem : Mem 56 w p b s
  wr : IsWr w g x
  rd : IsRd w h r
  lock : w.heap[lk]? = some (.cells #[.int .i64 la, .int .i64 ln] 33 (0, 0))
  bel : Below w0.heap.size w0 w
  gp : g ≠ p
  gb : g ≠ b
  hp : h ≠ p
  hb : h ≠ b
  gh : g ≠ h
  lp : lk ≠ p
  lb : lk ≠ b
  lg : lk ≠ g
  lh : lk ≠ h
  p0 : w0.heap.size ≤ p
  b0 : w0.heap.size ≤ b
  g0 : w0.heap.size ≤ g
  h0 : w0.heap.size ≤ h
theorem En.below {w0 w w' : World} {p b g h lk : Nat} {la ln : Int} {s : St} {x : Wr} {r : Rd} (H : En w0 w p b g h lk la ln s x r) (k : Below w.heap.size w w') : En w0 w' p b g h lk la ln s x r :=
  { H with mem := H.mem.below k, wr := H.wr.below k, rd := H.rd.below k, lock := (k.block _ (lt_of_block H.lock)).trans H.lock, bel := bel_trans H.bel k }
theorem En.stepW {w0 w w' : World} {p b g h lk : Nat} {la ln : Int} {s s' : St} {x x' : Wr} {r : Rd} (H : En w0 w p b g h lk la ln s x r) (k : Ws w' p b g s' x' ∧ But3 g p b w w') : En w0 w' p b g h lk la ln s' x' r :=
  { H with mem := k.1.mem, wr := k.1.wr, rd := H.rd.keep (k.2.block _ H.rd.lt H.gh.symm H.hp H.hb), lock := (k.2.block _ (lt_of_block H.lock) H.lg H.lp H.lb).trans H.lock, bel := k.2.bel H.bel H.g0 H.p0 H.b0 }
theorem En.stepR {w0 w w' : World} {p b g h lk : Nat} {la ln : Int} {s s' : St} {x : Wr} {r r' : Rd} (H : En w0 w p b g h lk la ln s x r) (k : Rs w' p b h s' r' ∧ But3 h p b w w') : En w0 w' p b g h lk la ln s' x r' :=
  { H with mem := k.1.mem, rd := k.1.rd, wr := H.wr.keep (k.2.block _ H.wr.lt H.gh H.gp H.gb), lock := (k.2.block _ (lt_of_block H.lock) H.lh H.lp H.lb).trans H.lock, bel := k.2.bel H.bel H.h0 H.p0 H.b0 }
theorem En.load {w0 w w' : World} {p b g h lk : Nat} {la ln : Int} {s s' : St} {x : Wr} {r : Rd} (H : En w0 w p b g h lk la ln s x r) (k : Turns 56 p b w w' s') : En w0 w' p b g h lk la ln s' x r :=
  { H with mem := k.1, wr := H.wr.keep (k.2.block _ H.wr.lt H.gp H.gb), rd := H.rd.keep (k.2.block _ H.rd.lt H.hp H.hb), lock := (k.2.block _ (lt_of_block H.lock) H.lp H.lb).trans H.lock, bel := (But3.of_but (g := g) k.2).bel H.bel H.g0 H.p0 H.b0 }
theorem En.ws {w0 w : World} {p b g h lk : Nat} {la ln : Int} {s : St} {x : Wr} {r : Rd} (H : En w0 w p b g h lk la ln s x r) : Ws w p b g s x := ⟨H.mem, H.wr, H.gp, H.gb⟩
theorem En.rs {w0 w : World} {p b g h lk : Nat} {la ln : Int} {s : St} {x : Wr} {r : Rd} (H : En w0 w p b g h lk la ln s x r) : Rs w p b h s r := ⟨H.mem, H.rd, H.hp, H.hb⟩


/-- What stands while nobody is there: words and a lock. -/
structure Ba (w0 w : World) (p b lk : Nat) (la ln : Int) (s : St) : Prop where
  mem : Mem 56 w p b s
  lock : w.heap[lk]? = some (.cells #[.int .i64 la, .int .i64 ln] 33 (0, 0))
  bel : Below w0.heap.size w0 w
  lp : lk ≠ p
  lb : lk ≠ b
  p0 : w0.heap.size ≤ p
  b0 : w0.heap.size ≤ b
theorem En.ba {w0 w : World} {p b g h lk : Nat} {la ln : Int} {s : St} {x : Wr} {r : Rd} (H : En w0 w p b g h lk la ln s x r) : Ba w0 w p b lk la ln s := ⟨H.mem, H.lock, H.bel, H.lp, H.lb, H.p0, H.b0⟩
theorem Ba.below {w0 w w' : World} {p b lk : Nat} {la ln : Int} {s : St} (H : Ba w0 w p b lk la ln s) (k : Below w.heap.size w w') : Ba w0 w' p b lk la ln s :=
  { H with mem := H.mem.below k, lock := (k.block _ (lt_of_block H.lock)).trans H.lock, bel := bel_trans H.bel k }
theorem Ba.en {w0 w w' w'' : World} {p b g h lk : Nat} {la ln : Int} {s : St} {x : Wr} {r : Rd} (H : Ba w0 w p b lk la ln s) (hW : IsWr w' g x) (hg : w.heap.size ≤ g) (hB : Below w.heap.size w w')
    (hR : IsRd w'' h r) (hh : w'.heap.size ≤ h) (hB' : Below w'.heap.size w' w'') : En w0 w'' p b g h lk la ln s x r := by
  have u1 := H.mem.lt
  have u2 := hW.lt
  have u3 := lt_of_block H.lock
  have H2 := (H.below hB).below hB'
  have v1 := H.bel.size
  have v2 := hB.size
  exact ⟨H2.mem, hW.below hB', hR, H2.lock, H2.bel, by omega, by omega, by omega, by omega, by omega, H.lp, H.lb, by omega, by omega, H.p0, H.b0, by omega, by omega⟩

/-- A lock's place, its size, its number, the words that there are, a writer's values. -/
structure Lk (A n : Nat) (N : Int) (L : Nat) (vs : List Int) : Prop where
  fit : A + n < L
  a1 : A ≤ 65000
  n0 : 1 ≤ n
  n1 : n ≤ 16
  N0 : 0 ≤ N
  N1 : N ≤ 1000
  even : N % 2 = 0
  rng : ∀ v ∈ vs, 0 ≤ v ∧ v ≤ 18446744073709551615

/-- A writer alone behind j steps. -/
structure PW (A n : Nat) (N : Int) (L : Nat) (vs : List Int) (j : Nat) (s : St) (x : Wr) : Prop where
  xe : x = ⟨A, n, j, n + 3, if j = 0 then 0 else N, vs⟩
  len : s.xs.length = L
  rng : ∀ v ∈ s.xs, 0 ≤ v ∧ v ≤ 18446744073709551615
  num : s.xs.getD A 0 = if j < 2 then N else if j < n + 3 then N + 1 else N + 2
  val : ∀ i, i + 2 < j → i < n → s.xs.getD (A + 1 + i) 0 = vs.getD i 0
  top : j ≤ n + 3
theorem PW.wok {A n : Nat} {N : Int} {L : Nat} {vs : List Int} {j : Nat} {s : St} {x : Wr} (k : Lk A n N L vs) (h : PW A n N L vs j s x) : WOk x := by
  obtain ⟨rfl, _, _, _, _, ht⟩ := h
  have := k.a1
  have := k.n0
  have := k.n1
  have := k.N0
  have := k.N1
  exact ⟨by simp, by simp; omega, by simp; omega, by simp; omega, by simp, by simp; omega, rfl, by simp; split <;> omega, by simp; split <;> omega⟩
theorem PW.mok {A n : Nat} {N : Int} {L : Nat} {vs : List Int} {j : Nat} {s : St} {x : Wr} (k : Lk A n N L vs) (h : PW A n N L vs j s x) : MOk s x.ad x.n := by
  have h1 := h.len
  have h2 := k.fit
  rw [h.xe]
  exact ⟨by simp; omega, h.rng⟩
theorem PW.step {A n : Nat} {N : Int} {L : Nat} {vs : List Int} {j : Nat} {s : St} {x : Wr} (k : Lk A n N L vs) (h : PW A n N L vs j s x) (hj : j < n + 3) : PW A n N L vs (j + 1) (wS s x).1 (wS s x).2 := by
  obtain ⟨hx, hl, hr, hN, hv, _⟩ := h
  obtain ⟨f, _, n0, n1, N0, N1, ev, rv⟩ := k
  have e0 : x.ad = A := by rw [hx]
  have e1 : x.n = n := by rw [hx]
  have e2 : x.t = j := by rw [hx]
  have e3 : x.e = n + 3 := by rw [hx]
  have e4 : x.vs = vs := by rw [hx]
  have he : x.t ≠ x.e := by omega
  by_cases h0 : j = 0
  · subst h0
    rw [if_pos (by omega)] at hN
    obtain ⟨s1, s2⟩ := wS_0 (s := s) (by omega) he e0 (by omega)
    rw [s2]
    refine ⟨?_, by rw [s1]; exact hl, by rw [s1]; exact hr, by rw [s1, hN]; simp, fun i hi => by omega, by omega⟩
    rw [hN, beginT_even ev, hx]
    simp
  · have e5 : x.m = N := by rw [hx]; simp [h0]
    by_cases h1 : j = 1
    · subst h1
      rw [if_pos (by omega)] at hN
      obtain ⟨s1, s2⟩ := wS_1y (s := s) (by omega) he e0 (by omega) (by rw [hN, e5])
      rw [s2]
      refine ⟨?_, by rw [s1]; simpa using hl, by rw [s1]; exact rng_set hr _ (add64_rng _ _).1 (add64_rng _ _).2, ?_, fun i hi => by omega, by omega⟩
      · rw [hx]; simp
      · rw [s1, get_set (by omega), if_pos rfl, e5, add64_le N0 (by omega) (by omega), if_neg (by omega), if_pos (by omega)]
    · have hN' : s.xs.getD A 0 = N + 1 := by rw [hN, if_neg (by omega), if_pos (by omega)]
      by_cases h2 : j = n + 2
      · subst h2
        obtain ⟨s1, s2⟩ := wS_l (s := s) (n := n) (by omega) e1 n0 he e0 (by omega)
        rw [s2]
        refine ⟨?_, by rw [s1]; simpa using hl, by rw [s1]; exact rng_set hr _ (add64_rng _ _).1 (add64_rng _ _).2, ?_, ?_, by omega⟩
        · rw [hx]; simp
        · rw [s1, get_set (by omega), if_pos rfl, e5, add64_le N0 (by omega) (by omega), if_neg (by omega), if_neg (by omega)]
        · intro i hi hin
          rw [s1, get_set (by omega), if_neg (by omega)]
          exact hv i (by omega) hin
      · obtain ⟨i, hi⟩ : ∃ i, j = 2 + i := ⟨j - 2, by omega⟩
        subst hi
        obtain ⟨s1, s2⟩ := wS_v (s := s) (i := i) (n := n) (by omega) e1 (by omega) he e0 (by omega)
        rw [s2]
        have hvr := rng_get rv i
        refine ⟨?_, by rw [s1]; simpa using hl, by rw [s1, e4]; exact rng_set hr _ hvr.1 hvr.2, ?_, ?_, by omega⟩
        · rw [hx]; simp
        · rw [s1, get_set (by omega), if_neg (by omega), hN', if_neg (by omega), if_pos (by omega)]
        · intro a ha han
          rw [s1, get_set (by omega), e4]
          by_cases hai : a = i
          · subst hai; rw [if_pos rfl]
          · rw [if_neg (by omega)]
            exact hv a (by omega) han

/-- A reader alone behind j steps. -/
structure PR (A n : Nat) (N : Int) (xs : List Int) (j : Nat) (s : St) (r : Rd) : Prop where
  sx : s.xs = xs
  ad : r.x.ad = A
  nn : r.x.n = n
  e : r.x.e = n + 2
  t : r.x.t = j
  m : j ≠ 0 → r.x.m = N
  us : r.x.vs.length = 16
  val : ∀ i, i + 1 < j → i < n → r.x.vs.getD i 0 = xs.getD (A + 1 + i) 0
  d : r.d = decide (j = n + 2)
  k0 : 0 ≤ r.k
  k1 : r.k ≤ j
  top : j ≤ n + 2
structure Lr (A n : Nat) (N : Int) (xs : List Int) : Prop where
  fit : A + n < xs.length
  a1 : A ≤ 65000
  n0 : 1 ≤ n
  n1 : n ≤ 16
  num : xs.getD A 0 = N
  even : N % 2 = 0
  rng : ∀ v ∈ xs, 0 ≤ v ∧ v ≤ 18446744073709551615
theorem PR.rok {A n : Nat} {N : Int} {xs : List Int} {j : Nat} {s : St} {r : Rd} (k : Lr A n N xs) (h : PR A n N xs j s r) : ROk r.x := by
  have h1 := h.ad
  have h2 := h.nn
  have h3 := h.e
  have h4 := h.t
  have h5 := h.top
  have := k.a1
  have := k.n0
  have := k.n1
  exact ⟨by omega, by omega, by omega, by omega, by omega, by omega, by omega⟩
theorem PR.mok {A n : Nat} {N : Int} {xs : List Int} {j : Nat} {s : St} {r : Rd} (k : Lr A n N xs) (h : PR A n N xs j s r) : MOk s r.x.ad r.x.n := by
  have h1 := k.fit
  rw [h.ad, h.nn]
  exact ⟨by rw [h.sx]; omega, by rw [h.sx]; exact k.rng⟩
theorem PR.step {A n : Nat} {N : Int} {xs : List Int} {j : Nat} {s : St} {r : Rd} (k : Lr A n N xs) (h : PR A n N xs j s r) (hj : j < n + 2) : PR A n N xs (j + 1) (rS s r).1 (rS s r).2 := by
  obtain ⟨hx, ha, hn, he, ht, hm, hu, hv, hd, hk0, hk1, _⟩ := h
  obtain ⟨f, _, n0, n1, num, ev, rng⟩ := k
  have hne : r.x.t ≠ r.x.e := by omega
  have hd0 : r.d = false := by rw [hd]; simp; omega
  by_cases h0 : j = 0
  · subst h0
    obtain ⟨s1, s2⟩ := rS_0 (s := s) (r := r) (A := A) (by omega) hne ha (by rw [hx]; omega)
    rw [hx, num, beginT_even ev] at s2
    rw [s2]
    exact ⟨s1.trans hx, ha, hn, he, by simp, fun _ => rfl, hu, fun i hi => by omega, by simp [hd0], by simp; omega, by simp; omega, by omega⟩
  · by_cases h1 : j = n + 1
    · subst h1
      obtain ⟨s1, s2⟩ := rS_ly (s := s) (r := r) (A := A) (n := n) (by omega) hn hne ha (by rw [hx]; omega) (by rw [hx, num, hm h0])
      rw [s2]
      exact ⟨s1.trans hx, ha, hn, he, by simp; omega, fun _ => hm h0, hu, fun i hi hin => hv i (by omega) hin, by simp, hk0, by simp; omega, by omega⟩
    · obtain ⟨i, hi⟩ : ∃ i, j = 1 + i := ⟨j - 1, by omega⟩
      subst hi
      obtain ⟨s1, s2⟩ := rS_v (s := s) (r := r) (A := A) (i := i) (n := n) (by omega) hn (by omega) hne ha (by rw [hx]; omega)
      rw [s2]
      refine ⟨s1.trans hx, ha, hn, he, by simp; omega, fun _ => hm h0, by simpa using hu, ?_, by simp [hd0]; omega, hk0, by simp; omega, by omega⟩
      intro a ha' han
      simp only []
      rw [get_set (by omega), hx]
      by_cases hai : a = i
      · subst hai; rw [if_pos rfl]
      · rw [if_neg hai]
        exact hv a (by omega) han
end Go.Proofs.Ytkdgjgbmbdmmfaa
