/- What a walk through tables comes to: a function of the words, the table, the page, what is wanted, and the level; what of the words it hangs on, and that it hangs on what is wanted just in whether that is allowed. Of no function; no conditions but the numbers' sizes. -/
import Derived.Test.YtpfmmlbakbhklaaGreatDoorD
import Derived.Test.YtpfmmlbakbhklaaGreatDoorPS5
import Derived.Test.YtpfmmlbakbhklaaGreatDoorPS3
namespace Go.Proofs.YtpfmmlbakbhklaaGreatDoor
open Go.RowKit

/-- What is found: the frame, the rights, the level, the error. -/
structure Fd where
  f : Int
  r : Int
  v : Int
  e : Int
abbrev fdC (x : Fd) : Array Value := #[.int .i64 x.f, .int .i64 x.r, .int .i64 x.v, .int .i64 x.e]
abbrev fdV (x : Fd) : Value := .agg (fdC x)

/-- A word, 0 where there is none. -/
def wordAt (xs : List Int) (a : Int) : Int := if inB xs.length a = true then xs.getD a.toNat 0 else 0
def arr (d : P.En) (wt v f : Int) : Fd := if 4096 ≤ f then ⟨0, 0, v, 11⟩ else ⟨f, d.r, v, if P.al d wt = true then 0 else 7⟩
/-- What comes of a right entry: a table to go on in, or an end. -/
inductive Oc where
  | go (f : Int)
  | fin (x : Fd)
def kn (d : P.En) (pg wt v : Int) : Oc :=
  if (!d.p) = true then .fin ⟨0, 0, v, 4⟩
  else if (P.tb d && decide (0 < v)) = true then .go d.f
  else if (d.l && v == 1) = true then .fin (arr d wt v (d.f + pg % 16))
  else if (!P.tb d && !d.l && v == 0) = true then .fin (arr d wt v d.f)
  else .fin ⟨0, 0, v, 11⟩
def ocx (there : Bool) (x pg wt v : Int) : Oc := if (there && P.prY x.toNat) = true then kn (P.rd x.toNat) pg wt v else .fin ⟨0, 0, v, 11⟩
def oc (xs : List Int) (fr pg wt v : Int) : Oc := ocx (inB xs.length (P.at' fr pg v)) (wordAt xs (P.at' fr pg v)) pg wt v
def nxF (o : Oc) (k : Int → Fd) : Fd := match o with | .fin d => d | .go f => k f
def runF (xs : List Int) (pg wt : Int) : Nat → Int → Fd
  | 0, fr => nxF (oc xs fr pg wt (0 : Nat)) fun _ => ⟨0, 0, 0, 11⟩
  | n + 1, fr => nxF (oc xs fr pg wt (n + 1 : Nat)) fun f => runF xs pg wt n f
def nxP (o : Oc) (fr : Int) (k : Int → List Int) : List Int := match o with | .fin _ => [fr] | .go f => fr :: k f
/-- The tables of which it loads. -/
def pathF (xs : List Int) (pg wt : Int) : Nat → Int → List Int
  | 0, fr => nxP (oc xs fr pg wt (0 : Nat)) fr fun _ => []
  | n + 1, fr => nxP (oc xs fr pg wt (n + 1 : Nat)) fr fun f => pathF xs pg wt n f
theorem runF_fin {xs : List Int} {pg wt fr : Int} {n : Nat} {d : Fd} (h : oc xs fr pg wt n = .fin d) : runF xs pg wt n fr = d := by
  cases n
  · show nxF (oc xs fr pg wt (0 : Nat)) _ = d
    rw [h]; rfl
  · show nxF (oc xs fr pg wt (_ + 1 : Nat)) _ = d
    rw [h]; rfl
theorem runF_go {xs : List Int} {pg wt fr f : Int} {n : Nat} (h : oc xs fr pg wt (n + 1 : Nat) = .go f) : runF xs pg wt (n + 1) fr = runF xs pg wt n f := by
  show nxF (oc xs fr pg wt (n + 1 : Nat)) _ = _
  rw [h]; rfl
theorem pathF_fin {xs : List Int} {pg wt fr : Int} {n : Nat} {d : Fd} (h : oc xs fr pg wt n = .fin d) : pathF xs pg wt n fr = [fr] := by
  cases n
  · show nxP (oc xs fr pg wt (0 : Nat)) _ _ = _
    rw [h]; rfl
  · show nxP (oc xs fr pg wt (_ + 1 : Nat)) _ _ = _
    rw [h]; rfl
theorem pathF_go {xs : List Int} {pg wt fr f : Int} {n : Nat} (h : oc xs fr pg wt (n + 1 : Nat) = .go f) : pathF xs pg wt (n + 1) fr = fr :: pathF xs pg wt n f := by
  show nxP (oc xs fr pg wt (n + 1 : Nat)) _ _ = _
  rw [h]; rfl
theorem kn_go {d : P.En} {pg wt v f : Int} (h : kn d pg wt v = .go f) : 0 < v ∧ f = d.f ∧ P.tb d = true := by
  unfold kn at h
  split at h
  · cases h
  · split at h
    · rename_i h1
      simp only [Bool.and_eq_true, decide_eq_true_eq] at h1
      injection h with h
      exact ⟨h1.2, h.symm, h1.1⟩
    · split at h
      · cases h
      · split at h <;> cases h
theorem prY_rt {x : Nat} (h : P.prY x = true) : P.rt (P.rd x) = true := by
  unfold P.prY at h
  simp only [Bool.and_eq_true] at h
  exact h.1
theorem ocx_go {t : Bool} {x pg wt v f : Int} (h : ocx t x pg wt v = .go f) : 0 < v ∧ 0 ≤ f ∧ f ≤ 4095 := by
  unfold ocx at h
  split at h
  · rename_i h1
    simp only [Bool.and_eq_true] at h1
    obtain ⟨a, rfl, -⟩ := kn_go h
    have := P.rt_in (prY_rt h1.2)
    exact ⟨a, this.2.2.1, this.2.2.2⟩
  · cases h
theorem oc_go {xs : List Int} {fr pg wt v f : Int} (h : oc xs fr pg wt v = .go f) : 0 < v ∧ 0 ≤ f ∧ f ≤ 4095 := ocx_go h
theorem oc_zero {xs : List Int} {fr pg wt f : Int} : oc xs fr pg wt (0 : Nat) ≠ .go f := fun h => by
  have := (oc_go h).1
  simp at this

/-- Whether there can be a walker. -/
def okW (root pg wt : Int) : Bool := P.btw root 0 4095 && P.btw pg 0 65535 && P.btw wt 0 7
def fAll (xs : List Int) (root pg wt : Int) : Fd := if okW root pg wt = true then runF xs pg wt 3 root else ⟨0, 0, 0, 1⟩

/-! ### What it hangs on -/
theorem pathF_pos (xs : List Int) (pg wt : Int) : ∀ (n : Nat) (fr : Int), ∃ l, pathF xs pg wt n fr = fr :: l ∧ l.length ≤ n
  | 0, fr => by
    show ∃ l, nxP (oc xs fr pg wt (0 : Nat)) fr _ = fr :: l ∧ l.length ≤ 0
    cases oc xs fr pg wt (0 : Nat) <;> exact ⟨[], rfl, Nat.le_refl _⟩
  | n + 1, fr => by
    cases h : oc xs fr pg wt (n + 1 : Nat) with
    | fin d => exact ⟨[], pathF_fin h, Nat.zero_le _⟩
    | go f =>
      obtain ⟨l, e, hl⟩ := pathF_pos xs pg wt n f
      exact ⟨_, pathF_go h, by rw [e]; simpa using hl⟩
theorem wordAt_set {xs : List Int} {a b v : Int} (hb : 0 ≤ b) (h : a ≠ b) : wordAt (xs.set b.toNat v) a = wordAt xs a := by
  unfold wordAt
  rw [List.length_set]
  split
  · rename_i h1
    have h1 := inB_yes.1 h1
    have : a.toNat ≠ b.toNat := by omega
    simp only [List.getD]
    rw [List.getElem?_set_ne (fun e => this e.symm)]
  · rfl
theorem oc_set {xs : List Int} {fr pg wt w b v : Int} (hb : 0 ≤ b) (h : b ≠ P.at' fr pg w) : oc (xs.set b.toNat v) fr pg wt w = oc xs fr pg wt w := by
  unfold oc
  rw [wordAt_set hb (fun e => h e.symm), List.length_set]
/-- Another word changes: nothing else is found. -/
theorem runF_set {xs : List Int} {pg wt b v : Int} (hb : 0 ≤ b) : ∀ (n : Nat) (fr : Int), (∀ i, i < (pathF xs pg wt n fr).length → b ≠ P.at' ((pathF xs pg wt n fr).getD i 0) pg ((n : Int) - i)) → runF (xs.set b.toNat v) pg wt n fr = runF xs pg wt n fr
  | n, fr => fun h => by
    obtain ⟨l, e, -⟩ := pathF_pos xs pg wt n fr
    have h0 := h 0 (by rw [e]; simp)
    rw [e] at h0
    have h0 : b ≠ P.at' fr pg n := by simpa using h0
    have e1 : oc (xs.set b.toNat v) fr pg wt n = oc xs fr pg wt n := oc_set hb h0
    cases h1 : oc xs fr pg wt n with
    | fin d => rw [runF_fin h1, runF_fin (e1.trans h1)]
    | go f =>
      cases n with
      | zero => exact absurd h1 oc_zero
      | succ n =>
        rw [runF_go h1, runF_go (e1.trans h1)]
        refine runF_set hb n f fun i hi => ?_
        have := h (i + 1) (by rw [pathF_go h1]; simpa using hi)
        rw [pathF_go h1] at this
        simp only [List.getD_cons_succ] at this
        rw [show ((n + 1 : Nat) : Int) - ((i + 1 : Nat) : Int) = (n : Int) - i by omega] at this
        exact this
/-- A word that is not there changes nothing. -/
theorem storeT_xs (s : St) (a v : Int) : (storeT s a v).xs = if there s a = true then s.xs.set a.toNat v else s.xs := by
  unfold storeT; split <;> rfl
theorem runF_store {s : St} {pg wt b v : Int} (n : Nat) (fr : Int) (h : ∀ i, i < (pathF s.xs pg wt n fr).length → b ≠ P.at' ((pathF s.xs pg wt n fr).getD i 0) pg ((n : Int) - i)) : runF (storeT s b v).xs pg wt n fr = runF s.xs pg wt n fr := by
  rw [storeT_xs]
  split
  · rename_i h1
    exact runF_set (inB_yes.1 h1).1 n fr h
  · rfl

/-! ### What is wanted -/
/-- How what is found hangs on what is wanted. -/
def Wn (k : Int) (f g : Fd) : Prop := if f.e = 0 then g.f = f.f ∧ g.r = f.r ∧ g.v = f.v ∧ ((g.e == 0) = (bits .and .i64 f.r k == k)) ∧ (g.e = 0 ∨ g.e = 7) ∧ 0 < f.r else g = f
theorem bits_and0 (r : Int) (h0 : 0 ≤ r) (h1 : r ≤ 7) : bits .and .i64 r 0 = 0 := by
  obtain rfl | rfl | rfl | rfl | rfl | rfl | rfl | rfl : r = 0 ∨ r = 1 ∨ r = 2 ∨ r = 3 ∨ r = 4 ∨ r = 5 ∨ r = 6 ∨ r = 7 := by omega
  all_goals rfl
theorem al_of {d : P.En} {k : Int} (h : P.rt d = true) (hp : d.p = true) (hr : 0 < d.r) (h0 : 0 ≤ k) (h1 : k ≤ 7) : P.al d k = (bits .and .i64 d.r k == k) := by
  unfold P.al
  rw [h, hp, decide_eq_true hr, P.btw_t h0 h1]
  rfl
theorem arr_wn {d : P.En} {k v f : Int} (h : P.rt d = true) (hp : d.p = true) (hr : 0 < d.r) (h0 : 0 ≤ k) (h1 : k ≤ 7) : Wn k (arr d 0 v f) (arr d k v f) := by
  have h2 := P.rt_in h
  unfold arr
  split
  · unfold Wn
    rw [if_neg (by simp)]
  · rw [al_of h hp hr (Int.le_refl 0) (by omega), al_of h hp hr h0 h1, bits_and0 _ h2.1 h2.2.1]
    unfold Wn
    rw [if_pos (show (if ((0 : Int) == 0) = true then (0 : Int) else 7) = 0 from rfl)]
    refine ⟨rfl, rfl, rfl, ?_, ?_, hr⟩
    · show ((if (bits .and .i64 d.r k == k) = true then (0 : Int) else 7) == 0) = (bits .and .i64 d.r k == k)
      cases bits .and .i64 d.r k == k <;> rfl
    · show (if (bits .and .i64 d.r k == k) = true then (0 : Int) else 7) = 0 ∨ (if (bits .and .i64 d.r k == k) = true then (0 : Int) else 7) = 7
      cases bits .and .i64 d.r k == k <;> simp
theorem wn_bad {k : Int} {f : Fd} (h : f.e ≠ 0) : Wn k f f := by unfold Wn; rw [if_neg h]
theorem rt_pos {d : P.En} (h : P.rt d = true) (hp : d.p = true) (ht : P.tb d = false ∨ d.l = true) : 0 < d.r := by
  have h2 := P.rt_in h
  rcases ht with ht | hl
  · unfold P.tb at ht
    rw [h, hp] at ht
    have : d.r ≠ 0 := by simpa using ht
    omega
  · unfold P.rt at h
    rw [if_pos hp, hl] at h
    simp at h
    exact h.2
theorem kn_wn {d : P.En} {pg k v : Int} (h : P.rt d = true) (h0 : 0 ≤ k) (h1 : k ≤ 7) : (∃ f, kn d pg 0 v = .go f ∧ kn d pg k v = .go f) ∨ (∃ f g, kn d pg 0 v = .fin f ∧ kn d pg k v = .fin g ∧ Wn k f g) := by
  unfold kn
  by_cases c1 : (!d.p) = true
  · rw [if_pos c1, if_pos c1]
    exact .inr ⟨_, _, rfl, rfl, wn_bad (by simp)⟩
  · rw [if_neg c1, if_neg c1]
    have hp : d.p = true := by simpa using c1
    by_cases c2 : (P.tb d && decide (0 < v)) = true
    · rw [if_pos c2, if_pos c2]
      exact .inl ⟨_, rfl, rfl⟩
    · rw [if_neg c2, if_neg c2]
      by_cases c3 : (d.l && v == 1) = true
      · rw [if_pos c3, if_pos c3]
        exact .inr ⟨_, _, rfl, rfl, arr_wn h hp (rt_pos h hp (.inr (by simp only [Bool.and_eq_true] at c3; exact c3.1))) h0 h1⟩
      · rw [if_neg c3, if_neg c3]
        by_cases c4 : (!P.tb d && !d.l && v == 0) = true
        · rw [if_pos c4, if_pos c4]
          exact .inr ⟨_, _, rfl, rfl, arr_wn h hp (rt_pos h hp (.inl (by simp only [Bool.and_eq_true, Bool.not_eq_true'] at c4; exact c4.1.1))) h0 h1⟩
        · rw [if_neg c4, if_neg c4]
          exact .inr ⟨_, _, rfl, rfl, wn_bad (by simp)⟩
theorem oc_wn {xs : List Int} {fr pg k v : Int} (h0 : 0 ≤ k) (h1 : k ≤ 7) : (∃ f, oc xs fr pg 0 v = .go f ∧ oc xs fr pg k v = .go f) ∨ (∃ f g, oc xs fr pg 0 v = .fin f ∧ oc xs fr pg k v = .fin g ∧ Wn k f g) := by
  unfold oc ocx
  by_cases c : (inB xs.length (P.at' fr pg v) && P.prY (wordAt xs (P.at' fr pg v)).toNat) = true
  · rw [if_pos c, if_pos c]
    simp only [Bool.and_eq_true] at c
    exact kn_wn (prY_rt c.2) h0 h1
  · rw [if_neg c, if_neg c]
    exact .inr ⟨_, _, rfl, rfl, wn_bad (by simp)⟩
theorem runF_wn {xs : List Int} {pg k : Int} (h0 : 0 ≤ k) (h1 : k ≤ 7) : ∀ (n : Nat) (fr : Int), Wn k (runF xs pg 0 n fr) (runF xs pg k n fr)
  | n, fr => by
    rcases oc_wn (xs := xs) (fr := fr) (pg := pg) (v := n) h0 h1 with ⟨f, a, b⟩ | ⟨f, g, a, b, c⟩
    · cases n with
      | zero => exact absurd a oc_zero
      | succ n =>
        rw [runF_go a, runF_go b]
        exact runF_wn h0 h1 n f
    · rw [runF_fin a, runF_fin b]
      exact c
end Go.Proofs.YtpfmmlbakbhklaaGreatDoor
