/- What a walk through tables comes to: a function of the words, the table, the page, what is wanted, and the level; what of the words it hangs on, and that it hangs on what is wanted just in whether that is allowed. Of no function; no conditions but the numbers' sizes. A walker as it lies in memory, and what each small call of package walk that changes it returns and leaves. No conditions but that it is a walker. What the calls of the table of kinds return and leave: which kind an entry is of, and what becomes of a walker. No conditions but that it is a walker. What becomes of a walker that loaded a word (goOn): a function of the word alone. Conditions: it is a walker that goes on. What a walker's next act is, and that asking for it changes nothing. Conditions: it is a walker that goes on, or one that is done, or none. What a walker tells (Result, Path), when there is one (New), and how much a memory has counted (Count). Conditions: it is a walker, or none. What a walker finds that goes on alone: a function of the words. Conditions: the words are below 2^64, the counts below 2^62. Lists of numbers that lie in memory, and what the comparison of two such lists (Ints) returns where they are the same. -/
import Derived.Test.YtpfmmlbakbhklaaGreatDoorBA
import Derived.Test.YtpfmmlbakbhklaaGreatDoorBC
import Derived.Deep.RegionHeld3
import Derived.Laws.EntriesVeiled
import Derived.Shelf.Abstract
namespace Go.Proofs.YtpfmmlbakbhklaaGreatDoor
open Go.RowKit

/-- What is found: the frame, the rights, the level, the error. -/
structure Fd where
  f : Int
  r : Int
  v : Int
  e : Int
abbrev fdC (x : Fd) : Array Value := #[.int .i64 x.f, .int .i64 x.r, .int .i64 x.v, .int .i64 x.e]
abbrev fdV (x : Fd) : Value := .agg (fdC x)

/-- A word, 0 where there is none. -/
def wordAt (xs : List Int) (a : Int) : Int := if inB xs.length a = true then xs.getD a.toNat 0 else 0
def arr (d : P.En) (wt v f : Int) : Fd := if 4096 ≤ f then ⟨0, 0, v, 11⟩ else ⟨f, d.r, v, if P.al d wt = true then 0 else 7⟩
/-- What comes of a right entry: a table to go on in, or an end. -/
inductive Oc where
  | go (f : Int)
  | fin (x : Fd)
def kn (d : P.En) (pg wt v : Int) : Oc :=
  if (!d.p) = true then .fin ⟨0, 0, v, 4⟩
  else if (P.tb d && decide (0 < v)) = true then .go d.f
  else if (d.l && v == 1) = true then .fin (arr d wt v (d.f + pg % 16))
  else if (!P.tb d && !d.l && v == 0) = true then .fin (arr d wt v d.f)
  else .fin ⟨0, 0, v, 11⟩
def ocx (there : Bool) (x pg wt v : Int) : Oc := if (there && P.prY x.toNat) = true then kn (P.rd x.toNat) pg wt v else .fin ⟨0, 0, v, 11⟩
def oc (xs : List Int) (fr pg wt v : Int) : Oc := ocx (inB xs.length (P.at' fr pg v)) (wordAt xs (P.at' fr pg v)) pg wt v
def nxF (o : Oc) (k : Int → Fd) : Fd := match o with | .fin d => d | .go f => k f
def runF (xs : List Int) (pg wt : Int) : Nat → Int → Fd
  | 0, fr => nxF (oc xs fr pg wt (0 : Nat)) fun _ => ⟨0, 0, 0, 11⟩
  | n + 1, fr => nxF (oc xs fr pg wt (n + 1 : Nat)) fun f => runF xs pg wt n f
def nxP (o : Oc) (fr : Int) (k : Int → List Int) : List Int := match o with | .fin _ => [fr] | .go f => fr :: k f
/-- The tables of which it loads. -/
def pathF (xs : List Int) (pg wt : Int) : Nat → Int → List Int
  | 0, fr => nxP (oc xs fr pg wt (0 : Nat)) fr fun _ => []
  | n + 1, fr => nxP (oc xs fr pg wt (n + 1 : Nat)) fr fun f => pathF xs pg wt n f
theorem runF_fin {xs : List Int} {pg wt fr : Int} {n : Nat} {d : Fd} (h : oc xs fr pg wt n = .fin d) : runF xs pg wt n fr = d := by
  cases n
  · show nxF (oc xs fr pg wt (0 : Nat)) _ = d
    rw [h]; rfl
  · show nxF (oc xs fr pg wt (_ + 1 : Nat)) _ = d
    rw [h]; rfl
theorem runF_go {xs : List Int} {pg wt fr f : Int} {n : Nat} (h : oc xs fr pg wt (n + 1 : Nat) = .go f) : runF xs pg wt (n + 1) fr = runF xs pg wt n f := by
  show nxF (oc xs fr pg wt (n + 1 : Nat)) _ = _
  rw [h]; rfl
theorem pathF_fin {xs : List Int} {pg wt fr : Int} {n : Nat} {d : Fd} (h : oc xs fr pg wt n = .fin d) : pathF xs pg wt n fr = [fr] := by
  cases n
  · show nxP (oc xs fr pg wt (0 : Nat)) _ _ = _
    rw [h]; rfl
  · show nxP (oc xs fr pg wt (_ + 1 : Nat)) _ _ = _
    rw [h]; rfl
theorem pathF_go {xs : List Int} {pg wt fr f : Int} {n : Nat} (h : oc xs fr pg wt (n + 1 : Nat) = .go f) : pathF xs pg wt (n + 1) fr = fr :: pathF xs pg wt n f := by
  show nxP (oc xs fr pg wt (n + 1 : Nat)) _ _ = _
  rw [h]; rfl
theorem kn_go {d : P.En} {pg wt v f : Int} (h : kn d pg wt v = .go f) : 0 < v ∧ f = d.f ∧ P.tb d = true := by
  unfold kn at h
  split at h
  · cases h
  · split at h
    · rename_i h1
      simp only [Bool.and_eq_true, decide_eq_true_eq] at h1
      injection h with h
      exact ⟨h1.2, h.symm, h1.1⟩
    · split at h
      · cases h
      · split at h <;> cases h
theorem prY_rt {x : Nat} (h : P.prY x = true) : P.rt (P.rd x) = true := by
  unfold P.prY at h
  simp only [Bool.and_eq_true] at h
  exact h.1
theorem ocx_go {t : Bool} {x pg wt v f : Int} (h : ocx t x pg wt v = .go f) : 0 < v ∧ 0 ≤ f ∧ f ≤ 4095 := by
  unfold ocx at h
  split at h
  · rename_i h1
    simp only [Bool.and_eq_true] at h1
    obtain ⟨a, rfl, -⟩ := kn_go h
    have := P.rt_in (prY_rt h1.2)
    exact ⟨a, this.2.2.1, this.2.2.2⟩
  · cases h
theorem oc_go {xs : List Int} {fr pg wt v f : Int} (h : oc xs fr pg wt v = .go f) : 0 < v ∧ 0 ≤ f ∧ f ≤ 4095 := ocx_go h
theorem oc_zero {xs : List Int} {fr pg wt f : Int} : oc xs fr pg wt (0 : Nat) ≠ .go f := fun h => by
  have := (oc_go h).1
  simp at this

/-- Whether there can be a walker. -/
def okW (root pg wt : Int) : Bool := P.btw root 0 4095 && P.btw pg 0 65535 && P.btw wt 0 7
def fAll (xs : List Int) (root pg wt : Int) : Fd := if okW root pg wt = true then runF xs pg wt 3 root else ⟨0, 0, 0, 1⟩

/-! ### What it hangs on -/
theorem pathF_pos (xs : List Int) (pg wt : Int) : ∀ (n : Nat) (fr : Int), ∃ l, pathF xs pg wt n fr = fr :: l ∧ l.length ≤ n
  | 0, fr => by
    show ∃ l, nxP (oc xs fr pg wt (0 : Nat)) fr _ = fr :: l ∧ l.length ≤ 0
    cases oc xs fr pg wt (0 : Nat) <;> exact ⟨[], rfl, Nat.le_refl _⟩
  | n + 1, fr => by
    cases h : oc xs fr pg wt (n + 1 : Nat) with
    | fin d => exact ⟨[], pathF_fin h, Nat.zero_le _⟩
    | go f =>
      obtain ⟨l, e, hl⟩ := pathF_pos xs pg wt n f
      exact ⟨_, pathF_go h, by rw [e]; simpa using hl⟩
theorem wordAt_set {xs : List Int} {a b v : Int} (hb : 0 ≤ b) (h : a ≠ b) : wordAt (xs.set b.toNat v) a = wordAt xs a := by
  unfold wordAt
  rw [List.length_set]
  split
  · rename_i h1
    have h1 := inB_yes.1 h1
    have : a.toNat ≠ b.toNat := by omega
    simp only [List.getD]
    rw [List.getElem?_set_ne (fun e => this e.symm)]
  · rfl
theorem oc_set {xs : List Int} {fr pg wt w b v : Int} (hb : 0 ≤ b) (h : b ≠ P.at' fr pg w) : oc (xs.set b.toNat v) fr pg wt w = oc xs fr pg wt w := by
  unfold oc
  rw [wordAt_set hb (fun e => h e.symm), List.length_set]
/-- Another word changes: nothing else is found. -/
theorem runF_set {xs : List Int} {pg wt b v : Int} (hb : 0 ≤ b) : ∀ (n : Nat) (fr : Int), (∀ i, i < (pathF xs pg wt n fr).length → b ≠ P.at' ((pathF xs pg wt n fr).getD i 0) pg ((n : Int) - i)) → runF (xs.set b.toNat v) pg wt n fr = runF xs pg wt n fr
  | n, fr => fun h => by
    obtain ⟨l, e, -⟩ := pathF_pos xs pg wt n fr
    have h0 := h 0 (by rw [e]; simp)
    rw [e] at h0
    have h0 : b ≠ P.at' fr pg n := by simpa using h0
    have e1 : oc (xs.set b.toNat v) fr pg wt n = oc xs fr pg wt n := oc_set hb h0
    cases h1 : oc xs fr pg wt n with
    | fin d => rw [runF_fin h1, runF_fin (e1.trans h1)]
    | go f =>
      cases n with
      | zero => exact absurd h1 oc_zero
      | succ n =>
        rw [runF_go h1, runF_go (e1.trans h1)]
        refine runF_set hb n f fun i hi => ?_
        have := h (i + 1) (by rw [pathF_go h1]; simpa using hi)
        rw [pathF_go h1] at this
        simp only [List.getD_cons_succ] at this
        rw [show ((n + 1 : Nat) : Int) - ((i + 1 : Nat) : Int) = (n : Int) - i by omega] at this
        exact this
/-- A word that is not there changes nothing. -/
theorem storeT_xs (s : St) (a v : Int) : (storeT s a v).xs = if there s a = true then s.xs.set a.toNat v else s.xs := by
  unfold storeT; split <;> rfl
theorem runF_store {s : St} {pg wt b v : Int} (n : Nat) (fr : Int) (h : ∀ i, i < (pathF s.xs pg wt n fr).length → b ≠ P.at' ((pathF s.xs pg wt n fr).getD i 0) pg ((n : Int) - i)) : runF (storeT s b v).xs pg wt n fr = runF s.xs pg wt n fr := by
  rw [storeT_xs]
  split
  · rename_i h1
    exact runF_set (inB_yes.1 h1).1 n fr h
  · rfl

/-! ### What is wanted -/
/-- How what is found hangs on what is wanted. -/
def Wn (k : Int) (f g : Fd) : Prop := if f.e = 0 then g.f = f.f ∧ g.r = f.r ∧ g.v = f.v ∧ ((g.e == 0) = (bits .and .i64 f.r k == k)) ∧ (g.e = 0 ∨ g.e = 7) ∧ 0 < f.r else g = f
theorem bits_and0 (r : Int) (h0 : 0 ≤ r) (h1 : r ≤ 7) : bits .and .i64 r 0 = 0 := by
  obtain rfl | rfl | rfl | rfl | rfl | rfl | rfl | rfl : r = 0 ∨ r = 1 ∨ r = 2 ∨ r = 3 ∨ r = 4 ∨ r = 5 ∨ r = 6 ∨ r = 7 := by omega
  all_goals rfl
theorem al_of {d : P.En} {k : Int} (h : P.rt d = true) (hp : d.p = true) (hr : 0 < d.r) (h0 : 0 ≤ k) (h1 : k ≤ 7) : P.al d k = (bits .and .i64 d.r k == k) := by
  unfold P.al
  rw [h, hp, decide_eq_true hr, P.btw_t h0 h1]
  rfl
theorem arr_wn {d : P.En} {k v f : Int} (h : P.rt d = true) (hp : d.p = true) (hr : 0 < d.r) (h0 : 0 ≤ k) (h1 : k ≤ 7) : Wn k (arr d 0 v f) (arr d k v f) := by
  have h2 := P.rt_in h
  unfold arr
  split
  · unfold Wn
    rw [if_neg (by simp)]
  · rw [al_of h hp hr (Int.le_refl 0) (by omega), al_of h hp hr h0 h1, bits_and0 _ h2.1 h2.2.1]
    unfold Wn
    rw [if_pos (show (if ((0 : Int) == 0) = true then (0 : Int) else 7) = 0 from rfl)]
    refine ⟨rfl, rfl, rfl, ?_, ?_, hr⟩
    · show ((if (bits .and .i64 d.r k == k) = true then (0 : Int) else 7) == 0) = (bits .and .i64 d.r k == k)
      cases bits .and .i64 d.r k == k <;> rfl
    · show (if (bits .and .i64 d.r k == k) = true then (0 : Int) else 7) = 0 ∨ (if (bits .and .i64 d.r k == k) = true then (0 : Int) else 7) = 7
      cases bits .and .i64 d.r k == k <;> simp
theorem wn_bad {k : Int} {f : Fd} (h : f.e ≠ 0) : Wn k f f := by unfold Wn; rw [if_neg h]
theorem rt_pos {d : P.En} (h : P.rt d = true) (hp : d.p = true) (ht : P.tb d = false ∨ d.l = true) : 0 < d.r := by
  have h2 := P.rt_in h
  rcases ht with ht | hl
  · unfold P.tb at ht
    rw [h, hp] at ht
    have : d.r ≠ 0 := by simpa using ht
    omega
  · unfold P.rt at h
    rw [if_pos hp, hl] at h
    simp at h
    exact h.2
theorem kn_wn {d : P.En} {pg k v : Int} (h : P.rt d = true) (h0 : 0 ≤ k) (h1 : k ≤ 7) : (∃ f, kn d pg 0 v = .go f ∧ kn d pg k v = .go f) ∨ (∃ f g, kn d pg 0 v = .fin f ∧ kn d pg k v = .fin g ∧ Wn k f g) := by
  unfold kn
  by_cases c1 : (!d.p) = true
  · rw [if_pos c1, if_pos c1]
    exact .inr ⟨_, _, rfl, rfl, wn_bad (by simp)⟩
  · rw [if_neg c1, if_neg c1]
    have hp : d.p = true := by simpa using c1
    by_cases c2 : (P.tb d && decide (0 < v)) = true
    · rw [if_pos c2, if_pos c2]
      exact .inl ⟨_, rfl, rfl⟩
    · rw [if_neg c2, if_neg c2]
      by_cases c3 : (d.l && v == 1) = true
      · rw [if_pos c3, if_pos c3]
        exact .inr ⟨_, _, rfl, rfl, arr_wn h hp (rt_pos h hp (.inr (by simp only [Bool.and_eq_true] at c3; exact c3.1))) h0 h1⟩
      · rw [if_neg c3, if_neg c3]
        by_cases c4 : (!P.tb d && !d.l && v == 0) = true
        · rw [if_pos c4, if_pos c4]
          exact .inr ⟨_, _, rfl, rfl, arr_wn h hp (rt_pos h hp (.inl (by simp only [Bool.and_eq_true, Bool.not_eq_true'] at c4; exact c4.1.1))) h0 h1⟩
        · rw [if_neg c4, if_neg c4]
          exact .inr ⟨_, _, rfl, rfl, wn_bad (by simp)⟩
theorem oc_wn {xs : List Int} {fr pg k v : Int} (h0 : 0 ≤ k) (h1 : k ≤ 7) : (∃ f, oc xs fr pg 0 v = .go f ∧ oc xs fr pg k v = .go f) ∨ (∃ f g, oc xs fr pg 0 v = .fin f ∧ oc xs fr pg k v = .fin g ∧ Wn k f g) := by
  unfold oc ocx
  by_cases c : (inB xs.length (P.at' fr pg v) && P.prY (wordAt xs (P.at' fr pg v)).toNat) = true
  · rw [if_pos c, if_pos c]
    simp only [Bool.and_eq_true] at c
    exact kn_wn (prY_rt c.2) h0 h1
  · rw [if_neg c, if_neg c]
    exact .inr ⟨_, _, rfl, rfl, wn_bad (by simp)⟩
theorem runF_wn {xs : List Int} {pg k : Int} (h0 : 0 ≤ k) (h1 : k ≤ 7) : ∀ (n : Nat) (fr : Int), Wn k (runF xs pg 0 n fr) (runF xs pg k n fr)
  | n, fr => by
    rcases oc_wn (xs := xs) (fr := fr) (pg := pg) (v := n) h0 h1 with ⟨f, a, b⟩ | ⟨f, g, a, b, c⟩
    · cases n with
      | zero => exact absurd a oc_zero
      | succ n =>
        rw [runF_go a, runF_go b]
        exact runF_wn h0 h1 n f
    · rw [runF_fin a, runF_fin b]
      exact c
end Go.Proofs.YtpfmmlbakbhklaaGreatDoor
namespace Go.Proofs.YtpfmmlbakbhklaaGreatDoor
open Go.RowKit

theorem i64w {x : Int} (h0 : -9223372036854775808 ≤ x) (h1 : x ≤ 9223372036854775807) : IntKind.i64.wrap x = x := by
  simp [IntKind.wrap, IntKind.signed, IntKind.bits]
  omega

structure Wk where
  st : Int
  pg : Int
  wt : Int
  fr : Int
  lv : Int
  p0 : Int
  p1 : Int
  p2 : Int
  p3 : Int
  ld : Int
  fd : Fd
abbrev wkC (x : Wk) : Array Value := #[.int .i64 x.st, .int .i64 x.pg, .int .i64 x.wt, .int .i64 x.fr, .int .i64 x.lv, .int .i64 x.p0, .int .i64 x.p1, .int .i64 x.p2, .int .i64 x.p3, .int .i64 x.ld, .int .i64 x.fd.f, .int .i64 x.fd.r, .int .i64 x.fd.v, .int .i64 x.fd.e]
def IsWk (w : World) (g : Nat) (x : Wk) : Prop := w.heap[g]? = some (.cells (wkC x) 169 (0, 0))
theorem IsWk.lt {w : World} {g : Nat} {x : Wk} (h : IsWk w g x) : g < w.heap.size := lt_of_block h
theorem IsWk.below {w w' : World} {g : Nat} {x : Wk} (h : IsWk w g x) (k : Below w.heap.size w w') : IsWk w' g x := (k.block _ h.lt).trans h
theorem IsWk.free {w : World} {g : Nat} {x : Wk} (h : IsWk w g x) (i : Nat) : w.frozen? ⟨g, i, none⟩ = false := free_of h
theorem IsWk.c0 {w : World} {g : Nat} {x : Wk} (h : IsWk w g x) : w.cell? ⟨g, 0, none⟩ = some (.int .i64 x.st) := cell_of h rfl
theorem IsWk.c1 {w : World} {g : Nat} {x : Wk} (h : IsWk w g x) : w.cell? ⟨g, 1, none⟩ = some (.int .i64 x.pg) := cell_of h rfl
theorem IsWk.c2 {w : World} {g : Nat} {x : Wk} (h : IsWk w g x) : w.cell? ⟨g, 2, none⟩ = some (.int .i64 x.wt) := cell_of h rfl
theorem IsWk.c3 {w : World} {g : Nat} {x : Wk} (h : IsWk w g x) : w.cell? ⟨g, 3, none⟩ = some (.int .i64 x.fr) := cell_of h rfl
theorem IsWk.c4 {w : World} {g : Nat} {x : Wk} (h : IsWk w g x) : w.cell? ⟨g, 4, none⟩ = some (.int .i64 x.lv) := cell_of h rfl
theorem IsWk.c9 {w : World} {g : Nat} {x : Wk} (h : IsWk w g x) : w.cell? ⟨g, 9, none⟩ = some (.int .i64 x.ld) := cell_of h rfl
theorem IsWk.c10 {w : World} {g : Nat} {x : Wk} (h : IsWk w g x) : w.cell? ⟨g, 10, none⟩ = some (.int .i64 x.fd.f) := cell_of h rfl
theorem IsWk.c11 {w : World} {g : Nat} {x : Wk} (h : IsWk w g x) : w.cell? ⟨g, 11, none⟩ = some (.int .i64 x.fd.r) := cell_of h rfl
theorem IsWk.c12 {w : World} {g : Nat} {x : Wk} (h : IsWk w g x) : w.cell? ⟨g, 12, none⟩ = some (.int .i64 x.fd.v) := cell_of h rfl
theorem IsWk.c13 {w : World} {g : Nat} {x : Wk} (h : IsWk w g x) : w.cell? ⟨g, 13, none⟩ = some (.int .i64 x.fd.e) := cell_of h rfl
theorem IsWk.but {w w' : World} {g p b : Nat} {x : Wk} (h : IsWk w g x) (k : But p b w w') (h1 : g ≠ p) (h2 : g ≠ b) : IsWk w' g x := (k.block _ h.lt h1 h2).trans h
theorem But.fresh {p b k i : Nat} {w w' : World} (h : But p b w w') (hk : w.heap.size ≤ k) (v : Value) : But p b w (w'.setCell ⟨k, i, none⟩ v) :=
  ⟨h.os, h.tape, h.output, by have := h.size; simpa [World.setCell] using this, fun j hj h1 h2 => by
    rw [Below.heap_setCell _ _ _ _ (by simp; omega)]
    exact h.block j hj h1 h2⟩
theorem But.own {g i : Nat} {w w' : World} (h : But g g w w') (v : Value) : But g g w (w'.setCell ⟨g, i, none⟩ v) :=
  ⟨h.os, h.tape, h.output, by have := h.size; simpa [World.setCell] using this, fun j hj h1 h2 => by
    rw [Below.heap_setCell _ _ _ _ (by simp; omega)]
    exact h.block j hj h1 h2⟩
theorem hoff {w : World} {g k i : Nat} (h : g ≠ k) (v : Value) : (w.setCell ⟨k, i, none⟩ v).heap[g]? = w.heap[g]? := Below.heap_setCell _ _ _ _ (by simp; omega)

/-- Done, with what is found but for the level, which is where it stands. -/
def endW (x : Wk) (d : Fd) : Wk := { x with st := 2, fd := { d with v := x.lv } }

set_option maxHeartbeats 400000 in
theorem end_at {w : World} {g : Nat} {x : Wk} (h : IsWk w g x) (d : Fd) :
    Calls Tryz.prog 173 #[.pointer (some ⟨g, 0, none⟩), fdV d] w fun e w' => e = .returned (.tuple #[]) ∧ IsWk w' g (endW x d) ∧ But g g w w' := by
  obtain ⟨df, dr, dv, de⟩ := d
  have hl := h.lt
  have c0 := h.c0
  have c4 := h.c4
  have c10 := h.c10
  have c11 := h.c11
  have c12 := h.c12
  have c13 := h.c13
  have f0 := h.free 0
  have f10 := h.free 10
  have f11 := h.free 11
  have f12 := h.free 12
  have f13 := h.free 13
  have hne : g ≠ w.heap.size := by omega
  have hne' : w.heap.size ≠ g := by omega
  have H := hid h
  clear h
  obtain ⟨st, pg, wt, fr, lv, p0, p1, p2, p3, ld, ⟨ff, fr', fv, fe⟩⟩ := x
  show Calls Tryz.prog 173 #[.pointer (some ⟨g, 0, none⟩), .agg #[.int .i64 df, .int .i64 dr, .int .i64 dv, .int .i64 de]] w _
  go_enter Tryz.func173, Tryz.ntmps173
  go_wp2
  go_end0
  refine ⟨rfl, ?_, ?_⟩
  · exact P.hkeep (heap_setCell_self (heap_setCell_self (heap_setCell_self (heap_setCell_self (heap_setCell_self H.out _) _) _) _) _) _
  · exact ((((((But.refl g g w).own _).own _).own _).own _).own _).trans (But.of_below (below_alloc _ _))

set_option maxHeartbeats 400000 in
theorem fail_at {w : World} {g : Nat} {x : Wk} (h : IsWk w g x) (e0 : Int) :
    Calls Tryz.prog 147 #[.pointer (some ⟨g, 0, none⟩), .int .i64 e0] w fun e w' => e = .returned (.tuple #[]) ∧ IsWk w' g (endW x ⟨0, 0, 0, e0⟩) ∧ But g g w w' := by
  have H := hid h
  clear h
  go_enter Tryz.func147, Tryz.ntmps147
  go_wp2_with fail
  refine (end_at H.out ⟨0, 0, 0, e0⟩).mono ?_
  rintro e w1 ⟨rfl, h1⟩
  have H1 := hid h1
  clear h1
  go_wp2
  go_end0
  exact ⟨rfl, H1.out⟩

set_option maxHeartbeats 400000 in
theorem findNone_at {w : World} {g : Nat} {x : Wk} (h : IsWk w g x) (d : P.En) :
    Calls Tryz.prog 175 #[.pointer (some ⟨g, 0, none⟩), P.eV d] w fun e w' => e = .returned (.tuple #[]) ∧ IsWk w' g (endW x ⟨0, 0, 0, 4⟩) ∧ But g g w w' := by
  have H := hid h
  clear h
  obtain ⟨dp, dr, dl, df⟩ := d
  show Calls Tryz.prog 175 #[.pointer (some ⟨g, 0, none⟩), .agg #[.bool dp, .int .i64 dr, .bool dl, .int .i64 df]] w _
  go_enter Tryz.func175, Tryz.ntmps175
  go_wp2_with fail
  refine (fail_at (H.out.below (below_alloc _ _)) 4).mono ?_
  rintro e w1 ⟨rfl, h1, h2⟩
  have H1 := hid h1
  have H2 := hid ((But.of_below (below_alloc w _)).trans h2)
  clear h1 h2
  go_wp2
  go_end0
  exact ⟨rfl, H1.out, H2.out⟩

set_option maxHeartbeats 400000 in
theorem findWrong_at {w : World} {g : Nat} {x : Wk} (h : IsWk w g x) (d : P.En) :
    Calls Tryz.prog 183 #[.pointer (some ⟨g, 0, none⟩), P.eV d] w fun e w' => e = .returned (.tuple #[]) ∧ IsWk w' g (endW x ⟨0, 0, 0, 11⟩) ∧ But g g w w' := by
  have H := hid h
  clear h
  obtain ⟨dp, dr, dl, df⟩ := d
  show Calls Tryz.prog 183 #[.pointer (some ⟨g, 0, none⟩), .agg #[.bool dp, .int .i64 dr, .bool dl, .int .i64 df]] w _
  go_enter Tryz.func183, Tryz.ntmps183
  go_wp2_with fail
  refine (fail_at (H.out.below (below_alloc _ _)) 11).mono ?_
  rintro e w1 ⟨rfl, h1, h2⟩
  have H1 := hid h1
  have H2 := hid ((But.of_below (below_alloc w _)).trans h2)
  clear h1 h2
  go_wp2
  go_end0
  exact ⟨rfl, H1.out, H2.out⟩

def downW (x : Wk) (f : Int) : Wk := { x with fr := f, lv := x.lv - 1 }
set_option maxHeartbeats 400000 in
theorem goDown_at {w : World} {g : Nat} {x : Wk} (h : IsWk w g x) (d : P.En) (l0 : 0 ≤ x.lv) (l1 : x.lv ≤ 3) :
    Calls Tryz.prog 177 #[.pointer (some ⟨g, 0, none⟩), P.eV d] w fun e w' => e = .returned (.tuple #[]) ∧ IsWk w' g (downW x d.f) ∧ But g g w w' := by
  obtain ⟨dp, dr, dl, df⟩ := d
  have hl := h.lt
  have c3 := h.c3
  have c4 := h.c4
  have f3 := h.free 3
  have f4 := h.free 4
  have hw : IntKind.i64.wrap (x.lv - 1) = x.lv - 1 := i64w (by omega) (by omega)
  have hne : g ≠ w.heap.size := by omega
  have hne' : w.heap.size ≠ g := by omega
  have H := hid h
  clear h
  obtain ⟨st, pg, wt, fr, lv, p0, p1, p2, p3, ld, fd⟩ := x
  show Calls Tryz.prog 177 #[.pointer (some ⟨g, 0, none⟩), .agg #[.bool dp, .int .i64 dr, .bool dl, .int .i64 df]] w _
  go_enter Tryz.func177, Tryz.ntmps177
  go_wp2
  go_end0
  refine ⟨rfl, ?_, ?_⟩
  · exact P.hkeep (heap_setCell_self (heap_setCell_self H.out _) _) _
  · exact (((But.refl g g w).own _).own _).trans (But.of_below (below_alloc _ _))

/-- Done in a frame. -/
def arrW (x : Wk) (d : P.En) (f : Int) : Wk := endW x (arr d x.wt x.lv f)
/-- What is asked for while an entry's box and a walker are read. -/
abbrev Sr (W0 : World) (g k i : Nat) (dp : Bool) (dr : Int) (dl : Bool) (df z : Int) (w' : World) : Prop :=
  w'.cell? ⟨k, 0, none⟩ = some (.bool dp) ∧ w'.cell? ⟨k, 1, none⟩ = some (.int .i64 dr) ∧ w'.cell? ⟨k, 2, none⟩ = some (.bool dl) ∧ w'.cell? ⟨k, 3, none⟩ = some (.int .i64 df) ∧ w'.cell? ⟨g, i, none⟩ = some (.int .i64 z) ∧ Below W0.heap.size W0 w'
theorem Sr.of {W0 w' : World} {g k i : Nat} {dp : Bool} {dr : Int} {dl : Bool} {df z : Int} {x : Wk} (hx : IsWk W0 g x) (hz : (wkC x)[i]? = some (.int .i64 z)) (hk : W0.heap[k]? = some (.cells #[.bool dp, .int .i64 dr, .bool dl, .int .i64 df] 95 (0, 0))) (hB : Below W0.heap.size W0 w') : Sr W0 g k i dp dr dl df z w' := by
  have h1 := P.stay hB hk
  exact ⟨cell_of h1 rfl, cell_of h1 rfl, cell_of h1 rfl, cell_of h1 rfl, cell_of (hx.below hB) hz, hB⟩
theorem Sr.step {W0 w' w2 : World} {g k i : Nat} {dp : Bool} {dr : Int} {dl : Bool} {df z : Int} (h : Sr W0 g k i dp dr dl df z w') (hB : Below w'.heap.size w' w2) : Sr W0 g k i dp dr dl df z w2 := by
  obtain ⟨a, b, c, d, e, f⟩ := h
  have lt : ∀ {q j : Nat} {v : Value}, w'.cell? ⟨q, j, none⟩ = some v → q < w'.heap.size := fun h => World.block_lt_of_cell? w' ⟨_, _, none⟩ h
  exact ⟨(hB.cell (p := ⟨k, 0, none⟩) (lt a)).trans a, (hB.cell (p := ⟨k, 1, none⟩) (lt b)).trans b, (hB.cell (p := ⟨k, 2, none⟩) (lt c)).trans c, (hB.cell (p := ⟨k, 3, none⟩) (lt d)).trans d, (hB.cell (p := ⟨g, i, none⟩) (lt e)).trans e, f.trans (hB.mono f.size)⟩
set_option maxHeartbeats 1000000 in
theorem arrive_at {w : World} {g : Nat} {x : Wk} (h : IsWk w g x) (d : P.En) (f : Int) (w0 : 0 ≤ x.wt) (w1 : x.wt ≤ 7) :
    Calls Tryz.prog 194 #[.pointer (some ⟨g, 0, none⟩), P.eV d, .int .i64 f] w fun e w' => e = .returned (.tuple #[]) ∧ IsWk w' g (arrW x d f) ∧ But g g w w' := by
  have hl := h.lt
  by_cases hf : 4096 ≤ f
  · have e1 : arrW x d f = endW x ⟨0, 0, 0, 11⟩ := by unfold arrW arr; rw [if_pos hf]; rfl
    rw [e1]
    have H := hid h
    clear h e1
    obtain ⟨dp, dr, dl, df⟩ := d
    show Calls Tryz.prog 194 #[.pointer (some ⟨g, 0, none⟩), .agg #[.bool dp, .int .i64 dr, .bool dl, .int .i64 df], .int .i64 f] w _
    go_enter Tryz.func194, Tryz.ntmps194
    go_wp2_with fail
    refine (fail_at (H.out.below (below_alloc _ _)) 11).mono ?_
    rintro e w1 ⟨rfl, h1, h2⟩
    have H1 := hid h1
    have H2 := hid ((But.of_below (below_alloc w _)).trans h2)
    clear h1 h2
    go_wp2
    first | go_end0 | (refine bodyPost_ret (results_none rfl _ _ _) rfl ?_)
    exact ⟨rfl, H1.out, H2.out⟩
  · have e1 : arrW x d f = endW x ⟨f, d.r, 0, if P.al d x.wt = true then 0 else 7⟩ := by unfold arrW arr; rw [if_neg hf]; rfl
    rw [e1]
    have hA := hid (fun W => P.allows_at d x.wt (by omega) (by omega) W)
    obtain ⟨bb, hb⟩ : ∃ bb, P.al d x.wt = bb := ⟨_, rfl⟩
    rw [hb] at hA ⊢
    obtain ⟨dp, dr, dl, df⟩ := d
    have hS0 : Sr (w.alloc (.cells #[.bool dp, .int .i64 dr, .bool dl, .int .i64 df] 95)) g w.heap.size 2 dp dr dl df x.wt (w.alloc (.cells #[.bool dp, .int .i64 dr, .bool dl, .int .i64 df] 95)).drew :=
      Sr.of (h.below (below_alloc _ _)) rfl (heap_alloc_new _ _) (Below.refl _ _).drew
    have H := hid h
    clear h e1 hb w0 w1
    generalize x.wt = wt at hA hS0
    cases bb
    all_goals
      show Calls Tryz.prog 194 #[.pointer (some ⟨g, 0, none⟩), .agg #[.bool dp, .int .i64 dr, .bool dl, .int .i64 df], .int .i64 f] w _
      go_enter Tryz.func194, Tryz.ntmps194
      go_wp2_with fail
      go_region_held3 (Sr (w.alloc (.cells #[.bool dp, .int .i64 dr, .bool dl, .int .i64 df] 95)) g w.heap.size 2 dp dr dl df wt) (first | exact hS0 | assumption)
        (first
          | (go_at_call 201; refine (hA.out _).mono ?_; rintro e w' ⟨rfl, hB⟩; have hS' := Sr.step (by assumption) hB))
      rename_i hHeld
      clear hHeld hS0
      have hB : Below (w.alloc (.cells #[.bool dp, .int .i64 dr, .bool dl, .int .i64 df] 95)).heap.size (w.alloc (.cells #[.bool dp, .int .i64 dr, .bool dl, .int .i64 df] 95)) _ := hS'.2.2.2.2.2
      have HB := hid ((below_alloc w _).trans (hB.mono (by simp)))
      have p1 := hS'.2.1
      clear hS' hB
      go_wp2_with fail
      refine (end_at (H.out.below HB.out) ⟨_, _, 0, _⟩).mono ?_
      rintro e w3 ⟨rfl, h1, h2⟩
      have H1 := hid h1
      have H2 := hid ((But.of_below HB.out).trans h2)
      clear h1 h2
      go_wp2
      go_end0
      exact ⟨rfl, H1.out, H2.out⟩
end Go.Proofs.YtpfmmlbakbhklaaGreatDoor
namespace Go.Proofs.YtpfmmlbakbhklaaGreatDoor
open Go.RowKit

set_option maxHeartbeats 400000 in
theorem reach_at {w : World} {g : Nat} {x : Wk} (h : IsWk w g x) (d : P.En) (w0 : 0 ≤ x.wt) (w1 : x.wt ≤ 7) :
    Calls Tryz.prog 181 #[.pointer (some ⟨g, 0, none⟩), P.eV d] w fun e w' => e = .returned (.tuple #[]) ∧ IsWk w' g (arrW x d d.f) ∧ But g g w w' := by
  have HA := hid (arrive_at (h.below (below_alloc w (.cells #[.bool d.p, .int .i64 d.r, .bool d.l, .int .i64 d.f] 95))) d d.f w0 w1)
  clear h w0 w1
  obtain ⟨dp, dr, dl, df⟩ := d
  show Calls Tryz.prog 181 #[.pointer (some ⟨g, 0, none⟩), .agg #[.bool dp, .int .i64 dr, .bool dl, .int .i64 df]] w _
  go_enter Tryz.func181, Tryz.ntmps181
  go_wp2_with fail
  refine HA.out.mono ?_
  rintro e w1 ⟨rfl, h1, h2⟩
  have H1 := hid h1
  have H2 := hid ((But.of_below (below_alloc w _)).trans h2)
  clear h1 h2
  go_wp2
  go_end0
  exact ⟨rfl, H1.out, H2.out⟩

abbrev Sp (g k : Nat) (dp : Bool) (dr : Int) (dl : Bool) (df z : Int) (w' : World) : Prop :=
  w'.cell? ⟨k, 0, none⟩ = some (.bool dp) ∧ w'.cell? ⟨k, 1, none⟩ = some (.int .i64 dr) ∧ w'.cell? ⟨k, 2, none⟩ = some (.bool dl) ∧ w'.cell? ⟨k, 3, none⟩ = some (.int .i64 df) ∧ w'.cell? ⟨g, 1, none⟩ = some (.int .i64 z)
theorem tmod16 {a : Int} (h : 0 ≤ a) : a.tmod 16 = a % 16 := Int.tmod_eq_emod_of_nonneg h
set_option maxHeartbeats 1000000 in
theorem reachPart_at {w : World} {g : Nat} {x : Wk} (h : IsWk w g x) (d : P.En) (w0 : 0 ≤ x.wt) (w1 : x.wt ≤ 7) (g0 : 0 ≤ x.pg) (f0 : 0 ≤ d.f) (f1 : d.f ≤ 4095) :
    Calls Tryz.prog 179 #[.pointer (some ⟨g, 0, none⟩), P.eV d] w fun e w' => e = .returned (.tuple #[]) ∧ IsWk w' g (arrW x d (d.f + x.pg % 16)) ∧ But g g w w' := by
  have hl := h.lt
  have e1 := tmod16 g0
  have e2 : IntKind.i64.wrap (x.pg % 16) = x.pg % 16 := i64w (by omega) (by omega)
  have e3 : IntKind.i64.wrap (d.f + x.pg % 16) = d.f + x.pg % 16 := i64w (by omega) (by omega)
  have HA := hid (arrive_at (h.below (((Below.refl _ _).alloc (Nat.le_refl _) (.cells #[.bool d.p, .int .i64 d.r, .bool d.l, .int .i64 d.f] 95)).drew)) d (d.f + x.pg % 16) w0 w1)
  have HX := hid (h.below (((Below.refl _ _).alloc (Nat.le_refl _) (.cells #[.bool d.p, .int .i64 d.r, .bool d.l, .int .i64 d.f] 95)).drew))
  have hb := P.stay ((Below.refl _ (w.alloc (.cells #[.bool d.p, .int .i64 d.r, .bool d.l, .int .i64 d.f] 95))).drew) (heap_alloc_new w (.cells #[.bool d.p, .int .i64 d.r, .bool d.l, .int .i64 d.f] 95 (0, 0)))
  have HB : Hid (But g g w (w.alloc (.cells #[.bool d.p, .int .i64 d.r, .bool d.l, .int .i64 d.f] 95)).drew) := hid (But.of_below (((Below.refl _ _).alloc (Nat.le_refl _) _).drew))
  have hg : w.heap.size ≠ g := by omega
  clear h w0 w1 g0 f0 f1
  obtain ⟨dp, dr, dl, df⟩ := d
  simp only at *
  have hS0 : Sp g w.heap.size dp dr dl df x.pg (w.alloc (.cells #[.bool dp, .int .i64 dr, .bool dl, .int .i64 df] 95)).drew := ⟨cell_of hb rfl, cell_of hb rfl, cell_of hb rfl, cell_of hb rfl, HX.out.c1⟩
  have HH := hid (HA.out.mono (R' := fun e w' => e = .returned (.tuple #[]) ∧ Hid (IsWk w' g (arrW x ⟨dp, dr, dl, df⟩ (df + x.pg % 16)) ∧ But g g w w') ∧ Sp g w.heap.size dp dr dl df x.pg w') fun e w' ⟨a, b, c⟩ =>
    have hb' := (c.block _ (by simp) hg hg).trans hb
    ⟨a, hid ⟨b, HB.out.trans c⟩, cell_of hb' rfl, cell_of hb' rfl, cell_of hb' rfl, cell_of hb' rfl, b.c1⟩)
  clear HA HB hb hg
  simp only [Sp] at hS0 HH
  generalize x.pg = pg at *
  show Calls Tryz.prog 179 #[.pointer (some ⟨g, 0, none⟩), .agg #[.bool dp, .int .i64 dr, .bool dl, .int .i64 df]] w _
  go_enter Tryz.func179, Tryz.ntmps179
  go_wp2_with fail
  go_region_held3 (fun w' => w'.cell? ⟨w.heap.size, 0, none⟩ = some (.bool dp) ∧ w'.cell? ⟨w.heap.size, 1, none⟩ = some (.int .i64 dr) ∧ w'.cell? ⟨w.heap.size, 2, none⟩ = some (.bool dl) ∧ w'.cell? ⟨w.heap.size, 3, none⟩ = some (.int .i64 df) ∧ w'.cell? ⟨g, 1, none⟩ = some (.int .i64 pg)) (first | with_reducible exact hS0 | with_reducible assumption)
    (first
      | (go_at_call 85; refine (P.n_at (c := 16) (P.span_at 1 _) (by decide)).mono ?_; rintro e v' ⟨rfl, hw'⟩; rw [hw']; clear hw' v')
      | (go_at_call 194; refine HH.out.mono ?_; rintro e v' ⟨rfl, hm', hs'⟩))
  go_wp2
  go_end0
  exact ⟨rfl, hm'.out⟩

/-! ### Which kind an entry is of -/
set_option maxHeartbeats 400000 in
theorem isAbsent_at (d : P.En) (v : Int) (w : World) : Calls Tryz.prog 174 #[P.eV d, .int .i64 v] w fun e w' => e = .returned (.bool (!d.p)) ∧ Below w.heap.size w w' := by
  obtain ⟨dp, dr, dl, df⟩ := d
  show Calls Tryz.prog 174 #[.agg #[.bool dp, .int .i64 dr, .bool dl, .int .i64 df], .int .i64 v] w _
  go_enter Tryz.func174, Tryz.ntmps174
  go_wp2
  go_ret
  exact ⟨rfl, below_alloc _ _⟩

set_option maxHeartbeats 400000 in
theorem leadsOn_at (d : P.En) (v : Int) (w : World) : Calls Tryz.prog 176 #[P.eV d, .int .i64 v] w fun e w' => e = .returned (.bool (P.tb d && decide (0 < v))) ∧ Below w.heap.size w w' := by
  obtain ⟨b, hb⟩ : ∃ b, P.tb d = b := ⟨_, rfl⟩
  have HT := hid hb
  rw [hb]
  clear hb
  obtain ⟨dp, dr, dl, df⟩ := d
  cases b
  · show Calls Tryz.prog 176 #[.agg #[.bool dp, .int .i64 dr, .bool dl, .int .i64 df], .int .i64 v] w _
    go_enter Tryz.func176, Tryz.ntmps176
    go_wp2_with fail
    refine (P.bl_at (P.table_at ⟨dp, dr, dl, df⟩ _) HT.out).mono ?_
    rintro e w1 ⟨rfl, hB⟩
    have HB := hid (bel_trans (below_alloc w _) hB)
    clear hB
    go_wp2
    go_ret
    exact ⟨rfl, HB.out⟩
  · by_cases h0 : 0 < v
    all_goals
      show Calls Tryz.prog 176 #[.agg #[.bool dp, .int .i64 dr, .bool dl, .int .i64 df], .int .i64 v] w _
      go_enter Tryz.func176, Tryz.ntmps176
      go_wp2_with fail
      refine (P.bl_at (P.table_at ⟨dp, dr, dl, df⟩ _) HT.out).mono ?_
      rintro e w1 ⟨rfl, hB⟩
      have HB := hid (bel_trans (below_alloc w _) hB)
      clear hB
      go_wp2
      go_ret
      refine ⟨?_, HB.out⟩
      simp [h0]

set_option maxHeartbeats 400000 in
theorem isLarge_at (d : P.En) (v : Int) (w : World) : Calls Tryz.prog 178 #[P.eV d, .int .i64 v] w fun e w' => e = .returned (.bool (d.l && v == 1)) ∧ Below w.heap.size w w' := by
  obtain ⟨dp, dr, dl, df⟩ := d
  cases dl
  · show Calls Tryz.prog 178 #[.agg #[.bool dp, .int .i64 dr, .bool false, .int .i64 df], .int .i64 v] w _
    go_enter Tryz.func178, Tryz.ntmps178
    go_wp2
    go_ret
    exact ⟨rfl, below_alloc _ _⟩
  · show Calls Tryz.prog 178 #[.agg #[.bool dp, .int .i64 dr, .bool true, .int .i64 df], .int .i64 v] w _
    go_enter Tryz.func178, Tryz.ntmps178
    go_wp2
    go_ret
    exact ⟨rfl, below_alloc _ _⟩

set_option maxHeartbeats 400000 in
theorem isSmall_at (d : P.En) (v : Int) (w : World) : Calls Tryz.prog 180 #[P.eV d, .int .i64 v] w fun e w' => e = .returned (.bool (!P.tb d && !d.l && v == 0)) ∧ Below w.heap.size w w' := by
  obtain ⟨b, hb⟩ : ∃ b, P.tb d = b := ⟨_, rfl⟩
  have HT := hid hb
  rw [hb]
  clear hb
  obtain ⟨dp, dr, dl, df⟩ := d
  cases b <;> cases dl
  all_goals
    show Calls Tryz.prog 180 #[.agg #[.bool dp, .int .i64 dr, .bool _, .int .i64 df], .int .i64 v] w _
    go_enter Tryz.func180, Tryz.ntmps180
    go_wp2_with fail
    refine (P.bl_at (P.table_at ⟨dp, dr, _, df⟩ _) HT.out).mono ?_
    rintro e w1 ⟨rfl, hB⟩
    have c2 := cell_of (i := 2) (P.stay hB (heap_alloc_new w _)) rfl
    have HB := hid (bel_trans (below_alloc w _) hB)
    clear hB
    go_wp2
    go_ret
    exact ⟨rfl, HB.out⟩

set_option maxHeartbeats 400000 in
theorem isElse_at (d : P.En) (v : Int) (w : World) : Calls Tryz.prog 182 #[P.eV d, .int .i64 v] w fun e w' => e = .returned (.bool true) ∧ Below w.heap.size w w' := by
  obtain ⟨dp, dr, dl, df⟩ := d
  show Calls Tryz.prog 182 #[.agg #[.bool dp, .int .i64 dr, .bool dl, .int .i64 df], .int .i64 v] w _
  go_enter Tryz.func182, Tryz.ntmps182
  go_wp2
  go_ret
  exact ⟨rfl, below_alloc _ _⟩

/-! ### The table -/
def isF (i : Nat) : FuncId := match i with | 0 => 174 | 1 => 176 | 2 => 178 | 3 => 180 | _ => 182
def beF (i : Nat) : FuncId := match i with | 0 => 175 | 1 => 177 | 2 => 179 | 3 => 181 | _ => 183
def isB (i : Nat) (d : P.En) (v : Int) : Bool := match i with | 0 => !d.p | 1 => P.tb d && decide (0 < v) | 2 => d.l && v == 1 | 3 => !P.tb d && !d.l && v == 0 | _ => true
def beW (i : Nat) (x : Wk) (d : P.En) : Wk := match i with | 0 => endW x ⟨0, 0, 0, 4⟩ | 1 => downW x d.f | 2 => arrW x d (d.f + x.pg % 16) | 3 => arrW x d d.f | _ => endW x ⟨0, 0, 0, 11⟩
abbrev kC : Array Value := #[.func (.func 174) #[] #[], .func (.func 175) #[] #[], .func (.func 176) #[] #[], .func (.func 177) #[] #[], .func (.func 178) #[] #[], .func (.func 179) #[] #[], .func (.func 180) #[] #[], .func (.func 181) #[] #[], .func (.func 182) #[] #[], .func (.func 183) #[] #[]]
theorem is_at (i : Nat) (d : P.En) (v : Int) (w : World) : Calls Tryz.prog (isF i) #[P.eV d, .int .i64 v] w fun e w' => e = .returned (.bool (isB i d v)) ∧ Below w.heap.size w w' := by
  match i with
  | 0 => exact isAbsent_at d v w
  | 1 => exact leadsOn_at d v w
  | 2 => exact isLarge_at d v w
  | 3 => exact isSmall_at d v w
  | _ + 4 => exact isElse_at d v w
/-- A walker that goes on: the numbers in it, and what they are below. -/
structure WOk (x : Wk) : Prop where
  pg0 : 0 ≤ x.pg
  pg1 : x.pg ≤ 65535
  wt0 : 0 ≤ x.wt
  wt1 : x.wt ≤ 7
  fr0 : 0 ≤ x.fr
  fr1 : x.fr ≤ 4095
  lv0 : 0 ≤ x.lv
  lv1 : x.lv ≤ 3
theorem be_at (i : Nat) {w : World} {g : Nat} {x : Wk} (h : IsWk w g x) (k : WOk x) (d : P.En) (f0 : 0 ≤ d.f) (f1 : d.f ≤ 4095) :
    Calls Tryz.prog (beF i) #[.pointer (some ⟨g, 0, none⟩), P.eV d] w fun e w' => e = .returned (.tuple #[]) ∧ IsWk w' g (beW i x d) ∧ But g g w w' := by
  match i with
  | 0 => exact findNone_at h d
  | 1 => exact goDown_at h d k.lv0 k.lv1
  | 2 => exact reachPart_at h d k.wt0 k.wt1 k.pg0 f0 f1
  | 3 => exact reach_at h d k.wt0 k.wt1
  | _ + 4 => exact findWrong_at h d
theorem kC_at (i : Nat) (h : i < 5) : kC[i * 2]? = some (.func (.func (isF i)) #[] #[]) ∧ kC[i * 2 + 1]? = some (.func (.func (beF i)) #[] #[]) := by
  match i, h with
  | 0, _ => exact ⟨rfl, rfl⟩
  | 1, _ => exact ⟨rfl, rfl⟩
  | 2, _ => exact ⟨rfl, rfl⟩
  | 3, _ => exact ⟨rfl, rfl⟩
  | 4, _ => exact ⟨rfl, rfl⟩
set_option maxHeartbeats 400000 in
theorem kinds_at (w : World) : Calls Tryz.prog 148 #[] w fun e w' => e = .returned (.slice (some ⟨w.heap.size, 0, none⟩) 5 5) ∧ w' = w.alloc (.cells kC 212) := by
  go_enter Tryz.func148, Tryz.ntmps148
  go_wp2
  go_ret
  exact ⟨rfl, rfl⟩
end Go.Proofs.YtpfmmlbakbhklaaGreatDoor
namespace Go.Proofs.YtpfmmlbakbhklaaGreatDoor
open Go.RowKit

/-- The table is written down. -/
def putP (x : Wk) (n : Nat) : Wk := match n with
  | 0 => { x with p0 := x.fr, ld := 1 }
  | 1 => { x with p1 := x.fr, ld := 2 }
  | 2 => { x with p2 := x.fr, ld := 3 }
  | _ => { x with p3 := x.fr, ld := 4 }
def ocW (o : Oc) (y : Wk) : Wk := match o with | .go f => downW y f | .fin d => endW y d
theorem putP_st (x : Wk) (n : Nat) : (putP x n).st = x.st ∧ (putP x n).pg = x.pg ∧ (putP x n).wt = x.wt ∧ (putP x n).fr = x.fr ∧ (putP x n).lv = x.lv := by
  match n with
  | 0 => exact ⟨rfl, rfl, rfl, rfl, rfl⟩
  | 1 => exact ⟨rfl, rfl, rfl, rfl, rfl⟩
  | 2 => exact ⟨rfl, rfl, rfl, rfl, rfl⟩
  | _ + 3 => exact ⟨rfl, rfl, rfl, rfl, rfl⟩
theorem WOk.putP {x : Wk} (k : WOk x) (n : Nat) : WOk (putP x n) := by
  obtain ⟨-, a, b, c, d⟩ := putP_st x n
  exact ⟨by rw [a]; exact k.pg0, by rw [a]; exact k.pg1, by rw [b]; exact k.wt0, by rw [b]; exact k.wt1, by rw [c]; exact k.fr0, by rw [c]; exact k.fr1, by rw [d]; exact k.lv0, by rw [d]; exact k.lv1⟩
theorem endW_eq (y : Wk) (f r v v' e : Int) : endW y ⟨f, r, v, e⟩ = endW y ⟨f, r, v', e⟩ := rfl
theorem kind_eq (y : Wk) (d : P.En) (i : Nat) (h : isB i d y.lv = true) (hn : ∀ j, j < i → isB j d y.lv = false) : beW i y d = ocW (kn d y.pg y.wt y.lv) y := by
  have f : ∀ {b : Bool}, b = false → ¬ b = true := fun h h' => by rw [h] at h'; cases h'
  have n0 : 0 < i → ¬ (!d.p) = true := fun hi => f (hn 0 hi)
  have n1 : 1 < i → ¬ (P.tb d && decide (0 < y.lv)) = true := fun hi => f (hn 1 hi)
  have n2 : 2 < i → ¬ (d.l && y.lv == 1) = true := fun hi => f (hn 2 hi)
  have n3 : 3 < i → ¬ (!P.tb d && !d.l && y.lv == 0) = true := fun hi => f (hn 3 hi)
  clear hn
  unfold kn
  match i with
  | 0 => rw [if_pos (show (!d.p) = true from h)]; rfl
  | 1 =>
    rw [if_neg (n0 (by omega)), if_pos (show (P.tb d && decide (0 < y.lv)) = true from h)]; rfl
  | 2 =>
    rw [if_neg (n0 (by omega)), if_neg (n1 (by omega)), if_pos (show (d.l && y.lv == 1) = true from h)]; rfl
  | 3 =>
    rw [if_neg (n0 (by omega)), if_neg (n1 (by omega)), if_neg (n2 (by omega)), if_pos (show (!P.tb d && !d.l && y.lv == 0) = true from h)]; rfl
  | n + 4 =>
    rw [if_neg (n0 (by omega)), if_neg (n1 (by omega)), if_neg (n2 (by omega)), if_neg (n3 (by omega))]; rfl
def pAt (x : Wk) (n : Nat) : Int := match n with | 0 => x.p0 | 1 => x.p1 | 2 => x.p2 | _ => x.p3
theorem IsWk.path {w : World} {g : Nat} {x : Wk} (h : IsWk w g x) (n : Nat) (hn : n < 4) : w.cell? ⟨g, 5 + n, none⟩ = some (.int .i64 (pAt x n)) := by
  refine cell_of h ?_
  match n, hn with
  | 0, _ => rfl
  | 1, _ => rfl
  | 2, _ => rfl
  | 3, _ => rfl
theorem IsWk.put {w : World} {g : Nat} {x : Wk} (h : IsWk w g x) (n : Nat) (hn : n < 4) : IsWk ((w.setCell ⟨g, 5 + n, none⟩ (.int .i64 x.fr)).setCell ⟨g, 9, none⟩ (.int .i64 ((n : Int) + 1))) g (putP x n) := by
  refine (heap_setCell_self (heap_setCell_self h _) _).trans ?_
  match n, hn with
  | 0, _ => rfl
  | 1, _ => rfl
  | 2, _ => rfl
  | 3, _ => rfl

theorem size_put (w : World) (g i j : Nat) (a b : Value) : ((w.setCell ⟨g, i, none⟩ a).setCell ⟨g, j, none⟩ b).heap.size = w.heap.size := by simp [World.setCell]
/-- What stands behind the call of Parse. -/
theorem mid_of {w w1 : World} {g : Nat} {x : Wk} (h : IsWk w g x) (n : Nat) (h4 : n < 4) (c : Array Value)
    (hB : Below (((w.setCell ⟨g, 5 + n, none⟩ (.int .i64 x.fr)).setCell ⟨g, 9, none⟩ (.int .i64 ((n : Int) + 1))).alloc (.cells c 172)).drew.heap.size (((w.setCell ⟨g, 5 + n, none⟩ (.int .i64 x.fr)).setCell ⟨g, 9, none⟩ (.int .i64 ((n : Int) + 1))).alloc (.cells c 172)).drew w1) :
    IsWk w1 g (putP x n) ∧ w1.heap[w.heap.size]? = some (.cells c 172 (0, 0)) ∧ But g g w w1 ∧ w.heap.size < w1.heap.size := by
  have hs := size_put w g (5 + n) 9 (.int .i64 x.fr) (.int .i64 ((n : Int) + 1))
  have hp := h.put n h4
  have hb : But g g w ((w.setCell ⟨g, 5 + n, none⟩ (.int .i64 x.fr)).setCell ⟨g, 9, none⟩ (.int .i64 ((n : Int) + 1))) := ((But.refl g g w).own _).own _
  generalize (w.setCell ⟨g, 5 + n, none⟩ (.int .i64 x.fr)).setCell ⟨g, 9, none⟩ (.int .i64 ((n : Int) + 1)) = W at *
  have hA : Below W.heap.size W (W.alloc (.cells c 172)).drew := ((Below.refl _ _).alloc (Nat.le_refl _) _).drew
  have hn := heap_alloc_new W (.cells c 172 (0, 0))
  have hn := P.stay hB (P.stay ((Below.refl _ (W.alloc (.cells c 172))).drew) hn)
  have hAll := hA.trans (hB.mono hA.size)
  refine ⟨hp.below hAll, by rw [← hs]; exact hn, hb.trans (But.of_below hAll), ?_⟩
  rw [← hs]
  exact lt_of_block hn

set_option maxRecDepth 100000 in
set_option maxHeartbeats 1000000 in
theorem goOn_bad {w : World} {g : Nat} {x : Wk} (h : IsWk w g x) (n : Nat) (hn : x.ld = n) (h4 : n < 4) (v : Nat) (hv : v < 18446744073709551616) (ok : Bool) (e : Int) (hb : (e == 0 && P.prY v) = false) :
    Calls Tryz.prog 105 #[.pointer (some ⟨g, 0, none⟩), reV ⟨v, ok, e⟩] w fun r w' => r = .returned (.tuple #[]) ∧ IsWk w' g (endW (putP x n) ⟨0, 0, 0, 11⟩) ∧ But g g w w' := by
  have hl := h.lt
  have c9 := h.c9
  have c3 := h.c3
  have cn := h.path n h4
  have f9 := h.free 9
  have fn := h.free (5 + n)
  have hw : IntKind.i64.wrap ((n : Int) + 1) = (n : Int) + 1 := i64w (by omega) (by omega)
  have hlt : (n : Int) < 4 := by omega
  rw [hn] at c9
  have HX := hid h
  have HD := hid hb
  obtain ⟨⟨dp, dr, dl, df⟩, hD⟩ : ∃ D, P.prD v = D := ⟨_, rfl⟩
  obtain ⟨bb, hY⟩ : ∃ b, P.prY v = b := ⟨_, rfl⟩
  have HP := hid (fun W => P.parse_at v hv W)
  rw [hD, hY] at HP
  rw [hY] at HD
  clear h hn hb hD hY
  show Calls Tryz.prog 105 #[.pointer (some ⟨g, 0, none⟩), .agg #[.int .u64 v, .bool ok, .int .i64 e]] w _
  go_enter Tryz.func105, Tryz.ntmps105
  go_wp2_with fail
  go_region
  go_wp2_with fail
  refine (HP.out _).mono ?_
  rintro r w1 ⟨rfl, hB⟩
  obtain ⟨m1, m2, m3, m4⟩ := mid_of HX.out n h4 _ hB
  have c2 := cell_of (i := 2) m2 rfl
  have HM := hid m1
  have HB := hid m3
  clear hB m1 m2 m3 c9 c3 cn f9 fn hw hlt hl
  simp only [P.ptwo, P.eV]
  cases hE : e == 0
  · cases bb
    all_goals
      have he : (e != 0) = true := by simp [bne, hE]
      clear HD hE
      go_wp2_with fail
      refine (fail_at (HM.out.below (below_alloc _ _)) 11).mono ?_
      rintro r w2 ⟨rfl, h1, h2⟩
      have H1 := hid h1
      have H2 := hid (HB.out.trans ((But.of_below (below_alloc _ _)).trans h2))
      clear h1 h2
      go_wp2
      first | go_end0 | (refine bodyPost_ret (results_none rfl _ _ _) rfl ?_)
      exact ⟨rfl, H1.out, H2.out⟩
  · have h0 : e = 0 := by simpa using hE
    subst h0
    have hbb : bb = false := by have := HD.out; simpa using this
    subst hbb
    clear HD hE
    go_wp2_with fail
    refine (fail_at (HM.out.below (below_alloc _ _)) 11).mono ?_
    rintro r w2 ⟨rfl, h1, h2⟩
    have H1 := hid h1
    have H2 := hid (HB.out.trans ((But.of_below (below_alloc _ _)).trans h2))
    clear h1 h2
    go_wp2
    first | go_end0 | (refine bodyPost_ret (results_none rfl _ _ _) rfl ?_)
    exact ⟨rfl, H1.out, H2.out⟩

theorem is_enters (i : Nat) (args : Array Value) (w : World) : (callFunc (isF i) args).run Tryz.prog w = .ok (.enter (isF i) args) w := by
  match i with
  | 0 => exact enters_of Tryz.func174 (by kernel_rfl) rfl args w
  | 1 => exact enters_of Tryz.func176 (by kernel_rfl) rfl args w
  | 2 => exact enters_of Tryz.func178 (by kernel_rfl) rfl args w
  | 3 => exact enters_of Tryz.func180 (by kernel_rfl) rfl args w
  | _ + 4 => exact enters_of Tryz.func182 (by kernel_rfl) rfl args w
theorem be_enters (i : Nat) (args : Array Value) (w : World) : (callFunc (beF i) args).run Tryz.prog w = .ok (.enter (beF i) args) w := by
  match i with
  | 0 => exact enters_of Tryz.func175 (by kernel_rfl) rfl args w
  | 1 => exact enters_of Tryz.func177 (by kernel_rfl) rfl args w
  | 2 => exact enters_of Tryz.func179 (by kernel_rfl) rfl args w
  | 3 => exact enters_of Tryz.func181 (by kernel_rfl) rfl args w
  | _ + 4 => exact enters_of Tryz.func183 (by kernel_rfl) rfl args w
/-- What is asked for while it is found out which kind it is. -/
abbrev Sk (wr : World) (g eb : Nat) (dp : Bool) (dr : Int) (dl : Bool) (df lv : Int) (f1 f2 : FuncId) (w' : World) : Prop :=
  w'.cell? ⟨wr.heap.size, 0, none⟩ = some (.func (.func f1) #[] #[]) ∧ w'.cell? ⟨eb, 0, none⟩ = some (.bool dp) ∧ w'.cell? ⟨eb, 1, none⟩ = some (.int .i64 dr) ∧ w'.cell? ⟨eb, 2, none⟩ = some (.bool dl) ∧ w'.cell? ⟨eb, 3, none⟩ = some (.int .i64 df) ∧ w'.cell? ⟨g, 4, none⟩ = some (.int .i64 lv) ∧ Below (wr.alloc (.cells #[.func (.func f1) #[] #[], .func (.func f2) #[] #[]] 212)).heap.size (wr.alloc (.cells #[.func (.func f1) #[] #[], .func (.func f2) #[] #[]] 212)) w'
theorem Sk.of {wr w' : World} {g eb : Nat} {x : Wk} {dp : Bool} {dr : Int} {dl : Bool} {df : Int} (hM : IsWk wr g x) (hE : wr.heap[eb]? = some (.cells #[.bool dp, .int .i64 dr, .bool dl, .int .i64 df] 95 (0, 0))) (f1 f2 : FuncId)
    (hB : Below (wr.alloc (.cells #[.func (.func f1) #[] #[], .func (.func f2) #[] #[]] 212)).heap.size (wr.alloc (.cells #[.func (.func f1) #[] #[], .func (.func f2) #[] #[]] 212)) w') : Sk wr g eb dp dr dl df x.lv f1 f2 w' := by
  have h1 := P.stay hB (P.hkeep hE _)
  exact ⟨cell_of (P.stay hB (heap_alloc_new _ _)) rfl, cell_of h1 rfl, cell_of h1 rfl, cell_of h1 rfl, cell_of h1 rfl, ((hM.below (below_alloc _ _)).below hB).c4, hB⟩
theorem Sk.step {wr w' w2 : World} {g eb : Nat} {dp : Bool} {dr : Int} {dl : Bool} {df lv : Int} {f1 f2 : FuncId} (h : Sk wr g eb dp dr dl df lv f1 f2 w') (hB : Below w'.heap.size w' w2) : Sk wr g eb dp dr dl df lv f1 f2 w2 := by
  obtain ⟨z, a, b, c, d, e, f⟩ := h
  have lt : ∀ {q j : Nat} {v : Value}, w'.cell? ⟨q, j, none⟩ = some v → q < w'.heap.size := fun h => World.block_lt_of_cell? w' ⟨_, _, none⟩ h
  exact ⟨(hB.cell (p := ⟨_, 0, none⟩) (lt z)).trans z, (hB.cell (p := ⟨eb, 0, none⟩) (lt a)).trans a, (hB.cell (p := ⟨eb, 1, none⟩) (lt b)).trans b, (hB.cell (p := ⟨eb, 2, none⟩) (lt c)).trans c, (hB.cell (p := ⟨eb, 3, none⟩) (lt d)).trans d, (hB.cell (p := ⟨g, 4, none⟩) (lt e)).trans e, f.trans (hB.mono f.size)⟩
theorem prD_rd {v : Nat} (h : P.prY v = true) : P.prD v = P.rd v := by unfold P.prD; rw [if_pos h]
set_option maxRecDepth 100000 in
set_option maxHeartbeats 2000000 in
theorem goOn_ok {w : World} {g : Nat} {x : Wk} (h : IsWk w g x) (k : WOk x) (n : Nat) (hn : x.ld = n) (h4 : n < 4) (v : Nat) (hv : v < 18446744073709551616) (ok : Bool) (hb : P.prY v = true) :
    Calls Tryz.prog 105 #[.pointer (some ⟨g, 0, none⟩), reV ⟨v, ok, 0⟩] w fun r w' => r = .returned (.tuple #[]) ∧ IsWk w' g (ocW (kn (P.rd v) x.pg x.wt x.lv) (putP x n)) ∧ But g g w w' := by
  have hl := h.lt
  have c9 := h.c9
  have c3 := h.c3
  have cn := h.path n h4
  have f9 := h.free 9
  have fn := h.free (5 + n)
  have hw : IntKind.i64.wrap ((n : Int) + 1) = (n : Int) + 1 := i64w (by omega) (by omega)
  have hlt : (n : Int) < 4 := by omega
  rw [hn] at c9
  have HX := hid h
  have hr := P.rt_in (prY_rt hb)
  obtain ⟨D, hD⟩ : ∃ D, P.rd v = D := ⟨_, rfl⟩
  have HP := hid (fun W => P.parse_at v hv W)
  rw [prD_rd hb, hD, hb] at HP
  rw [hD] at hr ⊢
  obtain ⟨y, hy⟩ : ∃ y, putP x n = y := ⟨_, rfl⟩
  have ky : WOk y := hy ▸ k.putP n
  obtain ⟨-, e1, e2, -, e3⟩ := putP_st x n
  rw [← e1, ← e2, ← e3, hy]
  have HK := hid (kind_eq y D)
  have HI : Hid (∀ i W, Calls Tryz.prog (isF i) #[P.eV D, .int .i64 y.lv] W fun e w' => e = .returned (.bool (isB i D y.lv)) ∧ Below W.heap.size W w') := hid (fun i W => is_at i D y.lv W)
  have HE : Hid (∀ i W, IsWk W g y → Calls Tryz.prog (beF i) #[.pointer (some ⟨g, 0, none⟩), P.eV D] W fun e w' => e = .returned (.tuple #[]) ∧ IsWk w' g (beW i y D) ∧ But g g W w') := hid (fun i W hW => be_at i hW ky D hr.2.2.1 hr.2.2.2)
  have HF : Hid (isB 4 D y.lv = true) := hid rfl
  generalize beW = be at *
  obtain ⟨z, hz⟩ : ∃ z, ocW (kn D y.pg y.wt y.lv) y = z := ⟨_, rfl⟩
  rw [hz] at HK ⊢
  generalize isB = ib at *
  have Hy := hid hy
  obtain ⟨dp, dr, dl, df⟩ := D
  clear h hn hb hD hy hz hr ky e1 e2 e3 k
  show Calls Tryz.prog 105 #[.pointer (some ⟨g, 0, none⟩), .agg #[.int .u64 v, .bool ok, .int .i64 0]] w _
  go_enter Tryz.func105, Tryz.ntmps105
  go_wp2_with fail
  go_region
  go_wp2_with fail
  refine (HP.out _).mono ?_
  rintro r w1 ⟨rfl, hB⟩
  obtain ⟨m1, m2, m3, m4⟩ := mid_of HX.out n h4 _ hB
  rw [Hy.out] at m1
  have c2 := cell_of (i := 2) m2 rfl
  have HM := hid m1
  have HB := hid m3
  clear hB m1 m2 m3 c9 c3 cn f9 fn hw hlt hl
  simp only [P.ptwo, P.eV]
  go_wp2_with fail
  refine (kinds_at _).mono ?_
  rintro r w2 ⟨rfl, hw2⟩
  have m1 : IsWk w2 g y := by rw [hw2]; exact (HM.out.below (below_alloc _ _)).below (below_alloc _ _)
  have m2 : w2.heap[w1.heap.size]? = some (.cells #[.bool dp, .int .i64 dr, .bool dl, .int .i64 df] 95 (0, 0)) := by
    rw [hw2]; exact P.hkeep (heap_alloc_new _ _) _
  have m3 : w2.heap[w1.heap.size + 1]? = some (.cells kC 212 (0, 0)) := by
    rw [hw2]; exact (P.two_new w1 _ _).2
  have m5 : But g g w w2 := by
    rw [hw2]; exact HB.out.trans ((But.of_below (below_alloc _ _)).trans (But.of_below (below_alloc _ _)))
  rw [show ((w1.alloc (.cells #[.bool dp, .int .i64 dr, .bool dl, .int .i64 df] 95)).heap.size) = w1.heap.size + 1 by simp]
  have HM' := hid m1
  have HE' := hid m2
  have HK' := hid m3
  have HB' := hid m5
  have he1 : w.heap.size ≤ w1.heap.size := HB.out.size
  have he2 : w1.heap.size ≠ g := by have := HX.out.lt; omega
  have he3 : w1.heap.size + 1 ≠ g := by have := HX.out.lt; omega
  clear m1 m2 m3 m4 m5 hw2 HM HB c2 he1
  generalize w1.heap.size + 1 = kb at *
  generalize w1.heap.size = eb at *
  go_wp2_with fail
  go_loopw [44] (fun i wr => ∃ k : Nat, k ≤ 4 ∧ i = .int .i64 k ∧ (∀ j, j < k → ib j ⟨dp, dr, dl, df⟩ y.lv = false) ∧ IsWk wr g y ∧ wr.heap[eb]? = some (.cells #[.bool dp, .int .i64 dr, .bool dl, .int .i64 df] 95 (0, 0)) ∧ wr.heap[kb]? = some (.cells kC 212 (0, 0)) ∧ But g g w wr) (fun i _ => 5 - (intOf i).toNat)
  case atStart => exact ⟨0, Nat.zero_le _, rfl, fun j hj => absurd hj (Nat.not_lt_zero _), HM'.out, HE'.out, HK'.out, HB'.out⟩
  case round =>
    obtain ⟨k, hk, rfl, hn, hM, hE, hK, hB⟩ := hrel
    obtain ⟨q0, q1⟩ := kC_at k (by omega)
    have k0 := cell_of hK q0
    have k1 := cell_of hK q1
    have c4 := hM.c4
    have hi : (k : Int) < 5 := by omega
    have hwk : IntKind.i64.wrap ((k : Int) + 1) = (k : Int) + 1 := i64w (by omega) (by omega)
    have HIk := hid (HI.out k)
    have HEk := hid (HE.out k)
    have HKk := hid (HK.out k)
    have en1 := is_enters k
    have en2 := be_enters k
    have hS0 : Sk wr g eb dp dr dl df y.lv (isF k) (beF k) (wr.alloc (.cells #[.func (.func (isF k)) #[] #[], .func (.func (beF k)) #[] #[]] 212)).drew := Sk.of hM hE (isF k) (beF k) (Below.refl _ _).drew
    obtain ⟨b, hb⟩ : ∃ b, ib k ⟨dp, dr, dl, df⟩ y.lv = b := ⟨_, rfl⟩
    have HQ := hid hb
    have HN := hid hn
    rw [hb] at HIk
    have H4 : Hid (k = 4 → b = true) := hid (fun e => by rw [← hb, e]; exact HF.out)
    have UM := hid hM
    have UE := hid hE
    have UK := hid hK
    have UB := hid hB
    clear hb hn q0 q1 hM hE hK hB HI
    generalize isF k = f1 at *
    generalize beF k = f2 at *
    have HLv := hid (rfl : y.lv = y.lv)
    clear HLv
    cases b
    · go_wp2_with fail
      go_region_held3 (Sk wr g eb dp dr dl df y.lv f1 f2) (first | exact hS0 | assumption)
        (first | (refine (HIk.out _).mono ?_; rintro e v' ⟨rfl, hB⟩; have hS' := Sk.step (by assumption) hB))
      rename_i hHeld
      clear hHeld hS0
      have hB2 := (below_alloc wr (.cells #[.func (.func f1) #[] #[], .func (.func f2) #[] #[]] 212)).trans (hS'.2.2.2.2.2.2.mono (by simp))
      have HB2 := hid hB2
      clear hB2 hS' hB
      go_wp2_with fail
      go_roundw
      case rel =>
        have k4 : k ≠ 4 := fun e => by have := H4.out e; cases this
        refine ⟨k + 1, by omega, by go_num, fun j hj => ?_, UM.out.below HB2.out, P.stay HB2.out UE.out, P.stay HB2.out UK.out, UB.out.trans (But.of_below HB2.out)⟩
        by_cases hjk : j < k
        · exact HN.out j hjk
        · have : j = k := by omega
          rw [this]; exact HQ.out
      case measure => simp [intOf]; omega
    · go_wp2_with fail
      go_region_held3 (Sk wr g eb dp dr dl df y.lv f1 f2) (first | exact hS0 | assumption)
        (first | (refine (HIk.out _).mono ?_; rintro e v' ⟨rfl, hB⟩; have hS' := Sk.step (by assumption) hB))
      rename_i hHeld
      clear hHeld hS0
      have hB2 := (below_alloc wr (.cells #[.func (.func f1) #[] #[], .func (.func f2) #[] #[]] 212)).trans (hS'.2.2.2.2.2.2.mono (by simp))
      have d1 := cell_of (i := 1) (P.stay hS'.2.2.2.2.2.2 (heap_alloc_new wr _)) rfl
      have hE2 := P.stay hB2 UE.out
      have e0 := cell_of (i := 0) hE2 rfl
      have e1 := cell_of (i := 1) hE2 rfl
      have e2 := cell_of (i := 2) hE2 rfl
      have e3 := cell_of (i := 3) hE2 rfl
      have HB2 := hid hB2
      clear hB2 hS' hB hE2
      go_wp2_with fail
      refine (HEk.out _ (UM.out.below HB2.out)).mono ?_
      rintro r w3 ⟨rfl, h1, h2⟩
      rw [HKk.out HQ.out HN.out] at h1
      have H1 := hid h1
      have H2 := hid (UB.out.trans ((But.of_below HB2.out).trans h2))
      clear h1 h2
      go_wp2
      first | go_end0 | (refine bodyPost_ret (results_none rfl _ _ _) rfl ?_)
      exact ⟨rfl, H1.out, H2.out⟩
end Go.Proofs.YtpfmmlbakbhklaaGreatDoor
namespace Go.Proofs.YtpfmmlbakbhklaaGreatDoor
open Go.RowKit

theorem isNone_nil' (w : World) : Calls Tryz.prog 104 #[.pointer none] w fun e w' => e = .returned (.bool true) ∧ w' = w := by
  go_enter Tryz.func104, Tryz.ntmps104
  go_wp2
  go_ret
  exact ⟨rfl, rfl⟩
theorem isNone_no {w : World} {g : Nat} {x : Wk} (h : IsWk w g x) (hs : x.st = 1 ∨ x.st = 2) : Calls Tryz.prog 104 #[.pointer (some ⟨g, 0, none⟩)] w fun e w' => e = .returned (.bool false) ∧ w' = w := by
  have c0 := h.c0
  clear h
  rcases hs with hs | hs
  all_goals
    rw [hs] at c0
    go_enter Tryz.func104, Tryz.ntmps104
    go_wp2
    go_ret
    exact ⟨rfl, rfl⟩

theorem size175 : (Tryz.prog.info? 175).map (·.size) = some 4 := by kernel_rfl
abbrev zAc : Ac := ⟨0, 0, 0, 0⟩
set_option maxHeartbeats 400000 in
theorem next_nil (w : World) : Calls Tryz.prog 107 #[.pointer none] w fun e w' => e = .returned (acV zAc) ∧ Below w.heap.size w w' := by
  go_enter Tryz.func107, Tryz.ntmps107
  go_wp2_with fail
  refine (isNone_nil' _).mono ?_
  rintro r w1 ⟨rfl, hw⟩
  rw [hw]
  clear hw w1
  go_wp2
  (try simp only [Exit.inBlock, Exit.then])
  refine bodyPost_ret (results_cell_row rfl _ _ w.heap.size 175 _ (0, 0) _ rfl (heap_alloc_new _ _) Tryz.underlying175 rfl size175) rfl ?_
  exact ⟨rfl, below_alloc _ _⟩
set_option maxHeartbeats 400000 in
theorem next_done {w : World} {g : Nat} {x : Wk} (h : IsWk w g x) (hs : x.st = 2) : Calls Tryz.prog 107 #[.pointer (some ⟨g, 0, none⟩)] w fun e w' => e = .returned (acV zAc) ∧ Below w.heap.size w w' := by
  have hl := h.lt
  have c0 := h.c0
  rw [hs] at c0
  have H := hid (isNone_no (h.below (below_alloc w (.cells #[.int .i64 0, .int .i64 0, .int .u64 0, .int .u64 0] 175))) (.inr hs))
  clear h hs
  go_enter Tryz.func107, Tryz.ntmps107
  go_wp2_with fail
  refine H.out.mono ?_
  rintro r w1 ⟨rfl, hw⟩
  rw [hw]
  clear hw w1 H
  go_wp2
  (try simp only [Exit.inBlock, Exit.then])
  refine bodyPost_ret (results_cell_row rfl _ _ w.heap.size 175 _ (0, 0) _ rfl (heap_alloc_new _ _) Tryz.underlying175 rfl size175) rfl ?_
  exact ⟨rfl, below_alloc _ _⟩

def nextA (x : Wk) : Ac := ⟨1, P.at' x.fr x.pg x.lv, 0, 0⟩
set_option maxHeartbeats 1000000 in
theorem next_go {w : World} {g : Nat} {x : Wk} (h : IsWk w g x) (hs : x.st = 1) : Calls Tryz.prog 107 #[.pointer (some ⟨g, 0, none⟩)] w fun e w' => e = .returned (acV (nextA x)) ∧ Below w.heap.size w w' := by
  have hl := h.lt
  have c0 := h.c0
  rw [hs] at c0
  have H := hid (isNone_no (h.below (below_alloc w (.cells #[.int .i64 0, .int .i64 0, .int .u64 0, .int .u64 0] 175))) (.inl hs))
  have HS := hid (fun o => have hx := h.below (((Below.refl _ _).alloc (Nat.le_refl _) o).drew); (⟨hx.c3, hx.c1, hx.c4⟩ : _ ∧ _ ∧ _))
  have HA := hid (fun W => P.place_at x.fr x.pg x.lv W)
  unfold nextA
  generalize P.at' x.fr x.pg x.lv = at0 at *
  generalize x.fr = fr at *
  generalize x.pg = pg at *
  generalize x.lv = lv at *
  clear h hs
  go_enter Tryz.func107, Tryz.ntmps107
  go_wp2_with fail
  refine H.out.mono ?_
  rintro r w1 ⟨rfl, hw⟩
  rw [hw]
  clear hw w1 H
  go_wp2_with fail
  go_region_held3 (fun w' => w'.cell? ⟨g, 3, none⟩ = some (.int .i64 fr) ∧ w'.cell? ⟨g, 1, none⟩ = some (.int .i64 pg) ∧ w'.cell? ⟨g, 4, none⟩ = some (.int .i64 lv)) (first | with_reducible exact HS.out _ | with_reducible assumption)
    (first
      | (go_at_call 103; refine (HA.out _).mono ?_; rintro e v' ⟨rfl, hw'⟩; rw [hw']; clear hw' v'))
  go_wp2
  (try simp only [Exit.inBlock, Exit.then])
  refine bodyPost_ret (results_cell_row rfl _ _ w.heap.size 175 _ (0, 0) _ rfl (P.stay ((Below.refl _ _).drew) (heap_alloc_new _ _)) Tryz.underlying175 rfl size175) rfl ?_
  exact ⟨rfl, ((Below.refl _ _).alloc (Nat.le_refl _) _).drew⟩

/-! ### A step -/
def stepW (xs : List Int) (x : Wk) : Wk := ocW (oc xs x.fr x.pg x.wt x.lv) (putP x x.ld.toNat)
/-- Words below 2^64. -/
def U64 (xs : List Int) : Prop := ∀ i, 0 ≤ xs.getD i 0 ∧ xs.getD i 0 < 18446744073709551616
theorem U64.at {xs : List Int} (h : U64 xs) (a : Int) : ∃ n : Nat, wordAt xs a = n ∧ n < 18446744073709551616 := by
  unfold wordAt
  split
  · have := h a.toNat
    exact ⟨(xs.getD a.toNat 0).toNat, by omega, by omega⟩
  · exact ⟨0, rfl, by decide⟩
theorem goOn_at {w : World} {g : Nat} {x : Wk} (h : IsWk w g x) (k : WOk x) (l0 : 0 ≤ x.ld) (l4 : x.ld < 4) (v : Nat) (hv : v < 18446744073709551616) (ok : Bool) (e : Int) :
    Calls Tryz.prog 105 #[.pointer (some ⟨g, 0, none⟩), reV ⟨v, ok, e⟩] w fun r w' => r = .returned (.tuple #[]) ∧ IsWk w' g (ocW (ocx (e == 0) v x.pg x.wt x.lv) (putP x x.ld.toNat)) ∧ But g g w w' := by
  have hn : x.ld = (x.ld.toNat : Int) := by omega
  by_cases hb : (e == 0 && P.prY v) = true
  · have e1 : ocx (e == 0) (v : Int) x.pg x.wt x.lv = kn (P.rd v) x.pg x.wt x.lv := by
      unfold ocx
      rw [Int.toNat_natCast, if_pos hb]
    rw [e1]
    simp only [Bool.and_eq_true] at hb
    have h0 : e = 0 := by simpa using hb.1
    subst h0
    exact goOn_ok h k _ hn (by omega) v hv ok hb.2
  · have e1 : ocx (e == 0) (v : Int) x.pg x.wt x.lv = .fin ⟨0, 0, x.lv, 11⟩ := by
      unfold ocx
      rw [Int.toNat_natCast, if_neg hb]
    rw [e1]
    exact goOn_bad h _ hn (by omega) v hv ok e (by simpa using hb)

/-- A walker and its words. -/
structure Ws (w : World) (p b g : Nat) (s : St) (x : Wk) : Prop where
  mem : Mem 124 w p b s
  wk : IsWk w g x
  gp : g ≠ p
  gb : g ≠ b
/-- All that was there is as it was, but for the blocks g, p and b. -/
structure But3 (g p b : Nat) (w w' : World) : Prop where
  os : w'.os = w.os
  tape : w'.tape = w.tape
  output : w'.output = w.output
  size : w.heap.size ≤ w'.heap.size
  block : ∀ k, k < w.heap.size → k ≠ g → k ≠ p → k ≠ b → w'.heap[k]? = w.heap[k]?
theorem But3.of_below {g p b : Nat} {w w' : World} (h : Below w.heap.size w w') : But3 g p b w w' := ⟨h.os, h.tape, h.output, h.size, fun k hk _ _ _ => h.block k hk⟩
theorem But3.of_but {g p b : Nat} {w w' : World} (h : But p b w w') : But3 g p b w w' := ⟨h.os, h.tape, h.output, h.size, fun k hk _ h1 h2 => h.block k hk h1 h2⟩
theorem But3.of_one {g p b : Nat} {w w' : World} (h : But g g w w') : But3 g p b w w' := ⟨h.os, h.tape, h.output, h.size, fun k hk h1 _ _ => h.block k hk h1 h1⟩
theorem But3.trans {g p b : Nat} {x y z : World} (h : But3 g p b x y) (k : But3 g p b y z) : But3 g p b x z :=
  ⟨k.os.trans h.os, k.tape.trans h.tape, k.output.trans h.output, Nat.le_trans h.size k.size, fun i hi a c d => (k.block i (Nat.lt_of_lt_of_le hi h.size) a c d).trans (h.block i hi a c d)⟩
theorem But3.bel {g p b : Nat} {w0 w w' : World} (h : But3 g p b w w') (k : Below w0.heap.size w0 w) (h1 : w0.heap.size ≤ g) (h2 : w0.heap.size ≤ p) (h3 : w0.heap.size ≤ b) : Below w0.heap.size w0 w' :=
  ⟨h.os.trans k.os, h.tape.trans k.tape, h.output.trans k.output, Nat.le_trans k.size h.size, fun i hi => (h.block i (Nat.lt_of_lt_of_le hi k.size) (by omega) (by omega) (by omega)).trans (k.block i hi)⟩
theorem But3.but {g p b : Nat} {w w1 w2 : World} (h : But p b w w1) (k : But3 g p b w1 w2) (hg : w.heap.size ≤ g) : But p b w w2 :=
  ⟨k.os.trans h.os, k.tape.trans h.tape, k.output.trans h.output, Nat.le_trans h.size k.size, fun i hi a c => (k.block i (Nat.lt_of_lt_of_le hi h.size) (by omega) a c).trans (h.block i hi a c)⟩
theorem Ws.below {w w' : World} {p b g : Nat} {s : St} {x : Wk} (h : Ws w p b g s x) (k : Below w.heap.size w w') : Ws w' p b g s x := ⟨h.mem.below k, h.wk.below k, h.gp, h.gb⟩

set_option maxHeartbeats 400000 in
theorem step_nil (w : World) (q : Value) : Calls Tryz.prog 62 #[.pointer none, q] w fun e w' => e = .returned (.bool false) ∧ w' = w := by
  go_enter Tryz.func62, Tryz.ntmps62
  go_wp2_with fail
  refine (isNone_nil' _).mono ?_
  rintro r w1 ⟨rfl, hw⟩
  rw [hw]
  clear hw w1
  go_wp2
  go_ret
  exact ⟨rfl, rfl⟩
set_option maxHeartbeats 400000 in
theorem step_done {w : World} {g : Nat} {x : Wk} (h : IsWk w g x) (hs : x.st = 2) (q : Value) : Calls Tryz.prog 62 #[.pointer (some ⟨g, 0, none⟩), q] w fun e w' => e = .returned (.bool true) ∧ w' = w := by
  have c0 := h.c0
  rw [hs] at c0
  have H := hid (isNone_no h (.inr hs))
  clear h hs
  go_enter Tryz.func62, Tryz.ntmps62
  go_wp2_with fail
  refine H.out.mono ?_
  rintro r w1 ⟨rfl, hw⟩
  rw [hw]
  clear hw w1 H
  go_wp2
  go_ret
  exact ⟨rfl, rfl⟩
set_option maxRecDepth 100000 in
set_option maxHeartbeats 1000000 in
theorem step_go {w : World} {p b g : Nat} {s : St} {x : Wk} {k : Nat} (h : Ws w p b g s x) (ok : WOk x) (hs : x.st = 1) (l0 : 0 ≤ x.ld) (l4 : x.ld < 4) (c : Cnt s k) (hk : k ≤ bnd) (u : U64 s.xs) :
    Calls Tryz.prog 62 #[.pointer (some ⟨g, 0, none⟩), .pointer (some ⟨p, 0, none⟩)] w fun e w' => e = .returned (.bool ((stepW s.xs x).st == 2)) ∧ Ws w' p b g (loadT s (P.at' x.fr x.pg x.lv)) (stepW s.xs x) ∧ But3 g p b w w' := by
  have c0 := h.wk.c0
  rw [hs] at c0
  have HW := hid h
  have H := hid (isNone_no h.wk (.inl hs))
  have HN := hid (next_go h.wk hs)
  obtain ⟨v, hv, hv'⟩ := u.at (P.at' x.fr x.pg x.lv)
  have e0 : (errV s (P.at' x.fr x.pg x.lv) == 0) = inB s.xs.length (P.at' x.fr x.pg x.lv) := by
    unfold errV there
    cases inB s.xs.length (P.at' x.fr x.pg x.lv) <;> rfl
  have e1 : loadV s (P.at' x.fr x.pg x.lv) = v := by rw [← hv]; rfl
  have e2 : ocW (ocx (errV s (P.at' x.fr x.pg x.lv) == 0) v x.pg x.wt x.lv) (putP x x.ld.toNat) = stepW s.xs x := by rw [e0, ← hv]; rfl
  have HD : Hid (∀ {w' : World}, Mem 124 w' p b s → Calls Tryz.prog 106 #[.pointer (some ⟨p, 0, none⟩), acV (nextA x)] w' fun e w'' => e = .returned (reV ⟨v, false, errV s (P.at' x.fr x.pg x.lv)⟩) ∧ Turns 124 p b w' w'' (loadT s (P.at' x.fr x.pg x.lv))) := hid (fun hm => by
    have := do_load hm c hk (P.at' x.fr x.pg x.lv) 0 0
    rw [e1] at this
    exact this)
  have HG : Hid (∀ {w' : World}, IsWk w' g x → Calls Tryz.prog 105 #[.pointer (some ⟨g, 0, none⟩), reV ⟨v, false, errV s (P.at' x.fr x.pg x.lv)⟩] w' fun r w'' => r = .returned (.tuple #[]) ∧ IsWk w'' g (stepW s.xs x) ∧ But g g w' w'') := hid (fun hm => by
    have := goOn_at hm ok l0 l4 v hv' false (errV s (P.at' x.fr x.pg x.lv))
    rw [e2] at this
    exact this)
  clear h c hk u ok l0 l4 hs e0 e1 e2 hv hv'
  generalize stepW s.xs x = y at *
  generalize loadT s (P.at' x.fr x.pg x.lv) = s' at *
  generalize errV s (P.at' x.fr x.pg x.lv) = er at *
  generalize nextA x = na at *
  go_enter Tryz.func62, Tryz.ntmps62
  go_wp2_with fail
  refine H.out.mono ?_
  rintro r w1 ⟨rfl, hw⟩
  rw [hw]
  clear hw w1 H
  go_wp2_with fail
  refine HN.out.mono ?_
  rintro r w1 ⟨rfl, hB⟩
  have HB := hid hB
  clear hB c0
  go_wp2_with fail
  refine (HD.out (HW.out.mem.below HB.out)).mono ?_
  rintro r w2 ⟨rfl, hT⟩
  have h2 : IsWk w2 g x := (HW.out.wk.below HB.out).but hT.2 HW.out.gp HW.out.gb
  have H2 := hid h2
  have HT := hid hT
  clear h2 hT
  go_wp2_with fail
  refine (HG.out H2.out).mono ?_
  rintro r w3 ⟨rfl, h3, B3⟩
  have c0 := h3.c0
  have hl := HT.out.1.lt
  have HE : Hid (Ws w3 p b g s' y ∧ But3 g p b w w3) := hid ⟨⟨HT.out.1.but B3 HW.out.gp.symm HW.out.gp.symm HW.out.gb.symm HW.out.gb.symm, h3, HW.out.gp, HW.out.gb⟩, ((But3.of_below HB.out).trans (But3.of_but HT.out.2)).trans (But3.of_one B3)⟩
  clear h3 B3 hl
  go_wp2
  go_ret
  exact ⟨rfl, HE.out⟩
end Go.Proofs.YtpfmmlbakbhklaaGreatDoor
namespace Go.Proofs.YtpfmmlbakbhklaaGreatDoor
open Go.RowKit

def ftwo (d : Fd) (b : Bool) : Value := .tuple #[fdV d, .bool b]
theorem size54 : (Tryz.prog.info? 54).map (·.size) = some 4 := by kernel_rfl
set_option maxHeartbeats 400000 in
theorem result_nil (w : World) : Calls Tryz.prog 63 #[.pointer none] w fun e w' => e = .returned (ftwo ⟨0, 0, 0, 0⟩ false) ∧ Below w.heap.size w w' := by
  go_enter Tryz.func63, Tryz.ntmps63
  go_wp2_with fail
  refine (isNone_nil' _).mono ?_
  rintro r w1 ⟨rfl, hw⟩
  rw [hw]
  clear hw w1
  go_wp2
  (try simp only [Exit.inBlock, Exit.then])
  refine bodyPost_ret (P.results_row_tmp rfl _ _ w.heap.size _ rfl (run_loadVar_row _ _ 54 54 _ (0, 0) _ (heap_alloc_new _ _) Tryz.underlying54 rfl size54)) rfl ?_
  exact ⟨rfl, below_alloc _ _⟩
set_option maxHeartbeats 1000000 in
theorem result_at {w : World} {g : Nat} {x : Wk} (h : IsWk w g x) (hs : x.st = 1 ∨ x.st = 2) : Calls Tryz.prog 63 #[.pointer (some ⟨g, 0, none⟩)] w fun e w' => e = .returned (ftwo x.fd (x.st == 2)) ∧ Below w.heap.size w w' := by
  have hl := h.lt
  have c0 := h.c0
  have c10 := h.c10
  have c11 := h.c11
  have c12 := h.c12
  have c13 := h.c13
  have H := hid (isNone_no (h.below (below_alloc w (.cells #[.int .i64 0, .int .i64 0, .int .i64 0, .int .i64 0] 54))) hs)
  clear h hs
  generalize x.st = st at *
  generalize x.fd = fd at *
  obtain ⟨ff, fr, fv, fe⟩ := fd
  go_enter Tryz.func63, Tryz.ntmps63
  go_wp2_with fail
  refine H.out.mono ?_
  rintro r w1 ⟨rfl, hw⟩
  rw [hw]
  clear hw w1 H
  go_wp2_with fail
  go_region
  go_wp2
  (try simp only [Exit.inBlock, Exit.then])
  refine bodyPost_ret (P.results_row_tmp rfl _ _ w.heap.size _ rfl (run_loadVar_row _ _ 54 54 _ (0, 0) _ (P.stay ((Below.refl _ _).drew) (heap_alloc_new _ _)) Tryz.underlying54 rfl size54)) rfl ?_
  exact ⟨rfl, ((Below.refl _ _).alloc (Nat.le_refl _) _).drew⟩

/-! ### The tables so far -/
def pL (x : Wk) : List Int := [x.p0, x.p1, x.p2, x.p3].take x.ld.toNat
def ints (l : List Int) : List Value := l.map fun n => Value.int .i64 n
theorem info3 : (Tryz.prog.info? 3).map (fun i => (i.zero, i.size, i.bytes)) = some (some (.int .i64 0), 1, 8) := by kernel_rfl
theorem size3 : (Tryz.prog.info? 3).map (·.size) = some 1 := by kernel_rfl
theorem made_ints (n : Nat) : madeCells #[(.int .i64 0 : Value)] n = (ints (List.replicate n 0)).toArray := by
  apply Array.toList_inj.1
  rw [toList_madeCells_one]
  simp [ints]
theorem pL_len {x : Wk} (h0 : 0 ≤ x.ld) (h4 : x.ld ≤ 4) : (pL x).length = x.ld.toNat := by
  unfold pL
  rw [List.length_take]
  simp
  omega
theorem pL_at {x : Wk} {j : Nat} {v : Value} (h : (ints (pL x))[j]? = some v) : (wkC x)[5 + j]? = some v ∧ ∃ n, v = .int .i64 n := by
  have : j < 4 := by
    have := (List.getElem?_eq_some_iff.1 h).1
    simp only [ints, pL, List.length_map, List.length_take, List.length_cons, List.length_nil] at this
    omega
  simp only [ints, pL, List.getElem?_map, List.getElem?_take, Option.map_eq_some_iff] at h
  obtain ⟨a, ha, rfl⟩ := h
  refine ⟨?_, a, rfl⟩
  split at ha
  · match j, this with
    | 0, _ => simpa using ha
    | 1, _ => simpa using ha
    | 2, _ => simpa using ha
    | 3, _ => simpa using ha
  · cases ha
theorem copy_path {w : World} {g : Nat} {x : Wk} (h : IsWk w g x) (n : Nat) (hn : x.ld = n) (h4 : n ≤ 4) :
    ∃ w2, (Builtin.copy_ #[44, 44] 3 #[.slice (some ⟨w.heap.size, 0, none⟩) n n, .slice (some ⟨g, 5, none⟩) 4 4]).run Tryz.prog (w.alloc (.cells (madeCells #[(.int .i64 0 : Value)] n) 3)) = .ok (.int .i64 n) w2 ∧
      w2.heap[w.heap.size]? = some (.cells (ints (pL x)).toArray 3 (0, 0)) ∧ Below w.heap.size w w2 := by
  have hlen : (ints (pL x)).length = n := by
    have := pL_len (x := x) (by omega) (by omega)
    simp only [ints, List.length_map]
    omega
  have hg : (w.alloc (.cells (ints (List.replicate n 0)).toArray 3)).heap[w.heap.size]? = some (.cells (ints (List.replicate n 0)).toArray 3 (0, 0)) := heap_alloc_new _ _
  have hx : IsWk (w.alloc (.cells (ints (List.replicate n 0)).toArray 3)) g x := h.below (below_alloc _ _)
  have := run_copy_row (P := Tryz.prog) (w.alloc (.cells (ints (List.replicate n 0)).toArray 3)) 44 44 3 3 w.heap.size 0 n n ⟨g, 5, none⟩ 4 4 (ints (List.replicate n 0)).toArray 3 (ints (pL x))
    Tryz.underlying44 size3 hg (by rw [hlen]; show n = min 4 n; omega)
    (fun j v hj => by
      rw [Addr.add_lit]
      exact cell_of hx (pL_at hj).1)
    (by rw [hlen]; simp [ints]) (fun v hv => by
      obtain ⟨y, _, rfl⟩ := List.mem_map.1 hv
      rfl)
  rw [made_ints]
  refine ⟨_, this.trans (by rw [hlen]; rfl), ?_, below_setRow ((Below.refl _ _).alloc (Nat.le_refl _) _) (Nat.le_refl _) _⟩
  refine (setRow_heap _ _ _ _ _ _ hg).trans ?_
  have e : List.drop (0 + n) (ints (List.replicate n 0)) = [] := List.drop_eq_nil_of_le (by simp [ints])
  simp only [List.take_zero, List.nil_append, e, List.append_nil]
theorem at_root (root pg : Int) : (decide (P.at' root pg 3 < 0)) = !(P.btw root 0 4095 && P.btw pg 0 65535) := by
  unfold P.at'
  by_cases hp : P.btw pg 0 65535 = true
  · rw [P.ix_yes hp (by decide)]
    have h0 := P.btw_yes.1 hp
    have e : P.sp 3 = 4096 := rfl
    rw [e, hp]
    have h1 : 0 ≤ pg / 4096 % 16 := by omega
    rw [decide_eq_true h1]
    cases hr : P.btw root 0 4095
    · rfl
    · have := P.btw_yes.1 hr
      simp
      omega
  · have hp : P.btw pg 0 65535 = false := by simpa using hp
    rw [P.ix_far hp, hp]
    simp
theorem and7 : ∀ n : Fin 8, bits .and .i64 7 ((n : Nat) : Int) = ((n : Nat) : Int) := by decide +kernel
theorem want7 {n : Int} (l1 : -9223372036854775808 ≤ n) (l2 : n ≤ 9223372036854775807) : (bits .andNot .i64 n 7 == 0) = P.btw n 0 7 := by
  rw [P.sub_eq (by decide) (by decide) l1 l2]
  cases h : P.btw n 0 7
  · rfl
  · have h := P.btw_yes.1 h
    obtain ⟨m, rfl⟩ := Int.eq_ofNat_of_zero_le h.1
    have := and7 ⟨m, by omega⟩
    simp only at this
    rw [this]
    simp
def newW (root pg wt : Int) : Wk := ⟨1, pg, wt, root, 3, 0, 0, 0, 0, 0, ⟨0, 0, 0, 0⟩⟩
set_option maxHeartbeats 1000000 in
theorem wnew_at (w : World) (root pg wt : Int) (l1 : -9223372036854775808 ≤ wt) (l2 : wt ≤ 9223372036854775807) (h : okW root pg wt = true) :
    Calls Tryz.prog 61 #[.int .i64 root, .int .i64 pg, .int .i64 wt] w fun e w' => e = .returned (.pointer (some ⟨w.heap.size, 0, none⟩)) ∧ w' = w.alloc (.cells (wkC (newW root pg wt)) 169) := by
  unfold okW at h
  simp only [Bool.and_eq_true] at h
  have HA := hid (P.place_at root pg 3 w)
  have h1 := at_root root pg
  rw [h.1.1, h.1.2] at h1
  have h2 := want7 l1 l2
  rw [h.2] at h2
  have h2 : bits .andNot .i64 wt 7 = 0 := by simpa using h2
  have h1 : ¬ P.at' root pg 3 < 0 := by simpa using h1
  clear h l1 l2
  generalize P.at' root pg 3 = at0 at *
  go_enter Tryz.func61, Tryz.ntmps61
  go_wp2_with fail
  refine HA.out.mono ?_
  rintro r w1 ⟨rfl, hw⟩
  rw [hw]
  clear hw w1 HA
  go_wp2
  go_ret
  exact ⟨rfl, rfl⟩
set_option maxHeartbeats 1000000 in
theorem wnew_no (w : World) (root pg wt : Int) (l1 : -9223372036854775808 ≤ wt) (l2 : wt ≤ 9223372036854775807) (h : okW root pg wt = false) :
    Calls Tryz.prog 61 #[.int .i64 root, .int .i64 pg, .int .i64 wt] w fun e w' => e = .returned (.pointer none) ∧ w' = w := by
  unfold okW at h
  have HA := hid (P.place_at root pg 3 w)
  have h1 := at_root root pg
  have h2 := want7 l1 l2
  cases hb : (P.btw root 0 4095 && P.btw pg 0 65535)
  · rw [hb] at h1
    have h1 : P.at' root pg 3 < 0 := by simpa using h1
    clear h l1 l2 h2 hb
    generalize P.at' root pg 3 = at0 at *
    go_enter Tryz.func61, Tryz.ntmps61
    go_wp2_with fail
    refine HA.out.mono ?_
    rintro r w1 ⟨rfl, hw⟩
    rw [hw]
    clear hw w1 HA
    go_wp2
    go_ret
    exact ⟨rfl, rfl⟩
  · rw [hb] at h h1
    have h1 : ¬ P.at' root pg 3 < 0 := by simpa using h1
    rw [show P.btw wt 0 7 = false by simpa using h] at h2
    have h2 : bits .andNot .i64 wt 7 ≠ 0 := by simpa using h2
    clear h l1 l2 hb
    generalize P.at' root pg 3 = at0 at *
    go_enter Tryz.func61, Tryz.ntmps61
    go_wp2_with fail
    refine HA.out.mono ?_
    rintro r w1 ⟨rfl, hw⟩
    rw [hw]
    clear hw w1 HA
    go_wp2
    go_ret
    exact ⟨rfl, rfl⟩

/-! ### How much was asked for -/
end Go.Proofs.YtpfmmlbakbhklaaGreatDoor
namespace Go.Proofs.YtpfmmlbakbhklaaGreatDoor
open Go.RowKit

theorem arr_v (d : P.En) (wt v f : Int) : (arr d wt v f).v = v := by unfold arr; split <;> rfl
theorem oc_v {xs : List Int} {fr pg wt v : Int} {d : Fd} (h : oc xs fr pg wt v = .fin d) : d.v = v := by
  unfold oc ocx at h
  split at h
  · unfold kn at h
    split at h
    · injection h with h; rw [← h]
    · split at h
      · cases h
      · split at h
        · injection h with h; rw [← h]; exact arr_v _ _ _ _
        · split at h
          · injection h with h; rw [← h]; exact arr_v _ _ _ _
          · injection h with h; rw [← h]
  · injection h with h; rw [← h]

/-- A walker that goes on, and what is to come of it. -/
structure Wi (xs : List Int) (r : Fd) (l : List Int) (x : Wk) : Prop where
  st : x.st = 1
  ok : WOk x
  ld : x.ld = 3 - x.lv
  run : runF xs x.pg x.wt x.lv.toNat x.fr = r
  path : pL x ++ pathF xs x.pg x.wt x.lv.toNat x.fr = l
  fd : x.fd = ⟨0, 0, 0, 0⟩
/-- One that is done. -/
structure Wd (r : Fd) (l : List Int) (x : Wk) : Prop where
  st : x.st = 2
  fd : x.fd = r
  path : pL x = l
  ld0 : 1 ≤ x.ld
  ld1 : x.ld ≤ 4
theorem Wi.ld0 {xs : List Int} {r : Fd} {l : List Int} {x : Wk} (h : Wi xs r l x) : 0 ≤ x.ld := by have := h.ld; have := h.ok.lv1; omega
theorem Wi.ld4 {xs : List Int} {r : Fd} {l : List Int} {x : Wk} (h : Wi xs r l x) : x.ld < 4 := by have := h.ld; have := h.ok.lv0; omega
theorem pL_put {x : Wk} (n : Nat) (hn : x.ld = n) (h4 : n < 4) : pL (putP x n) = pL x ++ [x.fr] ∧ (putP x n).ld = n + 1 := by
  unfold pL
  rw [hn]
  match n, h4 with
  | 0, _ => exact ⟨rfl, rfl⟩
  | 1, _ => exact ⟨rfl, rfl⟩
  | 2, _ => exact ⟨rfl, rfl⟩
  | 3, _ => exact ⟨rfl, rfl⟩
theorem putP_fd (x : Wk) (n : Nat) : (putP x n).fd = x.fd := by
  match n with
  | 0 => rfl
  | 1 => rfl
  | 2 => rfl
  | _ + 3 => rfl
theorem pL_end (y : Wk) (d : Fd) : pL (endW y d) = pL y := rfl
theorem pL_down (y : Wk) (f : Int) : pL (downW y f) = pL y := rfl
theorem Wi.step {xs : List Int} {r : Fd} {l : List Int} {x : Wk} (h : Wi xs r l x) : (Wi xs r l (stepW xs x) ∧ (stepW xs x).lv = x.lv - 1) ∨ Wd r l (stepW xs x) := by
  have hl0 := h.ok.lv0
  obtain ⟨n, hn⟩ := Int.eq_ofNat_of_zero_le hl0
  have hlt : x.lv.toNat = n := by omega
  have hrun := h.run
  have hpath := h.path
  rw [hlt] at hrun hpath
  obtain ⟨e0, e1, e2, e3, e4⟩ := putP_st x x.ld.toNat
  have hld : x.ld = (x.ld.toNat : Nat) := by have := h.ld0; omega
  obtain ⟨p1, p2⟩ := pL_put x.ld.toNat hld (by have := h.ld4; omega)
  unfold stepW
  rw [hn]
  cases ho : oc xs x.fr x.pg x.wt n with
  | fin d =>
    right
    refine ⟨rfl, ?_, ?_, ?_, ?_⟩
    · show ({ d with v := (putP x x.ld.toNat).lv } : Fd) = r
      rw [e4, hn, ← hrun, runF_fin ho]
      have := oc_v ho
      obtain ⟨a, b, c, e⟩ := d
      simp only at this
      rw [this]
    · show pL (endW _ d) = l
      rw [pL_end, p1, ← hpath, pathF_fin ho]
    · show 1 ≤ (putP x x.ld.toNat).ld
      rw [p2]; omega
    · show (putP x x.ld.toNat).ld ≤ 4
      rw [p2]; have := h.ld4; omega
  | go f =>
    left
    obtain ⟨g0, g1, g2⟩ := oc_go ho
    obtain ⟨m, rfl⟩ : ∃ m, n = m + 1 := ⟨n - 1, by omega⟩
    have hm : ((putP x x.ld.toNat).lv - 1).toNat = m := by rw [e4, hn]; omega
    refine ⟨⟨?_, ?_, ?_, ?_, ?_, ?_⟩, ?_⟩
    · exact e0.trans h.st
    · have k := h.ok.putP x.ld.toNat
      exact ⟨k.pg0, k.pg1, k.wt0, k.wt1, g1, g2, by show 0 ≤ (putP x x.ld.toNat).lv - 1; rw [e4, hn]; omega, by show (putP x x.ld.toNat).lv - 1 ≤ 3; have := k.lv1; omega⟩
    · show (putP x x.ld.toNat).ld = 3 - ((putP x x.ld.toNat).lv - 1)
      rw [p2, e4]; have := h.ld; omega
    · show runF xs (putP x x.ld.toNat).pg (putP x x.ld.toNat).wt ((putP x x.ld.toNat).lv - 1).toNat f = r
      rw [hm, e1, e2, ← hrun, runF_go ho]
    · show pL (downW _ f) ++ pathF xs (putP x x.ld.toNat).pg (putP x x.ld.toNat).wt ((putP x x.ld.toNat).lv - 1).toNat f = l
      rw [hm, e1, e2, pL_down, p1, ← hpath, pathF_go ho, List.append_assoc]
      rfl
    · exact (putP_fd x x.ld.toNat).trans h.fd
    · show (putP x x.ld.toNat).lv - 1 = _
      rw [e4, hn]
theorem Wi.new {xs : List Int} {root pg wt : Int} (h : okW root pg wt = true) : Wi xs (runF xs pg wt 3 root) (pathF xs pg wt 3 root) (newW root pg wt) := by
  unfold okW at h
  simp only [Bool.and_eq_true] at h
  have a := P.btw_yes.1 h.1.1
  have b := P.btw_yes.1 h.1.2
  have c := P.btw_yes.1 h.2
  exact ⟨rfl, ⟨b.1, b.2, c.1, c.2, a.1, a.2, by show (0 : Int) ≤ 3; decide, by show (3 : Int) ≤ 3; decide⟩, rfl, rfl, rfl, rfl⟩

/-- Some more loads were done. -/
structure Lds (s s' : St) (n : Nat) : Prop where
  xs : s'.xs = s.xs
  l : s'.l = s.l
  d0 : s.d ≤ s'.d
  d1 : s'.d ≤ s.d + n
theorem Lds.refl (s : St) : Lds s s 0 := ⟨rfl, rfl, Int.le_refl _, by omega⟩
theorem Lds.load {s s' : St} {n : Nat} (h : Lds s s' n) (a : Int) : Lds s (loadT s' a) (n + 1) := by
  have := h.d0
  have := h.d1
  unfold loadT
  split
  · exact ⟨h.xs, h.l, by show s.d ≤ s'.d + 1; omega, by show s'.d + 1 ≤ s.d + (n + 1 : Nat); omega⟩
  · exact ⟨h.xs, h.l, by omega, by omega⟩
theorem Lds.mono {s s' : St} {n m : Nat} (h : Lds s s' n) (k : n ≤ m) : Lds s s' m := ⟨h.xs, h.l, h.d0, by have := h.d1; omega⟩
theorem Lds.trans {s s' t : St} {n m : Nat} (h : Lds s s' n) (k : Lds s' t m) : Lds s t (n + m) := ⟨k.xs.trans h.xs, k.l.trans h.l, by have := h.d0; have := k.d0; omega, by have := h.d1; have := k.d1; omega⟩
theorem Lds.cnt {s s' : St} {n k : Nat} (h : Lds s s' n) (c : Cnt s k) : Cnt s' (k + n) := ⟨by have := c.d0; have := h.d0; omega, by have := c.d1; have := h.d1; omega, by rw [h.l]; exact c.l0, by rw [h.l]; have := c.l1; omega⟩
/-- A memory that was loaded from so often at most. -/
def Ml (t : TypeId) (w : World) (p b : Nat) (s : St) (n : Nat) : Prop := ∃ s', Mem t w p b s' ∧ Lds s s' n
def lvOf (g : Nat) (w : World) : Nat := match w.cell? ⟨g, 4, none⟩ with | some (.int _ n) => n.toNat | _ => 0
theorem four_off {w : World} {q k : Nat} (a b c d : Value) (o : Obj) (hk : k < w.heap.size) (h : k ≠ q) : (((((w.setCell ⟨q, 0, none⟩ a).setCell ⟨q, 1, none⟩ b).setCell ⟨q, 2, none⟩ c).setCell ⟨q, 3, none⟩ d).alloc o).heap[k]? = w.heap[k]? := by
  rw [Below.heap_alloc _ _ _ (by simpa [World.setCell] using hk), hoff h, hoff h, hoff h, hoff h]
theorem lvOf_eq {w : World} {g : Nat} {x : Wk} (h : IsWk w g x) : lvOf g w = x.lv.toNat := by unfold lvOf; rw [h.c4]

/-- A step of a walker that goes on, in whichever words. -/
theorem step_any {w : World} {p b g : Nat} {s : St} {x : Wk} {k : Nat} {r : Fd} {l : List Int} (h : Ws w p b g s x) (i : Wi s.xs r l x) (c : Cnt s k) (hk : k ≤ bnd) (u : U64 s.xs) :
    Calls Tryz.prog 62 #[.pointer (some ⟨g, 0, none⟩), .pointer (some ⟨p, 0, none⟩)] w fun e w' => ∃ s' y, (e = .returned (.bool (y.st == 2)) ∧ y = stepW s.xs x) ∧ Ws w' p b g s' y ∧ Lds s s' 1 ∧ But3 g p b w w' ∧ ((Wi s.xs r l y ∧ y.lv = x.lv - 1) ∨ Wd r l y) :=
  (step_go h i.ok i.st i.ld0 i.ld4 c hk u).mono fun _ _ ⟨a, b, d⟩ => ⟨_, _, ⟨a, rfl⟩, b, (Lds.refl s).load _, d, i.step⟩

set_option maxRecDepth 100000 in
set_option maxHeartbeats 1000000 in
theorem wall_yes {w : World} {p b : Nat} {s : St} {k : Nat} (h : Mem 124 w p b s) (c : Cnt s k) (hk : k + 4 ≤ bnd) (u : U64 s.xs) (root pg wt : Int) (ok : okW root pg wt = true) (l1 : -9223372036854775808 ≤ wt) (l2 : wt ≤ 9223372036854775807) :
    Calls Tryz.prog 25 #[.pointer (some ⟨p, 0, none⟩), .int .i64 root, .int .i64 pg, .int .i64 wt] w fun e w' => e = .returned (fdV (runF s.xs pg wt 3 root)) ∧ Ml 124 w' p b s 4 ∧ But p b w w' := by
  have HM := hid h
  have HC := hid c
  have HK := hid hk
  have HU := hid u
  have HI := hid (Wi.new (xs := s.xs) ok)
  have HN := hid (fun W => wnew_at W root pg wt l1 l2 ok)
  have hlt := h.lt
  have h3 : (newW root pg wt).lv.toNat = 3 := rfl
  clear h c hk u ok l1 l2
  generalize newW root pg wt = x0 at *
  generalize pathF s.xs pg wt 3 root = l at *
  generalize runF s.xs pg wt 3 root = r at *
  go_enter Tryz.func25, Tryz.ntmps25
  go_wp2_with fail
  refine (HN.out _).mono ?_
  rintro e w1 ⟨rfl, hw1⟩
  have m1 : Ws w1 p b (w.heap.size + 1) s x0 := by
    rw [hw1]
    refine ⟨(HM.out.below (below_alloc _ _)).below (below_alloc _ _), ?_, by omega, by omega⟩
    have := heap_alloc_new (w.alloc (.cells #[.int .i64 0, .int .i64 0, .int .i64 0, .int .i64 0] 54)) (.cells (wkC x0) 169 (0, 0))
    rw [World.size_alloc] at this
    exact this
  have m2 : w1.heap[w.heap.size]? = some (.cells #[.int .i64 0, .int .i64 0, .int .i64 0, .int .i64 0] 54 (0, 0)) := by
    rw [hw1]; exact P.hkeep (heap_alloc_new _ _) _
  have m3 : But p b w w1 := by rw [hw1]; exact (But.of_below (below_alloc _ _)).trans (But.of_below (below_alloc _ _))
  rw [show (w.alloc (.cells #[.int .i64 0, .int .i64 0, .int .i64 0, .int .i64 0] 54)).heap.size = w.heap.size + 1 by simp]
  have M1 := hid m1
  have M2 := hid m2
  have M3 := hid m3
  have hs := m3.size
  have hg : w.heap.size ≤ w.heap.size + 1 := Nat.le_succ _
  have hq : w.heap.size ≠ w.heap.size + 1 := by omega
  clear m1 m2 m3 hw1
  generalize w.heap.size + 1 = g at *
  go_wp2_with fail
  go_loopw [] (fun wr => ∃ s' x, Ws wr p b g s' x ∧ Wi s.xs r l x ∧ (∃ n : Nat, Lds s s' n ∧ n + x.lv.toNat = 3) ∧ wr.heap[w.heap.size]? = some (.cells #[.int .i64 0, .int .i64 0, .int .i64 0, .int .i64 0] 54 (0, 0)) ∧ But p b w wr) (fun wr => lvOf g wr)
  case atStart => exact ⟨s, x0, M1.out, HI.out, ⟨0, Lds.refl s, by rw [h3]⟩, M2.out, M3.out⟩
  case round =>
    obtain ⟨s', x, hW, hI, ⟨n, hL, hn⟩, hR, hB⟩ := hrel
    have hI' : Wi s'.xs r l x := by rw [hL.xs]; exact hI
    have HS := hid (step_any hW hI' (hL.cnt HC.out) (by have := HK.out; omega) (by rw [hL.xs]; exact HU.out))
    have hlv : lvOf g wr = x.lv.toNat := lvOf_eq hW.wk
    have hv0 := hI.ok.lv0
    have HL := hid hL
    have HR := hid hR
    have HB := hid hB
    have hwl := hW.wk.lt
    clear hW hI hI' hL hR hB
    go_wp2_with fail
    refine HS.out.mono ?_
    rintro e w2 ⟨s2, y, ⟨rfl, -⟩, h1, h2, b3, h4⟩
    have HX : Hid (s'.xs = s.xs) := hid HL.out.xs
    have HL2 : Hid (Lds s s2 (n + 1)) := hid (HL.out.trans h2)
    have hR2 : w2.heap[w.heap.size]? = some (.cells #[.int .i64 0, .int .i64 0, .int .i64 0, .int .i64 0] 54 (0, 0)) := (b3.block _ (lt_of_block HR.out) hq (by omega) (by omega)).trans HR.out
    have HR2 := hid hR2
    have HB2 := hid (But3.but HB.out b3 hg)
    have H1 := hid h1
    clear HS HL HR HB h2 b3 hR2
    rcases h4 with ⟨h4, h5⟩ | h4
    · have hb : (y.st == 2) = false := by rw [h4.st]; rfl
      have H4 := hid h4
      have hy0 := h4.ok.lv0
      have hlv2 : lvOf g w2 = y.lv.toNat := lvOf_eq h1.wk
      clear h4 h1
      go_wp2_with fail
      go_roundw
      case rel => exact ⟨s2, y, H1.out, by rw [HX.out] at H4; exact H4.out, ⟨n + 1, HL2.out, by omega⟩, HR2.out, HB2.out⟩
      case measure => rw [hlv2, hlv]; omega
    · have hb : (y.st == 2) = true := by rw [h4.st]; rfl
      have HF := hid (result_at h1.wk (.inr h4.st))
      rw [h4.fd, hb] at HF
      clear h4 h1
      go_wp2_with fail
      refine HF.out.mono ?_
      rintro e w3 ⟨rfl, b4⟩
      obtain ⟨rf, rr, rv, re⟩ := r
      simp only [ftwo]
      have hR3 := P.stay b4 HR2.out
      have c0 := cell_of (i := 0) hR3 rfl
      have c1 := cell_of (i := 1) hR3 rfl
      have c2 := cell_of (i := 2) hR3 rfl
      have c3 := cell_of (i := 3) hR3 rfl
      have f0 := free_of (i := 0) hR3
      have f1 := free_of (i := 1) hR3
      have f2 := free_of (i := 2) hR3
      have f3 := free_of (i := 3) hR3
      have hl3 := lt_of_block hR3
      have HR3 := hid hR3
      have HM3 : Hid (Ml 124 w3 p b s 4) := hid ⟨s2, H1.out.mem.below b4, HL2.out.mono (by omega)⟩
      have HB3 := hid (HB2.out.trans (But.of_below b4))
      clear hR3 b4 HF
      go_wp2
      (try simp only [Exit.inBlock, Exit.then])
      refine bodyPost_ret (results_cell_row rfl _ _ w.heap.size 54 _ (0, 0) _ rfl (P.hkeep (P.put4 HR3.out _ _ _ _) _) Tryz.underlying54 rfl size54) rfl ?_
      refine ⟨rfl, ?_, (((((HB3.out.fresh (Nat.le_refl _) _).fresh (Nat.le_refl _) _).fresh (Nat.le_refl _) _).fresh (Nat.le_refl _) _).trans (But.of_below (below_alloc _ _)))⟩
      obtain ⟨s3, hm, hd⟩ := HM3.out
      have := hm.lt
      exact ⟨s3, hm.keep (four_off _ _ _ _ _ (by omega) (by omega)) (four_off _ _ _ _ _ (by omega) (by omega)), hd⟩

set_option maxHeartbeats 400000 in
theorem wall_no (w : World) (q : Value) (root pg wt : Int) (ok : okW root pg wt = false) (l1 : -9223372036854775808 ≤ wt) (l2 : wt ≤ 9223372036854775807) :
    Calls Tryz.prog 25 #[q, .int .i64 root, .int .i64 pg, .int .i64 wt] w fun e w' => e = .returned (fdV ⟨0, 0, 0, 1⟩) ∧ Below w.heap.size w w' := by
  have HN := hid (fun W => wnew_no W root pg wt l1 l2 ok)
  clear ok l1 l2
  go_enter Tryz.func25, Tryz.ntmps25
  go_wp2_with fail
  refine (HN.out _).mono ?_
  rintro e w1 ⟨rfl, hw1⟩
  rw [hw1]
  clear hw1 w1 HN
  go_wp2
  (try simp only [Exit.inBlock, Exit.then])
  refine bodyPost_ret (results_cell_row rfl _ _ w.heap.size 54 _ (0, 0) _ rfl (heap_alloc_new _ _) Tryz.underlying54 rfl size54) rfl ?_
  exact ⟨rfl, below_alloc _ _⟩
theorem wall_at {w : World} {p b : Nat} {s : St} {k : Nat} (h : Mem 124 w p b s) (c : Cnt s k) (hk : k + 4 ≤ bnd) (u : U64 s.xs) (root pg wt : Int) (l1 : -9223372036854775808 ≤ wt) (l2 : wt ≤ 9223372036854775807) :
    Calls Tryz.prog 25 #[.pointer (some ⟨p, 0, none⟩), .int .i64 root, .int .i64 pg, .int .i64 wt] w fun e w' => e = .returned (fdV (fAll s.xs root pg wt)) ∧ Ml 124 w' p b s 4 ∧ But p b w w' := by
  unfold fAll
  cases ok : okW root pg wt
  · refine (wall_no w _ root pg wt ok l1 l2).mono fun e w' ⟨a, d⟩ => ⟨a.trans (by rw [if_neg (by simp)]), ⟨s, h.below d, (Lds.refl s).mono (by omega)⟩, But.of_below d⟩
  · rw [if_pos rfl]
    exact wall_yes h c hk u root pg wt ok l1 l2
end Go.Proofs.YtpfmmlbakbhklaaGreatDoor
namespace Go.Proofs.YtpfmmlbakbhklaaGreatDoor
open Go.RowKit

/-- A slice that reads as the numbers xs. -/
def LiesI (w : World) (v : Value) (xs : List Int) : Prop :=
  xs.length ≤ 1000000 ∧ ∃ q c, v = .slice q xs.length c ∧ (xs ≠ [] → ∃ b off, q = some ⟨b, off, none⟩ ∧ b < w.heap.size ∧ ∀ i, i < xs.length → w.cell? ⟨b, off + i, none⟩ = some (.int .i64 (xs.getD i 0)))
theorem LiesI.below {w w' : World} {v : Value} {xs : List Int} (h : LiesI w v xs) (hb : Below w.heap.size w w') : LiesI w' v xs := by
  obtain ⟨hV, q, c, rfl, hc⟩ := h
  refine ⟨hV, q, c, rfl, fun hne => ?_⟩
  obtain ⟨b, off, rfl, h1, h2⟩ := hc hne
  exact ⟨b, off, rfl, Nat.lt_of_lt_of_le h1 hb.size, fun i hi => (hb.cell (p := ⟨b, off + i, none⟩) h1).trans (h2 i hi)⟩
/-- The cells of a block of its own. -/
theorem LiesI.of_row {w : World} {g n c : Nat} {xs : List Int} (h : w.heap[g]? = some (.cells (ints xs).toArray 3 (0, 0))) (hn : xs.length = n) (hl : n ≤ 1000000) : LiesI w (.slice (some ⟨g, 0, none⟩) n c) xs := by
  subst hn
  refine ⟨hl, _, c, rfl, fun _ => ⟨g, 0, rfl, lt_of_block h, fun i hi => cell_of h ?_⟩⟩
  simp [ints, List.getD, hi]

set_option maxHeartbeats 400000 in
theorem sameI_nil (p q : Option Addr) (c d : Nat) (w : World) :
    Calls Tryz.prog 15 #[.slice p 0 c, .slice q 0 d] w fun e w' => e = .returned (.bool true) ∧ w' = w := by
  go_enter Tryz.func15, Tryz.ntmps15
  go_wp2
  refine wp_loop_rounds 1 ?_
  rw [rounds_succ]
  go_wp2
  go_ret
  exact ⟨rfl, rfl⟩

set_option maxHeartbeats 800000 in
theorem sameI_some (b1 o1 b2 o2 c d n : Nat) (f : Nat → Int) (w : World) (hn : n ≤ 1000000)
    (h1 : ∀ i, i < n → w.cell? ⟨b1, o1 + i, none⟩ = some (.int .i64 (f i))) (h2 : ∀ i, i < n → w.cell? ⟨b2, o2 + i, none⟩ = some (.int .i64 (f i))) :
    Calls Tryz.prog 15 #[.slice (some ⟨b1, o1, none⟩) n c, .slice (some ⟨b2, o2, none⟩) n d] w fun e w' => e = .returned (.bool true) ∧ Below w.heap.size w w' := by
  go_enter Tryz.func15, Tryz.ntmps15
  go_wp2
  go_loopw [5] (fun i wr => ∃ k m : Nat, k ≤ n ∧ i = .int .i64 k ∧ wr = w.drewN m) (fun i _ => n - (intOf i).toNat)
  case atStart => exact ⟨0, 0, Nat.zero_le _, rfl, rfl⟩
  case round =>
    obtain ⟨k, m, hk, rfl, hwr⟩ := hrel
    have HW : Hid (wr = w.drewN m) := hwr
    have hcell : ∀ a, wr.cell? a = w.cell? a := fun a => by rw [hwr]; simp
    by_cases hlt : k < n
    · have c1 := (hcell _).trans (h1 k hlt)
      have c2 := (hcell _).trans (h2 k hlt)
      clear hwr hcell h1 h2
      generalize f k = x at c1 c2
      go_wp2
      go_quiet (fail)
      go_wp2
      refine ⟨⟨k + 1, m + nq, by omega, by go_num, ?_⟩, by simp [intOf]; omega⟩
      rw [HW.out]; simp [World.drewN_drewN]
    · clear hwr hcell h1 h2
      go_wp2
      go_ret
      refine ⟨rfl, ?_⟩
      rw [HW.out]; exact below_drewN (Below.refl _ _) m

theorem sameI_any {w : World} {u v : Value} {xs : List Int} (h : LiesI w u xs) (k : LiesI w v xs) :
    Calls Tryz.prog 15 #[u, v] w fun e w' => e = .returned (.bool true) ∧ Below w.heap.size w w' := by
  obtain ⟨hn, p, c, rfl, hp⟩ := h
  obtain ⟨_, q, d, rfl, hq⟩ := k
  by_cases hne : xs = []
  · subst hne
    refine (sameI_nil p q c d w).mono ?_
    rintro e w' ⟨rfl, hw⟩
    rw [hw]
    exact ⟨rfl, Below.refl _ _⟩
  · obtain ⟨b1, o1, rfl, _, h1⟩ := hp hne
    obtain ⟨b2, o2, rfl, _, h2⟩ := hq hne
    exact sameI_some b1 o1 b2 o2 c d xs.length (fun i => (xs.getD i 0)) w hn h1 h2
end Go.Proofs.YtpfmmlbakbhklaaGreatDoor
