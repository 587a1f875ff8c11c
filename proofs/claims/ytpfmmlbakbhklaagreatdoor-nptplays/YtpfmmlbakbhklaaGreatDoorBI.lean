/- Tables in words and frames: an entry of a page, its way, what New, Map, Large, Unmap, Protect, Query, All and Drop tell and leave, as functions of the words and the frames. Of no function; no conditions. The statement 'for .. := range f { .. }' where no round leaves: the caller says what holds between two rounds (I, of a state of his own), f is told of it, and each round keeps whatever has been laid since f was called. Of no function; no conditions. Words and frames as they lie in memory (a memory and a pool behind pointers), and tables (a struct behind a pointer): what stays when a word is laid or a frame is turned. Of no function; no conditions. A region that draws its order, whose last operation but one writes what the first ones read: loads may be taken first as long as what they read is kept by all that may come ahead of them; behind a turning point nothing is asked any more. Of no function; no conditions. All tables from the root down, as a list that is laid by going over itself. Of no function; no conditions. What a call with an error leaves, and which frames are retired: of words and frames alone. Of no function; no conditions. The last bit of a number of 64 bits. Of no function; no conditions. -/
import Derived.Test.YtpfmmlbakbhklaaGreatDoorBH
import Derived.Test.YtpfmmlbakbhklaaGreatDoorBF
import Derived.Test.YtpfmmlbakbhklaaGreatDoorBA
import Derived.Test.YtpfmmlbakbhklaaGreatDoorRows
import Derived.Test.YtpfmmlbakbhklaaGreatDoorBG
import Derived.RangeFuncNested
import Derived.RangeFuncBound
import Derived.RangeFuncCalls
import Derived.RangeFuncLeaves
import Derived.Deep.RegionHeld3
namespace Go.Proofs.YtpfmmlbakbhklaaGreatDoor
open Go.RowKit

/-- Words and frames. -/
structure Sm where
  xs : List Int
  ds : List O.Ds

def setW (xs : List Int) (a x : Int) : List Int := if inB xs.length a = true then xs.set a.toNat x else xs
theorem setW_len (xs : List Int) (a x : Int) : (setW xs a x).length = xs.length := by unfold setW; split <;> simp
/-- The entry of a page in a table. -/
def en (xs : List Int) (pg fr : Int) (v : Nat) : P.En := P.prD (wordAt xs (P.at' fr pg v)).toNat
/-- Where a page's way ends, if it goes down to a level at most. -/
def endF (xs : List Int) (pg : Int) (lo : Nat) : Nat → Int → Int × Nat
  | 0, fr => (fr, 0)
  | v + 1, fr => if (decide (lo < v + 1) && P.tb (en xs pg fr (v + 1))) = true then endF xs pg lo v (en xs pg fr (v + 1)).f else (fr, v + 1)
/-- Its tables. -/
def wayF (xs : List Int) (pg : Int) (lo : Nat) : Nat → Int → List (Int × Nat)
  | 0, fr => [(fr, 0)]
  | v + 1, fr => (fr, v + 1) :: (if (decide (lo < v + 1) && P.tb (en xs pg fr (v + 1))) = true then wayF xs pg lo v (en xs pg fr (v + 1)).f else [])

def lay (s : Sm) (a : Int) (e : P.En) : Sm := ⟨setW s.xs a (P.pk e), s.ds⟩
/-- The first k places of a frame are laid. -/
def laidK (xs : List Int) (f : Int) (ent : Nat → P.En) : Nat → List Int
  | 0 => xs
  | k + 1 => setW (laidK xs f ent k) (P.at' f k 0) (P.pk (ent k))
theorem laidK_len (xs : List Int) (f : Int) (ent : Nat → P.En) (k : Nat) : (laidK xs f ent k).length = xs.length := by
  induction k with
  | zero => rfl
  | succ k ih => exact (setW_len _ _ _).trans ih
def newE (s : Sm) (o : Int) : Int := O.kE s.ds 3 o
def newF (s : Sm) (o : Int) : Int := O.kF s.ds 3 o
def newS (s : Sm) (o : Int) (ent : Nat → P.En) : Sm := if newE s o = 0 then ⟨laidK s.xs (newF s o) ent 16, O.kL s.ds 3 o⟩ else s
def hangS (s : Sm) (o a : Int) (ent : Nat → P.En) : Sm := if newE s o = 0 then lay (newS s o ent) a ⟨true, 0, false, newF s o⟩ else s
def none16 (_ : Nat) : P.En := P.zd

/-! Map, Large -/
/-- What is done at a table ahead of the last one. -/
def mkS (s : Sm) (o pg fr : Int) (v : Nat) : Sm := if (en s.xs pg fr v).p = true then s else hangS s o (P.at' fr pg v) none16
def putS (o pg : Int) (lo : Nat) (e : P.En) : Nat → Int → Sm → Sm
  | 0, fr, s => if lo = 0 then lay s (P.at' fr pg (0 : Nat)) e else s
  | v + 1, fr, s => if lo = v + 1 then lay s (P.at' fr pg (v + 1 : Nat)) e
      else if (decide (lo < v + 1) && P.tb (en (mkS s o pg fr (v + 1)).xs pg fr (v + 1))) = true then putS o pg lo e v (en (mkS s o pg fr (v + 1)).xs pg fr (v + 1)).f (mkS s o pg fr (v + 1))
      else mkS s o pg fr (v + 1)
def putE (s : Sm) (root pg : Int) (lo : Nat) (e : P.En) : Int :=
  if P.btw pg 0 65535 = false then 2 else if P.btw e.f 0 4095 = false then 2 else if P.btw e.r 1 7 = false then 7
  else if (pg % (P.sp lo) != 0 || e.f % (P.sp lo) != 0) = true then 8
  else if (en s.xs pg (endF s.xs pg lo 3 root).1 (endF s.xs pg lo 3 root).2).p = true then 5
  else if (O.cK s.ds 0 : Int) < (endF s.xs pg lo 3 root).2 - lo then 12 else 0
def putT (s : Sm) (o root pg : Int) (lo : Nat) (e : P.En) : Sm := if putE s root pg lo e = 0 then putS o pg lo e 3 root s else s

/-! Query, Unmap, Protect -/
def fd (s : Sm) (root pg : Int) : Int × Nat := endF s.xs pg 0 3 root
def fdE (s : Sm) (root pg : Int) : P.En := en s.xs pg (fd s root pg).1 (fd s root pg).2
def qE (s : Sm) (root pg : Int) : Int := if P.btw pg 0 65535 = false then 2 else if (fdE s root pg).p = false then 4 else 0
def qF (s : Sm) (root pg : Int) : Int := if qE s root pg = 0 then (fdE s root pg).f + pg % (P.sp (fd s root pg).2) else 0
def qR (s : Sm) (root pg : Int) : Int := if qE s root pg = 0 then (fdE s root pg).r else 0
def part (e : P.En) (i : Nat) : P.En := ⟨true, e.r, false, e.f + i⟩
/-- A large entry is split. -/
def alE (s : Sm) (o root pg : Int) : Int := if (fdE s root pg).l = true then newE s o else 0
def alS (s : Sm) (o root pg : Int) : Sm := if (fdE s root pg).l = true then hangS s o (P.at' (fd s root pg).1 pg (fd s root pg).2) (part (fdE s root pg)) else s
def cutW (xs : List Int) (a m : Int) : List Int := if allB xs.length a m = true then cut xs a.toNat m.toNat else []
def empW (xs : List Int) (fr : Int) : Bool := (cutW xs (P.at' fr 0 0) 16).all fun x => x == 0
/-- Tables that have become empty go, from the last one up. -/
def thinS (pg : Int) : List (Int × Nat) → Sm → Sm
  | x :: y :: r, s => if empW s.xs x.1 = true then thinS pg (y :: r) ⟨setW s.xs (P.at' y.1 pg y.2) 0, O.tL s.ds x.1 5 0⟩ else s
  | _, s => s
def unE (s : Sm) (o root pg : Int) : Int := if qE s root pg = 0 then alE s o root pg else qE s root pg
def unA (s : Sm) (o root pg : Int) : Sm := lay (alS s o root pg) (P.at' (fd (alS s o root pg) root pg).1 pg (fd (alS s o root pg) root pg).2) P.zd
def unS (s : Sm) (o root pg : Int) : Sm := if unE s o root pg = 0 then thinS pg (wayF (unA s o root pg).xs pg 0 3 root).reverse (unA s o root pg) else s
def unF (s : Sm) (o root pg : Int) : Int := if unE s o root pg = 0 then (fdE (alS s o root pg) root pg).f else 0
def prE (s : Sm) (o root pg r : Int) : Int :=
  if P.btw pg 0 65535 = false then 2 else if P.btw r 1 7 = false then 7 else if qE s root pg = 0 then (if (fdE s root pg).r = r then 0 else alE s o root pg) else qE s root pg
def prA (s : Sm) (o root pg r : Int) : Sm :=
  lay (alS s o root pg) (P.at' (fd (alS s o root pg) root pg).1 pg (fd (alS s o root pg) root pg).2) { fdE (alS s o root pg) root pg with r := r }
def prS (s : Sm) (o root pg r : Int) : Sm := if prE s o root pg r = 0 then (if (fdE s root pg).r = r then s else prA s o root pg r) else s

/-! All, Drop -/
def kids (xs : List Int) (t : Int × Nat) : List (Int × Nat) :=
  ((cutW xs (P.at' t.1 0 0) 16).filter fun x => decide (0 < t.2) && P.tb (P.prD x.toNat)).map fun x => ((P.prD x.toNat).f, t.2 - 1)
def levs (xs : List Int) : Nat → List (Int × Nat) → List (Int × Nat)
  | 0, l => l
  | k + 1, l => l ++ levs xs k (l.flatMap (kids xs))
/-- All tables, from the root down. -/
def gat (xs : List Int) (root : Int) : List (Int × Nat) := levs xs 3 [(root, 3)]
def turnAll (ds : List O.Ds) (l : List Int) : List O.Ds := l.foldl (fun ds f => O.tL ds f 5 0) ds
end Go.Proofs.YtpfmmlbakbhklaaGreatDoor
namespace Go.Proofs.YtpfmmlbakbhklaaGreatDoor
open Go.RowKit

/-- What lay from n on is as it was. -/
structure Kf (n : Nat) (A B : World) : Prop where
  size : A.heap.size ≤ B.heap.size
  block : ∀ k, n ≤ k → k < A.heap.size → B.heap[k]? = A.heap[k]?
theorem Kf.refl (n : Nat) (A : World) : Kf n A A := ⟨Nat.le_refl _, fun _ _ _ => rfl⟩
theorem Kf.trans {n : Nat} {A B C : World} (h : Kf n A B) (k : Kf n B C) : Kf n A C :=
  ⟨Nat.le_trans h.size k.size, fun i a b => (k.block i a (Nat.lt_of_lt_of_le b h.size)).trans (h.block i a b)⟩
theorem Kf.mono {n m : Nat} {A B : World} (h : Kf n A B) (hm : n ≤ m) : Kf m A B := ⟨h.size, fun k a b => h.block k (Nat.le_trans hm a) b⟩
theorem Kf.of_below {n : Nat} {A B : World} (h : Below A.heap.size A B) : Kf n A B := ⟨h.size, fun k _ b => h.block k b⟩
/-- But for the block l the world is as it was. -/
structure Tw (l : Nat) (A B : World) : Prop where
  os : B.os = A.os
  tape : B.tape = A.tape
  output : B.output = A.output
  size : B.heap.size = A.heap.size
  block : ∀ k, k ≠ l → B.heap[k]? = A.heap[k]?
theorem Tw.put (A : World) (l : Nat) (o : Obj) : Tw l A (A.putObj l o) :=
  have h := grownBy_putObj' A l o
  ⟨h.os, h.tape, h.output, by simp [World.putObj], fun k hk => World.putObj_heap_other hk⟩
theorem Tw.below {n l : Nat} {A B : World} (h : Tw l A B) (hl : n ≤ l) : Below n A B := ⟨h.os, h.tape, h.output, Nat.le_of_eq h.size.symm, fun k hk => h.block k (by omega)⟩

/-- Whatever is no cells, from n on, lies as it lay. -/
def Ko (n : Nat) (A B : World) : Prop := ∀ (k : Nat) (o : Obj), n ≤ k → A.heap[k]? = some o → o.isCells = false → B.heap[k]? = some o
theorem Ko.trans {n : Nat} {A B C : World} (h : Ko n A B) (k : Ko n B C) : Ko n A C := fun i o a b c => k i o a (h i o a b c) c
theorem Ko.of_below {n : Nat} {A B : World} (h : Below A.heap.size A B) : Ko n A B := fun k _ _ ho _ => (h.block k (Array.getElem?_eq_some_iff.1 ho).1).trans ho
theorem Ko.refl (n : Nat) (A : World) : Ko n A A := fun _ _ _ h _ => h
/-- A block of cells is none of those that are no cells. -/
theorem Tw.cells {l : Nat} {A B : World} (h : Tw l A B) {o : Obj} (hl : A.heap[l]? = some o) (ho : o.isCells = false) {k : Nat} {c : Array Value} {T : TypeId} (hk : A.heap[k]? = some (.cells c T (0, 0))) : B.heap[k]? = some (.cells c T (0, 0)) := by
  refine (h.block k fun e => ?_).trans hk
  subst e
  rw [hl] at hk; injection hk with hk; subst hk; cases ho

variable {F : Fence} {n : Nat} {P : Program}
def tellPost {β : Type} (B : Nat) (Rk : World → World → Prop) (I : β → World → Prop) (s : β) (W : World) : Exit → Act → World → Prop
  | .normal, _, W' => I s W' ∧ Ko B W W' ∧ Rk W W'
  | _, _, _ => False
/-- Ab: what the function may do between two rounds; Rk: what a round keeps. -/
theorem range_told {β α : Type} {g : Operand} {ps : Array Tmp} {assign body : Code} {Q : Exit → Act → World → Prop} {a : Act} {w : World}
    (hro : F.round = none) (h1 : 1 ≤ n) {gf : Nat} {lb : Array Value} (hg : a.eval g = .func (.func gf) #[] lb) (hFg : F.fn gf) (eg : ∀ args w, (callFunc gf args).run P w = .ok (.enter gf args) w)
    (encs : α → Array Value) (hps : ∀ x, (encs x).size = ps.size)
    (Ab Rk : World → World → Prop) (hAg : ∀ A B, Below A.heap.size A B → Ab A B) (hAo : ∀ (A B : World) (k : Nat) (o : Obj), Ab A B → A.heap[k]? = some o → o.isCells = false → B.heap[k]? = some o)
    (hRt : ∀ A B C, Rk A B → Rk B C → Rk A C) (hRp : ∀ (A B : World) (l : Nat) (o : Obj), Tw l A B → A.heap[l]? = some o → o.isCells = false → Rk A B)
    (I : β → World → Prop) (Ok : β → α → Prop) (nx : β → α → β) (Fin : β → Prop) (s0 : β)
    (hI : ∀ s A B, I s A → Ab A B → I s B) (hIp : ∀ (s : β) (A B : World) (l : Nat) (o : Obj), I s A → Tw l A B → A.heap[l]? = some o → o.isCells = false → w.heap.size ≤ l → I s B) (h0 : I s0 w)
    (hit : ∀ (l : Nat) (J : β → World → Prop) (W : World), Below w.heap.size w W →
      (∀ s A B, J s A → Ab A B → J s B) → (∀ s A, J s A → I s A) →
      (∀ s x A, J s A → Ok s x → YieldAt F (n - 1 - 1) P l (encs x) A fun e B => e = .returned (.bool true) ∧ J (nx s x) B ∧ Rk A B) →
      J s0 W → CallsIn F (n - 1) P gf (#[.func (.yield l) #[] #[]] ++ lb) W fun e B => (∃ v, e = .returned v) ∧ ∃ s, Fin s ∧ J s B)
    (hround : ∀ (l : Nat) (s : β) (x : α) (W : World), I s W → Ok s x → (∃ o : Obj, W.heap[w.heap.size + 1]? = some o ∧ o.isCells = false) →
      assign.wpIn (F.inRound l) (n - 1 - 1) P (Exit.then (fun a₁ W1 => Ko w.heap.size W W1 ∧ Rk W W1 ∧ ∀ W2, Tw (w.heap.size + 1) W1 W2 → body.wpIn (F.inRound l) (n - 1 - 1) P (tellPost w.heap.size Rk I (nx s x) W2) a₁ W2) (fun _ _ _ => False))
        { tmps := (ps.zip (encs x)).foldl (fun t (p, v) => t.setIfInBounds p v) a.tmps, defers := [] } W)
    (hdone : ∀ (s : β) (W : World), Fin s → I s W → W.heap[w.heap.size]? = some (.deferred (some [])) → Q .normal { a with defers := { target := .collected w.heap.size, args := #[] } :: a.defers } W) :
    (Code.rangeFunc g ps assign body).wpIn F n P Q a w := by
  refine wpIn_rangeFunc fun fn hfn => ?_
  rw [hro]
  obtain ⟨rec, hrec⟩ : ∃ rec : LoopState → Loop, rec = fun st => { state := st, pending := none, fn, tmps := a.tmps, params := ps, assign, body, defers := w.heap.size } := ⟨_, rfl⟩
  have hb1 := (Below.refl w.heap.size w).alloc (Nat.le_refl _) (.deferred (some []))
  have hb2 : Below (w.alloc (.deferred (some []))).heap.size (w.alloc (.deferred (some []))) ((w.alloc (.deferred (some []))).alloc (.loop (rec .ready))) := (Below.refl _ _).alloc (Nat.le_refl _) _
  have hB1 : Below w.heap.size w ((w.alloc (.deferred (some []))).alloc (.loop (rec .ready))) := hb1.alloc (by simp) _
  have hI1 := hI _ _ _ (hI _ _ _ h0 (hAg _ _ hb1)) (hAg _ _ hb2)
  have hL1 : ((w.alloc (.deferred (some []))).alloc (.loop (rec .ready))).heap[w.heap.size + 1]? = some (.loop (rec .ready)) := by
    have := World.alloc_heap_new (w.alloc (.deferred (some []))) (.loop (rec .ready)); rwa [World.size_alloc] at this
  have hK1 : ((w.alloc (.deferred (some []))).alloc (.loop (rec .ready))).heap[w.heap.size]? = some (.deferred (some [])) :=
    (Below.heap_alloc _ _ _ (by simp)).trans (World.alloc_heap_new w _)
  refine ⟨w.heap.size + 1, [{ target := .collected w.heap.size, args := #[] }], (w.alloc (.deferred (some []))).alloc (.loop (rec .ready)), { target := .fn (.func gf) lb, args := #[.func (.yield (w.heap.size + 1)) #[] #[]] }, (w.alloc (.deferred (some []))).alloc (.loop (rec .ready)), gf, #[.func (.yield (w.heap.size + 1)) #[] #[]] ++ lb, (w.alloc (.deferred (some []))).alloc (.loop (rec .ready)),
    by rw [hrec]; exact run_enterLoop_outer _ _ _ _ _, by simp only [resolve, hg]; simp [go_sem], fun f' hf' => by simp [Target.leads] at hf'; subst hf'; exact hFg, by simp [invoke, go_sem, eg], fun _ => h1, ?_⟩
  generalize ((w.alloc (.deferred (some []))).alloc (.loop (rec .ready))) = W1 at *
  refine (hit (w.heap.size + 1) (fun s W => I s W ∧ W.heap[w.heap.size + 1]? = some (.loop (rec .ready)) ∧ W.heap[w.heap.size]? = some (.deferred (some []))) W1 hB1
    (fun s A B hs hb => ⟨hI s A B hs.1 hb, hAo _ _ _ _ hb hs.2.1 rfl, hAo _ _ _ _ hb hs.2.2 rfl⟩) (fun s A h => h.1) ?_ ⟨hI1, hL1, hK1⟩).mono ?_
  · rintro s x A ⟨hi, hl, hk⟩ hok
    have hy := run_yield (P := P) (args := encs x) hl (by rw [hrec]; exact hps x)
    rw [hrec] at hy
    refine ⟨fn, _, assign, body, hy, roundIn_of_wpIn hfn (wpIn_mono (hround (w.heap.size + 1) s x A hi hok ⟨_, hl, rfl⟩) ?_)⟩
    rintro e a1 A1 hp
    cases e with
    | normal =>
      obtain ⟨hko, hrk, hbody⟩ := hp
      have hl1 : A1.heap[w.heap.size + 1]? = some (.loop (rec .ready)) := hko _ _ (by omega) hl rfl
      have hk1 : A1.heap[w.heap.size]? = some (.deferred (some [])) := hko _ _ (Nat.le_refl _) hk rfl
      refine ⟨_, run_beginRound hl1 (by rw [hrec]), wpIn_mono (hbody _ (Tw.put _ _ _)) ?_⟩
      rintro e a3 A3 hp3
      cases e with
      | normal =>
        obtain ⟨hi3, hko3, hrk3⟩ := hp3
        have hl3 := hko3 _ _ (by omega) (World.putObj_heap_same (Array.getElem?_eq_some_iff.1 hl1).1) rfl
        have hk3 := hko3 _ _ (Nat.le_refl _) ((World.putObj_heap_other (by omega)).trans hk1) rfl
        have hr := run_endRound (P := P) none hl3
        refine ⟨_, _, hr, rfl, ⟨hIp _ _ _ _ _ hi3 (Tw.put _ _ _) hl3 rfl (by omega), ?_, (World.putObj_heap_other (by omega)).trans hk3⟩, ?_⟩
        · rw [World.putObj_heap_same (Array.getElem?_eq_some_iff.1 hl3).1, hrec]; rfl
        · exact hRt _ _ _ hrk (hRt _ _ _ (hRp _ _ _ _ (Tw.put _ _ _) hl1 rfl) (hRt _ _ _ hrk3 (hRp _ _ _ _ (Tw.put _ _ _) hl3 rfl)))
      | _ => exact hp3.elim
    | _ => exact hp.elim
  · rintro e W2 ⟨⟨v, rfl⟩, s, hs, hi, hl, hk⟩
    exact ⟨none, _, by have := run_endLoop (P := P) hl (by rw [hrec]; simp); rw [hrec] at this; exact this, hdone s _ hs (hIp _ _ _ _ _ hi (Tw.put _ _ _) hl rfl (by omega)) ((World.putObj_heap_other (by omega)).trans hk)⟩

/-- The function may write blocks of one type (T) alone, of those from n on; a round keeps just these. -/
structure AbT (n : Nat) (T : TypeId) (A B : World) : Prop where
  os : B.os = A.os
  tape : B.tape = A.tape
  output : B.output = A.output
  size : A.heap.size ≤ B.heap.size
  block : ∀ (k : Nat) (o : Obj), A.heap[k]? = some o → (k < n ∨ ∀ c, o ≠ Obj.cells c T (0, 0)) → B.heap[k]? = some o
def RkT (T : TypeId) (A B : World) : Prop := ∀ (k : Nat) (c : Array Value), A.heap[k]? = some (Obj.cells c T (0, 0)) → B.heap[k]? = some (Obj.cells c T (0, 0))
theorem AbT.of_below {n : Nat} {T : TypeId} {A B : World} (h : Below A.heap.size A B) : AbT n T A B :=
  ⟨h.os, h.tape, h.output, h.size, fun k _ ho _ => (h.block k (Array.getElem?_eq_some_iff.1 ho).1).trans ho⟩
theorem AbT.other {n : Nat} {T : TypeId} {A B : World} (k : Nat) (o : Obj) (h : AbT n T A B) (ho : A.heap[k]? = some o) (hc : o.isCells = false) : B.heap[k]? = some o :=
  h.block k o ho (.inr fun c e => by subst e; cases hc)
theorem AbT.cells {n : Nat} {T T' : TypeId} {A B : World} (h : AbT n T A B) {k : Nat} {c : Array Value} (ho : A.heap[k]? = some (.cells c T' (0, 0))) (hT : T' ≠ T) : B.heap[k]? = some (.cells c T' (0, 0)) :=
  h.block k _ ho (.inr fun c' e => hT (by injection e))
theorem AbT.low {n : Nat} {T : TypeId} {A B : World} (h : AbT n T A B) {k : Nat} {o : Obj} (ho : A.heap[k]? = some o) (hk : k < n) : B.heap[k]? = some o := h.block k o ho (.inl hk)
theorem AbT.below {n m : Nat} {T : TypeId} {A B : World} (h : AbT n T A B) (hm : m ≤ n) (hA : m ≤ A.heap.size) : Below m A B :=
  ⟨h.os, h.tape, h.output, h.size, fun k hk => (h.block k A.heap[k] (Array.getElem?_eq_getElem (by omega)) (.inl (by omega))).trans (Array.getElem?_eq_getElem (by omega)).symm⟩
theorem AbT.setCell {n : Nat} {T : TypeId} {A B : World} (h : AbT n T A B) {q i : Nat} {c : Array Value} (hq : A.heap[q]? = some (.cells c T (0, 0))) (hn : n ≤ q) (v : Value) : AbT n T A (B.setCell ⟨q, i, none⟩ v) :=
  ⟨h.os, h.tape, h.output, by simpa [World.setCell] using h.size, fun k o ho hc => by
    have hk : k ≠ q := fun e => by
      subst e
      rcases hc with hc | hc
      · omega
      · rw [hq] at ho; injection ho with ho; exact hc c ho.symm
    exact (Below.heap_setCell B ⟨q, i, none⟩ v k hk).trans (h.block k o ho hc)⟩
theorem RkT.refl (T : TypeId) (A : World) : RkT T A A := fun _ _ h => h
theorem RkT.of_below {T : TypeId} {A B : World} (h : Below A.heap.size A B) : RkT T A B := fun k _ ho => (h.block k (Array.getElem?_eq_some_iff.1 ho).1).trans ho
theorem RkT.trans {T : TypeId} (A B C : World) (h : RkT T A B) (k : RkT T B C) : RkT T A C := fun i c hi => k i c (h i c hi)
theorem RkT.tw {T : TypeId} (A B : World) (l : Nat) (o : Obj) (h : Tw l A B) (hl : A.heap[l]? = some o) (ho : o.isCells = false) : RkT T A B := fun _ _ hk => h.cells hl ho hk
end Go.Proofs.YtpfmmlbakbhklaaGreatDoor
namespace Go.Proofs.YtpfmmlbakbhklaaGreatDoor
open Go.RowKit

/-- The blocks: a memory, its words, a pool, its frames. -/
structure Si where
  mp : Nat
  wb : Nat
  pp : Nat
  pb : Nat
/-- The words and frames s lie in the blocks u; k: no more calls of the memory have been counted. -/
structure Wg (tm tp td : TypeId) (u : Si) (w : World) (s : Sm) (k : Nat) : Prop where
  mem : ∃ d l, IsMem tm w u.mp u.wb s.xs d l ∧ 0 ≤ d ∧ d ≤ k ∧ 0 ≤ l ∧ l ≤ k
  pool : O.IsP tp td w u.pp u.pb s.ds
  tab : O.Tab w
  u64 : U64 s.xs
  low : 0 < u.mp ∧ 0 < u.wb ∧ 0 < u.pb ∧ 0 < u.pp
  ne : u.mp ≠ u.pp ∧ u.mp ≠ u.pb ∧ u.wb ≠ u.pp ∧ u.wb ≠ u.pb
abbrev Wo := Wg 124 129 64
abbrev Wr := Wg 87 90 91
/-- All is as it was but the memory, its words, and the frames. -/
structure Ch (u : Si) (w w' : World) : Prop where
  os : w'.os = w.os
  tape : w'.tape = w.tape
  output : w'.output = w.output
  size : w.heap.size ≤ w'.heap.size
  block : ∀ k, k < w.heap.size → k ≠ u.mp → k ≠ u.wb → k ≠ u.pb → w'.heap[k]? = w.heap[k]?
section
variable {u : Si} {w w' x y z : World}
theorem Ch.refl (u : Si) (w : World) : Ch u w w := ⟨rfl, rfl, rfl, Nat.le_refl _, fun _ _ _ _ _ => rfl⟩
theorem Ch.trans (h : Ch u x y) (k : Ch u y z) : Ch u x z :=
  ⟨k.os.trans h.os, k.tape.trans h.tape, k.output.trans h.output, Nat.le_trans h.size k.size, fun i hi a b c => (k.block i (Nat.lt_of_lt_of_le hi h.size) a b c).trans (h.block i hi a b c)⟩
theorem Ch.of_below (h : Below w.heap.size w w') : Ch u w w' := ⟨h.os, h.tape, h.output, h.size, fun k hk _ _ _ => h.block k hk⟩
theorem Ch.of_but (h : But u.mp u.wb w w') : Ch u w w' := ⟨h.os, h.tape, h.output, h.size, fun k hk a b _ => h.block k hk a b⟩
theorem Ch.of_bt (h : O.Bt u.pb w w') : Ch u w w' := ⟨h.os, h.tape, h.output, h.size, fun k hk _ _ c => h.block k hk c⟩
theorem Ch.below (h : Ch u w w') {B : Nat} (hB : B ≤ w.heap.size) (h1 : B ≤ u.mp) (h2 : B ≤ u.wb) (h3 : B ≤ u.pb) : Below B w w' :=
  ⟨h.os, h.tape, h.output, h.size, fun k hk => h.block k (by omega) (by omega) (by omega) (by omega)⟩
theorem Ch.kf (h : Ch u w w') {n : Nat} (h1 : u.mp < n) (h2 : u.wb < n) (h3 : u.pb < n) : Kf n w w' :=
  ⟨h.size, fun k a b => h.block k b (by omega) (by omega) (by omega)⟩
/-- From B on new blocks may be turned, too. -/
theorem Ch.setNew (h : Ch u w w') {p : Addr} (hp : w.heap.size ≤ p.block) (v : Value) : Ch u w (w'.setCell p v) :=
  ⟨h.os, h.tape, h.output, by simpa [World.setCell] using h.size, fun k hk a b c => (Below.heap_setCell w' p v k (by omega)).trans (h.block k hk a b c)⟩
theorem Ch.below2 (h : Ch u w x) (k : Below w.heap.size x y) : Ch u w y :=
  ⟨k.os.trans h.os, k.tape.trans h.tape, k.output.trans h.output, Nat.le_trans h.size k.size, fun i hi a b c => (k.block i hi).trans (h.block i hi a b c)⟩
theorem Ch.alloc (h : Ch u w w') (o : Obj) : Ch u w (w'.alloc o) := h.trans (.of_below (below_alloc w' o))
theorem Ch.drew (h : Ch u w w') : Ch u w w'.drew := h.trans (.of_below (Below.refl _ _).drew)
variable {tm tp td : TypeId} {s : Sm} {k : Nat}
theorem Wg.lt (h : Wg tm tp td u w s k) : (u.mp < w.heap.size ∧ u.wb < w.heap.size) ∧ u.pp < w.heap.size ∧ u.pb < w.heap.size := by
  obtain ⟨d, l, hm, -⟩ := h.mem
  exact ⟨hm.lt, h.pool.lt⟩
theorem Wg.below (h : Wg tm tp td u w s k) (b : Below w.heap.size w w') : Wg tm tp td u w' s k := by
  obtain ⟨d, l, hm, hd⟩ := h.mem
  exact ⟨⟨d, l, hm.below b, hd⟩, h.pool.below b, h.tab.go b, h.u64, h.low, h.ne⟩
theorem Wg.belowN (h : Wg tm tp td u w s k) {n : Nat} (b : Below n w w') (h1 : u.mp < n ∧ u.wb < n) (h2 : u.pp < n ∧ u.pb < n) : Wg tm tp td u w' s k := by
  obtain ⟨d, l, hm, hd⟩ := h.mem
  exact ⟨⟨d, l, hm.keep (b.block _ h1.1) (b.block _ h1.2), hd⟩, h.pool.keep (b.block _ h2.1) (b.block _ h2.2), h.tab.below b (by omega) b.size, h.u64, h.low, h.ne⟩
theorem Wg.mono (h : Wg tm tp td u w s k) {m : Nat} (hk : k ≤ m) : Wg tm tp td u w s m := by
  obtain ⟨d, l, hm, hd⟩ := h.mem
  exact ⟨⟨d, l, hm, by omega, by omega, by omega, by omega⟩, h.pool, h.tab, h.u64, h.low, h.ne⟩
theorem Wg.alloc (h : Wg tm tp td u w s k) (o : Obj) : Wg tm tp td u (w.alloc o) s k := h.below (below_alloc w o)
theorem Wg.drew (h : Wg tm tp td u w s k) : Wg tm tp td u w.drew s k := h.below (Below.refl _ _).drew
theorem U64.setW {xs : List Int} (h : U64 xs) (a : Int) {v : Int} (h0 : 0 ≤ v) (h1 : v < 18446744073709551616) : U64 (setW xs a v) := fun i => by
  unfold Go.Proofs.YtpfmmlbakbhklaaGreatDoor.setW
  split
  · by_cases e : a.toNat = i
    · subst e
      rw [List.getD_eq_getElem?_getD, List.getElem?_set]
      split
      · split
        · exact ⟨h0, h1⟩
        · exact ⟨by decide, by decide⟩
      · omega
    · rw [List.getD_eq_getElem?_getD, List.getElem?_set_ne e, ← List.getD_eq_getElem?_getD]
      exact h i
  · exact h i
/-- A word is laid. -/
theorem Wg.store (h : Wg tm tp td u w s k) {d l : Int} (hd : 0 ≤ d ∧ d ≤ k ∧ 0 ≤ l ∧ l ≤ k) {a v : Int} (hv : 0 ≤ v ∧ v < 18446744073709551616) (hM : Mem tm w' u.mp u.wb (storeT ⟨s.xs, d, l⟩ a v)) (hB : But u.mp u.wb w w') :
    Wg tm tp td u w' ⟨setW s.xs a v, s.ds⟩ (k + 1) := by
  have e : (storeT ⟨s.xs, d, l⟩ a v).xs = setW s.xs a v := storeT_xs _ _ _
  have hM' : IsMem tm w' u.mp u.wb (setW s.xs a v) (storeT ⟨s.xs, d, l⟩ a v).d (storeT ⟨s.xs, d, l⟩ a v).l := by rw [← e]; exact hM
  refine ⟨⟨_, _, hM', ?_⟩, h.pool.keep (hB.block _ h.lt.2.1 h.ne.1.symm h.ne.2.2.1.symm) (hB.block _ h.lt.2.2 h.ne.2.1.symm h.ne.2.2.2.symm), ?_, h.u64.setW a hv.1 hv.2, h.low, h.ne⟩
  · unfold storeT
    split
    · simp only; omega
    · simp only; omega
  · exact h.tab.below (hB.below (B := 1) (by have := h.tab.pos; omega) h.low.1 h.low.2.1) (by omega) hB.size
/-- A frame is turned. -/
theorem Wg.turn (h : Wg tm tp td u w s k) {ds : List O.Ds} (hP : O.IsP tp td w' u.pp u.pb ds) (hB : O.Bt u.pb w w') : Wg tm tp td u w' ⟨s.xs, ds⟩ k := by
  obtain ⟨d, l, hm, hd⟩ := h.mem
  exact ⟨⟨d, l, hm.keep (hB.block _ h.lt.1.1 h.ne.2.1) (hB.block _ h.lt.1.2 h.ne.2.2.2), hd⟩, hP, hB.tab h.tab h.low.2.2.1, h.u64, h.low, h.ne⟩
end

/-- The program's tables lie in block t. -/
def IsT (u : Si) (w : World) (t : Nat) (st o root : Int) : Prop :=
  w.heap[t]? = some (.cells #[.int .i64 st, .pointer (some ⟨u.mp, 0, none⟩), .pointer (some ⟨u.pp, 0, none⟩), .int .i64 o, .int .i64 root] 70 (0, 0))
section
variable {u : Si} {w w' : World} {t : Nat} {st o root : Int} {s : Sm} {k : Nat}
theorem IsT.lt (h : IsT u w t st o root) : t < w.heap.size := lt_of_block h
theorem IsT.below (h : IsT u w t st o root) (b : Below w.heap.size w w') : IsT u w' t st o root := (b.block _ h.lt).trans h
theorem IsT.cells (h : IsT u w t st o root) : w.cell? ⟨t, 0, none⟩ = some (.int .i64 st) ∧ w.cell? ⟨t, 1, none⟩ = some (.pointer (some ⟨u.mp, 0, none⟩)) ∧ w.cell? ⟨t, 2, none⟩ = some (.pointer (some ⟨u.pp, 0, none⟩)) ∧ w.cell? ⟨t, 3, none⟩ = some (.int .i64 o) ∧ w.cell? ⟨t, 4, none⟩ = some (.int .i64 root) :=
  ⟨P.cell_of h rfl, P.cell_of h rfl, P.cell_of h rfl, P.cell_of h rfl, P.cell_of h rfl⟩
/-- A block of another type is none of those that are turned. -/
theorem Wg.apart (h : Wo u w s k) {q : Nat} {c : Array Value} {T : TypeId} (hq : w.heap[q]? = some (.cells c T (0, 0))) (h1 : T ≠ 124) (h2 : T ≠ 67) (h3 : T ≠ 64) : q ≠ u.mp ∧ q ≠ u.wb ∧ q ≠ u.pb := by
  obtain ⟨d, l, hm, -⟩ := h.mem
  refine ⟨fun e => ?_, fun e => ?_, fun e => ?_⟩
  · rw [e, hm.head] at hq; injection hq with hq; injection hq with _ hq _; exact h1 hq.symm
  · rw [e] at hq; rw [show w.heap[u.wb]? = _ from hm.row] at hq; injection hq with hq; injection hq with _ hq _; exact h2 hq.symm
  · obtain ⟨r, hr⟩ := h.pool.row
    rw [e, hr] at hq; injection hq with hq; injection hq with _ hq _; exact h3 hq.symm
theorem Wg.keep (h : Wo u w s k) (hC : Ch u w w') {q : Nat} {c : Array Value} {T : TypeId} (hq : w.heap[q]? = some (.cells c T (0, 0))) (h1 : T ≠ 124) (h2 : T ≠ 67) (h3 : T ≠ 64) : w'.heap[q]? = some (.cells c T (0, 0)) := by
  obtain ⟨a, b, c⟩ := h.apart hq h1 h2 h3
  exact (hC.block q (lt_of_block hq) a b c).trans hq
theorem IsT.ch (h : IsT u w t st o root) (hW : Wo u w s k) (hC : Ch u w w') : IsT u w' t st o root := hW.keep hC h (by decide) (by decide) (by decide)
end
theorem pk_lt (e : P.En) : 0 ≤ P.pk e ∧ P.pk e < 18446744073709551616 := by
  unfold P.pk
  split
  · rename_i h
    have := P.rt_in h
    unfold P.wd P.bI
    split <;> split <;> omega
  · exact ⟨by decide, by decide⟩
end Go.Proofs.YtpfmmlbakbhklaaGreatDoor
namespace Go.Proofs.YtpfmmlbakbhklaaGreatDoor
section
variable {P : Program} {ops : Array Oper} {Q : Exit → Act → World → Prop} {md : Region.Mode} {S : World → Prop} {c : Nat}

/-- What has come up has come up behind what it waits for. -/
def Cl (md : Region.Mode) (ops : Array Oper) (listed : Array Bool) : Prop :=
  ∀ k ok, ops[k]? = some ok → listed.getD k true = true → ∀ e ∈ ok.after, Region.binds md e = true → listed.getD e.on false = true
theorem Cl.put {listed : Array Bool} {j : Nat} (h : Cl md ops listed) (hj : j ∈ Region.ready md ops listed) : Cl md ops (listed.setIfInBounds j true) := fun k ok hk hl e he hb => by
  by_cases hjk : j = k
  · subst hjk
    obtain ⟨-, o, ho, hall⟩ := mem_ready.1 hj
    rw [hk] at ho; cases ho
    exact getD_set_true (hall e he hb)
  · rw [getD_set_ne true hjk] at hl
    exact getD_set_true (h k ok hk hl e he hb)
/-- Whatever order is picked: S is kept till the operation c has come up. -/
def anyT (P : Program) (md : Region.Mode) (ops : Array Oper) (Q : Exit → Act → World → Prop) (S : World → Prop) (c : Nat) : Nat → Array Bool → Act → World → Prop
  | 0, listed, a, w => Region.ready md ops listed = [] ∧ Q .normal a w
  | fuel + 1, listed, a, w => (Region.ready md ops listed = [] → Q .normal a w) ∧
    ∀ i ∈ Region.ready md ops listed, wpOp P ops Q i (fun a' w' => if i = c then wpAny P md ops Q fuel (listed.setIfInBounds i true) a' w' else S w' ∧ anyT P md ops Q S c fuel (listed.setIfInBounds i true) a' w') a w
theorem any_of_T : ∀ (fuel : Nat) (listed : Array Bool) (a : Act) (w : World), anyT P md ops Q S c fuel listed a w → wpAny P md ops Q fuel listed a w
  | 0, _, _, _, h => h
  | fuel + 1, _, _, _, h => ⟨h.1, fun i hi => wpOp_mono (fun a' w' h' => by
      split at h'
      · exact h'
      · exact any_of_T fuel _ a' w' h'.2) (h.2 i hi)⟩
theorem T_first {i : Nat} {oi : Oper} {v : Value} (hi : ops[i]? = some oi) (hsel : ∀ (j : Nat) (o : Oper) cs b, ops[j]? = some o → o.op ≠ .select cs b)
    (hQ : ∀ c a w, Q (.panic c) (a.put oi.dst v) w → Q (.panic c) a w)
    (hc : ∀ listed, Cl md ops listed → listed.getD i true = false → c ∉ Region.ready md ops listed) :
    ∀ (fuel : Nat) (listed : Array Bool) (a : Act) (w : World), Cl md ops listed →
      (∀ j oj, ops[j]? = some oj → j ≠ i → listed.getD j true = false → (∀ e ∈ oj.after, Region.binds md e = true → e.on ≠ i) → oi.apart ops oj = true) →
      i ∈ Region.ready md ops listed → YieldsIf P ops S oi v a → S w →
      anyT P md ops Q S c fuel (listed.setIfInBounds i true) (a.put oi.dst v) w → i ≠ c → anyT P md ops Q S c (fuel + 1) listed a w := by
  intro fuel
  induction fuel with
  | zero =>
    intro listed a w _ _ hr hy hS H hic
    refine ⟨fun h => (by rw [h] at hr; cases hr), fun j hj => ?_⟩
    by_cases hji : j = i
    · subst hji; refine hy.wpOp hi hS ?_; rw [if_neg hic]; exact ⟨hS, H⟩
    · have := ready_mono hj hji
      rw [H.1] at this
      cases this
  | succ fuel ih =>
    intro listed a w hcl hfree hr hy hS H hic
    refine ⟨fun h => (by rw [h] at hr; cases hr), fun j hj => ?_⟩
    by_cases hji : j = i
    · subst hji; refine hy.wpOp hi hS ?_; rw [if_neg hic]; exact ⟨hS, H⟩
    · have hun := (mem_ready.1 hr).1
      have hjc : j ≠ c := fun e => hc listed hcl hun (e ▸ hj)
      have h1 := H.2 j (ready_mono hj hji)
      simp only [if_neg hjc] at h1 ⊢
      obtain ⟨hjun, oj, hoj, hall⟩ := mem_ready.1 hj
      have hnot : ∀ e ∈ oj.after, Region.binds md e = true → e.on ≠ i := fun e he hb heq => by
        have h2 := hall e he hb
        rw [heq] at h2
        rcases Nat.lt_or_ge i listed.size with h' | h'
        · simp [h'] at hun h2; rw [hun] at h2; cases h2
        · simp [Array.getElem?_eq_none h'] at h2
      have h2 := wpOp_putIf hoj (hfree j oj hoj hji hjun hnot) (fun cs b => hsel i oi cs b hi) (fun cs b => hsel j oj cs b hoj) hQ hy h1
      refine wpOp_mono (fun a' w' h3 => ⟨h3.2.1, ih (listed.setIfInBounds j true) a' w' (hcl.put hj) (fun k ok hk hki hu hno => ?_) (ready_mono hr (Ne.symm hji)) h3.1 h3.2.1 ?_ hic⟩) h2
      · refine hfree k ok hk hki ?_ hno
        by_cases hjk : j = k
        · subst hjk; exact hjun
        · rw [getD_set_ne true hjk] at hu; exact hu
      · rw [Array.setIfInBounds_comm _ _ hji]
        exact h3.2.2
theorem T_take {i : Nat} {oi : Oper} {v : Value} {fuel : Nat} {listed : Array Bool} {a : Act} {w : World} (hi : ops[i]? = some oi)
    (hs : Region.noSelect ops = true) (hf : Region.free md ops listed i = true) (hr : (Region.ready md ops listed).contains i = true)
    (hQ : ∀ c a w, Q (.panic c) (a.put oi.dst v) w → Q (.panic c) a w)
    (hc : ∀ listed, Cl md ops listed → listed.getD i true = false → c ∉ Region.ready md ops listed) (hcl : Cl md ops listed) (hic : i ≠ c)
    (hy : YieldsIf P ops S oi v a) (hS : S w)
    (h : Cl md ops (listed.setIfInBounds i true) → anyT P md ops Q S c fuel (listed.setIfInBounds i true) (a.put oi.dst v) w) : anyT P md ops Q S c (fuel + 1) listed a w :=
  T_first hi (Region.noSelect_spec hs) hQ hc fuel listed a w hcl (Region.free_spec hi hf) (by simpa using hr) hy hS (h (hcl.put (by simpa using hr))) hic
theorem Cl.up {listed : Array Bool} (h : Cl md ops listed) {i : Nat} (hi : listed.getD i true = false) {k : Nat} {ok : Oper} (hk : ops[k]? = some ok) (hw : (ok.after.any fun e => Region.binds md e && e.on == i) = true) : listed.getD k true = false := by
  cases hl : listed.getD k true
  · rfl
  · obtain ⟨e, he, hb⟩ := Array.any_eq_true'.1 hw
    simp only [Bool.and_eq_true, beq_iff_eq] at hb
    have h2 := h k ok hk hl e he hb.1
    rw [hb.2] at h2
    rcases Nat.lt_or_ge i listed.size with h' | h'
    · simp [h'] at hi h2; rw [hi] at h2; cases h2
    · simp [Array.getElem?_eq_none h'] at h2
theorem not_ready {listed : Array Bool} {i : Nat} (hi : listed.getD i true = false) {k : Nat} {ok : Oper} (hk : ops[k]? = some ok) (hw : (ok.after.any fun e => Region.binds md e && e.on == i) = true) : k ∉ Region.ready md ops listed := fun h => by
  obtain ⟨-, o, ho, hall⟩ := mem_ready.1 h
  rw [hk] at ho; cases ho
  obtain ⟨e, he, hb⟩ := Array.any_eq_true'.1 hw
  simp only [Bool.and_eq_true, beq_iff_eq] at hb
  have h2 := hall e he hb.1
  rw [hb.2] at h2
  rcases Nat.lt_or_ge i listed.size with h' | h'
  · simp [h'] at hi h2; rw [hi] at h2; cases h2
  · simp [Array.getElem?_eq_none h'] at h2
theorem Cl.start (n : Nat) : Cl md ops (Array.replicate ops.size false) := fun k ok hk hl => by
  have _ := n
  have hlt : k < ops.size := (Array.getElem?_eq_some_iff.1 hk).1
  rw [Array.getD_eq_getD_getElem?, Array.getElem?_replicate, if_pos hlt] at hl
  cases hl
/-- One operation alone may come up. -/
theorem T_one {i : Nat} {o : Oper} {fuel : Nat} {listed : Array Bool} {a : Act} {w : World} (ho : ops[i]? = some o) (hr : Region.ready md ops listed = [i]) (hic : i ≠ c)
    (h : ∀ K' : Act → World → Prop, Shut (∀ a w, S w → anyT P md ops Q S c fuel (listed.setIfInBounds i true) a w → K' a w) → if Region.wanted o (yielded ops a.tmps) = true then Oper.wp P o a w K' Q else K' (a.put o.dst undef) w) :
    anyT P md ops Q S c (fuel + 1) listed a w :=
  ⟨fun h0 => (by rw [h0] at hr; cases hr), fun j hj => by
    rw [hr, List.mem_singleton] at hj
    subst hj
    simp only [if_neg hic]
    exact wpOp_step ho fun K' hK => h K' fun a w hS hW => hK a w ⟨hS, hW⟩⟩
/-- It is the turning point. -/
theorem T_turn {o : Oper} {fuel : Nat} {listed : Array Bool} {a : Act} {w : World} (ho : ops[c]? = some o) (hr : Region.ready md ops listed = [c])
    (h : ∀ K' : Act → World → Prop, Shut (∀ a w, wpAny P md ops Q fuel (listed.setIfInBounds c true) a w → K' a w) → if Region.wanted o (yielded ops a.tmps) = true then Oper.wp P o a w K' Q else K' (a.put o.dst undef) w) :
    anyT P md ops Q S c (fuel + 1) listed a w :=
  ⟨fun h0 => (by rw [h0] at hr; cases hr), fun j hj => by
    rw [hr, List.mem_singleton] at hj
    subst hj
    simp only [if_pos]
    exact wpOp_step ho fun K' hK => h K' hK⟩
theorem any_one {i : Nat} {o : Oper} {fuel : Nat} {listed : Array Bool} {a : Act} {w : World} (ho : ops[i]? = some o) (hr : Region.ready md ops listed = [i])
    (h : ∀ K' : Act → World → Prop, Shut (∀ a w, wpAny P md ops Q fuel (listed.setIfInBounds i true) a w → K' a w) → if Region.wanted o (yielded ops a.tmps) = true then Oper.wp P o a w K' Q else K' (a.put o.dst undef) w) :
    wpAny P md ops Q (fuel + 1) listed a w :=
  wpAny_all hr (by simp) fun j hj => by
    rw [List.mem_singleton] at hj
    subst hj
    exact wpOp_step ho fun K' hK => h K' hK
end
end Go.Proofs.YtpfmmlbakbhklaaGreatDoor
namespace Go.Proofs.YtpfmmlbakbhklaaGreatDoor
open Go.RowKit
theorem kids_mem {xs : List Int} {x y : Int × Nat} (h : x ∈ kids xs y) : 0 < y.2 ∧ x.2 = y.2 - 1 := by
  unfold kids at h
  obtain ⟨a, ha, rfl⟩ := List.mem_map.1 h
  have := (List.mem_filter.1 ha).2
  simp only [Bool.and_eq_true, decide_eq_true_eq] at this
  exact ⟨this.1, rfl⟩
theorem cutW_len (xs : List Int) (a : Int) : (cutW xs a 16).length ≤ 16 := by
  unfold cutW
  split
  · simp [cut]
    omega
  · simp
theorem kids_len (xs : List Int) (y : Int × Nat) : (kids xs y).length ≤ 16 := by
  unfold kids
  rw [List.length_map]
  exact Nat.le_trans (List.length_filter_le _ _) (cutW_len _ _)
theorem step_len (xs : List Int) : ∀ l : List (Int × Nat), (l.flatMap (kids xs)).length ≤ 16 * l.length
  | [] => by simp
  | y :: l => by
    have := step_len xs l
    have := kids_len xs y
    simp only [List.flatMap_cons, List.length_append, List.length_cons]
    omega
theorem levs_len (xs : List Int) : ∀ (k : Nat) (l : List (Int × Nat)), (levs xs k l).length ≤ l.length * 17 ^ k
  | 0, l => by simp [levs]
  | k + 1, l => by
    have h1 := levs_len xs k (l.flatMap (kids xs))
    have h2 := step_len xs l
    have h3 : (l.flatMap (kids xs)).length * 17 ^ k ≤ 16 * l.length * 17 ^ k := Nat.mul_le_mul_right _ h2
    have h4 : 1 ≤ 17 ^ k := Nat.one_le_pow _ _ (by decide)
    have h5 : l.length * 1 ≤ l.length * 17 ^ k := Nat.mul_le_mul_left _ h4
    unfold levs
    rw [List.length_append, Nat.pow_succ]
    have h6 : 16 * l.length * 17 ^ k = 16 * (l.length * 17 ^ k) := Nat.mul_assoc _ _ _
    have h7 : l.length * (17 ^ k * 17) = 17 * (l.length * 17 ^ k) := by rw [← Nat.mul_assoc, Nat.mul_comm]
    omega
theorem gat_len (xs : List Int) (root : Int) : (gat xs root).length ≤ 4913 := by
  have := levs_len xs 3 [(root, 3)]
  simpa [gat] using this
theorem levs_lev (xs : List Int) : ∀ (k : Nat) (l : List (Int × Nat)), (∀ x, x ∈ l → x.2 ≤ k) → (∀ x, x ∈ levs xs k l → x.2 ≤ k) ∧ levs xs k l = l ++ (levs xs k l).flatMap (kids xs)
  | 0, l, h => by
    refine ⟨h, ?_⟩
    have : l.flatMap (kids xs) = [] := by
      rw [List.flatMap_eq_nil_iff]
      intro y hy
      rw [List.eq_nil_iff_forall_not_mem]
      intro x hx
      have := kids_mem hx
      have := h y hy
      omega
    unfold levs
    rw [this, List.append_nil]
  | k + 1, l, h => by
    obtain ⟨h1, h2⟩ := levs_lev xs k (l.flatMap (kids xs)) (fun x hx => by
      obtain ⟨y, hy, hx⟩ := List.mem_flatMap.1 hx
      have := kids_mem hx
      have := h y hy
      omega)
    unfold levs
    refine ⟨fun x hx => ?_, ?_⟩
    · rcases List.mem_append.1 hx with hx | hx
      · exact h x hx
      · exact Nat.le_succ_of_le (h1 x hx)
    · rw [List.flatMap_append, ← h2]
theorem gat_self (xs : List Int) (root : Int) : gat xs root = (root, 3) :: (gat xs root).flatMap (kids xs) := (levs_lev xs 3 [(root, 3)] (by simp)).2
theorem gat_lev (xs : List Int) (root : Int) : ∀ x, x ∈ gat xs root → x.2 ≤ 3 := (levs_lev xs 3 [(root, 3)] (by simp)).1
theorem none_left {xs : List Int} {R : List (Int × Nat)} {n : Nat} (h : R = R.flatMap (kids xs)) (hn : ∀ x, x ∈ R → x.2 ≤ n) : R = [] := by
  have key : ∀ m x, x ∈ R → x.2 + m ≤ n := by
    intro m
    induction m with
    | zero => exact hn
    | succ m ih =>
      intro x hx
      rw [h] at hx
      obtain ⟨y, hy, hx⟩ := List.mem_flatMap.1 hx
      have := kids_mem hx
      have := ih y hy
      omega
  rw [List.eq_nil_iff_forall_not_mem]
  intro x hx
  have := key (n + 1) x hx
  omega
/-- What has been laid when i tables have been gone over. -/
def gatI (xs : List Int) (root : Int) (i : Nat) : List (Int × Nat) := (root, 3) :: ((gat xs root).take i).flatMap (kids xs)
theorem gatI_pre (xs : List Int) (root : Int) (i : Nat) : gat xs root = gatI xs root i ++ ((gat xs root).drop i).flatMap (kids xs) := by
  conv => lhs; rw [gat_self]
  unfold gatI
  rw [List.cons_append, ← List.flatMap_append, List.take_append_drop]
theorem gatI_at {xs : List Int} {root : Int} {i : Nat} (h : i < (gatI xs root i).length) : i < (gat xs root).length ∧ (gatI xs root i).getD i (0, 0) = (gat xs root).getD i (0, 0) ∧ gatI xs root (i + 1) = gatI xs root i ++ kids xs ((gat xs root).getD i (0, 0)) := by
  have hp := gatI_pre xs root i
  have hl : i < (gat xs root).length := by rw [hp, List.length_append]; omega
  refine ⟨hl, ?_, ?_⟩
  · rw [List.getD_eq_getElem?_getD, List.getD_eq_getElem?_getD]
    conv => rhs; rw [hp, List.getElem?_append_left h]
  · unfold gatI
    rw [List.take_add_one, List.getElem?_eq_getElem hl, List.flatMap_append, List.cons_append]
    simp [List.getD, hl]
theorem gatI_end {xs : List Int} {root : Int} {i : Nat} (h : (gatI xs root i).length ≤ i) (hi : i ≤ (gatI xs root i).length) : gatI xs root i = gat xs root := by
  have hp := gatI_pre xs root i
  have he : i = (gatI xs root i).length := by omega
  have ht : (gat xs root).take i = gatI xs root i := by
    conv => lhs; rw [hp]
    exact List.take_left' he.symm
  have hd : (gat xs root).drop i = ((gat xs root).drop i).flatMap (kids xs) := by
    conv => lhs; rw [hp]
    exact List.drop_left' he.symm
  have hn := none_left hd (n := 3) fun x hx => gat_lev xs root x (List.mem_of_mem_drop hx)
  rw [hn] at hp
  simpa using hp.symm
theorem gatI_len (xs : List Int) (root : Int) (i : Nat) : (gatI xs root i).length ≤ 4913 := by
  have h := gat_len xs root
  rw [gatI_pre xs root i, List.length_append] at h
  omega
end Go.Proofs.YtpfmmlbakbhklaaGreatDoor
namespace Go.Proofs.YtpfmmlbakbhklaaGreatDoor
open Go.RowKit
theorem cK_set {L : List O.Ds} {i : Nat} (h : i < L.length) (d : O.Ds) (k : Int) (h0 : O.isK k (L.getD i O.zd) = false) (h1 : O.isK k d = false) : O.cK (L.set i d) k = O.cK L k := by
  unfold O.cK
  rw [O.wh_count, O.wh_count, List.countP_set h]
  have e : L.getD i O.zd = L[i] := by simp [List.getD, h]
  rw [e] at h0
  simp [h0, h1]
theorem kL_retired (L : List O.Ds) (o : Int) : O.cK (O.kL L 3 o) 5 = O.cK L 5 := by
  unfold O.kL
  cases hf : O.fr L with
  | nil => rfl
  | cons f q =>
    simp only
    have hm : f ∈ O.fr L := by rw [hf]; exact List.mem_cons_self ..
    obtain ⟨hl, hk⟩ := O.wh_mem.1 hm
    unfold O.tL
    split
    · rw [Int.toNat_natCast]
      refine cK_set hl _ 5 ?_ rfl
      have : (L.getD f O.zd).k = 0 := by simpa [O.isK] using hk
      unfold O.isK
      rw [this]
      rfl
    · rfl
theorem newS_retired (s : Sm) (o : Int) (ent : Nat → P.En) : O.cK (newS s o ent).ds 5 = O.cK s.ds 5 := by
  unfold newS
  split
  · exact kL_retired _ _
  · rfl
theorem hangS_retired (s : Sm) (o a : Int) (ent : Nat → P.En) : O.cK (hangS s o a ent).ds 5 = O.cK s.ds 5 := by
  unfold hangS
  split
  · exact newS_retired s o ent
  · rfl
theorem mkS_retired (s : Sm) (o pg fr : Int) (v : Nat) : O.cK (mkS s o pg fr v).ds 5 = O.cK s.ds 5 := by
  unfold mkS
  split
  · rfl
  · exact hangS_retired _ _ _ _
theorem putS_retired (o pg : Int) (lo : Nat) (e : P.En) : ∀ (v : Nat) (fr : Int) (s : Sm), O.cK (putS o pg lo e v fr s).ds 5 = O.cK s.ds 5
  | 0, fr, s => by
    unfold putS
    split <;> rfl
  | v + 1, fr, s => by
    unfold putS
    split
    · rfl
    · split
      · rw [putS_retired o pg lo e v, mkS_retired]
      · exact mkS_retired _ _ _ _ _
theorem putT_retired (s : Sm) (o root pg : Int) (lo : Nat) (e : P.En) : O.cK (putT s o root pg lo e).ds 5 = O.cK s.ds 5 := by
  unfold putT
  split
  · exact putS_retired _ _ _ _ _ _ _
  · rfl
theorem alS_retired (s : Sm) (o root pg : Int) : O.cK (alS s o root pg).ds 5 = O.cK s.ds 5 := by
  unfold alS
  split
  · exact hangS_retired _ _ _ _
  · rfl
theorem prS_retired (s : Sm) (o root pg r : Int) : O.cK (prS s o root pg r).ds 5 = O.cK s.ds 5 := by
  unfold prS
  split
  · split
    · rfl
    · exact alS_retired s o root pg
  · rfl
/-- A call with an error leaves all. -/
theorem putT_err {s : Sm} {o root pg : Int} {lo : Nat} {e : P.En} (h : putE s root pg lo e ≠ 0) : putT s o root pg lo e = s := if_neg h
theorem unS_err {s : Sm} {o root pg : Int} (h : unE s o root pg ≠ 0) : unS s o root pg = s := if_neg h
theorem prS_err {s : Sm} {o root pg r : Int} (h : prE s o root pg r ≠ 0) : prS s o root pg r = s := if_neg h
/-- An error for want of frames: few are free. -/
theorem endF_le' (xs : List Int) (pg : Int) (lo : Nat) : ∀ (v : Nat) (fr : Int), (endF xs pg lo v fr).2 ≤ v
  | 0, fr => Nat.le_refl _
  | v + 1, fr => by
    unfold endF
    split
    · exact Nat.le_trans (endF_le' xs pg lo v _) (Nat.le_succ v)
    · exact Nat.le_refl _
theorem putE_few {s : Sm} {root pg : Int} {lo : Nat} {e : P.En} (h : putE s root pg lo e = 12) : O.cK s.ds 0 ≤ 3 := by
  unfold putE at h
  have hv := endF_le' s.xs pg lo 3 root
  split at h
  · omega
  split at h
  · omega
  split at h
  · omega
  split at h
  · omega
  split at h
  · omega
  split at h
  · omega
  · omega
theorem nxE_few {d : O.Ds} {k o : Int} : O.nxE d k o ≠ 12 := by
  unfold O.nxE
  split
  · split
    · split
      · split <;> decide
      · decide
    · decide
  · decide
theorem newE_few {s : Sm} {o : Int} (h : newE s o = 12) : O.cK s.ds 0 = 0 := by
  unfold newE O.kE at h
  cases hf : O.fr s.ds with
  | nil =>
    unfold O.cK
    rw [show O.wh (O.isK 0) s.ds = O.fr s.ds from rfl, hf]
    rfl
  | cons f q =>
    rw [hf] at h
    simp only at h
    unfold O.tE at h
    split at h
    · exact absurd h nxE_few
    · omega
theorem alE_few {s : Sm} {o root pg : Int} (h : alE s o root pg = 12) : O.cK s.ds 0 ≤ 3 := by
  unfold alE at h
  split at h
  · have := newE_few h; omega
  · omega
theorem qE_few {s : Sm} {root pg : Int} : qE s root pg ≠ 12 := by
  unfold qE
  split
  · decide
  · split <;> decide
theorem unE_few {s : Sm} {o root pg : Int} (h : unE s o root pg = 12) : O.cK s.ds 0 ≤ 3 := by
  unfold unE at h
  split at h
  · exact alE_few h
  · exact absurd h qE_few
theorem prE_few {s : Sm} {o root pg r : Int} (h : prE s o root pg r = 12) : O.cK s.ds 0 ≤ 3 := by
  unfold prE at h
  split at h
  · omega
  split at h
  · omega
  split at h
  · split at h
    · omega
    · exact alE_few h
  · exact absurd h qE_few
end Go.Proofs.YtpfmmlbakbhklaaGreatDoor
namespace Go.Proofs.YtpfmmlbakbhklaaGreatDoor
open Go.RowKit
theorem i64_and1 (n : Int) : bits .and .i64 n 1 = n % 2 := by
  have h3 : (BitVec.ofInt 64 1).toNat = 2 ^ 1 - 1 := by decide
  have key : (BitVec.ofInt 64 n &&& BitVec.ofInt 64 1).toNat = (n % ((2 ^ 64 : Nat) : Int)).toNat % 2 ^ 1 := by
    rw [BitVec.toNat_and, BitVec.toNat_ofInt, h3, Nat.and_two_pow_sub_one_eq_mod]
  show IntKind.i64.wrap ((BitVec.ofInt 64 n &&& BitVec.ofInt 64 1).toNat : Nat) = n % 2
  rw [key, IntKind.wrap_i64]
  omega
end Go.Proofs.YtpfmmlbakbhklaaGreatDoor
