/- Tables in words and frames: an entry of a page, its way, what New, Map, Large, Unmap, Protect, Query, All and Drop tell and leave, as functions of the words and the frames. Of no function; no conditions. -/
import Derived.Test.YtpfmmlbakbhklaaGreatDoorQ
import Derived.Test.YtpfmmlbakbhklaaGreatDoorOQ
import Derived.Test.YtpfmmlbakbhklaaGreatDoorW7
namespace Go.Proofs.YtpfmmlbakbhklaaGreatDoor
open Go.RowKit

/-- Words and frames. -/
structure Sm where
  xs : List Int
  ds : List O.Ds

def setW (xs : List Int) (a x : Int) : List Int := if inB xs.length a = true then xs.set a.toNat x else xs
theorem setW_len (xs : List Int) (a x : Int) : (setW xs a x).length = xs.length := by unfold setW; split <;> simp
/-- The entry of a page in a table. -/
def en (xs : List Int) (pg fr : Int) (v : Nat) : P.En := P.prD (wordAt xs (P.at' fr pg v)).toNat
/-- Where a page's way ends, if it goes down to a level at most. -/
def endF (xs : List Int) (pg : Int) (lo : Nat) : Nat → Int → Int × Nat
  | 0, fr => (fr, 0)
  | v + 1, fr => if (decide (lo < v + 1) && P.tb (en xs pg fr (v + 1))) = true then endF xs pg lo v (en xs pg fr (v + 1)).f else (fr, v + 1)
/-- Its tables. -/
def wayF (xs : List Int) (pg : Int) (lo : Nat) : Nat → Int → List (Int × Nat)
  | 0, fr => [(fr, 0)]
  | v + 1, fr => (fr, v + 1) :: (if (decide (lo < v + 1) && P.tb (en xs pg fr (v + 1))) = true then wayF xs pg lo v (en xs pg fr (v + 1)).f else [])

def lay (s : Sm) (a : Int) (e : P.En) : Sm := ⟨setW s.xs a (P.pk e), s.ds⟩
/-- The first k places of a frame are laid. -/
def laidK (xs : List Int) (f : Int) (ent : Nat → P.En) : Nat → List Int
  | 0 => xs
  | k + 1 => setW (laidK xs f ent k) (P.at' f k 0) (P.pk (ent k))
theorem laidK_len (xs : List Int) (f : Int) (ent : Nat → P.En) (k : Nat) : (laidK xs f ent k).length = xs.length := by
  induction k with
  | zero => rfl
  | succ k ih => exact (setW_len _ _ _).trans ih
def newE (s : Sm) (o : Int) : Int := O.kE s.ds 3 o
def newF (s : Sm) (o : Int) : Int := O.kF s.ds 3 o
def newS (s : Sm) (o : Int) (ent : Nat → P.En) : Sm := if newE s o = 0 then ⟨laidK s.xs (newF s o) ent 16, O.kL s.ds 3 o⟩ else s
def hangS (s : Sm) (o a : Int) (ent : Nat → P.En) : Sm := if newE s o = 0 then lay (newS s o ent) a ⟨true, 0, false, newF s o⟩ else s
def none16 (_ : Nat) : P.En := P.zd

/-! Map, Large -/
/-- What is done at a table ahead of the last one. -/
def mkS (s : Sm) (o pg fr : Int) (v : Nat) : Sm := if (en s.xs pg fr v).p = true then s else hangS s o (P.at' fr pg v) none16
def putS (o pg : Int) (lo : Nat) (e : P.En) : Nat → Int → Sm → Sm
  | 0, fr, s => if lo = 0 then lay s (P.at' fr pg (0 : Nat)) e else s
  | v + 1, fr, s => if lo = v + 1 then lay s (P.at' fr pg (v + 1 : Nat)) e
      else if (decide (lo < v + 1) && P.tb (en (mkS s o pg fr (v + 1)).xs pg fr (v + 1))) = true then putS o pg lo e v (en (mkS s o pg fr (v + 1)).xs pg fr (v + 1)).f (mkS s o pg fr (v + 1))
      else mkS s o pg fr (v + 1)
def putE (s : Sm) (root pg : Int) (lo : Nat) (e : P.En) : Int :=
  if P.btw pg 0 65535 = false then 2 else if P.btw e.f 0 4095 = false then 2 else if P.btw e.r 1 7 = false then 7
  else if (pg % (P.sp lo) != 0 || e.f % (P.sp lo) != 0) = true then 8
  else if (en s.xs pg (endF s.xs pg lo 3 root).1 (endF s.xs pg lo 3 root).2).p = true then 5
  else if (O.cK s.ds 0 : Int) < (endF s.xs pg lo 3 root).2 - lo then 12 else 0
def putT (s : Sm) (o root pg : Int) (lo : Nat) (e : P.En) : Sm := if putE s root pg lo e = 0 then putS o pg lo e 3 root s else s

/-! Query, Unmap, Protect -/
def fd (s : Sm) (root pg : Int) : Int × Nat := endF s.xs pg 0 3 root
def fdE (s : Sm) (root pg : Int) : P.En := en s.xs pg (fd s root pg).1 (fd s root pg).2
def qE (s : Sm) (root pg : Int) : Int := if P.btw pg 0 65535 = false then 2 else if (fdE s root pg).p = false then 4 else 0
def qF (s : Sm) (root pg : Int) : Int := if qE s root pg = 0 then (fdE s root pg).f + pg % (P.sp (fd s root pg).2) else 0
def qR (s : Sm) (root pg : Int) : Int := if qE s root pg = 0 then (fdE s root pg).r else 0
def part (e : P.En) (i : Nat) : P.En := ⟨true, e.r, false, e.f + i⟩
/-- A large entry is split. -/
def alE (s : Sm) (o root pg : Int) : Int := if (fdE s root pg).l = true then newE s o else 0
def alS (s : Sm) (o root pg : Int) : Sm := if (fdE s root pg).l = true then hangS s o (P.at' (fd s root pg).1 pg (fd s root pg).2) (part (fdE s root pg)) else s
def cutW (xs : List Int) (a m : Int) : List Int := if allB xs.length a m = true then cut xs a.toNat m.toNat else []
def empW (xs : List Int) (fr : Int) : Bool := (cutW xs (P.at' fr 0 0) 16).all fun x => x == 0
/-- Tables that have become empty go, from the last one up. -/
def thinS (pg : Int) : List (Int × Nat) → Sm → Sm
  | x :: y :: r, s => if empW s.xs x.1 = true then thinS pg (y :: r) ⟨setW s.xs (P.at' y.1 pg y.2) 0, O.tL s.ds x.1 5 0⟩ else s
  | _, s => s
def unE (s : Sm) (o root pg : Int) : Int := if qE s root pg = 0 then alE s o root pg else qE s root pg
def unA (s : Sm) (o root pg : Int) : Sm := lay (alS s o root pg) (P.at' (fd (alS s o root pg) root pg).1 pg (fd (alS s o root pg) root pg).2) P.zd
def unS (s : Sm) (o root pg : Int) : Sm := if unE s o root pg = 0 then thinS pg (wayF (unA s o root pg).xs pg 0 3 root).reverse (unA s o root pg) else s
def unF (s : Sm) (o root pg : Int) : Int := if unE s o root pg = 0 then (fdE (alS s o root pg) root pg).f else 0
def prE (s : Sm) (o root pg r : Int) : Int :=
  if P.btw pg 0 65535 = false then 2 else if P.btw r 1 7 = false then 7 else if qE s root pg = 0 then (if (fdE s root pg).r = r then 0 else alE s o root pg) else qE s root pg
def prA (s : Sm) (o root pg r : Int) : Sm :=
  lay (alS s o root pg) (P.at' (fd (alS s o root pg) root pg).1 pg (fd (alS s o root pg) root pg).2) { fdE (alS s o root pg) root pg with r := r }
def prS (s : Sm) (o root pg r : Int) : Sm := if prE s o root pg r = 0 then (if (fdE s root pg).r = r then s else prA s o root pg r) else s

/-! All, Drop -/
def kids (xs : List Int) (t : Int × Nat) : List (Int × Nat) :=
  ((cutW xs (P.at' t.1 0 0) 16).filter fun x => decide (0 < t.2) && P.tb (P.prD x.toNat)).map fun x => ((P.prD x.toNat).f, t.2 - 1)
def levs (xs : List Int) : Nat → List (Int × Nat) → List (Int × Nat)
  | 0, l => l
  | k + 1, l => l ++ levs xs k (l.flatMap (kids xs))
/-- All tables, from the root down. -/
def gat (xs : List Int) (root : Int) : List (Int × Nat) := levs xs 3 [(root, 3)]
def turnAll (ds : List O.Ds) (l : List Int) : List O.Ds := l.foldl (fun ds f => O.tL ds f 5 0) ds
end Go.Proofs.YtpfmmlbakbhklaaGreatDoor
