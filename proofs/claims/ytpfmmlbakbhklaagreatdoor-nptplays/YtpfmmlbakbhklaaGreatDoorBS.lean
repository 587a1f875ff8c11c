/- The program's side of a law's world, with two guests' tables of which the second may be none: what stays. Of no function; no conditions. What a round of NptFails knows behind its call: the program's side, a copy of the words and of the frames as they were. Of no function; no conditions. Pieces of a piece of code. Of no function; no conditions. -/
import Derived.Test.YtpfmmlbakbhklaaGreatDoorBR
import Derived.Test.YtpfmmlbakbhklaaGreatDoorBI
import Derived.Test.YtpfmmlbakbhklaaGreatDoorBQ
import Derived.Deep.CutRange
import Derived.Deep.CutBlock
import Derived.Deep.RegionHeld3
import Derived.BigQuiet
namespace Go.Proofs.YtpfmmlbakbhklaaGreatDoor
open Go.RowKit
/-- What lies where: the law's block, the two sides, the tables. -/
structure Sd where
  g : Nat
  u : Si
  v : Si
  a0 : Nat
  b0 : Nat
  b1 : Nat
  x1 : Option Addr
  r0 : Int
  r1 : Int
/-- The program's side: words and frames s, no more than k calls; both guests' tables are live, or the second's are none. -/
structure Fv (w0 : World) (d : Sd) (s : Sm) (k : Nat) (w : World) : Prop where
  blk : w.heap[d.g]? = some (.cells #[.pointer (some ⟨d.u.mp, 0, none⟩), .pointer (some ⟨d.u.pp, 0, none⟩), .pointer (some ⟨d.a0, 0, none⟩), .pointer d.x1, .pointer (some ⟨d.v.mp, 0, none⟩), .pointer (some ⟨d.v.pp, 0, none⟩), .pointer (some ⟨d.b0, 0, none⟩), .pointer (some ⟨d.b1, 0, none⟩)] 39 (0, 0))
  wo : Wo d.u w s k
  t0 : IsT d.u w d.a0 1 1 d.r0
  t1 : d.x1 = none ∨ ∃ a1, d.x1 = some ⟨a1, 0, none⟩ ∧ IsT d.u w a1 1 2 d.r1
  lo : w0.heap.size < d.u.mp ∧ w0.heap.size < d.u.wb ∧ w0.heap.size < d.u.pp ∧ w0.heap.size < d.u.pb
  bel : Below w0.heap.size w0 w
theorem Fv.of_bgn {w : World} {m : Nat} {w' : World} {u v : Si} {a0 b0 a1 b1 : Nat} {x1 : Option Addr} (h : Bgn w m w' u v a0 b0 a1 b1 x1) :
    Fv w ⟨w.heap.size, u, v, a0, b0, b1, x1, newF (z0 (m + 1)) 1, newF (s1 m) 2⟩ (s2 m) 32 w' := by
  refine ⟨h.g.blk, h.wo, h.t0, ?_, h.lo.1, h.bel⟩
  by_cases e : newE (s1 m) 2 = 0
  · exact .inr ⟨a1, h.t1 e⟩
  · exact .inl (h.tn e)
section
variable {w0 w w' : World} {d : Sd} {s s' : Sm} {k k' : Nat}
theorem Fv.below (h : Fv w0 d s k w) (b : Below w.heap.size w w') : Fv w0 d s k w' := by
  refine ⟨P.stay b h.blk, h.wo.below b, h.t0.below b, ?_, h.lo, h.bel.trans (b.mono h.bel.size)⟩
  rcases h.t1 with e | ⟨a1, e, i⟩
  · exact .inl e
  · exact .inr ⟨a1, e, i.below b⟩
theorem Fv.turn (h : Fv w0 d s k w) (hC : Ch d.u w w') (hW : Wo d.u w' s' k') : Fv w0 d s' k' w' := by
  refine ⟨h.wo.keep hC h.blk (by decide) (by decide) (by decide), hW, h.t0.ch h.wo hC, ?_, h.lo, h.bel.trans (hC.below h.bel.size (by have := h.lo; omega) (by have := h.lo; omega) (by have := h.lo; omega))⟩
  rcases h.t1 with e | ⟨a1, e, i⟩
  · exact .inl e
  · exact .inr ⟨a1, e, i.ch h.wo hC⟩
theorem Fv.mono (h : Fv w0 d s k w) (hk : k ≤ k') : Fv w0 d s k' w := ⟨h.blk, h.wo.mono hk, h.t0, h.t1, h.lo, h.bel⟩
end
/-- What NptFails asks of one call: kd (2: Unmap), its error, and what lay before and behind. -/
structure Ask (kd : Int) (e : Int) (s s' : Sm) : Prop where
  same : e ≠ 0 → s' = s
  few : e = 12 → O.cK s'.ds 0 ≤ 3
  ret : kd ≠ 2 → O.cK s'.ds 5 = O.cK s.ds 5
theorem ask_put (kd : Int) (s : Sm) (o root pg : Int) (lo : Nat) (e : P.En) : Ask kd (putE s root pg lo e) s (putT s o root pg lo e) :=
  ⟨putT_err, fun h => by rw [putT_err (by rw [h]; decide)]; exact putE_few h, fun _ => putT_retired s o root pg lo e⟩
theorem ask_un (s : Sm) (o root pg : Int) : Ask 2 (unE s o root pg) s (unS s o root pg) :=
  ⟨unS_err, fun h => by rw [unS_err (by rw [h]; decide)]; exact unE_few h, fun h => absurd rfl h⟩
theorem ask_pr (kd : Int) (s : Sm) (o root pg r : Int) : Ask kd (prE s o root pg r) s (prS s o root pg r) :=
  ⟨prS_err, fun h => by rw [prS_err (by rw [h]; decide)]; exact prE_few h, fun _ => prS_retired s o root pg r⟩
theorem ask_no (kd : Int) (s : Sm) : Ask kd 0 s s := ⟨fun h => absurd rfl h, (fun h => absurd h (by decide)), fun _ => rfl⟩
end Go.Proofs.YtpfmmlbakbhklaaGreatDoor
namespace Go.Proofs.YtpfmmlbakbhklaaGreatDoor
open Go.RowKit
theorem Script.below {w w' : World} {q : Option Addr} {l : List Cal} (h : Script w q l) (b : Below w.heap.size w w') : Script w' q l := by
  intro hne
  obtain ⟨g, off, rfl, h1, h2⟩ := h hne
  refine ⟨g, off, rfl, Nat.lt_of_lt_of_le h1 b.size, fun i hi => ?_⟩
  obtain ⟨a, c, d, e, f⟩ := h2 i hi
  exact ⟨(b.cell (p := ⟨g, off + i * 5, none⟩) h1).trans a, (b.cell (p := ⟨g, off + i * 5 + 1, none⟩) h1).trans c, (b.cell (p := ⟨g, off + i * 5 + 2, none⟩) h1).trans d, (b.cell (p := ⟨g, off + i * 5 + 3, none⟩) h1).trans e, (b.cell (p := ⟨g, off + i * 5 + 4, none⟩) h1).trans f⟩
/-- Which blocks, and which call. -/
structure Bx where
  pm : Nat
  bm : Nat
  qp : Nat
  gp : Nat
  z : Nat
  oc : Cal
structure Rw (w0 : World) (d : Sd) (s s' : Sm) (k : Nat) (x : Bx) (W : World) : Prop where
  fv : Fv w0 d s' k W
  mem : ∃ a b, IsMem 124 W x.pm x.bm s.xs a b
  pool : O.PP W x.qp x.gp s.ds
  box : W.heap[x.z]? = some (.cells #[.int .i64 x.oc.kd, .int .i64 x.oc.f, .int .i64 x.oc.k, .int .i64 x.oc.o, .int .i64 x.oc.y] 27 (0, 0))
  far : (d.u.mp < x.pm ∧ d.u.wb < x.pm ∧ d.u.pb < x.pm) ∧ (d.u.mp < x.bm ∧ d.u.wb < x.bm ∧ d.u.pb < x.bm) ∧ (d.u.mp < x.qp ∧ d.u.wb < x.qp ∧ d.u.pb < x.qp) ∧ (d.u.mp < x.gp ∧ d.u.wb < x.gp ∧ d.u.pb < x.gp)
section
variable {w0 w w' : World} {d : Sd} {s s' s2 : Sm} {k k' : Nat} {x : Bx}
theorem Rw.below (h : Rw w0 d s s' k x w) (b : Below w.heap.size w w') : Rw w0 d s s' k x w' := by
  obtain ⟨a, c, hm⟩ := h.mem
  exact ⟨h.fv.below b, ⟨a, c, hm.below b⟩, h.pool.below b, P.stay b h.box, h.far⟩
theorem Rw.turn (h : Rw w0 d s s' k x w) (hC : Ch d.u w w') (hW : Wo d.u w' s2 k') : Rw w0 d s s2 k' x w' := by
  obtain ⟨a, c, hm⟩ := h.mem
  have hf := h.far
  refine ⟨h.fv.turn hC hW, ⟨a, c, hm.keep (hC.block _ hm.lt.1 ?_ ?_ ?_) (hC.block _ hm.lt.2 ?_ ?_ ?_)⟩, h.pool.keep (hC.block _ h.pool.lt.1 ?_ ?_ ?_) (hC.block _ h.pool.lt.2 ?_ ?_ ?_), h.fv.wo.keep hC h.box (by decide) (by decide) (by decide), hf⟩
  all_goals omega
end
theorem O.of_any {w : World} {p b : Nat} {L : List O.Ds} (h : O.PP w p b L) (i : Nat) :
    Calls Tryz.prog 33 #[.pointer (some ⟨p, 0, none⟩), .int .i64 i] w fun x w' => (∃ y, x = .returned (.tuple #[O.dV (L.getD i O.zd), .bool y])) ∧ Below w.heap.size w w' := by
  by_cases hi : i < L.length
  · exact (O.of_in h i hi).mono fun x w' ⟨a, b⟩ => ⟨⟨_, a⟩, b⟩
  · have e : L.getD i O.zd = O.zd := by simp [List.getD, List.getElem?_eq_none (Nat.le_of_not_lt hi)]
    rw [e]
    exact (O.of_out h i (by omega)).mono fun x w' ⟨a, b⟩ => ⟨⟨_, a⟩, b⟩
end Go.Proofs.YtpfmmlbakbhklaaGreatDoor
namespace Go.Proofs.YtpfmmlbakbhklaaGreatDoor
open Go.RowKit
/-- A block of a piece of code. -/
def pickB (id : Nat) : Code → Option Code
  | .seq a b => match pickB id a with
    | some c => some c
    | none => pickB id b
  | .block n c => bif Nat.beq n id then some (.block n c) else pickB id c
  | .loop c => pickB id c
  | .scope c => pickB id c
  | .cond _ a b => match pickB id a with
    | some c => some c
    | none => pickB id b
  | _ => none
theorem at5_0 {x0 : Oper} {l : List Oper} : (List.toArray (x0 :: l))[0]? = some x0 := rfl
theorem at5_1 {x0 x1 : Oper} {l : List Oper} : (List.toArray (x0 :: x1 :: l))[1]? = some x1 := rfl
theorem at5_2 {x0 x1 x2 : Oper} {l : List Oper} : (List.toArray (x0 :: x1 :: x2 :: l))[2]? = some x2 := rfl
theorem at5_3 {x0 x1 x2 x3 : Oper} {l : List Oper} : (List.toArray (x0 :: x1 :: x2 :: x3 :: l))[3]? = some x3 := rfl
theorem at5_4 {x0 x1 x2 x3 x4 : Oper} {l : List Oper} : (List.toArray (x0 :: x1 :: x2 :: x3 :: x4 :: l))[4]? = some x4 := rfl
theorem at5_5 {x0 x1 x2 x3 x4 x5 : Oper} {l : List Oper} : (List.toArray (x0 :: x1 :: x2 :: x3 :: x4 :: x5 :: l))[5]? = some x5 := rfl
theorem at5_6 {x0 x1 x2 x3 x4 x5 x6 : Oper} {l : List Oper} : (List.toArray (x0 :: x1 :: x2 :: x3 :: x4 :: x5 :: x6 :: l))[6]? = some x6 := rfl
theorem at5_7 {x0 x1 x2 x3 x4 x5 x6 x7 : Oper} {l : List Oper} : (List.toArray (x0 :: x1 :: x2 :: x3 :: x4 :: x5 :: x6 :: x7 :: l))[7]? = some x7 := rfl
theorem at5_8 {x0 x1 x2 x3 x4 x5 x6 x7 x8 : Oper} {l : List Oper} : (List.toArray (x0 :: x1 :: x2 :: x3 :: x4 :: x5 :: x6 :: x7 :: x8 :: l))[8]? = some x8 := rfl
theorem at5_9 {x0 x1 x2 x3 x4 x5 x6 x7 x8 x9 : Oper} {l : List Oper} : (List.toArray (x0 :: x1 :: x2 :: x3 :: x4 :: x5 :: x6 :: x7 :: x8 :: x9 :: l))[9]? = some x9 := rfl
theorem at5_10 {x0 x1 x2 x3 x4 x5 x6 x7 x8 x9 x10 : Oper} {l : List Oper} : (List.toArray (x0 :: x1 :: x2 :: x3 :: x4 :: x5 :: x6 :: x7 :: x8 :: x9 :: x10 :: l))[10]? = some x10 := rfl
theorem at5_11 {x0 x1 x2 x3 x4 x5 x6 x7 x8 x9 x10 x11 : Oper} {l : List Oper} : (List.toArray (x0 :: x1 :: x2 :: x3 :: x4 :: x5 :: x6 :: x7 :: x8 :: x9 :: x10 :: x11 :: l))[11]? = some x11 := rfl
theorem at5_12 {x0 x1 x2 x3 x4 x5 x6 x7 x8 x9 x10 x11 x12 : Oper} {l : List Oper} : (List.toArray (x0 :: x1 :: x2 :: x3 :: x4 :: x5 :: x6 :: x7 :: x8 :: x9 :: x10 :: x11 :: x12 :: l))[12]? = some x12 := rfl
theorem at5_13 {x0 x1 x2 x3 x4 x5 x6 x7 x8 x9 x10 x11 x12 x13 : Oper} {l : List Oper} : (List.toArray (x0 :: x1 :: x2 :: x3 :: x4 :: x5 :: x6 :: x7 :: x8 :: x9 :: x10 :: x11 :: x12 :: x13 :: l))[13]? = some x13 := rfl
theorem at5_14 {x0 x1 x2 x3 x4 x5 x6 x7 x8 x9 x10 x11 x12 x13 x14 : Oper} {l : List Oper} : (List.toArray (x0 :: x1 :: x2 :: x3 :: x4 :: x5 :: x6 :: x7 :: x8 :: x9 :: x10 :: x11 :: x12 :: x13 :: x14 :: l))[14]? = some x14 := rfl
theorem at5_15 {x0 x1 x2 x3 x4 x5 x6 x7 x8 x9 x10 x11 x12 x13 x14 x15 : Oper} {l : List Oper} : (List.toArray (x0 :: x1 :: x2 :: x3 :: x4 :: x5 :: x6 :: x7 :: x8 :: x9 :: x10 :: x11 :: x12 :: x13 :: x14 :: x15 :: l))[15]? = some x15 := rfl
theorem at5_16 {x0 x1 x2 x3 x4 x5 x6 x7 x8 x9 x10 x11 x12 x13 x14 x15 x16 : Oper} {l : List Oper} : (List.toArray (x0 :: x1 :: x2 :: x3 :: x4 :: x5 :: x6 :: x7 :: x8 :: x9 :: x10 :: x11 :: x12 :: x13 :: x14 :: x15 :: x16 :: l))[16]? = some x16 := rfl
theorem at5_17 {x0 x1 x2 x3 x4 x5 x6 x7 x8 x9 x10 x11 x12 x13 x14 x15 x16 x17 : Oper} {l : List Oper} : (List.toArray (x0 :: x1 :: x2 :: x3 :: x4 :: x5 :: x6 :: x7 :: x8 :: x9 :: x10 :: x11 :: x12 :: x13 :: x14 :: x15 :: x16 :: x17 :: l))[17]? = some x17 := rfl
theorem at5_18 {x0 x1 x2 x3 x4 x5 x6 x7 x8 x9 x10 x11 x12 x13 x14 x15 x16 x17 x18 : Oper} {l : List Oper} : (List.toArray (x0 :: x1 :: x2 :: x3 :: x4 :: x5 :: x6 :: x7 :: x8 :: x9 :: x10 :: x11 :: x12 :: x13 :: x14 :: x15 :: x16 :: x17 :: x18 :: l))[18]? = some x18 := rfl
theorem at5_19 {x0 x1 x2 x3 x4 x5 x6 x7 x8 x9 x10 x11 x12 x13 x14 x15 x16 x17 x18 x19 : Oper} {l : List Oper} : (List.toArray (x0 :: x1 :: x2 :: x3 :: x4 :: x5 :: x6 :: x7 :: x8 :: x9 :: x10 :: x11 :: x12 :: x13 :: x14 :: x15 :: x16 :: x17 :: x18 :: x19 :: l))[19]? = some x19 := rfl
theorem at5_20 {x0 x1 x2 x3 x4 x5 x6 x7 x8 x9 x10 x11 x12 x13 x14 x15 x16 x17 x18 x19 x20 : Oper} {l : List Oper} : (List.toArray (x0 :: x1 :: x2 :: x3 :: x4 :: x5 :: x6 :: x7 :: x8 :: x9 :: x10 :: x11 :: x12 :: x13 :: x14 :: x15 :: x16 :: x17 :: x18 :: x19 :: x20 :: l))[20]? = some x20 := rfl
theorem at5_21 {x0 x1 x2 x3 x4 x5 x6 x7 x8 x9 x10 x11 x12 x13 x14 x15 x16 x17 x18 x19 x20 x21 : Oper} {l : List Oper} : (List.toArray (x0 :: x1 :: x2 :: x3 :: x4 :: x5 :: x6 :: x7 :: x8 :: x9 :: x10 :: x11 :: x12 :: x13 :: x14 :: x15 :: x16 :: x17 :: x18 :: x19 :: x20 :: x21 :: l))[21]? = some x21 := rfl
theorem at5_22 {x0 x1 x2 x3 x4 x5 x6 x7 x8 x9 x10 x11 x12 x13 x14 x15 x16 x17 x18 x19 x20 x21 x22 : Oper} {l : List Oper} : (List.toArray (x0 :: x1 :: x2 :: x3 :: x4 :: x5 :: x6 :: x7 :: x8 :: x9 :: x10 :: x11 :: x12 :: x13 :: x14 :: x15 :: x16 :: x17 :: x18 :: x19 :: x20 :: x21 :: x22 :: l))[22]? = some x22 := rfl
theorem at5_23 {x0 x1 x2 x3 x4 x5 x6 x7 x8 x9 x10 x11 x12 x13 x14 x15 x16 x17 x18 x19 x20 x21 x22 x23 : Oper} {l : List Oper} : (List.toArray (x0 :: x1 :: x2 :: x3 :: x4 :: x5 :: x6 :: x7 :: x8 :: x9 :: x10 :: x11 :: x12 :: x13 :: x14 :: x15 :: x16 :: x17 :: x18 :: x19 :: x20 :: x21 :: x22 :: x23 :: l))[23]? = some x23 := rfl
theorem at5_24 {x0 x1 x2 x3 x4 x5 x6 x7 x8 x9 x10 x11 x12 x13 x14 x15 x16 x17 x18 x19 x20 x21 x22 x23 x24 : Oper} {l : List Oper} : (List.toArray (x0 :: x1 :: x2 :: x3 :: x4 :: x5 :: x6 :: x7 :: x8 :: x9 :: x10 :: x11 :: x12 :: x13 :: x14 :: x15 :: x16 :: x17 :: x18 :: x19 :: x20 :: x21 :: x22 :: x23 :: x24 :: l))[24]? = some x24 := rfl
end Go.Proofs.YtpfmmlbakbhklaaGreatDoor
