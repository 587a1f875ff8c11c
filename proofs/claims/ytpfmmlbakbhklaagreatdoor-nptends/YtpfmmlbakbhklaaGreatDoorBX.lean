/- What NptTwo knows of its world: two guests' tables, the first one's live or dropped, the second one's tree; and what each call leaves. Of no law; no conditions but what is written. What a round of NptTwo does: four regions, each a call of the first guest. No condition. The walk of NptTwo: for every script and every page below 65536 it returns true; nothing that lay before is changed. Condition: the rules lie in their variable. -/
import Derived.Test.YtpfmmlbakbhklaaGreatDoorBW
import Derived.Test.YtpfmmlbakbhklaaGreatDoorBS
import Derived.Test.YtpfmmlbakbhklaaGreatDoorBI
import Derived.Deep.CutRange
import Derived.Deep.CutBlock
import Derived.Deep.RegionHeld3
import Derived.BigQuiet
namespace Go.Proofs.YtpfmmlbakbhklaaGreatDoor
open Go.RowKit
/-- The second guest's page is what it was, and it has four tables. -/
structure Ft (r1 pg : Int) (s : Sm) : Prop where
  f : qF s r1 pg = 77
  r : qR s r1 pg = 5
  e : qE s r1 pg = 0
  n : (allL s.xs r1).length = 4
structure Pv (r0 r1 pg : Int) (s : Sm) (ty : Int → Option Kd) : Prop where
  inv : Inv s ty (-1)
  r0 : ty r0 = some ⟨1, 3, 0⟩
  r1 : ty r1 = some ⟨2, 3, 0⟩
  b : P.btw pg 0 65535 = true
  v : Vw s ty 2 pg (77, 5)
  n : nT ty 2 s.ds.length = 4
theorem Pv.ft {r0 r1 pg : Int} {s : Sm} {ty : Int → Option Kd} (h : Pv r0 r1 pg s ty) : Ft r1 pg s := by
  obtain ⟨a, b, c, -⟩ := h.inv.query h.r1 h.b h.v
  exact ⟨a, b, c, by rw [allL_len, h.inv.gat_count h.r1, h.n]⟩
theorem Pv.any {r0 r1 pg : Int} {s s' : Sm} {ty ty' : Int → Option Kd} (h : Pv r0 r1 pg s ty) (a : Any 1 s ty s' ty') : Pv r0 r1 pg s' ty' :=
  ⟨a.inv, a.stp.root _ _ h.r0 rfl, a.stp.root _ _ h.r1 rfl, h.b, a.oth _ _ _ (by decide) h.b h.v, by rw [a.stp.nT_oth (by decide), a.stp.len]; exact h.n⟩
/-- The program's side; the first guest's tables are live, or were dropped. -/
structure Tv (w0 : World) (d : Sd) (a1 : Nat) (pg : Int) (k : Nat) (w : World) (s : Sm) : Prop where
  blk : w.heap[d.g]? = some (.cells #[.pointer (some ⟨d.u.mp, 0, none⟩), .pointer (some ⟨d.u.pp, 0, none⟩), .pointer (some ⟨d.a0, 0, none⟩), .pointer (some ⟨a1, 0, none⟩), .pointer (some ⟨d.v.mp, 0, none⟩), .pointer (some ⟨d.v.pp, 0, none⟩), .pointer (some ⟨d.b0, 0, none⟩), .pointer (some ⟨d.b1, 0, none⟩)] 39 (0, 0))
  wo : Wo d.u w s k
  t0 : (IsT d.u w d.a0 1 1 d.r0 ∧ ∃ ty, Pv d.r0 d.r1 pg s ty) ∨ w.heap[d.a0]? = some (.cells #[.int .i64 2, .pointer none, .pointer none, .int .i64 0, .int .i64 0] 70 (0, 0))
  t1 : IsT d.u w a1 1 2 d.r1
  ft : Ft d.r1 pg s
  ne : a1 ≠ d.a0
  lo : w0.heap.size < d.u.mp ∧ w0.heap.size < d.u.wb ∧ w0.heap.size < d.u.pp ∧ w0.heap.size < d.u.pb ∧ w0.heap.size < d.a0
  bel : Below w0.heap.size w0 w
def Two (w0 : World) (d : Sd) (a1 : Nat) (pg : Int) (k : Nat) (w : World) : Prop := ∃ s, Tv w0 d a1 pg k w s
/-- Blocks of other types stay. -/
def Kp (w w' : World) : Prop := ∀ (q : Nat) (c : Array Value) (T : TypeId), T ≠ 124 → T ≠ 67 → T ≠ 64 → T ≠ 70 → w.heap[q]? = some (.cells c T (0, 0)) → w'.heap[q]? = some (.cells c T (0, 0))
theorem Kp.of_below {w w' : World} (b : Below w.heap.size w w') : Kp w w' := fun _ _ _ _ _ _ _ hq => P.stay b hq
theorem Kp.of_ch {u : Si} {w w' : World} {s : Sm} {k : Nat} (hW : Wo u w s k) (hC : Ch u w w') : Kp w w' := fun _ _ _ h1 h2 h3 _ hq => hW.keep hC hq h1 h2 h3
section
variable {w0 w w' : World} {d : Sd} {a1 : Nat} {pg : Int} {k : Nat} {s s' : Sm}
theorem Tv.below (h : Tv w0 d a1 pg k w s) (b : Below w.heap.size w w') : Tv w0 d a1 pg k w' s := by
  refine ⟨P.stay b h.blk, h.wo.below b, ?_, h.t1.below b, h.ft, h.ne, h.lo, h.bel.trans (b.mono h.bel.size)⟩
  rcases h.t0 with ⟨a, c⟩ | a
  · exact .inl ⟨a.below b, c⟩
  · exact .inr (P.stay b a)
theorem Two.below (h : Two w0 d a1 pg k w) (b : Below w.heap.size w w') : Two w0 d a1 pg k w' := h.elim fun s h => ⟨s, h.below b⟩
theorem Two.mono (h : Two w0 d a1 pg k w) {k' : Nat} (hk : k ≤ k') : Two w0 d a1 pg k' w := h.elim fun s h => ⟨s, h.blk, h.wo.mono hk, h.t0, h.t1, h.ft, h.ne, h.lo, h.bel⟩
/-- A call of the first guest, whose tables are live. -/
theorem Tv.turn (h : Tv w0 d a1 pg k w s) {k' : Nat} (hT : IsT d.u w d.a0 1 1 d.r0) {ty ty' : Int → Option Kd} (hp : Pv d.r0 d.r1 pg s ty) (ha : Any 1 s ty s' ty') (hC : Ch d.u w w') (hW : Wo d.u w' s' k') : Tv w0 d a1 pg k' w' s' :=
  ⟨h.wo.keep hC h.blk (by decide) (by decide) (by decide), hW, .inl ⟨hT.ch h.wo hC, _, hp.any ha⟩, h.t1.ch h.wo hC, (hp.any ha).ft, h.ne, h.lo, h.bel.trans (hC.below h.bel.size (by have := h.lo; omega) (by have := h.lo; omega) (by have := h.lo; omega))⟩
theorem Tv.dead (h : w.heap[d.a0]? = some (.cells #[.int .i64 2, .pointer none, .pointer none, .int .i64 0, .int .i64 0] 70 (0, 0))) : Dd w (some ⟨d.a0, 0, none⟩) 6 := Dd.two (P.cell_of (i := 0) h rfl)
/-- The second guest's calls. -/
theorem Two.query (h : Two w0 d a1 pg k w) : Calls Tryz.prog 13 #[.pointer (some ⟨a1, 0, none⟩), .int .i64 pg] w fun e w' => e = .returned (.tuple #[.int .i64 77, .int .i64 5, .int .i64 0]) ∧ Two w0 d a1 pg k w' := by
  obtain ⟨s, h⟩ := h
  refine (query_at h.t1 h.wo pg).mono ?_
  rintro e w' ⟨rfl, hB⟩
  rw [h.ft.f, h.ft.r, h.ft.e]
  exact ⟨rfl, s, h.below hB⟩
theorem Two.all (h : Two w0 d a1 pg k w) : Calls Tryz.prog 16 #[.pointer (some ⟨a1, 0, none⟩)] w fun e w' => (∃ g c, e = .returned (.slice (some ⟨g, 0, none⟩) 4 c)) ∧ Two w0 d a1 pg k w' := by
  obtain ⟨s, h⟩ := h
  refine (all_at h.t1 h.wo).mono ?_
  rintro e w' ⟨v, rfl, a, hB⟩
  rw [h.ft.n] at a
  obtain ⟨g, c, rfl⟩ := ownsRow_succ a
  exact ⟨⟨g, c, rfl⟩, s, h.below hB⟩
/-- The first guest's calls. -/
theorem Two.map (h : Two w0 d a1 pg k w) (hk : k + 200 ≤ bnd) (p f r : Int) : Calls Tryz.prog 21 #[.pointer (some ⟨d.a0, 0, none⟩), .int .i64 p, .int .i64 f, .int .i64 r] w fun e w' => (∃ v, e = .returned v) ∧ Two w0 d a1 pg (k + 100) w' ∧ Kp w w' := by
  obtain ⟨s, h⟩ := h
  rcases h.t0 with ⟨hT, ty, hp⟩ | hD
  · refine (map_at hT h.wo hk p f r).mono ?_
    rintro e w' ⟨rfl, hW, hC⟩
    obtain ⟨ty', ha⟩ := hp.inv.any_put hp.r0 (by decide) p r f (.inl ⟨rfl, rfl⟩)
    exact ⟨⟨_, rfl⟩, ⟨_, h.turn hT hp ha hC hW⟩, .of_ch h.wo hC⟩
  · refine (map_dead (Tv.dead hD) p f r).mono ?_
    rintro e w' ⟨rfl, hB⟩
    exact ⟨⟨_, rfl⟩, (Two.below ⟨s, h⟩ hB).mono (by omega), .of_below hB⟩
theorem Two.large (h : Two w0 d a1 pg k w) (hk : k + 200 ≤ bnd) (p f r : Int) : Calls Tryz.prog 22 #[.pointer (some ⟨d.a0, 0, none⟩), .int .i64 p, .int .i64 f, .int .i64 r] w fun e w' => (∃ v, e = .returned v) ∧ Two w0 d a1 pg (k + 100) w' ∧ Kp w w' := by
  obtain ⟨s, h⟩ := h
  rcases h.t0 with ⟨hT, ty, hp⟩ | hD
  · refine (large_at hT h.wo hk p f r).mono ?_
    rintro e w' ⟨rfl, hW, hC⟩
    obtain ⟨ty', ha⟩ := hp.inv.any_put hp.r0 (by decide) p r f (.inr ⟨rfl, rfl⟩)
    exact ⟨⟨_, rfl⟩, ⟨_, h.turn hT hp ha hC hW⟩, .of_ch h.wo hC⟩
  · refine (large_dead (Tv.dead hD) p f r).mono ?_
    rintro e w' ⟨rfl, hB⟩
    exact ⟨⟨_, rfl⟩, (Two.below ⟨s, h⟩ hB).mono (by omega), .of_below hB⟩
theorem Two.unmap (h : Two w0 d a1 pg k w) (hk : k + 200 ≤ bnd) (p : Int) : Calls Tryz.prog 23 #[.pointer (some ⟨d.a0, 0, none⟩), .int .i64 p] w fun e w' => (∃ v, e = .returned v) ∧ Two w0 d a1 pg (k + 100) w' ∧ Kp w w' := by
  obtain ⟨s, h⟩ := h
  rcases h.t0 with ⟨hT, ty, hp⟩ | hD
  · refine (unmap_at hT h.wo hk p).mono ?_
    rintro e w' ⟨rfl, hW, hC⟩
    obtain ⟨ty', ha⟩ := hp.inv.any_un hp.r0 (by decide) p
    exact ⟨⟨_, rfl⟩, ⟨_, h.turn hT hp ha hC hW⟩, .of_ch h.wo hC⟩
  · refine (unmap_dead (Tv.dead hD) p).mono ?_
    rintro e w' ⟨rfl, hB⟩
    exact ⟨⟨_, rfl⟩, (Two.below ⟨s, h⟩ hB).mono (by omega), .of_below hB⟩
theorem Two.protect (h : Two w0 d a1 pg k w) (hk : k + 200 ≤ bnd) (p r : Int) : Calls Tryz.prog 24 #[.pointer (some ⟨d.a0, 0, none⟩), .int .i64 p, .int .i64 r] w fun e w' => (∃ v, e = .returned v) ∧ Two w0 d a1 pg (k + 100) w' ∧ Kp w w' := by
  obtain ⟨s, h⟩ := h
  rcases h.t0 with ⟨hT, ty, hp⟩ | hD
  · refine (protect_at hT h.wo hk p r).mono ?_
    rintro e w' ⟨rfl, hW, hC⟩
    obtain ⟨ty', ha⟩ := hp.inv.any_pr hp.r0 (by decide) p r
    exact ⟨⟨_, rfl⟩, ⟨_, h.turn hT hp ha hC hW⟩, .of_ch h.wo hC⟩
  · refine (protect_dead (Tv.dead hD) p r).mono ?_
    rintro e w' ⟨rfl, rfl⟩
    exact ⟨⟨_, rfl⟩, Two.mono ⟨s, h⟩ (by omega), fun _ _ _ _ _ _ _ hq => hq⟩
theorem Two.drop (h : Two w0 d a1 pg k w) : Calls Tryz.prog 37 #[.pointer (some ⟨d.a0, 0, none⟩)] w fun e w' => (∃ v, e = .returned v) ∧ Two w0 d a1 pg (k + 100) w' ∧ Kp w w' := by
  obtain ⟨s, h⟩ := h
  rcases h.t0 with ⟨hT, ty, hp⟩ | hD
  · refine (drop_at hT h.wo).mono ?_
    rintro e w' ⟨⟨v, rfl, -⟩, hW, hC, hc⟩
    obtain ⟨x1, x2, x3⟩ := h.wo.apart h.t1 (by decide) (by decide) (by decide)
    obtain ⟨y1, y2, y3⟩ := h.wo.apart h.blk (by decide) (by decide) (by decide)
    have hga : d.g ≠ d.a0 := by
      intro e
      have hb := h.blk
      rw [e, show w.heap[d.a0]? = _ from hT] at hb
      injection hb with hb
      injection hb with _ hb _
      exact absurd hb (by decide)
    have hlo := h.lo
    refine ⟨⟨_, rfl⟩, ⟨⟨s.xs, turnAll s.ds (allL s.xs d.r0)⟩, ?_⟩, fun _ _ _ k1 k2 k3 k4 hq => hC.keep h.wo hT hq k1 k2 k3 k4⟩
    refine ⟨(hC.block _ (lt_of_block h.blk) y1 y2 y3 hga).trans h.blk, hW.mono (by omega), .inr hc, (hC.block _ h.t1.lt x1 x2 x3 h.ne).trans h.t1, ⟨h.ft.f, h.ft.r, h.ft.e, h.ft.n⟩, h.ne, h.lo, h.bel.trans ⟨hC.os, hC.tape, hC.output, hC.size, fun j hj => hC.block j (by have := h.bel.size; omega) (by omega) (by omega) (by omega) (by omega)⟩⟩
  · refine (drop_dead (Tv.dead hD)).mono ?_
    rintro e w' ⟨rfl, rfl⟩
    exact ⟨⟨_, rfl⟩, Two.mono ⟨s, h⟩ (by omega), fun _ _ _ _ _ _ _ hq => hq⟩
end
/-- A new world, in which the second guest has mapped its page. -/
theorem two_put {m : Nat} {ty : Int → Option Kd} (h : Bare m ty) (h4 : 4 ≤ m) {pg : Int} (hb : P.btw pg 0 65535 = true) :
    putE (s2 m) (newF (s1 m) 2) pg 0 ⟨true, 5, false, 77⟩ = 0 ∧ ∃ ty', Pv (newF (z0 (m + 1)) 1) (newF (s1 m) 2) pg (putT (s2 m) 2 (newF (s1 m) 2) pg 0 ⟨true, 5, false, 77⟩) ty' := by
  have hd := dg_in pg 3
  have hfd := h.inv.fd_of h.r1 hb (⟨root_on h.r1 hb, by rw [h.z1 _ hd.1 hd.2]; exact tb_zd⟩ : Ed (s2 m) ty 2 pg (newF (s1 m) 2) 3)
  have hE := h.inv.put_ok (r := 5) (f := 77) h.r1 hb (by decide) (by decide) (h.no 2 pg (.inr rfl) hb) rfl (by rw [hfd]; have := h.free; simp only; omega)
  refine ⟨hE, ?_⟩
  obtain ⟨ty', a, b, c, d, -, e⟩ := h.inv.put h.r1 (by decide) (.inl ⟨rfl, rfl⟩) hE
  have hv := e 2 pg _ hb (h.no 2 pg (.inr rfl) hb)
  rw [if_pos ⟨rfl, rfl⟩] at hv
  have hn := d
  rw [show endF (s2 m).xs pg 0 3 (newF (s1 m) 2) = fd (s2 m) (newF (s1 m) 2) pg from rfl, hfd, h.len, h.n2] at hn
  refine ⟨ty', a, b.root _ _ h.r0 rfl, b.root _ _ h.r1 rfl, hb, ?_, ?_⟩
  · have e2 : vE ⟨true, 5, false, 77⟩ 0 pg = (77, 5) := by
      unfold vE
      rw [if_pos rfl, sp_0]
      simp
    rw [e2] at hv
    exact hv
  · rw [b.len, h.len]
    simp only at hn
    omega
theorem Two.start {w w1 w2 : World} {m : Nat} {u v : Si} {a0 b0 a1 b1 : Nat} {x1 : Option Addr} {ty ty' : Int → Option Kd} (hb : Bgn w m w1 u v a0 b0 a1 b1 x1) (hB : Bare m ty) {pg : Int} {k : Nat} {s : Sm} (hW : Wo u w2 s k) (hC : Ch u w1 w2)
    (hp : Pv (newF (z0 (m + 1)) 1) (newF (s1 m) 2) pg s ty') : Two w ⟨w.heap.size, u, v, a0, b0, b1, x1, newF (z0 (m + 1)) 1, newF (s1 m) 2⟩ a1 pg k w2 := by
  obtain ⟨hx, h1⟩ := hb.t1 hB.two
  have hg := hb.g.blk
  rw [hx] at hg
  refine ⟨s, hb.wo.keep hC hg (by decide) (by decide) (by decide), hW, .inl ⟨hb.t0.ch hb.wo hC, ty', hp⟩, h1.ch hb.wo hC, hp.ft, by have := hb.ord; simp only; omega, by have := hb.lo; have := hb.ord; simp only; omega, hb.bel.trans (hC.below hb.bel.size (by have := hb.lo; omega) (by have := hb.lo; omega) (by have := hb.lo; omega))⟩
end Go.Proofs.YtpfmmlbakbhklaaGreatDoor
namespace Go.Proofs.YtpfmmlbakbhklaaGreatDoor
open Go.RowKit
set_option maxRecDepth 100000 in
set_option maxHeartbeats 8000000 in
theorem g12 {Q : Exit → Act → World → Prop} {w0 w : World} {d : Sd} {a1 k z : Nat} {pg kd wh pp fm rt : Int} {c0 c1 c2 c3 c4 c6 c7 c9 c10 c11 c12 c13 c14 c15 c16 c17 c18 c19 c20 c21 c22 c23 c24 c25 c26 c27 c28 c29 c30 c31 c32 c33 c34 c35 c36 c37 c38 c39 c40 c41 c42 c43 c44 c45 c46 c47 c48 c49 c50 c51 c52 c53 c54 c55 c56 c57 c58 c59 c60 c61 c62 c63 c64 c65 c66 c67 c68 c69 c70 c71 c72 c73 c74 c75 c76 c77 c78 c79 c80 c81 c82 c83 c84 c85 c86 c87 c88 c89 c90 c91 c92 c93 c94 c95 c96 c97 c98 c99 c100 c101 c102 c103 c104 c105 c106 c107 c108 c109 c110 c111 c112 c113 c114 c115 c116 c117 c118 c119 c120 c121 c122 c123 c124 c125 c126 c127 c128 c129 c130 c131 c132 c133 c134 c135 c136 c137 c138 c139 c140 c141 c142 c143 c144 c145 c146 c147 c148 c149 : Value} (hQ : ∀ c (a : Act) (d : Tmp) (v : Value) w, Q (.panic c) (a.put (some d) v) w → Q (.panic c) a w)
    (hx : Two w0 d a1 pg k w) (hk : k + 200 ≤ bnd) (hz : w.heap[z]? = some (.cells #[.int .i64 kd, .int .i64 wh, .int .i64 pp, .int .i64 fm, .int .i64 rt] 27 (0, 0)))
    (hK : ∀ (u61 u62 u63 u64 u65 u66 u67 u68 u69 u70 u71 u72 : Value) (w' : World), Two w0 d a1 pg (k + 100) w' → Q .normal ⟨#[c0, c1, c2, c3, c4, .pointer (some ⟨d.g, 0, none⟩), c6, c7, .pointer (some ⟨z, 0, none⟩), c9, c10, c11, c12, c13, c14, c15, c16, c17, c18, c19, c20, c21, c22, c23, c24, c25, c26, c27, c28, c29, c30, c31, c32, c33, c34, c35, c36, c37, c38, c39, c40, c41, c42, c43, c44, c45, c46, c47, c48, c49, c50, c51, c52, c53, c54, c55, c56, c57, c58, c59, c60, u61, u62, u63, u64, u65, u66, u67, u68, u69, u70, u71, u72, c73, c74, c75, c76, c77, c78, c79, c80, c81, c82, c83, c84, c85, c86, c87, c88, c89, c90, c91, c92, c93, c94, c95, c96, c97, c98, c99, c100, c101, c102, c103, c104, c105, c106, c107, c108, c109, c110, c111, c112, c113, c114, c115, c116, c117, c118, c119, c120, c121, c122, c123, c124, c125, c126, c127, c128, c129, c130, c131, c132, c133, c134, c135, c136, c137, c138, c139, c140, c141, c142, c143, c144, c145, c146, c147, c148, c149], []⟩ w') :
    Code.wp Tryz.prog ((Tryz.f9.body.bind (pickR 12)).getD .skip) Q ⟨#[c0, c1, c2, c3, c4, .pointer (some ⟨d.g, 0, none⟩), c6, c7, .pointer (some ⟨z, 0, none⟩), c9, c10, c11, c12, c13, c14, c15, c16, c17, c18, c19, c20, c21, c22, c23, c24, c25, c26, c27, c28, c29, c30, c31, c32, c33, c34, c35, c36, c37, c38, c39, c40, c41, c42, c43, c44, c45, c46, c47, c48, c49, c50, c51, c52, c53, c54, c55, c56, c57, c58, c59, c60, c61, c62, c63, c64, c65, c66, c67, c68, c69, c70, c71, c72, c73, c74, c75, c76, c77, c78, c79, c80, c81, c82, c83, c84, c85, c86, c87, c88, c89, c90, c91, c92, c93, c94, c95, c96, c97, c98, c99, c100, c101, c102, c103, c104, c105, c106, c107, c108, c109, c110, c111, c112, c113, c114, c115, c116, c117, c118, c119, c120, c121, c122, c123, c124, c125, c126, c127, c128, c129, c130, c131, c132, c133, c134, c135, c136, c137, c138, c139, c140, c141, c142, c143, c144, c145, c146, c147, c148, c149], []⟩ w := by
  have HK : Hid (∀ (u61 u62 u63 u64 u65 u66 u67 u68 u69 u70 u71 u72 : Value) (w' : World), Two w0 d a1 pg (k + 100) w' → Q .normal ⟨#[c0, c1, c2, c3, c4, .pointer (some ⟨d.g, 0, none⟩), c6, c7, .pointer (some ⟨z, 0, none⟩), c9, c10, c11, c12, c13, c14, c15, c16, c17, c18, c19, c20, c21, c22, c23, c24, c25, c26, c27, c28, c29, c30, c31, c32, c33, c34, c35, c36, c37, c38, c39, c40, c41, c42, c43, c44, c45, c46, c47, c48, c49, c50, c51, c52, c53, c54, c55, c56, c57, c58, c59, c60, u61, u62, u63, u64, u65, u66, u67, u68, u69, u70, u71, u72, c73, c74, c75, c76, c77, c78, c79, c80, c81, c82, c83, c84, c85, c86, c87, c88, c89, c90, c91, c92, c93, c94, c95, c96, c97, c98, c99, c100, c101, c102, c103, c104, c105, c106, c107, c108, c109, c110, c111, c112, c113, c114, c115, c116, c117, c118, c119, c120, c121, c122, c123, c124, c125, c126, c127, c128, c129, c130, c131, c132, c133, c134, c135, c136, c137, c138, c139, c140, c141, c142, c143, c144, c145, c146, c147, c148, c149], []⟩ w') := hid hK
  have HQ : Hid (∀ c (a : Act) (d : Tmp) (v : Value) w, Q (.panic c) (a.put (some d) v) w → Q (.panic c) a w) := hid hQ
  have hxd := hx.below (Below.refl _ _).drew
  have hb := P.stay (Below.refl w.heap.size w).drew hz
  have hg := hxd.choose_spec.blk
  have hS0 : w.drew.cell? ⟨d.g, 2, none⟩ = some (.pointer (some ⟨d.a0, 0, none⟩)) ∧ w.drew.cell? ⟨z, 2, none⟩ = some (.int .i64 pp) ∧ w.drew.cell? ⟨z, 3, none⟩ = some (.int .i64 fm) ∧ w.drew.cell? ⟨z, 4, none⟩ = some (.int .i64 rt) := ⟨P.cell_of (i := 2) hg rfl, P.cell_of (i := 2) hb rfl, P.cell_of (i := 3) hb rfl, P.cell_of (i := 4) hb rfl⟩
  have HC : Hid (Calls Tryz.prog 21 #[.pointer (some ⟨d.a0, 0, none⟩), .int .i64 pp, .int .i64 fm, .int .i64 rt] w.drew fun e w' => (∃ v, e = .returned v) ∧ (w'.cell? ⟨d.g, 2, none⟩ = some (.pointer (some ⟨d.a0, 0, none⟩)) ∧ w'.cell? ⟨z, 2, none⟩ = some (.int .i64 pp) ∧ w'.cell? ⟨z, 3, none⟩ = some (.int .i64 fm) ∧ w'.cell? ⟨z, 4, none⟩ = some (.int .i64 rt)) ∧ Hid (Two w0 d a1 pg (k + 100) w')) := by
    refine (hxd.map hk pp fm rt).mono ?_
    rintro e w' ⟨hv, hT, hKp⟩
    have hb := hKp _ _ _ (by decide) (by decide) (by decide) (by decide) hb
    have hg := hT.choose_spec.blk
    exact ⟨hv, ⟨P.cell_of (i := 2) hg rfl, P.cell_of (i := 2) hb rfl, P.cell_of (i := 3) hb rfl, P.cell_of (i := 4) hb rfl⟩, hT⟩
  clear hK hQ hxd hb hg hx hk hz
  conv => arg 2; whnf
  refine wp_region_held_drew (S := fun w' => w'.cell? ⟨d.g, 2, none⟩ = some (.pointer (some ⟨d.a0, 0, none⟩)) ∧ w'.cell? ⟨z, 2, none⟩ = some (.int .i64 pp) ∧ w'.cell? ⟨z, 3, none⟩ = some (.int .i64 fm) ∧ w'.cell? ⟨z, 4, none⟩ = some (.int .i64 rt)) (by kernel_rfl) hS0 (fun hHeld => ?_)
  refine wpAnyH_take (i := 0) (v := ?v0b) at5_0 (by kernel_rfl) (by kernel_rfl) (by kernel_rfl) (fun _ _ _ h => HQ.out _ _ _ _ _ h) (Or.inl ⟨by rfl, ?y0b⟩) (by assumption) ?r0b
  case y0b => (intro w hSw; (try dsimp only at hSw); go_simp; (try with_reducible rfl))
  (try simp only [Act.put, List.setIfInBounds_toArray, List.set_cons_zero, List.set_cons_succ])
  refine wpAnyH_take (i := 1) (v := ?v1b) at5_1 (by kernel_rfl) (by kernel_rfl) (by kernel_rfl) (fun _ _ _ h => HQ.out _ _ _ _ _ h) (Or.inl ⟨by rfl, ?y1b⟩) (by assumption) ?r1b
  case y1b => (intro w hSw; (try dsimp only at hSw); go_simp; (try with_reducible rfl))
  (try simp only [Act.put, List.setIfInBounds_toArray, List.set_cons_zero, List.set_cons_succ])
  refine wpAnyH_take (i := 2) (v := ?v2b) at5_2 (by kernel_rfl) (by kernel_rfl) (by kernel_rfl) (fun _ _ _ h => HQ.out _ _ _ _ _ h) (Or.inl ⟨by rfl, ?y2b⟩) (by assumption) ?r2b
  case y2b => (intro w hSw; (try dsimp only at hSw); go_simp; (try with_reducible rfl))
  (try simp only [Act.put, List.setIfInBounds_toArray, List.set_cons_zero, List.set_cons_succ])
  refine wpAnyH_take (i := 3) (v := ?v3b) at5_3 (by kernel_rfl) (by kernel_rfl) (by kernel_rfl) (fun _ _ _ h => HQ.out _ _ _ _ _ h) (Or.inl ⟨by rfl, ?y3b⟩) (by assumption) ?r3b
  case y3b => (intro w hSw; (try dsimp only at hSw); go_simp; (try with_reducible rfl))
  (try simp only [Act.put, List.setIfInBounds_toArray, List.set_cons_zero, List.set_cons_succ])
  refine wpAnyH_take (i := 4) (v := ?v4b) at5_4 (by kernel_rfl) (by kernel_rfl) (by kernel_rfl) (fun _ _ _ h => HQ.out _ _ _ _ _ h) (Or.inl ⟨by rfl, ?y4b⟩) (by assumption) ?r4b
  case y4b => (intro w hSw; (try dsimp only at hSw); go_simp; (try with_reducible rfl))
  (try simp only [Act.put, List.setIfInBounds_toArray, List.set_cons_zero, List.set_cons_succ])
  refine wpAnyH_take (i := 5) (v := ?v5b) at5_5 (by kernel_rfl) (by kernel_rfl) (by kernel_rfl) (fun _ _ _ h => HQ.out _ _ _ _ _ h) (Or.inl ⟨by rfl, ?y5b⟩) (by assumption) ?r5b
  case y5b => (intro w hSw; (try dsimp only at hSw); go_simp; (try with_reducible rfl))
  (try simp only [Act.put, List.setIfInBounds_toArray, List.set_cons_zero, List.set_cons_succ])
  refine wpAnyH_take (i := 6) (v := ?v6b) at5_6 (by kernel_rfl) (by kernel_rfl) (by kernel_rfl) (fun _ _ _ h => HQ.out _ _ _ _ _ h) (Or.inl ⟨by rfl, ?y6b⟩) (by assumption) ?r6b
  case y6b => (intro w hSw; (try dsimp only at hSw); go_simp; (try with_reducible rfl))
  (try simp only [Act.put, List.setIfInBounds_toArray, List.set_cons_zero, List.set_cons_succ])
  refine wpAnyH_take (i := 7) (v := ?v7b) at5_7 (by kernel_rfl) (by kernel_rfl) (by kernel_rfl) (fun _ _ _ h => HQ.out _ _ _ _ _ h) (Or.inl ⟨by rfl, ?y7b⟩) (by assumption) ?r7b
  case y7b => (intro w hSw; (try dsimp only at hSw); go_simp; (try with_reducible rfl))
  (try simp only [Act.put, List.setIfInBounds_toArray, List.set_cons_zero, List.set_cons_succ])
  refine wpAnyH_take (i := 8) (v := ?v8b) at5_8 (by kernel_rfl) (by kernel_rfl) (by kernel_rfl) (fun _ _ _ h => HQ.out _ _ _ _ _ h) (Or.inl ⟨by rfl, ?y8b⟩) (by assumption) ?r8b
  case y8b => (intro w hSw; (try dsimp only at hSw); go_simp; (try with_reducible rfl))
  (try simp only [Act.put, List.setIfInBounds_toArray, List.set_cons_zero, List.set_cons_succ])
  refine wpAnyH_take (i := 9) (v := ?v9b) at5_9 (by kernel_rfl) (by kernel_rfl) (by kernel_rfl) (fun _ _ _ h => HQ.out _ _ _ _ _ h) (Or.inl ⟨by rfl, ?y9b⟩) (by assumption) ?r9b
  case y9b => (intro w hSw; (try dsimp only at hSw); go_simp; (try with_reducible rfl))
  (try simp only [Act.put, List.setIfInBounds_toArray, List.set_cons_zero, List.set_cons_succ])
  refine wpAnyH_take (i := 10) (v := ?v10b) at5_10 (by kernel_rfl) (by kernel_rfl) (by kernel_rfl) (fun _ _ _ h => HQ.out _ _ _ _ _ h) (Or.inl ⟨by rfl, ?y10b⟩) (by assumption) ?r10b
  case y10b => (intro w hSw; (try dsimp only at hSw); go_simp; (try with_reducible rfl))
  (try simp only [Act.put, List.setIfInBounds_toArray, List.set_cons_zero, List.set_cons_succ])
  refine wpAnyH_ready (rs := [11]) (by kernel_rfl) (by simp) ?_
  refine AllReadyH.cons at5_11 (fun K hK => ?_) AllReadyH.nil
  go_simp
  refine HC.out.mono ?_
  rintro e5 w5 ⟨⟨v5, rfl⟩, hS5, hT5⟩
  go_wp2_with fail
  refine hK.out _ _ hS5 (fun hHeld2 => ?_)
  clear hK K hHeld
  have hHeld := hHeld2
  clear hHeld2
  (try simp only [Act.put, List.setIfInBounds_toArray, List.set_cons_zero, List.set_cons_succ])
  refine wpAnyH_done (by kernel_rfl) ?_ _
  exact HK.out _ _ _ _ _ _ _ _ _ _ _ _ _ hT5.out
set_option maxRecDepth 100000 in
set_option maxHeartbeats 8000000 in
theorem g14 {Q : Exit → Act → World → Prop} {w0 w : World} {d : Sd} {a1 k z : Nat} {pg kd wh pp fm rt : Int} {c0 c1 c2 c3 c4 c6 c7 c9 c10 c11 c12 c13 c14 c15 c16 c17 c18 c19 c20 c21 c22 c23 c24 c25 c26 c27 c28 c29 c30 c31 c32 c33 c34 c35 c36 c37 c38 c39 c40 c41 c42 c43 c44 c45 c46 c47 c48 c49 c50 c51 c52 c53 c54 c55 c56 c57 c58 c59 c60 c61 c62 c63 c64 c65 c66 c67 c68 c69 c70 c71 c72 c73 c74 c75 c76 c77 c78 c79 c80 c81 c82 c83 c84 c85 c86 c87 c88 c89 c90 c91 c92 c93 c94 c95 c96 c97 c98 c99 c100 c101 c102 c103 c104 c105 c106 c107 c108 c109 c110 c111 c112 c113 c114 c115 c116 c117 c118 c119 c120 c121 c122 c123 c124 c125 c126 c127 c128 c129 c130 c131 c132 c133 c134 c135 c136 c137 c138 c139 c140 c141 c142 c143 c144 c145 c146 c147 c148 c149 : Value} (hQ : ∀ c (a : Act) (d : Tmp) (v : Value) w, Q (.panic c) (a.put (some d) v) w → Q (.panic c) a w)
    (hx : Two w0 d a1 pg k w) (hk : k + 200 ≤ bnd) (hz : w.heap[z]? = some (.cells #[.int .i64 kd, .int .i64 wh, .int .i64 pp, .int .i64 fm, .int .i64 rt] 27 (0, 0)))
    (hK : ∀ (u75 u76 u77 u78 u79 u80 u81 u82 u83 u84 u85 u86 : Value) (w' : World), Two w0 d a1 pg (k + 100) w' → Q .normal ⟨#[c0, c1, c2, c3, c4, .pointer (some ⟨d.g, 0, none⟩), c6, c7, .pointer (some ⟨z, 0, none⟩), c9, c10, c11, c12, c13, c14, c15, c16, c17, c18, c19, c20, c21, c22, c23, c24, c25, c26, c27, c28, c29, c30, c31, c32, c33, c34, c35, c36, c37, c38, c39, c40, c41, c42, c43, c44, c45, c46, c47, c48, c49, c50, c51, c52, c53, c54, c55, c56, c57, c58, c59, c60, c61, c62, c63, c64, c65, c66, c67, c68, c69, c70, c71, c72, c73, c74, u75, u76, u77, u78, u79, u80, u81, u82, u83, u84, u85, u86, c87, c88, c89, c90, c91, c92, c93, c94, c95, c96, c97, c98, c99, c100, c101, c102, c103, c104, c105, c106, c107, c108, c109, c110, c111, c112, c113, c114, c115, c116, c117, c118, c119, c120, c121, c122, c123, c124, c125, c126, c127, c128, c129, c130, c131, c132, c133, c134, c135, c136, c137, c138, c139, c140, c141, c142, c143, c144, c145, c146, c147, c148, c149], []⟩ w') :
    Code.wp Tryz.prog ((Tryz.f9.body.bind (pickR 14)).getD .skip) Q ⟨#[c0, c1, c2, c3, c4, .pointer (some ⟨d.g, 0, none⟩), c6, c7, .pointer (some ⟨z, 0, none⟩), c9, c10, c11, c12, c13, c14, c15, c16, c17, c18, c19, c20, c21, c22, c23, c24, c25, c26, c27, c28, c29, c30, c31, c32, c33, c34, c35, c36, c37, c38, c39, c40, c41, c42, c43, c44, c45, c46, c47, c48, c49, c50, c51, c52, c53, c54, c55, c56, c57, c58, c59, c60, c61, c62, c63, c64, c65, c66, c67, c68, c69, c70, c71, c72, c73, c74, c75, c76, c77, c78, c79, c80, c81, c82, c83, c84, c85, c86, c87, c88, c89, c90, c91, c92, c93, c94, c95, c96, c97, c98, c99, c100, c101, c102, c103, c104, c105, c106, c107, c108, c109, c110, c111, c112, c113, c114, c115, c116, c117, c118, c119, c120, c121, c122, c123, c124, c125, c126, c127, c128, c129, c130, c131, c132, c133, c134, c135, c136, c137, c138, c139, c140, c141, c142, c143, c144, c145, c146, c147, c148, c149], []⟩ w := by
  have HK : Hid (∀ (u75 u76 u77 u78 u79 u80 u81 u82 u83 u84 u85 u86 : Value) (w' : World), Two w0 d a1 pg (k + 100) w' → Q .normal ⟨#[c0, c1, c2, c3, c4, .pointer (some ⟨d.g, 0, none⟩), c6, c7, .pointer (some ⟨z, 0, none⟩), c9, c10, c11, c12, c13, c14, c15, c16, c17, c18, c19, c20, c21, c22, c23, c24, c25, c26, c27, c28, c29, c30, c31, c32, c33, c34, c35, c36, c37, c38, c39, c40, c41, c42, c43, c44, c45, c46, c47, c48, c49, c50, c51, c52, c53, c54, c55, c56, c57, c58, c59, c60, c61, c62, c63, c64, c65, c66, c67, c68, c69, c70, c71, c72, c73, c74, u75, u76, u77, u78, u79, u80, u81, u82, u83, u84, u85, u86, c87, c88, c89, c90, c91, c92, c93, c94, c95, c96, c97, c98, c99, c100, c101, c102, c103, c104, c105, c106, c107, c108, c109, c110, c111, c112, c113, c114, c115, c116, c117, c118, c119, c120, c121, c122, c123, c124, c125, c126, c127, c128, c129, c130, c131, c132, c133, c134, c135, c136, c137, c138, c139, c140, c141, c142, c143, c144, c145, c146, c147, c148, c149], []⟩ w') := hid hK
  have HQ : Hid (∀ c (a : Act) (d : Tmp) (v : Value) w, Q (.panic c) (a.put (some d) v) w → Q (.panic c) a w) := hid hQ
  have hxd := hx.below (Below.refl _ _).drew
  have hb := P.stay (Below.refl w.heap.size w).drew hz
  have hg := hxd.choose_spec.blk
  have hS0 : w.drew.cell? ⟨d.g, 2, none⟩ = some (.pointer (some ⟨d.a0, 0, none⟩)) ∧ w.drew.cell? ⟨z, 2, none⟩ = some (.int .i64 pp) ∧ w.drew.cell? ⟨z, 3, none⟩ = some (.int .i64 fm) ∧ w.drew.cell? ⟨z, 4, none⟩ = some (.int .i64 rt) := ⟨P.cell_of (i := 2) hg rfl, P.cell_of (i := 2) hb rfl, P.cell_of (i := 3) hb rfl, P.cell_of (i := 4) hb rfl⟩
  have HC : Hid (Calls Tryz.prog 22 #[.pointer (some ⟨d.a0, 0, none⟩), .int .i64 pp, .int .i64 fm, .int .i64 rt] w.drew fun e w' => (∃ v, e = .returned v) ∧ (w'.cell? ⟨d.g, 2, none⟩ = some (.pointer (some ⟨d.a0, 0, none⟩)) ∧ w'.cell? ⟨z, 2, none⟩ = some (.int .i64 pp) ∧ w'.cell? ⟨z, 3, none⟩ = some (.int .i64 fm) ∧ w'.cell? ⟨z, 4, none⟩ = some (.int .i64 rt)) ∧ Hid (Two w0 d a1 pg (k + 100) w')) := by
    refine (hxd.large hk pp fm rt).mono ?_
    rintro e w' ⟨hv, hT, hKp⟩
    have hb := hKp _ _ _ (by decide) (by decide) (by decide) (by decide) hb
    have hg := hT.choose_spec.blk
    exact ⟨hv, ⟨P.cell_of (i := 2) hg rfl, P.cell_of (i := 2) hb rfl, P.cell_of (i := 3) hb rfl, P.cell_of (i := 4) hb rfl⟩, hT⟩
  clear hK hQ hxd hb hg hx hk hz
  conv => arg 2; whnf
  refine wp_region_held_drew (S := fun w' => w'.cell? ⟨d.g, 2, none⟩ = some (.pointer (some ⟨d.a0, 0, none⟩)) ∧ w'.cell? ⟨z, 2, none⟩ = some (.int .i64 pp) ∧ w'.cell? ⟨z, 3, none⟩ = some (.int .i64 fm) ∧ w'.cell? ⟨z, 4, none⟩ = some (.int .i64 rt)) (by kernel_rfl) hS0 (fun hHeld => ?_)
  refine wpAnyH_take (i := 0) (v := ?v0c) at5_0 (by kernel_rfl) (by kernel_rfl) (by kernel_rfl) (fun _ _ _ h => HQ.out _ _ _ _ _ h) (Or.inl ⟨by rfl, ?y0c⟩) (by assumption) ?r0c
  case y0c => (intro w hSw; (try dsimp only at hSw); go_simp; (try with_reducible rfl))
  (try simp only [Act.put, List.setIfInBounds_toArray, List.set_cons_zero, List.set_cons_succ])
  refine wpAnyH_take (i := 1) (v := ?v1c) at5_1 (by kernel_rfl) (by kernel_rfl) (by kernel_rfl) (fun _ _ _ h => HQ.out _ _ _ _ _ h) (Or.inl ⟨by rfl, ?y1c⟩) (by assumption) ?r1c
  case y1c => (intro w hSw; (try dsimp only at hSw); go_simp; (try with_reducible rfl))
  (try simp only [Act.put, List.setIfInBounds_toArray, List.set_cons_zero, List.set_cons_succ])
  refine wpAnyH_take (i := 2) (v := ?v2c) at5_2 (by kernel_rfl) (by kernel_rfl) (by kernel_rfl) (fun _ _ _ h => HQ.out _ _ _ _ _ h) (Or.inl ⟨by rfl, ?y2c⟩) (by assumption) ?r2c
  case y2c => (intro w hSw; (try dsimp only at hSw); go_simp; (try with_reducible rfl))
  (try simp only [Act.put, List.setIfInBounds_toArray, List.set_cons_zero, List.set_cons_succ])
  refine wpAnyH_take (i := 3) (v := ?v3c) at5_3 (by kernel_rfl) (by kernel_rfl) (by kernel_rfl) (fun _ _ _ h => HQ.out _ _ _ _ _ h) (Or.inl ⟨by rfl, ?y3c⟩) (by assumption) ?r3c
  case y3c => (intro w hSw; (try dsimp only at hSw); go_simp; (try with_reducible rfl))
  (try simp only [Act.put, List.setIfInBounds_toArray, List.set_cons_zero, List.set_cons_succ])
  refine wpAnyH_take (i := 4) (v := ?v4c) at5_4 (by kernel_rfl) (by kernel_rfl) (by kernel_rfl) (fun _ _ _ h => HQ.out _ _ _ _ _ h) (Or.inl ⟨by rfl, ?y4c⟩) (by assumption) ?r4c
  case y4c => (intro w hSw; (try dsimp only at hSw); go_simp; (try with_reducible rfl))
  (try simp only [Act.put, List.setIfInBounds_toArray, List.set_cons_zero, List.set_cons_succ])
  refine wpAnyH_take (i := 5) (v := ?v5c) at5_5 (by kernel_rfl) (by kernel_rfl) (by kernel_rfl) (fun _ _ _ h => HQ.out _ _ _ _ _ h) (Or.inl ⟨by rfl, ?y5c⟩) (by assumption) ?r5c
  case y5c => (intro w hSw; (try dsimp only at hSw); go_simp; (try with_reducible rfl))
  (try simp only [Act.put, List.setIfInBounds_toArray, List.set_cons_zero, List.set_cons_succ])
  refine wpAnyH_take (i := 6) (v := ?v6c) at5_6 (by kernel_rfl) (by kernel_rfl) (by kernel_rfl) (fun _ _ _ h => HQ.out _ _ _ _ _ h) (Or.inl ⟨by rfl, ?y6c⟩) (by assumption) ?r6c
  case y6c => (intro w hSw; (try dsimp only at hSw); go_simp; (try with_reducible rfl))
  (try simp only [Act.put, List.setIfInBounds_toArray, List.set_cons_zero, List.set_cons_succ])
  refine wpAnyH_take (i := 7) (v := ?v7c) at5_7 (by kernel_rfl) (by kernel_rfl) (by kernel_rfl) (fun _ _ _ h => HQ.out _ _ _ _ _ h) (Or.inl ⟨by rfl, ?y7c⟩) (by assumption) ?r7c
  case y7c => (intro w hSw; (try dsimp only at hSw); go_simp; (try with_reducible rfl))
  (try simp only [Act.put, List.setIfInBounds_toArray, List.set_cons_zero, List.set_cons_succ])
  refine wpAnyH_take (i := 8) (v := ?v8c) at5_8 (by kernel_rfl) (by kernel_rfl) (by kernel_rfl) (fun _ _ _ h => HQ.out _ _ _ _ _ h) (Or.inl ⟨by rfl, ?y8c⟩) (by assumption) ?r8c
  case y8c => (intro w hSw; (try dsimp only at hSw); go_simp; (try with_reducible rfl))
  (try simp only [Act.put, List.setIfInBounds_toArray, List.set_cons_zero, List.set_cons_succ])
  refine wpAnyH_take (i := 9) (v := ?v9c) at5_9 (by kernel_rfl) (by kernel_rfl) (by kernel_rfl) (fun _ _ _ h => HQ.out _ _ _ _ _ h) (Or.inl ⟨by rfl, ?y9c⟩) (by assumption) ?r9c
  case y9c => (intro w hSw; (try dsimp only at hSw); go_simp; (try with_reducible rfl))
  (try simp only [Act.put, List.setIfInBounds_toArray, List.set_cons_zero, List.set_cons_succ])
  refine wpAnyH_take (i := 10) (v := ?v10c) at5_10 (by kernel_rfl) (by kernel_rfl) (by kernel_rfl) (fun _ _ _ h => HQ.out _ _ _ _ _ h) (Or.inl ⟨by rfl, ?y10c⟩) (by assumption) ?r10c
  case y10c => (intro w hSw; (try dsimp only at hSw); go_simp; (try with_reducible rfl))
  (try simp only [Act.put, List.setIfInBounds_toArray, List.set_cons_zero, List.set_cons_succ])
  refine wpAnyH_ready (rs := [11]) (by kernel_rfl) (by simp) ?_
  refine AllReadyH.cons at5_11 (fun K hK => ?_) AllReadyH.nil
  go_simp
  refine HC.out.mono ?_
  rintro e5 w5 ⟨⟨v5, rfl⟩, hS5, hT5⟩
  go_wp2_with fail
  refine hK.out _ _ hS5 (fun hHeld2 => ?_)
  clear hK K hHeld
  have hHeld := hHeld2
  clear hHeld2
  (try simp only [Act.put, List.setIfInBounds_toArray, List.set_cons_zero, List.set_cons_succ])
  refine wpAnyH_done (by kernel_rfl) ?_ _
  exact HK.out _ _ _ _ _ _ _ _ _ _ _ _ _ hT5.out
set_option maxRecDepth 100000 in
set_option maxHeartbeats 8000000 in
theorem g16 {Q : Exit → Act → World → Prop} {w0 w : World} {d : Sd} {a1 k z : Nat} {pg kd wh pp fm rt : Int} {c0 c1 c2 c3 c4 c6 c7 c9 c10 c11 c12 c13 c14 c15 c16 c17 c18 c19 c20 c21 c22 c23 c24 c25 c26 c27 c28 c29 c30 c31 c32 c33 c34 c35 c36 c37 c38 c39 c40 c41 c42 c43 c44 c45 c46 c47 c48 c49 c50 c51 c52 c53 c54 c55 c56 c57 c58 c59 c60 c61 c62 c63 c64 c65 c66 c67 c68 c69 c70 c71 c72 c73 c74 c75 c76 c77 c78 c79 c80 c81 c82 c83 c84 c85 c86 c87 c88 c89 c90 c91 c92 c93 c94 c95 c96 c97 c98 c99 c100 c101 c102 c103 c104 c105 c106 c107 c108 c109 c110 c111 c112 c113 c114 c115 c116 c117 c118 c119 c120 c121 c122 c123 c124 c125 c126 c127 c128 c129 c130 c131 c132 c133 c134 c135 c136 c137 c138 c139 c140 c141 c142 c143 c144 c145 c146 c147 c148 c149 : Value} (hQ : ∀ c (a : Act) (d : Tmp) (v : Value) w, Q (.panic c) (a.put (some d) v) w → Q (.panic c) a w)
    (hx : Two w0 d a1 pg k w) (hk : k + 200 ≤ bnd) (hz : w.heap[z]? = some (.cells #[.int .i64 kd, .int .i64 wh, .int .i64 pp, .int .i64 fm, .int .i64 rt] 27 (0, 0)))
    (hK : ∀ (u89 u90 u91 u92 u93 u94 u95 u96 : Value) (w' : World), Two w0 d a1 pg (k + 100) w' → Q .normal ⟨#[c0, c1, c2, c3, c4, .pointer (some ⟨d.g, 0, none⟩), c6, c7, .pointer (some ⟨z, 0, none⟩), c9, c10, c11, c12, c13, c14, c15, c16, c17, c18, c19, c20, c21, c22, c23, c24, c25, c26, c27, c28, c29, c30, c31, c32, c33, c34, c35, c36, c37, c38, c39, c40, c41, c42, c43, c44, c45, c46, c47, c48, c49, c50, c51, c52, c53, c54, c55, c56, c57, c58, c59, c60, c61, c62, c63, c64, c65, c66, c67, c68, c69, c70, c71, c72, c73, c74, c75, c76, c77, c78, c79, c80, c81, c82, c83, c84, c85, c86, c87, c88, u89, u90, u91, u92, u93, u94, u95, u96, c97, c98, c99, c100, c101, c102, c103, c104, c105, c106, c107, c108, c109, c110, c111, c112, c113, c114, c115, c116, c117, c118, c119, c120, c121, c122, c123, c124, c125, c126, c127, c128, c129, c130, c131, c132, c133, c134, c135, c136, c137, c138, c139, c140, c141, c142, c143, c144, c145, c146, c147, c148, c149], []⟩ w') :
    Code.wp Tryz.prog ((Tryz.f9.body.bind (pickR 16)).getD .skip) Q ⟨#[c0, c1, c2, c3, c4, .pointer (some ⟨d.g, 0, none⟩), c6, c7, .pointer (some ⟨z, 0, none⟩), c9, c10, c11, c12, c13, c14, c15, c16, c17, c18, c19, c20, c21, c22, c23, c24, c25, c26, c27, c28, c29, c30, c31, c32, c33, c34, c35, c36, c37, c38, c39, c40, c41, c42, c43, c44, c45, c46, c47, c48, c49, c50, c51, c52, c53, c54, c55, c56, c57, c58, c59, c60, c61, c62, c63, c64, c65, c66, c67, c68, c69, c70, c71, c72, c73, c74, c75, c76, c77, c78, c79, c80, c81, c82, c83, c84, c85, c86, c87, c88, c89, c90, c91, c92, c93, c94, c95, c96, c97, c98, c99, c100, c101, c102, c103, c104, c105, c106, c107, c108, c109, c110, c111, c112, c113, c114, c115, c116, c117, c118, c119, c120, c121, c122, c123, c124, c125, c126, c127, c128, c129, c130, c131, c132, c133, c134, c135, c136, c137, c138, c139, c140, c141, c142, c143, c144, c145, c146, c147, c148, c149], []⟩ w := by
  have HK : Hid (∀ (u89 u90 u91 u92 u93 u94 u95 u96 : Value) (w' : World), Two w0 d a1 pg (k + 100) w' → Q .normal ⟨#[c0, c1, c2, c3, c4, .pointer (some ⟨d.g, 0, none⟩), c6, c7, .pointer (some ⟨z, 0, none⟩), c9, c10, c11, c12, c13, c14, c15, c16, c17, c18, c19, c20, c21, c22, c23, c24, c25, c26, c27, c28, c29, c30, c31, c32, c33, c34, c35, c36, c37, c38, c39, c40, c41, c42, c43, c44, c45, c46, c47, c48, c49, c50, c51, c52, c53, c54, c55, c56, c57, c58, c59, c60, c61, c62, c63, c64, c65, c66, c67, c68, c69, c70, c71, c72, c73, c74, c75, c76, c77, c78, c79, c80, c81, c82, c83, c84, c85, c86, c87, c88, u89, u90, u91, u92, u93, u94, u95, u96, c97, c98, c99, c100, c101, c102, c103, c104, c105, c106, c107, c108, c109, c110, c111, c112, c113, c114, c115, c116, c117, c118, c119, c120, c121, c122, c123, c124, c125, c126, c127, c128, c129, c130, c131, c132, c133, c134, c135, c136, c137, c138, c139, c140, c141, c142, c143, c144, c145, c146, c147, c148, c149], []⟩ w') := hid hK
  have HQ : Hid (∀ c (a : Act) (d : Tmp) (v : Value) w, Q (.panic c) (a.put (some d) v) w → Q (.panic c) a w) := hid hQ
  have hxd := hx.below (Below.refl _ _).drew
  have hb := P.stay (Below.refl w.heap.size w).drew hz
  have hg := hxd.choose_spec.blk
  have hS0 : w.drew.cell? ⟨d.g, 2, none⟩ = some (.pointer (some ⟨d.a0, 0, none⟩)) ∧ w.drew.cell? ⟨z, 2, none⟩ = some (.int .i64 pp) := ⟨P.cell_of (i := 2) hg rfl, P.cell_of (i := 2) hb rfl⟩
  have HC : Hid (Calls Tryz.prog 23 #[.pointer (some ⟨d.a0, 0, none⟩), .int .i64 pp] w.drew fun e w' => (∃ v, e = .returned v) ∧ (w'.cell? ⟨d.g, 2, none⟩ = some (.pointer (some ⟨d.a0, 0, none⟩)) ∧ w'.cell? ⟨z, 2, none⟩ = some (.int .i64 pp)) ∧ Hid (Two w0 d a1 pg (k + 100) w')) := by
    refine (hxd.unmap hk pp).mono ?_
    rintro e w' ⟨hv, hT, hKp⟩
    have hb := hKp _ _ _ (by decide) (by decide) (by decide) (by decide) hb
    have hg := hT.choose_spec.blk
    exact ⟨hv, ⟨P.cell_of (i := 2) hg rfl, P.cell_of (i := 2) hb rfl⟩, hT⟩
  clear hK hQ hxd hb hg hx hk hz
  conv => arg 2; whnf
  refine wp_region_held_drew (S := fun w' => w'.cell? ⟨d.g, 2, none⟩ = some (.pointer (some ⟨d.a0, 0, none⟩)) ∧ w'.cell? ⟨z, 2, none⟩ = some (.int .i64 pp)) (by kernel_rfl) hS0 (fun hHeld => ?_)
  refine wpAnyH_take (i := 0) (v := ?v0d) at5_0 (by kernel_rfl) (by kernel_rfl) (by kernel_rfl) (fun _ _ _ h => HQ.out _ _ _ _ _ h) (Or.inl ⟨by rfl, ?y0d⟩) (by assumption) ?r0d
  case y0d => (intro w hSw; (try dsimp only at hSw); go_simp; (try with_reducible rfl))
  (try simp only [Act.put, List.setIfInBounds_toArray, List.set_cons_zero, List.set_cons_succ])
  refine wpAnyH_take (i := 1) (v := ?v1d) at5_1 (by kernel_rfl) (by kernel_rfl) (by kernel_rfl) (fun _ _ _ h => HQ.out _ _ _ _ _ h) (Or.inl ⟨by rfl, ?y1d⟩) (by assumption) ?r1d
  case y1d => (intro w hSw; (try dsimp only at hSw); go_simp; (try with_reducible rfl))
  (try simp only [Act.put, List.setIfInBounds_toArray, List.set_cons_zero, List.set_cons_succ])
  refine wpAnyH_take (i := 2) (v := ?v2d) at5_2 (by kernel_rfl) (by kernel_rfl) (by kernel_rfl) (fun _ _ _ h => HQ.out _ _ _ _ _ h) (Or.inl ⟨by rfl, ?y2d⟩) (by assumption) ?r2d
  case y2d => (intro w hSw; (try dsimp only at hSw); go_simp; (try with_reducible rfl))
  (try simp only [Act.put, List.setIfInBounds_toArray, List.set_cons_zero, List.set_cons_succ])
  refine wpAnyH_take (i := 3) (v := ?v3d) at5_3 (by kernel_rfl) (by kernel_rfl) (by kernel_rfl) (fun _ _ _ h => HQ.out _ _ _ _ _ h) (Or.inl ⟨by rfl, ?y3d⟩) (by assumption) ?r3d
  case y3d => (intro w hSw; (try dsimp only at hSw); go_simp; (try with_reducible rfl))
  (try simp only [Act.put, List.setIfInBounds_toArray, List.set_cons_zero, List.set_cons_succ])
  refine wpAnyH_take (i := 4) (v := ?v4d) at5_4 (by kernel_rfl) (by kernel_rfl) (by kernel_rfl) (fun _ _ _ h => HQ.out _ _ _ _ _ h) (Or.inl ⟨by rfl, ?y4d⟩) (by assumption) ?r4d
  case y4d => (intro w hSw; (try dsimp only at hSw); go_simp; (try with_reducible rfl))
  (try simp only [Act.put, List.setIfInBounds_toArray, List.set_cons_zero, List.set_cons_succ])
  refine wpAnyH_take (i := 5) (v := ?v5d) at5_5 (by kernel_rfl) (by kernel_rfl) (by kernel_rfl) (fun _ _ _ h => HQ.out _ _ _ _ _ h) (Or.inl ⟨by rfl, ?y5d⟩) (by assumption) ?r5d
  case y5d => (intro w hSw; (try dsimp only at hSw); go_simp; (try with_reducible rfl))
  (try simp only [Act.put, List.setIfInBounds_toArray, List.set_cons_zero, List.set_cons_succ])
  refine wpAnyH_take (i := 6) (v := ?v6d) at5_6 (by kernel_rfl) (by kernel_rfl) (by kernel_rfl) (fun _ _ _ h => HQ.out _ _ _ _ _ h) (Or.inl ⟨by rfl, ?y6d⟩) (by assumption) ?r6d
  case y6d => (intro w hSw; (try dsimp only at hSw); go_simp; (try with_reducible rfl))
  (try simp only [Act.put, List.setIfInBounds_toArray, List.set_cons_zero, List.set_cons_succ])
  refine wpAnyH_ready (rs := [7]) (by kernel_rfl) (by simp) ?_
  refine AllReadyH.cons at5_7 (fun K hK => ?_) AllReadyH.nil
  go_simp
  refine HC.out.mono ?_
  rintro e5 w5 ⟨⟨v5, rfl⟩, hS5, hT5⟩
  go_wp2_with fail
  refine hK.out _ _ hS5 (fun hHeld2 => ?_)
  clear hK K hHeld
  have hHeld := hHeld2
  clear hHeld2
  (try simp only [Act.put, List.setIfInBounds_toArray, List.set_cons_zero, List.set_cons_succ])
  refine wpAnyH_done (by kernel_rfl) ?_ _
  exact HK.out _ _ _ _ _ _ _ _ _ hT5.out
set_option maxRecDepth 100000 in
set_option maxHeartbeats 8000000 in
theorem g18 {Q : Exit → Act → World → Prop} {w0 w : World} {d : Sd} {a1 k z : Nat} {pg kd wh pp fm rt : Int} {c0 c1 c2 c3 c4 c6 c7 c9 c10 c11 c12 c13 c14 c15 c16 c17 c18 c19 c20 c21 c22 c23 c24 c25 c26 c27 c28 c29 c30 c31 c32 c33 c34 c35 c36 c37 c38 c39 c40 c41 c42 c43 c44 c45 c46 c47 c48 c49 c50 c51 c52 c53 c54 c55 c56 c57 c58 c59 c60 c61 c62 c63 c64 c65 c66 c67 c68 c69 c70 c71 c72 c73 c74 c75 c76 c77 c78 c79 c80 c81 c82 c83 c84 c85 c86 c87 c88 c89 c90 c91 c92 c93 c94 c95 c96 c97 c98 c99 c100 c101 c102 c103 c104 c105 c106 c107 c108 c109 c110 c111 c112 c113 c114 c115 c116 c117 c118 c119 c120 c121 c122 c123 c124 c125 c126 c127 c128 c129 c130 c131 c132 c133 c134 c135 c136 c137 c138 c139 c140 c141 c142 c143 c144 c145 c146 c147 c148 c149 : Value} (hQ : ∀ c (a : Act) (d : Tmp) (v : Value) w, Q (.panic c) (a.put (some d) v) w → Q (.panic c) a w)
    (hx : Two w0 d a1 pg k w) (hk : k + 200 ≤ bnd) (hz : w.heap[z]? = some (.cells #[.int .i64 kd, .int .i64 wh, .int .i64 pp, .int .i64 fm, .int .i64 rt] 27 (0, 0)))
    (hK : ∀ (u99 u100 u101 u102 u103 u104 u105 u106 u107 u108 : Value) (w' : World), Two w0 d a1 pg (k + 100) w' → Q .normal ⟨#[c0, c1, c2, c3, c4, .pointer (some ⟨d.g, 0, none⟩), c6, c7, .pointer (some ⟨z, 0, none⟩), c9, c10, c11, c12, c13, c14, c15, c16, c17, c18, c19, c20, c21, c22, c23, c24, c25, c26, c27, c28, c29, c30, c31, c32, c33, c34, c35, c36, c37, c38, c39, c40, c41, c42, c43, c44, c45, c46, c47, c48, c49, c50, c51, c52, c53, c54, c55, c56, c57, c58, c59, c60, c61, c62, c63, c64, c65, c66, c67, c68, c69, c70, c71, c72, c73, c74, c75, c76, c77, c78, c79, c80, c81, c82, c83, c84, c85, c86, c87, c88, c89, c90, c91, c92, c93, c94, c95, c96, c97, c98, u99, u100, u101, u102, u103, u104, u105, u106, u107, u108, c109, c110, c111, c112, c113, c114, c115, c116, c117, c118, c119, c120, c121, c122, c123, c124, c125, c126, c127, c128, c129, c130, c131, c132, c133, c134, c135, c136, c137, c138, c139, c140, c141, c142, c143, c144, c145, c146, c147, c148, c149], []⟩ w') :
    Code.wp Tryz.prog ((Tryz.f9.body.bind (pickR 18)).getD .skip) Q ⟨#[c0, c1, c2, c3, c4, .pointer (some ⟨d.g, 0, none⟩), c6, c7, .pointer (some ⟨z, 0, none⟩), c9, c10, c11, c12, c13, c14, c15, c16, c17, c18, c19, c20, c21, c22, c23, c24, c25, c26, c27, c28, c29, c30, c31, c32, c33, c34, c35, c36, c37, c38, c39, c40, c41, c42, c43, c44, c45, c46, c47, c48, c49, c50, c51, c52, c53, c54, c55, c56, c57, c58, c59, c60, c61, c62, c63, c64, c65, c66, c67, c68, c69, c70, c71, c72, c73, c74, c75, c76, c77, c78, c79, c80, c81, c82, c83, c84, c85, c86, c87, c88, c89, c90, c91, c92, c93, c94, c95, c96, c97, c98, c99, c100, c101, c102, c103, c104, c105, c106, c107, c108, c109, c110, c111, c112, c113, c114, c115, c116, c117, c118, c119, c120, c121, c122, c123, c124, c125, c126, c127, c128, c129, c130, c131, c132, c133, c134, c135, c136, c137, c138, c139, c140, c141, c142, c143, c144, c145, c146, c147, c148, c149], []⟩ w := by
  have HK : Hid (∀ (u99 u100 u101 u102 u103 u104 u105 u106 u107 u108 : Value) (w' : World), Two w0 d a1 pg (k + 100) w' → Q .normal ⟨#[c0, c1, c2, c3, c4, .pointer (some ⟨d.g, 0, none⟩), c6, c7, .pointer (some ⟨z, 0, none⟩), c9, c10, c11, c12, c13, c14, c15, c16, c17, c18, c19, c20, c21, c22, c23, c24, c25, c26, c27, c28, c29, c30, c31, c32, c33, c34, c35, c36, c37, c38, c39, c40, c41, c42, c43, c44, c45, c46, c47, c48, c49, c50, c51, c52, c53, c54, c55, c56, c57, c58, c59, c60, c61, c62, c63, c64, c65, c66, c67, c68, c69, c70, c71, c72, c73, c74, c75, c76, c77, c78, c79, c80, c81, c82, c83, c84, c85, c86, c87, c88, c89, c90, c91, c92, c93, c94, c95, c96, c97, c98, u99, u100, u101, u102, u103, u104, u105, u106, u107, u108, c109, c110, c111, c112, c113, c114, c115, c116, c117, c118, c119, c120, c121, c122, c123, c124, c125, c126, c127, c128, c129, c130, c131, c132, c133, c134, c135, c136, c137, c138, c139, c140, c141, c142, c143, c144, c145, c146, c147, c148, c149], []⟩ w') := hid hK
  have HQ : Hid (∀ c (a : Act) (d : Tmp) (v : Value) w, Q (.panic c) (a.put (some d) v) w → Q (.panic c) a w) := hid hQ
  have hxd := hx.below (Below.refl _ _).drew
  have hb := P.stay (Below.refl w.heap.size w).drew hz
  have hg := hxd.choose_spec.blk
  have hS0 : w.drew.cell? ⟨d.g, 2, none⟩ = some (.pointer (some ⟨d.a0, 0, none⟩)) ∧ w.drew.cell? ⟨z, 2, none⟩ = some (.int .i64 pp) ∧ w.drew.cell? ⟨z, 4, none⟩ = some (.int .i64 rt) := ⟨P.cell_of (i := 2) hg rfl, P.cell_of (i := 2) hb rfl, P.cell_of (i := 4) hb rfl⟩
  have HC : Hid (Calls Tryz.prog 24 #[.pointer (some ⟨d.a0, 0, none⟩), .int .i64 pp, .int .i64 rt] w.drew fun e w' => (∃ v, e = .returned v) ∧ (w'.cell? ⟨d.g, 2, none⟩ = some (.pointer (some ⟨d.a0, 0, none⟩)) ∧ w'.cell? ⟨z, 2, none⟩ = some (.int .i64 pp) ∧ w'.cell? ⟨z, 4, none⟩ = some (.int .i64 rt)) ∧ Hid (Two w0 d a1 pg (k + 100) w')) := by
    refine (hxd.protect hk pp rt).mono ?_
    rintro e w' ⟨hv, hT, hKp⟩
    have hb := hKp _ _ _ (by decide) (by decide) (by decide) (by decide) hb
    have hg := hT.choose_spec.blk
    exact ⟨hv, ⟨P.cell_of (i := 2) hg rfl, P.cell_of (i := 2) hb rfl, P.cell_of (i := 4) hb rfl⟩, hT⟩
  clear hK hQ hxd hb hg hx hk hz
  conv => arg 2; whnf
  refine wp_region_held_drew (S := fun w' => w'.cell? ⟨d.g, 2, none⟩ = some (.pointer (some ⟨d.a0, 0, none⟩)) ∧ w'.cell? ⟨z, 2, none⟩ = some (.int .i64 pp) ∧ w'.cell? ⟨z, 4, none⟩ = some (.int .i64 rt)) (by kernel_rfl) hS0 (fun hHeld => ?_)
  refine wpAnyH_take (i := 0) (v := ?v0e) at5_0 (by kernel_rfl) (by kernel_rfl) (by kernel_rfl) (fun _ _ _ h => HQ.out _ _ _ _ _ h) (Or.inl ⟨by rfl, ?y0e⟩) (by assumption) ?r0e
  case y0e => (intro w hSw; (try dsimp only at hSw); go_simp; (try with_reducible rfl))
  (try simp only [Act.put, List.setIfInBounds_toArray, List.set_cons_zero, List.set_cons_succ])
  refine wpAnyH_take (i := 1) (v := ?v1e) at5_1 (by kernel_rfl) (by kernel_rfl) (by kernel_rfl) (fun _ _ _ h => HQ.out _ _ _ _ _ h) (Or.inl ⟨by rfl, ?y1e⟩) (by assumption) ?r1e
  case y1e => (intro w hSw; (try dsimp only at hSw); go_simp; (try with_reducible rfl))
  (try simp only [Act.put, List.setIfInBounds_toArray, List.set_cons_zero, List.set_cons_succ])
  refine wpAnyH_take (i := 2) (v := ?v2e) at5_2 (by kernel_rfl) (by kernel_rfl) (by kernel_rfl) (fun _ _ _ h => HQ.out _ _ _ _ _ h) (Or.inl ⟨by rfl, ?y2e⟩) (by assumption) ?r2e
  case y2e => (intro w hSw; (try dsimp only at hSw); go_simp; (try with_reducible rfl))
  (try simp only [Act.put, List.setIfInBounds_toArray, List.set_cons_zero, List.set_cons_succ])
  refine wpAnyH_take (i := 3) (v := ?v3e) at5_3 (by kernel_rfl) (by kernel_rfl) (by kernel_rfl) (fun _ _ _ h => HQ.out _ _ _ _ _ h) (Or.inl ⟨by rfl, ?y3e⟩) (by assumption) ?r3e
  case y3e => (intro w hSw; (try dsimp only at hSw); go_simp; (try with_reducible rfl))
  (try simp only [Act.put, List.setIfInBounds_toArray, List.set_cons_zero, List.set_cons_succ])
  refine wpAnyH_take (i := 4) (v := ?v4e) at5_4 (by kernel_rfl) (by kernel_rfl) (by kernel_rfl) (fun _ _ _ h => HQ.out _ _ _ _ _ h) (Or.inl ⟨by rfl, ?y4e⟩) (by assumption) ?r4e
  case y4e => (intro w hSw; (try dsimp only at hSw); go_simp; (try with_reducible rfl))
  (try simp only [Act.put, List.setIfInBounds_toArray, List.set_cons_zero, List.set_cons_succ])
  refine wpAnyH_take (i := 5) (v := ?v5e) at5_5 (by kernel_rfl) (by kernel_rfl) (by kernel_rfl) (fun _ _ _ h => HQ.out _ _ _ _ _ h) (Or.inl ⟨by rfl, ?y5e⟩) (by assumption) ?r5e
  case y5e => (intro w hSw; (try dsimp only at hSw); go_simp; (try with_reducible rfl))
  (try simp only [Act.put, List.setIfInBounds_toArray, List.set_cons_zero, List.set_cons_succ])
  refine wpAnyH_take (i := 6) (v := ?v6e) at5_6 (by kernel_rfl) (by kernel_rfl) (by kernel_rfl) (fun _ _ _ h => HQ.out _ _ _ _ _ h) (Or.inl ⟨by rfl, ?y6e⟩) (by assumption) ?r6e
  case y6e => (intro w hSw; (try dsimp only at hSw); go_simp; (try with_reducible rfl))
  (try simp only [Act.put, List.setIfInBounds_toArray, List.set_cons_zero, List.set_cons_succ])
  refine wpAnyH_take (i := 7) (v := ?v7e) at5_7 (by kernel_rfl) (by kernel_rfl) (by kernel_rfl) (fun _ _ _ h => HQ.out _ _ _ _ _ h) (Or.inl ⟨by rfl, ?y7e⟩) (by assumption) ?r7e
  case y7e => (intro w hSw; (try dsimp only at hSw); go_simp; (try with_reducible rfl))
  (try simp only [Act.put, List.setIfInBounds_toArray, List.set_cons_zero, List.set_cons_succ])
  refine wpAnyH_take (i := 8) (v := ?v8e) at5_8 (by kernel_rfl) (by kernel_rfl) (by kernel_rfl) (fun _ _ _ h => HQ.out _ _ _ _ _ h) (Or.inl ⟨by rfl, ?y8e⟩) (by assumption) ?r8e
  case y8e => (intro w hSw; (try dsimp only at hSw); go_simp; (try with_reducible rfl))
  (try simp only [Act.put, List.setIfInBounds_toArray, List.set_cons_zero, List.set_cons_succ])
  refine wpAnyH_ready (rs := [9]) (by kernel_rfl) (by simp) ?_
  refine AllReadyH.cons at5_9 (fun K hK => ?_) AllReadyH.nil
  go_simp
  refine HC.out.mono ?_
  rintro e5 w5 ⟨⟨v5, rfl⟩, hS5, hT5⟩
  go_wp2_with fail
  refine hK.out _ _ hS5 (fun hHeld2 => ?_)
  clear hK K hHeld
  have hHeld := hHeld2
  clear hHeld2
  (try simp only [Act.put, List.setIfInBounds_toArray, List.set_cons_zero, List.set_cons_succ])
  refine wpAnyH_done (by kernel_rfl) ?_ _
  exact HK.out _ _ _ _ _ _ _ _ _ _ _ hT5.out
end Go.Proofs.YtpfmmlbakbhklaaGreatDoor
namespace Go.Proofs.YtpfmmlbakbhklaaGreatDoor
open Go.RowKit
set_option maxRecDepth 100000 in
set_option maxHeartbeats 4000000 in
theorem two_walk (w : World) (hT : O.Tab w) (pg : Nat) (hpg : pg < 65536) {q : Option Addr} {n c : Nat} {l : List Cal} (hl : l.length = n) (hs : Script w q l) :
    Calls Tryz.prog 9 #[.slice q n c, .int .u16 pg] w fun e w' => e = .returned (.bool true) ∧ Below w.heap.size w w' := by
  have HT := hid hT
  have HS := hid hs
  have HL := hid hl
  have HBG := hid (begin_at w hT 199 (by omega))
  rw [show (((199 + 1 : Nat)) : Int) = 200 from rfl] at HBG
  obtain ⟨ty, hBare⟩ := bare_at (m := 199) (by omega) (by omega)
  have hb : P.btw (pg : Int) 0 65535 = true := P.btw_yes.2 ⟨by omega, by omega⟩
  obtain ⟨hE, ty', hpv⟩ := two_put hBare (by omega) hb
  have HPV := hid hpv
  have HBA := hid hBare
  have HE := hid hE
  clear hT hs hl hBare hpv hE hb
  go_enter Tryz.func9, Tryz.ntmps9
  go_wp2_with fail
  refine HBG.out.mono ?_
  rintro e w1 ⟨rfl, u, v, a0, b0, a1, b1, x1, hb⟩
  obtain ⟨hx, h1⟩ := hb.t1 HBA.out.two
  have hg := hb.g.blk
  rw [hx] at hg
  have HB := hid hb
  have c2 := P.cell_of (i := 2) hg rfl
  have c3 := P.cell_of (i := 3) hg rfl
  have HM := hid (map_at h1 hb.wo (by decide) (pg : Int) 77 5)
  rw [HE.out] at HM
  have HMM : Hid (∃ s', putT (s2 199) 2 (newF (s1 199) 2) (pg : Int) 0 ⟨true, 5, false, 77⟩ = s') := ⟨_, rfl⟩
  obtain ⟨s', hs'⟩ := HMM.out
  rw [hs'] at HM HPV
  clear HBG hb h1 hg HE hs' HMM
  go_wp2_with fail
  refine HM.out.mono ?_
  rintro e w2 ⟨rfl, hW, hC⟩
  have HTW := hid (Two.start HB.out HBA.out hW hC HPV.out)
  obtain ⟨d, hd⟩ : ∃ d, (⟨w.heap.size, u, v, a0, b0, b1, x1, newF (z0 (199 + 1)) 1, newF (s1 199) 2⟩ : Sd) = d := ⟨_, rfl⟩
  have hdg : w.heap.size = d.g := by rw [← hd]
  rw [hd] at HTW
  have HSX := hid (HS.out.below (HB.out.bel.trans (hC.below HB.out.bel.size (by have := HB.out.lo; omega) (by have := HB.out.lo; omega) (by have := HB.out.lo; omega))))
  rw [hdg]
  clear hd hdg hW hC HM HB HBA HPV c2 c3 hx
  go_wp2
  go_loopw [7] (fun p wr => ∃ (i k : Nat), p = .int .i64 i ∧ i ≤ n ∧ i ≤ 30 ∧ Two w d a1 pg k wr ∧ k ≤ 132 + i * 100) (fun p _ => 30 - (intOf p).toNat)
  case atStart => exact ⟨0, _, rfl, Nat.zero_le _, Nat.zero_le _, HTW.out, by omega⟩
  case round =>
    obtain ⟨i, k, rfl, hin, hi, hf, hk⟩ := hrel
    have HFr := hid hf
    have HKr := hid hk
    clear HSX HTW
    by_cases hlt : i < n
    · by_cases h40 : i < 30
      · have hlt1 : (i : Int) < (n : Int) := by omega
        have hlt2 : (i : Int) < 30 := by omega
        have hwr : wrap64 ((i : Int) + 1) = ((i + 1 : Nat) : Int) := by unfold wrap64; omega
        have HKB : Hid (k + 200 ≤ bnd) := by show _ ≤ _; unfold bnd; omega
        have HIL : Hid (i + 1 ≤ n ∧ i + 1 ≤ 30) := ⟨hlt, h40⟩
        have HMF : Hid (30 - (intOf (.int .i64 ((i : Int) + 1))).toNat < 30 - (intOf (.int .i64 (i : Int))).toNat) := by
          show _ < _
          simp [intOf]
          omega
        obtain ⟨b, off, rfl, hbl, hcl⟩ := (HS.out.below hf.choose_spec.bel) (by intro e; rw [e] at HL; have := HL.out; simp at this; omega)
        obtain ⟨k0, k1, k2, k3, k4⟩ := hcl i (by have := HL.out; omega)
        generalize l.getD i noCal = oc at *
        obtain ⟨kd, wh, pp, fm, rt⟩ := oc
        simp only at k0 k1 k2 k3 k4
        have hb0 := below_alloc wr (.cells #[.int .i64 kd, .int .i64 wh, .int .i64 pp, .int .i64 fm, .int .i64 rt] 27)
        have hbo := heap_alloc_new wr (.cells #[.int .i64 kd, .int .i64 wh, .int .i64 pp, .int .i64 fm, .int .i64 rt] 27)
        have HTZ := hid (HFr.out.below hb0)
        have HZ := hid hbo
        have b0' := P.cell_of (i := 0) hbo rfl
        clear hcl hf hb0 hbo hin hi hk hlt h40
        go_upto_block 2 with fail
        obtain ⟨z, hz⟩ : ∃ z, wr.heap.size = z := ⟨_, rfl⟩
        rw [hz] at HZ ⊢
        generalize wr.alloc (.cells #[.int .i64 kd, .int .i64 wh, .int .i64 pp, .int .i64 fm, .int .i64 rt] 27) = W0 at *
        clear hz k0 k1 k2 k3 k4 hbl HFr b0'
        go_cut [] from 43 to 148 (fun wx => Two w d a1 pg (k + 100) wx)
        case first =>
          by_cases hk0 : kd = 0
          · subst hk0
            go_wp2_with fail
            refine g12 (fun _ _ _ _ _ h => h) HTZ.out HKB.out HZ.out ?_
            intro v0 v1 v2 v3 v4 v5 v6 v7 v8 v9 v10 v11 w5 h5
            have H5 := hid h5
            clear h5
            go_wp2
            go_meet
            case rel => exact H5.out
          have hq0 : (kd == 0) = false := by simpa using hk0
          by_cases hk1 : kd = 1
          · subst hk1
            go_wp2_with fail
            refine g14 (fun _ _ _ _ _ h => h) HTZ.out HKB.out HZ.out ?_
            intro v0 v1 v2 v3 v4 v5 v6 v7 v8 v9 v10 v11 w5 h5
            have H5 := hid h5
            clear h5
            go_wp2
            go_meet
            case rel => exact H5.out
          have hq1 : (kd == 1) = false := by simpa using hk1
          by_cases hk2 : kd = 2
          · subst hk2
            go_wp2_with fail
            refine g16 (fun _ _ _ _ _ h => h) HTZ.out HKB.out HZ.out ?_
            intro v0 v1 v2 v3 v4 v5 v6 v7 w5 h5
            have H5 := hid h5
            clear h5
            go_wp2
            go_meet
            case rel => exact H5.out
          have hq2 : (kd == 2) = false := by simpa using hk2
          by_cases hk3 : kd = 3
          · subst hk3
            go_wp2_with fail
            refine g18 (fun _ _ _ _ _ h => h) HTZ.out HKB.out HZ.out ?_
            intro v0 v1 v2 v3 v4 v5 v6 v7 v8 v9 w5 h5
            have H5 := hid h5
            clear h5
            go_wp2
            go_meet
            case rel => exact H5.out
          have hq3 : (kd == 3) = false := by simpa using hk3
          by_cases hk4 : kd = 4
          · subst hk4
            have g2 := P.cell_of (i := 2) HTZ.out.choose_spec.blk rfl
            have HC := hid HTZ.out.drop
            go_wp2_with fail
            refine HC.out.mono ?_
            rintro e w5 ⟨⟨v5, rfl⟩, h5, -⟩
            have H5 := hid h5
            clear h5 g2
            go_wp2
            go_meet
            case rel => exact H5.out
          · have hq4 : (kd == 4) = false := by simpa using hk4
            go_wp2
            go_meet
            case rel => exact HTZ.out.mono (by omega)
        case rest =>
          have HTX := hid hcut
          have hKX : k + 100 ≤ 132 + (i + 1) * 100 := by have := HKr.out; omega
          have HKX := hid hKX
          have g3 := P.cell_of (i := 3) hcut.choose_spec.blk rfl
          have HQ := hid hcut.query
          clear hcut hKX HTZ HZ HKB HKr
          go_wp2_with fail
          refine HQ.out.mono ?_
          rintro e w6 ⟨rfl, h6⟩
          have H6 := hid h6
          have g3' := P.cell_of (i := 3) h6.choose_spec.blk rfl
          have HA := hid h6.all
          clear h6 HTX HQ g3
          go_wp2_with fail
          refine HA.out.mono ?_
          rintro e w7 ⟨⟨g, cc, rfl⟩, h7⟩
          have H7 := hid h7
          clear h7 H6 HA g3'
          go_wp2
          exact ⟨⟨i + 1, _, by rfl, HIL.out.1, HIL.out.2, H7.out, HKX.out⟩, HMF.out⟩
      · have hlt1 : (i : Int) < (n : Int) := by omega
        have hlt2 : ¬ (i : Int) < 30 := by omega
        clear hf
        obtain ⟨s0, h0⟩ := HFr.out
        have H0 := hid h0
        clear h0
        go_wp2_with fail
        refine (known_yes _ H0.out.wo.tab).mono ?_
        rintro e w8 ⟨rfl, hB⟩
        have HB8 := hid (H0.out.bel.trans (hB.mono H0.out.bel.size))
        clear hB
        go_wp2
        go_ret
        exact ⟨rfl, HB8.out⟩
    · have hlt1 : ¬ (i : Int) < (n : Int) := by omega
      clear hf
      obtain ⟨s0, h0⟩ := HFr.out
      have H0 := hid h0
      clear h0
      go_wp2_with fail
      refine (known_yes _ H0.out.wo.tab).mono ?_
      rintro e w8 ⟨rfl, hB⟩
      have HB8 := hid (H0.out.bel.trans (hB.mono H0.out.bel.size))
      clear hB
      go_wp2
      go_ret
      exact ⟨rfl, HB8.out⟩
end Go.Proofs.YtpfmmlbakbhklaaGreatDoor
