/- Two guests whose tables are live, and what each page of theirs is mapped to: what each call tells, and what the pages are behind it. Of no law; no conditions but what is written. -/
import Derived.Test.YtpfmmlbakbhklaaGreatDoorBX
namespace Go.Proofs.YtpfmmlbakbhklaaGreatDoor
open Go.RowKit
/-- What Query tells of a page. -/
def qa (A : Int → Int × Int) (pg : Int) : Int := if P.btw pg 0 65535 = true then (A pg).1 else 0
def qb (A : Int → Int × Int) (pg : Int) : Int := if P.btw pg 0 65535 = true then (A pg).2 else 0
def qc (A : Int → Int × Int) (pg : Int) : Int := if P.btw pg 0 65535 = true then (if (A pg).2 = 0 then 4 else 0) else 2
/-- One page is mapped to something else. -/
def put1 (A : Int → Int × Int) (pg : Int) (q : Int × Int) : Int → Int × Int := fun p => if p = pg then q else A p
structure Lq (w0 : World) (d : Sd) (a1 : Nat) (k N : Nat) (A B : Int → Int × Int) (w : World) (s : Sm) (ty : Int → Option Kd) : Prop where
  blk : w.heap[d.g]? = some (.cells #[.pointer (some ⟨d.u.mp, 0, none⟩), .pointer (some ⟨d.u.pp, 0, none⟩), .pointer (some ⟨d.a0, 0, none⟩), .pointer (some ⟨a1, 0, none⟩), .pointer (some ⟨d.v.mp, 0, none⟩), .pointer (some ⟨d.v.pp, 0, none⟩), .pointer (some ⟨d.b0, 0, none⟩), .pointer (some ⟨d.b1, 0, none⟩)] 39 (0, 0))
  wo : Wo d.u w s k
  t0 : IsT d.u w d.a0 1 1 d.r0
  t1 : IsT d.u w a1 1 2 d.r1
  lo : w0.heap.size < d.u.mp ∧ w0.heap.size < d.u.wb ∧ w0.heap.size < d.u.pp ∧ w0.heap.size < d.u.pb
  bel : Below w0.heap.size w0 w
  inv : Inv s ty (-1)
  r0 : ty d.r0 = some ⟨1, 3, 0⟩
  r1 : ty d.r1 = some ⟨2, 3, 0⟩
  vA : ∀ pg, P.btw pg 0 65535 = true → Vw s ty 1 pg (A pg)
  vB : ∀ pg, P.btw pg 0 65535 = true → Vw s ty 2 pg (B pg)
  fr : N ≤ O.cK s.ds 0
def Lx (w0 : World) (d : Sd) (a1 : Nat) (k N : Nat) (A B : Int → Int × Int) (w : World) : Prop := ∃ s ty, Lq w0 d a1 k N A B w s ty
section
variable {w0 w w' : World} {d : Sd} {a1 k k' N N' : Nat} {A B A' B' : Int → Int × Int} {s s' : Sm} {ty ty' : Int → Option Kd}
theorem Lq.below (h : Lq w0 d a1 k N A B w s ty) (b : Below w.heap.size w w') : Lq w0 d a1 k N A B w' s ty :=
  ⟨P.stay b h.blk, h.wo.below b, h.t0.below b, h.t1.below b, h.lo, h.bel.trans (b.mono h.bel.size), h.inv, h.r0, h.r1, h.vA, h.vB, h.fr⟩
theorem Lx.below (h : Lx w0 d a1 k N A B w) (b : Below w.heap.size w w') : Lx w0 d a1 k N A B w' := h.elim fun s h => h.elim fun ty h => ⟨s, ty, h.below b⟩
theorem Lq.mono (h : Lq w0 d a1 k N A B w s ty) (hk : k ≤ k') (hN : N' ≤ N) (eA : ∀ pg, P.btw pg 0 65535 = true → A' pg = A pg) (eB : ∀ pg, P.btw pg 0 65535 = true → B' pg = B pg) : Lq w0 d a1 k' N' A' B' w s ty :=
  ⟨h.blk, h.wo.mono hk, h.t0, h.t1, h.lo, h.bel, h.inv, h.r0, h.r1, fun pg hb => by rw [eA pg hb]; exact h.vA pg hb, fun pg hb => by rw [eB pg hb]; exact h.vB pg hb, Nat.le_trans hN h.fr⟩
theorem Lx.mono (h : Lx w0 d a1 k N A B w) (hk : k ≤ k') (hN : N' ≤ N) (eA : ∀ pg, P.btw pg 0 65535 = true → A' pg = A pg) (eB : ∀ pg, P.btw pg 0 65535 = true → B' pg = B pg) : Lx w0 d a1 k' N' A' B' w :=
  h.elim fun s h => h.elim fun ty h => ⟨s, ty, h.mono hk hN eA eB⟩
theorem Lq.turn (h : Lq w0 d a1 k N A B w s ty) (hC : Ch d.u w w') (hW : Wo d.u w' s' k') {o : Int} (hi : Inv s' ty' (-1)) (hst : Stp o s ty s' ty') (eA : ∀ pg, P.btw pg 0 65535 = true → Vw s' ty' 1 pg (A' pg)) (eB : ∀ pg, P.btw pg 0 65535 = true → Vw s' ty' 2 pg (B' pg)) (hN : N' ≤ O.cK s'.ds 0) : Lq w0 d a1 k' N' A' B' w' s' ty' :=
  ⟨h.wo.keep hC h.blk (by decide) (by decide) (by decide), hW, h.t0.ch h.wo hC, h.t1.ch h.wo hC, h.lo, h.bel.trans (hC.below h.bel.size (by have := h.lo; omega) (by have := h.lo; omega) (by have := h.lo; omega)), hi, hst.root _ _ h.r0 rfl, hst.root _ _ h.r1 rfl, eA, eB, hN⟩
theorem q_of (hi : Inv s ty (-1)) {o root : Int} (hr : ty root = some ⟨o, 3, 0⟩) (hv : ∀ pg, P.btw pg 0 65535 = true → Vw s ty o pg (A pg)) (pg : Int) : qF s root pg = qa A pg ∧ qR s root pg = qb A pg ∧ qE s root pg = qc A pg := by
  unfold qa qb qc
  cases hb : P.btw pg 0 65535
  · have e : qE s root pg = 2 := by unfold qE; rw [hb, if_pos rfl]
    refine ⟨?_, ?_, by rw [e, if_neg (fun e => Bool.noConfusion e)]⟩
    · unfold qF; rw [e, if_neg (by decide), if_neg (fun e => Bool.noConfusion e)]
    · unfold qR; rw [e, if_neg (by decide), if_neg (fun e => Bool.noConfusion e)]
  · obtain ⟨a, b, c, -⟩ := hi.query hr hb (hv pg hb)
    rw [if_pos rfl, if_pos rfl, if_pos rfl]
    exact ⟨a, b, c⟩
theorem Lx.query0 (h : Lx w0 d a1 k N A B w) (pg : Int) : Calls Tryz.prog 13 #[.pointer (some ⟨d.a0, 0, none⟩), .int .i64 pg] w fun e w' => e = .returned (.tuple #[.int .i64 (qa A pg), .int .i64 (qb A pg), .int .i64 (qc A pg)]) ∧ Lx w0 d a1 k N A B w' := by
  obtain ⟨s, ty, h⟩ := h
  refine (query_at h.t0 h.wo pg).mono ?_
  rintro e w' ⟨rfl, hB⟩
  obtain ⟨a, b, c⟩ := q_of h.inv h.r0 h.vA pg
  rw [a, b, c]
  exact ⟨rfl, s, ty, h.below hB⟩
theorem Lx.query1 (h : Lx w0 d a1 k N A B w) (pg : Int) : Calls Tryz.prog 13 #[.pointer (some ⟨a1, 0, none⟩), .int .i64 pg] w fun e w' => e = .returned (.tuple #[.int .i64 (qa B pg), .int .i64 (qb B pg), .int .i64 (qc B pg)]) ∧ Lx w0 d a1 k N A B w' := by
  obtain ⟨s, ty, h⟩ := h
  refine (query_at h.t1 h.wo pg).mono ?_
  rintro e w' ⟨rfl, hB⟩
  obtain ⟨a, b, c⟩ := q_of h.inv h.r1 h.vB pg
  rw [a, b, c]
  exact ⟨rfl, s, ty, h.below hB⟩
theorem qE_of (hi : Inv s ty (-1)) {o root : Int} (hr : ty root = some ⟨o, 3, 0⟩) {pg : Int} (hb : P.btw pg 0 65535 = true) {q : Int × Int} (hv : Vw s ty o pg q) (hq : q.2 ≠ 0) : qE s root pg = 0 := by
  rw [(hi.query hr hb hv).2.2.1, if_neg hq]
theorem put1_vw {o o' : Int} (pg : Int) (q : Int × Int) (h : ∀ o' pg' q', P.btw pg' 0 65535 = true → Vw s ty o' pg' q' → Vw s' ty' o' pg' (if o' = o ∧ pg' = pg then q else q')) (hv : ∀ pg, P.btw pg 0 65535 = true → Vw s ty o' pg (A pg)) :
    (o' = o → ∀ pg', P.btw pg' 0 65535 = true → Vw s' ty' o' pg' (put1 A pg q pg')) ∧ (o' ≠ o → ∀ pg', P.btw pg' 0 65535 = true → Vw s' ty' o' pg' (A pg')) := by
  constructor
  · intro e pg' hb
    have := h o' pg' _ hb (hv pg' hb)
    unfold put1
    by_cases hp : pg' = pg
    · rw [if_pos ⟨e, hp⟩] at this
      rw [if_pos hp]
      exact this
    · rw [if_neg (fun hh => hp hh.2)] at this
      rw [if_neg hp]
      exact this
  · intro e pg' hb
    have := h o' pg' _ hb (hv pg' hb)
    rw [if_neg (fun hh => e hh.1)] at this
    exact this
/-- A mapped page gets other rights. -/
theorem Lx.protect0 (h : Lx w0 d a1 k (N + 1) A B w) (hk : k + 200 ≤ bnd) {pg r : Int} (hb : P.btw pg 0 65535 = true) (h17 : P.btw r 1 7 = true) (hq : (A pg).2 ≠ 0) :
    Calls Tryz.prog 24 #[.pointer (some ⟨d.a0, 0, none⟩), .int .i64 pg, .int .i64 r] w fun e w' => e = .returned (.int .i64 0) ∧ Lx w0 d a1 (k + 100) N (put1 A pg ((A pg).1, r)) B w' := by
  obtain ⟨s, ty, h⟩ := h
  have hf := h.fr
  obtain ⟨e0, ty', b1, b2, b3, b4⟩ := h.inv.protect h.r0 hb (by decide) h17 (qE_of h.inv h.r0 hb (h.vA pg hb) hq) (fun _ => by omega)
  have b5 : ∀ o' pg' q', P.btw pg' 0 65535 = true → Vw s ty o' pg' q' → Vw (prS s 1 d.r0 pg r) ty' o' pg' (if o' = 1 ∧ pg' = pg then ((A pg).1, r) else q') := fun o' pg' q' hb' hv => by
    have := b4 o' pg' q' hb' hv
    by_cases hc : o' = 1 ∧ pg' = pg
    · rw [if_pos hc] at this ⊢
      obtain ⟨rfl, rfl⟩ := hc
      rw [h.inv.vw_uniq hv (h.vA _ hb)] at this
      exact this
    · rw [if_neg hc] at this ⊢
      exact this
  refine (protect_at h.t0 h.wo hk pg r).mono ?_
  rintro e w' ⟨rfl, hW, hC⟩
  rw [e0]
  exact ⟨rfl, _, ty', h.turn hC hW b1 b2 ((put1_vw pg _ b5 h.vA).1 rfl) ((put1_vw pg _ b5 h.vB).2 (by decide)) (by omega)⟩
theorem Lx.protect1 (h : Lx w0 d a1 k (N + 1) A B w) (hk : k + 200 ≤ bnd) {pg r : Int} (hb : P.btw pg 0 65535 = true) (h17 : P.btw r 1 7 = true) (hq : (B pg).2 ≠ 0) :
    Calls Tryz.prog 24 #[.pointer (some ⟨a1, 0, none⟩), .int .i64 pg, .int .i64 r] w fun e w' => e = .returned (.int .i64 0) ∧ Lx w0 d a1 (k + 100) N A (put1 B pg ((B pg).1, r)) w' := by
  obtain ⟨s, ty, h⟩ := h
  have hf := h.fr
  obtain ⟨e0, ty', b1, b2, b3, b4⟩ := h.inv.protect h.r1 hb (by decide) h17 (qE_of h.inv h.r1 hb (h.vB pg hb) hq) (fun _ => by omega)
  have b5 : ∀ o' pg' q', P.btw pg' 0 65535 = true → Vw s ty o' pg' q' → Vw (prS s 2 d.r1 pg r) ty' o' pg' (if o' = 2 ∧ pg' = pg then ((B pg).1, r) else q') := fun o' pg' q' hb' hv => by
    have := b4 o' pg' q' hb' hv
    by_cases hc : o' = 2 ∧ pg' = pg
    · rw [if_pos hc] at this ⊢
      obtain ⟨rfl, rfl⟩ := hc
      rw [h.inv.vw_uniq hv (h.vB _ hb)] at this
      exact this
    · rw [if_neg hc] at this ⊢
      exact this
  refine (protect_at h.t1 h.wo hk pg r).mono ?_
  rintro e w' ⟨rfl, hW, hC⟩
  rw [e0]
  exact ⟨rfl, _, ty', h.turn hC hW b1 b2 ((put1_vw pg _ b5 h.vA).2 (by decide)) ((put1_vw pg _ b5 h.vB).1 rfl) (by omega)⟩
/-- A mapped page is taken away. -/
theorem Lx.unmap0 (h : Lx w0 d a1 k (N + 1) A B w) (hk : k + 200 ≤ bnd) {pg : Int} (hb : P.btw pg 0 65535 = true) (hq : (A pg).2 ≠ 0) :
    Calls Tryz.prog 23 #[.pointer (some ⟨d.a0, 0, none⟩), .int .i64 pg] w fun e w' => e = .returned (.tuple #[.int .i64 (A pg).1, .int .i64 0]) ∧ Lx w0 d a1 (k + 100) N (put1 A pg (0, 0)) B w' := by
  obtain ⟨s, ty, h⟩ := h
  have hf := h.fr
  obtain ⟨e0, ty', b1, b2, b3, b3', b4⟩ := h.inv.unmap h.r0 hb (by decide) (qE_of h.inv h.r0 hb (h.vA pg hb) hq) (fun _ => by omega)
  refine (unmap_at h.t0 h.wo hk pg).mono ?_
  rintro e w' ⟨rfl, hW, hC⟩
  rw [e0, b3' _ (h.vA pg hb)]
  exact ⟨rfl, _, ty', h.turn hC hW b1 b2 ((put1_vw pg _ b4 h.vA).1 rfl) ((put1_vw pg _ b4 h.vB).2 (by decide)) (by split at b3 <;> omega)⟩
theorem Lx.unmap1 (h : Lx w0 d a1 k (N + 1) A B w) (hk : k + 200 ≤ bnd) {pg : Int} (hb : P.btw pg 0 65535 = true) (hq : (B pg).2 ≠ 0) :
    Calls Tryz.prog 23 #[.pointer (some ⟨a1, 0, none⟩), .int .i64 pg] w fun e w' => e = .returned (.tuple #[.int .i64 (B pg).1, .int .i64 0]) ∧ Lx w0 d a1 (k + 100) N A (put1 B pg (0, 0)) w' := by
  obtain ⟨s, ty, h⟩ := h
  have hf := h.fr
  obtain ⟨e0, ty', b1, b2, b3, b3', b4⟩ := h.inv.unmap h.r1 hb (by decide) (qE_of h.inv h.r1 hb (h.vB pg hb) hq) (fun _ => by omega)
  refine (unmap_at h.t1 h.wo hk pg).mono ?_
  rintro e w' ⟨rfl, hW, hC⟩
  rw [e0, b3' _ (h.vB pg hb)]
  exact ⟨rfl, _, ty', h.turn hC hW b1 b2 ((put1_vw pg _ b4 h.vA).2 (by decide)) ((put1_vw pg _ b4 h.vB).1 rfl) (by split at b3 <;> omega)⟩
/-- Sixteen pages at once. -/
def blk16 (p f r : Int) : Int → Int × Int := fun pg => if pg / 16 = p / 16 then (f + pg % 16, r) else (0, 0)
/-- The first i of sixteen, one by one. -/
def upto (p f r : Int) (i : Nat) : Int → Int × Int := fun pg => if p ≤ pg ∧ pg < p + i then (f + (pg - p), r) else (0, 0)
def nil2 : Int → Int × Int := fun _ => (0, 0)
/-- The first guest's tables are a root alone: sixteen pages may be mapped. -/
theorem Lq.large0 (h : Lq w0 d a1 k (N + 2) nil2 B w s ty) (hk : k + 200 ≤ bnd) (hz : ∀ i, 0 ≤ i → i < 16 → pl s.xs d.r0 i = P.zd) {p f r : Int} (hb : P.btw p 0 65535 = true) (hf : P.btw f 0 4095 = true) (h17 : P.btw r 1 7 = true) (hp : p % 16 = 0) (hf16 : f % 16 = 0) :
    Calls Tryz.prog 22 #[.pointer (some ⟨d.a0, 0, none⟩), .int .i64 p, .int .i64 f, .int .i64 r] w fun e w' => e = .returned (.int .i64 0) ∧ Lx w0 d a1 (k + 100) N (blk16 p f r) B w' := by
  have hfr := h.fr
  have hd := dg_in p 3
  have hlow := h.inv.low h.r0
  have hen : en s.xs p d.r0 3 = P.zd := by rw [en_pl hb (by omega) hlow, hz _ hd.1 hd.2]
  have hE : endF s.xs p 1 3 d.r0 = (d.r0, 3) := by
    unfold endF
    rw [if_neg]
    rw [show en s.xs p d.r0 (2 + 1) = P.zd from hen, tb_zd]
    simp
  have e0 : putE s d.r0 p 1 ⟨true, r, true, f⟩ = 0 := by
    unfold putE
    rw [hb, if_neg (fun e => Bool.noConfusion e), hf, if_neg (fun e => Bool.noConfusion e), h17, if_neg (fun e => Bool.noConfusion e), if_neg, hE, show (en s.xs p (d.r0, 3).1 (d.r0, 3).2).p = false by rw [show en s.xs p (d.r0, 3).1 (d.r0, 3).2 = P.zd from hen]; rfl, if_neg (fun e => Bool.noConfusion e), if_neg]
    · simp only
      omega
    · rw [sp_1, hp]
      simp [hf16]
  obtain ⟨ty', b1, b2, b3, -, -, b4⟩ := h.inv.put h.r0 (by decide) (.inr ⟨rfl, rfl⟩) e0
  rw [hE] at b3
  refine (large_at h.t0 h.wo hk p f r).mono ?_
  rintro e w' ⟨rfl, hW, hC⟩
  rw [e0]
  refine ⟨rfl, _, ty', h.turn hC hW b1 b2 (fun pg hb' => ?_) (fun pg hb' => ?_) (by simp only at b3; omega)⟩
  · have := b4 1 pg _ hb' (h.vA pg hb')
    unfold blk16
    by_cases hc : pg / 16 = p / 16
    · rw [if_pos (show Mt 1 p 1 1 pg from ⟨rfl, by rw [sp_1]; exact hc⟩)] at this
      rw [if_pos hc]
      unfold vE at this
      rw [if_pos rfl, sp_1] at this
      exact this
    · rw [if_neg (fun hh : Mt 1 p 1 1 pg => hc (by have := hh.2; rw [sp_1] at this; exact this))] at this
      rw [if_neg hc]
      exact this
  · have := b4 2 pg _ hb' (h.vB pg hb')
    rw [if_neg (fun hh : Mt 1 p 1 2 pg => absurd hh.1 (by decide))] at this
    exact this
/-- The second guest maps one of sixteen. -/
def Lm (w0 : World) (d : Sd) (a1 : Nat) (k : Nat) (A : Int → Int × Int) (p f r : Int) (i : Nat) (w : World) : Prop :=
  ∃ s ty, Lq w0 d a1 k 33 A (upto p f r i) w s ty ∧ ((i = 0 ∧ 36 ≤ O.cK s.ds 0) ∨ ∃ g, ty g = some ⟨2, 0, p / 16⟩)
theorem Lm.map1 {p f r : Int} {i : Nat} (h : Lm w0 d a1 k A p f r i w) (hk : k + 200 ≤ bnd) (hi : i < 16) (hb : P.btw p 0 65535 = true) (hf : P.btw f 0 4080 = true) (h17 : P.btw r 1 7 = true) (hp : p % 16 = 0) :
    Calls Tryz.prog 21 #[.pointer (some ⟨a1, 0, none⟩), .int .i64 (p + i), .int .i64 (f + i), .int .i64 r] w fun e w' => e = .returned (.int .i64 0) ∧ Lm w0 d a1 (k + 100) A p f r (i + 1) w' := by
  obtain ⟨s, ty, h, hor⟩ := h
  have hpb := P.btw_yes.1 hb
  have hfb := P.btw_yes.1 hf
  have hb' : P.btw (p + i) 0 65535 = true := P.btw_yes.2 ⟨by omega, by omega⟩
  have hf' : P.btw (f + i) 0 4095 = true := P.btw_yes.2 ⟨by omega, by omega⟩
  have hdiv : (p + i) / 16 = p / 16 := by omega
  have hfr := h.fr
  have h3 := (h.inv.ed h.r1 hb').2
  have hv := h.vB _ hb'
  have hu : upto p f r i (p + i) = (0, 0) := by unfold upto; rw [if_neg (by omega)]
  rw [hu] at hv
  have e0 := h.inv.put_ok h.r1 hb' hf' h17 hv rfl (by omega)
  obtain ⟨ty', b1, b2, b3, -, ⟨g', b5⟩, b4⟩ := h.inv.put h.r1 (by decide) (.inl ⟨rfl, rfl⟩) e0
  have hfree : 33 ≤ O.cK (putT s 2 d.r1 (p + i) 0 ⟨true, r, false, f + i⟩).ds 0 := by
    rw [show (endF s.xs (p + i) 0 3 d.r1).2 = (fd s d.r1 (p + i)).2 from rfl] at b3
    rcases hor with ⟨-, h36⟩ | ⟨g, hg⟩
    · omega
    · have hon : On ty 2 (p + i) g 0 := by unfold On; rw [hg, wi_0, hdiv]
      have hd := dg_in (p + i) 0
      have := h.inv.fd_of h.r1 hb' (⟨hon, h.inv.leaf0 hon _ hd.1 hd.2⟩ : Ed s ty 2 (p + i) g 0)
      rw [this] at b3
      simp only at b3
      omega
  refine (map_at h.t1 h.wo hk (p + i) (f + i) r).mono ?_
  rintro e w' ⟨rfl, hW, hC⟩
  rw [e0]
  refine ⟨rfl, _, ty', h.turn hC hW b1 b2 (fun pg hbp => ?_) (fun pg hbp => ?_) hfree, .inr ⟨g', ?_⟩⟩
  · have := b4 1 pg _ hbp (h.vA pg hbp)
    rw [if_neg (fun hh : Mt 2 (p + i) 0 1 pg => absurd hh.1 (by decide))] at this
    exact this
  · have := b4 2 pg _ hbp (h.vB pg hbp)
    by_cases hc : pg = p + i
    · rw [if_pos (show Mt 2 (p + i) 0 2 pg from ⟨rfl, by rw [hc]⟩)] at this
      unfold vE at this
      rw [if_pos rfl, sp_0] at this
      unfold upto
      rw [if_pos (by omega)]
      rw [show f + (pg - p) = f + i + pg % 1 by omega]
      exact this
    · rw [if_neg (fun hh : Mt 2 (p + i) 0 2 pg => hc (by have := hh.2; rw [sp_0] at this; omega))] at this
      unfold upto at this ⊢
      by_cases hin : p ≤ pg ∧ pg < p + i
      · rw [if_pos hin] at this
        rw [if_pos (by omega)]
        exact this
      · rw [if_neg hin] at this
        rw [if_neg (by omega)]
        exact this
  · unfold On at b5
    rw [wi_0, hdiv] at b5
    exact b5
end
/-- A new world, both guests' tables a root alone. -/
theorem Lq.start {w w1 : World} {m : Nat} {u v : Si} {a0 b0 a1 b1 : Nat} {x1 : Option Addr} {ty : Int → Option Kd} (hb : Bgn w m w1 u v a0 b0 a1 b1 x1) (hB : Bare m ty) :
    Lq w ⟨w.heap.size, u, v, a0, b0, b1, x1, newF (z0 (m + 1)) 1, newF (s1 m) 2⟩ a1 32 (m - 1) nil2 nil2 w1 (s2 m) ty := by
  obtain ⟨hx, h1⟩ := hb.t1 hB.two
  have hg := hb.g.blk
  rw [hx] at hg
  exact ⟨hg, hb.wo, hb.t0, h1, hb.lo.1, hb.bel, hB.inv, hB.r0, hB.r1, fun pg h => hB.no 1 pg (.inl rfl) h, fun pg h => hB.no 2 pg (.inr rfl) h, by have := hB.free; omega⟩
theorem Lm.first {w0 w : World} {d : Sd} {a1 k : Nat} {A : Int → Int × Int} (h : Lx w0 d a1 k 36 A nil2 w) (p f r : Int) : Lm w0 d a1 k A p f r 0 w := by
  obtain ⟨s, ty, h⟩ := h
  exact ⟨s, ty, h.mono (Nat.le_refl _) (by omega) (fun _ _ => rfl) (fun pg _ => by unfold upto nil2; rw [if_neg (by omega)]), .inl ⟨rfl, h.fr⟩⟩
theorem Lm.last {w0 w : World} {d : Sd} {a1 k : Nat} {A : Int → Int × Int} {p f r : Int} (h : Lm w0 d a1 k A p f r 16 w) (hp : p % 16 = 0) : Lx w0 d a1 k 33 A (blk16 p f r) w := by
  obtain ⟨s, ty, h, -⟩ := h
  refine ⟨s, ty, h.mono (Nat.le_refl _) (Nat.le_refl _) (fun _ _ => rfl) fun pg _ => ?_⟩
  unfold blk16 upto
  by_cases hc : pg / 16 = p / 16
  · rw [if_pos hc, if_pos (by omega), show f + (pg - p) = f + pg % 16 by omega]
  · rw [if_neg hc, if_neg (by omega)]
theorem Lm.mono {w0 w : World} {d : Sd} {a1 k k' : Nat} {A : Int → Int × Int} {p f r : Int} {i : Nat} (h : Lm w0 d a1 k A p f r i w) (hk : k ≤ k') : Lm w0 d a1 k' A p f r i w := by
  obtain ⟨s, ty, h, o⟩ := h
  exact ⟨s, ty, h.mono hk (Nat.le_refl _) (fun _ _ => rfl) (fun _ _ => rfl), o⟩
end Go.Proofs.YtpfmmlbakbhklaaGreatDoor
