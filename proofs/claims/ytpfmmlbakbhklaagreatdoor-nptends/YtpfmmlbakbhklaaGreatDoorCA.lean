/- What a walker finds in a guest's tree is what Query tells of the page; which pages a large entry is for. Of no function; no conditions. What NptModel knows of its world: what one page of the first guest is mapped to; what each call tells and leaves. Of no law; no conditions but what is written. -/
import Derived.Test.YtpfmmlbakbhklaaGreatDoorBW
import Derived.Test.YtpfmmlbakbhklaaGreatDoorBX
namespace Go.Proofs.YtpfmmlbakbhklaaGreatDoor
open Go.RowKit
theorem prY_pk {e : P.En} (h : P.rt e = true) : P.prY (P.pk e).toNat = true ∧ P.rd (P.pk e).toNat = e := by
  have h1 := prD_pk h
  unfold P.prD at h1
  cases hy : P.prY (P.pk e).toNat
  · rw [hy, if_neg (by decide)] at h1
    exfalso
    rw [← h1, pk_zd'] at hy
    exact absurd hy (by decide +kernel)
  · rw [hy, if_pos rfl] at h1
    exact ⟨rfl, h1⟩
theorem al_zero {e : P.En} (h : P.rt e = true) (hp : e.p = true) (hr : 0 < e.r) : P.al e 0 = true := by
  have hi := P.rt_in h
  unfold P.al
  rw [h, hp]
  have h0 : bits .and .i64 e.r 0 = 0 := by
    rcases (show e.r = 0 ∨ e.r = 1 ∨ e.r = 2 ∨ e.r = 3 ∨ e.r = 4 ∨ e.r = 5 ∨ e.r = 6 ∨ e.r = 7 by omega) with q | q | q | q | q | q | q | q <;> rw [q] <;> decide +kernel
  rw [h0]
  simp [P.btw, hr]
theorem putE_al {s : Sm} {root pg : Int} {lo : Nat} {e : P.En} (h : putE s root pg lo e = 0) : pg % P.sp lo = 0 := by
  unfold putE at h
  split at h
  · omega
  split at h
  · omega
  split at h
  · omega
  split at h
  · omega
  rename_i h4
  simp only [Bool.or_eq_true, bne_iff_ne, ne_eq, not_or, Classical.not_not] at h4
  exact h4.1
section
variable {s : Sm} {ty : Int → Option Kd} {x : Int}
/-- What is found agrees with what the page is mapped to. -/
def Fnd (q : Int × Int) (d : Fd) : Prop := d.f = q.1 ∧ d.r = q.2 ∧ ((d.e == 0) = (q.2 != 0))
theorem Inv.run (h : Inv s ty x) {o pg : Int} (hb : P.btw pg 0 65535 = true) {q : Int × Int} (hv : Vw s ty o pg q) : ∀ (v : Nat) (fr : Int), On ty o pg fr v → Fnd q (runF s.xs pg 0 v fr) := by
  intro v
  induction v with
  | zero =>
    intro fr hon
    have hd := dg_in pg 0
    have hlow := h.low hon
    have hw := h.wd hon hd.1 hd.2
    have hat : P.at' fr pg ((0 : Nat) : Int) = 16 * fr + dg pg 0 := at_dg hb (by omega) hlow
    have hin : inB s.xs.length (16 * fr + dg pg 0) = true := inB_yes.2 hw
    obtain ⟨y1, y2⟩ := prY_pk (pl_rt s.xs fr (dg pg 0))
    have hnt := h.leaf0 hon _ hd.1 hd.2
    have hq := h.vw_uniq hv ⟨fr, 0, ⟨hon, hnt⟩, rfl⟩
    have hoc : oc s.xs fr pg 0 ((0 : Nat) : Int) = kn (pl s.xs fr (dg pg 0)) pg 0 ((0 : Nat) : Int) := by
      unfold oc ocx
      rw [hat, hin, h.wds fr _ _ hon hd.1 hd.2, y1, y2]
      rfl
    show Fnd q (nxF (oc s.xs fr pg 0 ((0 : Nat) : Int)) _)
    rw [hoc]
    have hrt := pl_rt s.xs fr (dg pg 0)
    have hi := P.rt_in hrt
    have hlf := h.lf fr _ _ hon hd.1 hd.2
    generalize pl s.xs fr (dg pg 0) = e at *
    unfold kn
    cases hp : e.p
    · rw [hq, vE_np hp]
      exact ⟨rfl, rfl, rfl⟩
    · have hpos := tb_no hrt hp hnt
      rcases hlf hp hnt with ⟨-, hl⟩ | ⟨h1, -⟩
      · have e1 : Fnd q (arr e 0 ((0 : Nat) : Int) e.f) := by
          unfold arr
          rw [if_neg (by omega), al_zero hrt hp hpos, if_pos rfl, hq]
          unfold vE
          rw [hp, if_pos rfl, sp_0]
          refine ⟨by simp only; omega, rfl, ?_⟩
          simp
          omega
        simp [hnt, hl]
        exact e1
      · simp at h1
  | succ v ih =>
    intro fr hon
    have h3 := (h.tlv _ _ hon).1
    simp only at h3
    have hd := dg_in pg (v + 1)
    have hlow := h.low hon
    have hw := h.wd hon hd.1 hd.2
    have hat : P.at' fr pg ((v + 1 : Nat) : Int) = 16 * fr + dg pg (v + 1) := at_dg hb h3 hlow
    have hin : inB s.xs.length (16 * fr + dg pg (v + 1)) = true := inB_yes.2 hw
    obtain ⟨y1, y2⟩ := prY_pk (pl_rt s.xs fr (dg pg (v + 1)))
    have hoc : oc s.xs fr pg 0 ((v + 1 : Nat) : Int) = kn (pl s.xs fr (dg pg (v + 1))) pg 0 ((v + 1 : Nat) : Int) := by
      unfold oc ocx
      rw [hat, hin, h.wds fr _ _ hon hd.1 hd.2, y1, y2]
      rfl
    show Fnd q (nxF (oc s.xs fr pg 0 ((v + 1 : Nat) : Int)) _)
    rw [hoc]
    have hrt := pl_rt s.xs fr (dg pg (v + 1))
    have hi := P.rt_in hrt
    cases ht : P.tb (pl s.xs fr (dg pg (v + 1)))
    · have hq := h.vw_uniq hv ⟨fr, v + 1, ⟨hon, ht⟩, rfl⟩
      have hlf := h.lf fr _ _ hon hd.1 hd.2
      generalize pl s.xs fr (dg pg (v + 1)) = e at *
      unfold kn
      cases hp : e.p
      · rw [hq, vE_np hp]
        exact ⟨rfl, rfl, rfl⟩
      · have hpos := tb_no hrt hp ht
        rcases hlf hp ht with ⟨h1, -⟩ | ⟨h1, hl, h16⟩
        · simp at h1
        · simp only at h1
          obtain rfl : v = 0 := by omega
          have e1 : Fnd q (arr e 0 ((0 + 1 : Nat) : Int) (e.f + pg % 16)) := by
            unfold arr
            rw [if_neg (by omega), al_zero hrt hp hpos, if_pos rfl, hq]
            unfold vE
            rw [hp, if_pos rfl, sp_1]
            refine ⟨rfl, rfl, ?_⟩
            simp
            omega
          simp [ht, hl]
          exact e1
    · have hp : (pl s.xs fr (dg pg (v + 1))).p = true := by
        unfold P.tb at ht
        simp only [Bool.and_eq_true] at ht
        exact ht.1.2
      have e1 := ih _ (h.step hon ht)
      have e2 : kn (pl s.xs fr (dg pg (v + 1))) pg 0 ((v + 1 : Nat) : Int) = .go (pl s.xs fr (dg pg (v + 1))).f := by
        unfold kn
        rw [hp, ht]
        simp
      rw [e2]
      exact e1
theorem Inv.fAll (h : Inv s ty x) {o pg root : Int} (hr : ty root = some ⟨o, 3, 0⟩) (hb : P.btw pg 0 65535 = true) {q : Int × Int} (hv : Vw s ty o pg q) : Fnd q (fAll s.xs root pg 0) := by
  have hl := h.low hr
  have e : okW root pg 0 = true := by
    unfold okW
    rw [hb, P.btw_yes.2 hl]
    rfl
  unfold Go.Proofs.YtpfmmlbakbhklaaGreatDoor.fAll
  rw [if_pos e]
  exact h.run hb hv 3 root (root_on hr hb)
end
end Go.Proofs.YtpfmmlbakbhklaaGreatDoor
namespace Go.Proofs.YtpfmmlbakbhklaaGreatDoor
open Go.RowKit
/-- The first guest's page p is mapped to q; N frames are free at least. -/
structure Mq (w0 : World) (d : Sd) (k N : Nat) (p : Int) (q : Int × Int) (w : World) (s : Sm) (ty : Int → Option Kd) : Prop where
  fv : Fv w0 d s k w
  inv : Inv s ty (-1)
  r0 : ty d.r0 = some ⟨1, 3, 0⟩
  b : P.btw p 0 65535 = true
  v : Vw s ty 1 p q
  n : N ≤ O.cK s.ds 0
def Mo (w0 : World) (d : Sd) (k N : Nat) (p : Int) (q : Int × Int) (w : World) : Prop := ∃ s ty, Mq w0 d k N p q w s ty
section
variable {w0 w w' : World} {d : Sd} {k k' N N' : Nat} {p : Int} {q q' : Int × Int} {s s' : Sm} {ty ty' : Int → Option Kd}
theorem Mq.below (h : Mq w0 d k N p q w s ty) (b : Below w.heap.size w w') : Mq w0 d k N p q w' s ty := ⟨h.fv.below b, h.inv, h.r0, h.b, h.v, h.n⟩
theorem Mo.below (h : Mo w0 d k N p q w) (b : Below w.heap.size w w') : Mo w0 d k N p q w' := h.elim fun s h => h.elim fun ty h => ⟨s, ty, h.below b⟩
theorem Mo.mono (h : Mo w0 d k N p q w) (hk : k ≤ k') (hN : N' ≤ N) : Mo w0 d k' N' p q w := h.elim fun s h => h.elim fun ty h => ⟨s, ty, h.fv.mono hk, h.inv, h.r0, h.b, h.v, Nat.le_trans hN h.n⟩
theorem Mq.turn (h : Mq w0 d k N p q w s ty) (hC : Ch d.u w w') (hW : Wo d.u w' s' k') {o : Int} (hi : Inv s' ty' (-1)) (hst : Stp o s ty s' ty') (hv : Vw s' ty' 1 p q') (hn : N' ≤ O.cK s'.ds 0) : Mq w0 d k' N' p q' w' s' ty' :=
  ⟨h.fv.turn hC hW, hi, hst.root _ _ h.r0 rfl, h.b, hv, hn⟩
theorem Mq.q_in (h : Mq w0 d k N p q w s ty) : 0 ≤ q.2 ∧ q.2 ≤ 7 ∧ (q.2 = 0 → q = (0, 0)) := by
  obtain ⟨-, -, -, a, b⟩ := h.inv.query h.r0 h.b h.v
  refine ⟨a, b, fun e => ?_⟩
  obtain ⟨f, v, ⟨-, ht⟩, rfl⟩ := h.v
  cases hp : (pl s.xs f (dg p v)).p
  · exact vE_np hp _ _
  · have hr := tb_no (pl_rt _ _ _) hp ht
    unfold vE at e
    rw [hp, if_pos rfl] at e
    simp only at e
    omega
theorem Mo.q_in (h : Mo w0 d k N p q w) : 0 ≤ q.2 ∧ q.2 ≤ 7 ∧ (q.2 = 0 → q = (0, 0)) := h.elim fun _ h => h.elim fun _ h => h.q_in
theorem Mo.map (h : Mo w0 d k (N + 3) p q w) (hk : k + 200 ≤ bnd) (pg f r : Int) : Calls Tryz.prog 21 #[.pointer (some ⟨d.a0, 0, none⟩), .int .i64 pg, .int .i64 f, .int .i64 r] w fun e w' => ∃ x : Int, e = .returned (.int .i64 x) ∧ Mo w0 d (k + 100) N p (if x = 0 ∧ pg = p then (f, r) else q) w' ∧ Kp w w' := by
  obtain ⟨s, ty, h⟩ := h
  have hn := h.n
  refine (map_at h.fv.t0 h.fv.wo hk pg f r).mono ?_
  rintro e w' ⟨rfl, hW, hC⟩
  refine ⟨_, rfl, ?_, .of_ch h.fv.wo hC⟩
  by_cases h0 : putE s d.r0 pg 0 ⟨true, r, false, f⟩ = 0
  · obtain ⟨ty', b1, b2, b3, -, -, b4⟩ := h.inv.put h.r0 (by decide) (.inl ⟨rfl, rfl⟩) h0
    have hl := endF_le' s.xs pg 0 3 d.r0
    have hv := b4 1 p _ h.b h.v
    refine ⟨_, ty', h.turn hC hW b1 b2 ?_ (by omega)⟩
    by_cases hp : pg = p
    · rw [if_pos ⟨h0, hp⟩]
      rw [if_pos (show Mt 1 pg 0 1 p from ⟨rfl, by rw [hp]⟩)] at hv
      unfold vE at hv
      rw [if_pos rfl, sp_0] at hv
      rw [show f + p % 1 = f by omega] at hv
      exact hv
    · rw [if_neg (fun hh => hp hh.2)]
      rw [if_neg (fun hh : Mt 1 pg 0 1 p => hp (by have := hh.2; rw [sp_0] at this; omega))] at hv
      exact hv
  · rw [if_neg (fun hh => h0 hh.1)]
    rw [putT_err h0] at hW
    exact ⟨s, ty, h.turn (o := 1) hC hW h.inv (Stp.refl ..) h.v (by omega)⟩
theorem Mo.large (h : Mo w0 d k (N + 3) p q w) (hk : k + 200 ≤ bnd) (pg f r : Int) : Calls Tryz.prog 22 #[.pointer (some ⟨d.a0, 0, none⟩), .int .i64 pg, .int .i64 f, .int .i64 r] w fun e w' => ∃ x : Int, e = .returned (.int .i64 x) ∧ (x = 0 → 0 ≤ f ∧ f ≤ 4095) ∧ Mo w0 d (k + 100) N p (if x = 0 ∧ pg = p - p % 16 then (f + p % 16, r) else q) w' ∧ Kp w w' := by
  obtain ⟨s, ty, h⟩ := h
  have hn := h.n
  refine (large_at h.fv.t0 h.fv.wo hk pg f r).mono ?_
  rintro e w' ⟨rfl, hW, hC⟩
  refine ⟨_, rfl, fun h0 => P.btw_yes.1 (putE_in h0).2.1, ?_, .of_ch h.fv.wo hC⟩
  by_cases h0 : putE s d.r0 pg 1 ⟨true, r, true, f⟩ = 0
  · obtain ⟨ty', b1, b2, b3, -, -, b4⟩ := h.inv.put h.r0 (by decide) (.inr ⟨rfl, rfl⟩) h0
    have hl := endF_le' s.xs pg 1 3 d.r0
    have hv := b4 1 p _ h.b h.v
    have hal := putE_al h0
    rw [sp_1] at hal
    refine ⟨_, ty', h.turn hC hW b1 b2 ?_ (by omega)⟩
    by_cases hp : pg = p - p % 16
    · rw [if_pos ⟨h0, hp⟩]
      rw [if_pos (show Mt 1 pg 1 1 p from ⟨rfl, by rw [sp_1]; omega⟩)] at hv
      unfold vE at hv
      rw [if_pos rfl, sp_1] at hv
      exact hv
    · rw [if_neg (fun hh => hp hh.2)]
      rw [if_neg (fun hh : Mt 1 pg 1 1 p => hp (by have := hh.2; rw [sp_1] at this; omega))] at hv
      exact hv
  · rw [if_neg (fun hh => h0 hh.1)]
    rw [putT_err h0] at hW
    exact ⟨s, ty, h.turn (o := 1) hC hW h.inv (Stp.refl ..) h.v (by omega)⟩
theorem Mo.unmap (h : Mo w0 d k (N + 1) p q w) (hk : k + 200 ≤ bnd) (pg : Int) : Calls Tryz.prog 23 #[.pointer (some ⟨d.a0, 0, none⟩), .int .i64 pg] w fun e w' => ∃ y x : Int, e = .returned (.tuple #[.int .i64 y, .int .i64 x]) ∧ (pg = p → ((x == 0) = (q.2 != 0)) ∧ (x = 0 → y = q.1)) ∧ Mo w0 d (k + 100) N p (if pg = p then (0, 0) else q) w' ∧ Kp w w' := by
  obtain ⟨s, ty, h⟩ := h
  have hn := h.n
  refine (unmap_at h.fv.t0 h.fv.wo hk pg).mono ?_
  rintro e w' ⟨rfl, hW, hC⟩
  by_cases h0 : unE s 1 d.r0 pg = 0
  · obtain ⟨hq0, hf⟩ := unE_in h0
    obtain ⟨-, ty', b1, b2, b3, b3', b4⟩ := h.inv.unmap h.r0 (qE_btw hq0) (by decide) hq0 hf
    have hv := b4 1 p _ h.b h.v
    refine ⟨_, _, rfl, fun hp => ⟨?_, fun _ => by subst hp; exact b3' _ h.v⟩, ⟨_, ty', h.turn hC hW b1 b2 ?_ (by split at b3 <;> omega)⟩, .of_ch h.fv.wo hC⟩
    · have := (h.inv.query h.r0 h.b h.v).2.2.1
      rw [← hp, hq0] at this
      rw [h0]
      have hne : q.2 ≠ 0 := fun e => by rw [if_pos e] at this; omega
      simp [hne]
    · by_cases hp : pg = p
      · rw [if_pos hp]
        rw [if_pos ⟨rfl, hp.symm⟩] at hv
        exact hv
      · rw [if_neg hp]
        rw [if_neg (fun hh => hp hh.2.symm)] at hv
        exact hv
  · rw [unS_err h0] at hW
    have hq0 : pg = p → q.2 = 0 := fun hp => by
      apply Classical.byContradiction
      intro hne
      have hqe := (h.inv.query h.r0 h.b h.v).2.2.1
      rw [if_neg hne] at hqe
      rw [hp] at h0
      exact h0 (h.inv.unmap h.r0 h.b (by decide) hqe (fun _ => by omega)).1
    refine ⟨_, _, rfl, fun hp => ⟨?_, fun e => absurd e h0⟩, ⟨s, ty, h.turn (o := 1) hC hW h.inv (Stp.refl ..) ?_ (by omega)⟩, .of_ch h.fv.wo hC⟩
    · rw [hq0 hp]
      simp [h0]
    · by_cases hp : pg = p
      · rw [if_pos hp, ← h.q_in.2.2 (hq0 hp)]
        exact h.v
      · rw [if_neg hp]
        exact h.v
theorem Mo.protect (h : Mo w0 d k (N + 1) p q w) (hk : k + 200 ≤ bnd) (pg r : Int) : Calls Tryz.prog 24 #[.pointer (some ⟨d.a0, 0, none⟩), .int .i64 pg, .int .i64 r] w fun e w' => ∃ x : Int, e = .returned (.int .i64 x) ∧ Mo w0 d (k + 100) N p (if x = 0 ∧ pg = p then (q.1, r) else q) w' ∧ Kp w w' := by
  obtain ⟨s, ty, h⟩ := h
  have hn := h.n
  refine (protect_at h.fv.t0 h.fv.wo hk pg r).mono ?_
  rintro e w' ⟨rfl, hW, hC⟩
  refine ⟨_, rfl, ?_, .of_ch h.fv.wo hC⟩
  by_cases h0 : prE s 1 d.r0 pg r = 0
  · obtain ⟨ty', b1, b2, b3, b4⟩ := h.inv.protect' h.r0 (by decide) h0
    have hv := b4 1 p _ h.b h.v
    refine ⟨_, ty', h.turn hC hW b1 b2 ?_ (by omega)⟩
    by_cases hp : pg = p
    · rw [if_pos ⟨h0, hp⟩]
      rw [if_pos ⟨rfl, hp.symm⟩] at hv
      exact hv
    · rw [if_neg (fun hh => hp hh.2)]
      rw [if_neg (fun hh => hp hh.2.symm)] at hv
      exact hv
  · rw [if_neg (fun hh => h0 hh.1)]
    rw [prS_err h0] at hW
    exact ⟨s, ty, h.turn (o := 1) hC hW h.inv (Stp.refl ..) h.v (by omega)⟩
theorem Mo.query (h : Mo w0 d k N p q w) : Calls Tryz.prog 13 #[.pointer (some ⟨d.a0, 0, none⟩), .int .i64 p] w fun e w' => e = .returned (.tuple #[.int .i64 q.1, .int .i64 q.2, .int .i64 (if q.2 = 0 then 4 else 0)]) ∧ Mo w0 d k N p q w' ∧ Kp w w' := by
  obtain ⟨s, ty, h⟩ := h
  refine (query_at h.fv.t0 h.fv.wo p).mono ?_
  rintro e w' ⟨rfl, hB⟩
  obtain ⟨a, b, c, -⟩ := h.inv.query h.r0 h.b h.v
  rw [a, b, c]
  exact ⟨rfl, ⟨s, ty, h.below hB⟩, .of_below hB⟩
theorem Mo.root (h : Mo w0 d k N p q w) : Calls Tryz.prog 18 #[.pointer (some ⟨d.a0, 0, none⟩)] w fun e w' => e = .returned (.int .i64 d.r0) ∧ w' = w := by
  obtain ⟨s, ty, h⟩ := h
  exact root_at h.fv.t0
theorem Mo.walk (h : Mo w0 d k N p q w) (hk : k + 4 ≤ bnd) : Calls Tryz.prog 25 #[.pointer (some ⟨d.u.mp, 0, none⟩), .int .i64 d.r0, .int .i64 p, .int .i64 0] w fun e w' => ∃ x : Fd, e = .returned (fdV x) ∧ Fnd q x ∧ Mo w0 d (k + 4) N p q w' ∧ Kp w w' := by
  obtain ⟨s, ty, h⟩ := h
  refine (walk_wo h.fv.wo hk d.r0 p 0 (by decide) (by decide)).mono ?_
  rintro e w' ⟨rfl, hW, hC⟩
  exact ⟨_, rfl, h.inv.fAll h.r0 h.b h.v, ⟨s, ty, h.turn (o := 1) hC hW h.inv (Stp.refl ..) h.v h.n⟩, .of_ch h.fv.wo hC⟩
end
/-- A new world: no page is mapped. -/
theorem Mo.start {w w1 : World} {m : Nat} {u v : Si} {a0 b0 a1 b1 : Nat} {x1 : Option Addr} {ty : Int → Option Kd} (hb : Bgn w m w1 u v a0 b0 a1 b1 x1) (hB : Bare m ty) {p : Int} (hp : P.btw p 0 65535 = true) :
    Mo w ⟨w.heap.size, u, v, a0, b0, b1, x1, newF (z0 (m + 1)) 1, newF (s1 m) 2⟩ 32 (m - 1) p (0, 0) w1 :=
  ⟨s2 m, ty, Fv.of_bgn hb, hB.inv, hB.r0, hp, hB.no 1 p (.inl rfl) hp, by have := hB.free; omega⟩
end Go.Proofs.YtpfmmlbakbhklaaGreatDoor
