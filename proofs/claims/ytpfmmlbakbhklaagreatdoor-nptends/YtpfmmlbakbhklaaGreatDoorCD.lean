/- Where no page of a guest is mapped, its root is alone; how many frames are tables, and how many are retired. Of no function; no conditions. What stays of entries where a page is taken away; no page of its sixteen is mapped by a large entry behind it; whose the tables are. Of no function; no conditions. What NptEnds knows: which pages of the first guest are mapped, that frames suffice, and what its calls leave. Of no law; no conditions but what is written. -/
import Derived.Test.YtpfmmlbakbhklaaGreatDoorCA
import Derived.Test.YtpfmmlbakbhklaaGreatDoorBY
namespace Go.Proofs.YtpfmmlbakbhklaaGreatDoor
open Go.RowKit
section
variable {s : Sm} {ty : Int → Option Kd} {x : Int}
/-- Under each table but a root there is a page that is mapped. -/
theorem Inv.full_page (h : Inv s ty (-1)) : ∀ (l : Nat) (f : Int) (t : Kd), t.l = l → l < 3 → ty f = some t → ∃ pg q, P.btw pg 0 65535 = true ∧ Vw s ty t.o pg q ∧ q.2 ≠ 0
  | l, f, t, hl, h3, hf => by
    obtain ⟨j, j0, j1, hp⟩ := h.full f t hf (by omega) (h.neg hf)
    have htl := h.tlv f t hf
    cases ht : P.tb (pl s.xs f j)
    · have hr := tb_no (pl_rt _ _ _) hp ht
      rcases h.lf f t j hf j0 j1 hp ht with ⟨e, -⟩ | ⟨e, -, -⟩
      · rw [e, wi_0] at htl
        have hd : dg (16 * t.p + j) 0 = j := by unfold dg; rw [sp_0]; omega
        have hon : On ty t.o (16 * t.p + j) f 0 := by
          unfold On
          rw [hf, wi_0, show (16 * t.p + j) / 16 = t.p by omega, ← e]
        refine ⟨16 * t.p + j, _, P.btw_yes.2 ⟨by omega, by omega⟩, ⟨f, 0, ⟨hon, by rw [hd]; exact ht⟩, rfl⟩, ?_⟩
        rw [hd]
        unfold vE
        rw [hp, if_pos rfl]
        simp only
        omega
      · rw [e, wi_1] at htl
        have hd : dg ((16 * t.p + j) * 16) 1 = j := by unfold dg; rw [sp_1]; omega
        have hon : On ty t.o ((16 * t.p + j) * 16) f 1 := by
          unfold On
          rw [hf, wi_1, show (16 * t.p + j) * 16 / 256 = t.p by omega, ← e]
        refine ⟨(16 * t.p + j) * 16, _, P.btw_yes.2 ⟨by omega, by omega⟩, ⟨f, 1, ⟨hon, by rw [hd]; exact ht⟩, rfl⟩, ?_⟩
        rw [hd]
        unfold vE
        rw [hp, if_pos rfl]
        simp only
        omega
    · obtain ⟨hpos, hc⟩ := h.go f t j hf j0 j1 ht
      obtain ⟨l', rfl⟩ : ∃ l', l = l' + 1 := ⟨l - 1, by omega⟩
      exact h.full_page l' (pl s.xs f j).f ⟨t.o, t.l - 1, 16 * t.p + j⟩ (show t.l - 1 = l' by omega) (by omega) hc
/-- No page of a guest is mapped: its tables are its root. -/
theorem Inv.alone_root (h : Inv s ty (-1)) {o root : Int} (hr : ty root = some ⟨o, 3, 0⟩) (hv : ∀ pg, P.btw pg 0 65535 = true → Vw s ty o pg (0, 0)) :
    (∀ f t, ty f = some t → t.o = o → f = root) ∧ ∀ j, 0 ≤ j → j < 16 → pl s.xs root j = P.zd := by
  have h3 : ∀ f t, ty f = some t → t.o = o → t.l = 3 := fun f t hf ho => by
    have := (h.tlv f t hf).1
    apply Classical.byContradiction
    intro hne
    obtain ⟨pg, q, hb, hq, hq0⟩ := h.full_page t.l f t rfl (by omega) hf
    rw [ho] at hq
    rw [h.vw_uniq hq (hv pg hb)] at hq0
    exact hq0 rfl
  refine ⟨fun f t hf ho => ?_, fun j j0 j1 => ?_⟩
  · have e3 := h3 f t hf ho
    have hp : t.p = 0 := by
      have := h.tlv f t hf
      rw [e3, wi_3] at this
      omega
    have e : t = ⟨o, 3, 0⟩ := by
      obtain ⟨t0, tl, tp⟩ := t
      simp only at ho e3 hp
      rw [ho, e3, hp]
    rw [e] at hf
    exact h.inj f root _ hf hr
  · cases hp : (pl s.xs root j).p
    · exact zd_of (pl_rt _ _ _) hp
    · cases ht : P.tb (pl s.xs root j)
      · rcases h.lf root _ j hr j0 j1 hp ht with ⟨e, -⟩ | ⟨e, -, -⟩
        · simp at e
        · simp at e
      · have := h3 _ _ (h.go root _ j hr j0 j1 ht).2 rfl
        simp at this
theorem countP_two {p q r : Nat → Bool} : ∀ l : List Nat, (∀ i, i ∈ l → p i = (q i || r i) ∧ (q i && r i) = false) → l.countP p = l.countP q + l.countP r
  | [], _ => rfl
  | a :: l, h => by
    obtain ⟨h1, h2⟩ := h a (List.mem_cons_self ..)
    rw [List.countP_cons, List.countP_cons, List.countP_cons, countP_two l fun i hi => h i (List.mem_cons_of_mem _ hi), h1]
    cases hq : q a <;> cases hr : r a <;> simp [hq, hr] at h2 ⊢ <;> omega
/-- The tables of two guests are all the frames that are tables. -/
theorem Inv.tables (h : Inv s ty x) (ho : ∀ f t, ty f = some t → t.o = 1 ∨ t.o = 2) : O.cK s.ds 3 = nT ty 1 s.ds.length + nT ty 2 s.ds.length := by
  unfold nT
  rw [← countP_two (p := fun i => O.isK 3 (s.ds.getD i O.zd))]
  · unfold O.cK O.wh
    rw [List.countP_eq_length_filter]
  · intro i hi
    have hi := List.mem_range.1 hi
    unfold ownT
    cases hq : ty (i : Int) with
    | none =>
      have : (s.ds.getD i O.zd).k ≠ 3 := fun e => by
        obtain ⟨t, ht⟩ := h.all (i : Int) (by omega) (by omega) (by rw [Int.toNat_natCast]; exact e)
        rw [hq] at ht
        cases ht
      simp [O.isK]
      exact this
    | some t =>
      have hk := (h.tin _ t hq).2.2.1
      rw [Int.toNat_natCast] at hk
      have e : O.isK 3 (s.ds.getD i O.zd) = true := by unfold O.isK; rw [hk]; rfl
      rw [e]
      rcases ho _ t hq with q | q <;> simp [q]
/-- What were tables of the first guest, and are none any more, but its root, is retired. -/
theorem retired_many {s' : Sm} {ty' : Int → Option Kd} (h : Inv s ty (-1)) (h' : Inv s' ty' (-1)) (hst : Stp 1 s ty s' ty') {root : Int} (hr : ty root = some ⟨1, 3, 0⟩) (hone : ∀ f t, ty' f = some t → t.o = 1 → f = root) :
    (gat s.xs root).length ≤ O.cK s'.ds 5 + 1 := by
  obtain ⟨a, b⟩ := h.gat_nd hr
  have hin : ∀ z, z ∈ gat s.xs root → 0 ≤ z.1 ∧ z.1 < s.ds.length := fun z hz => by
    obtain ⟨-, p, hp⟩ := b z hz
    have := h.tin _ _ hp
    omega
  have hlen := hst.len
  have hk : ∀ z, z ∈ gat s.xs root → z.1 ≠ root → (s'.ds.getD z.1.toNat O.zd).k = 5 := fun z hz hne => by
    obtain ⟨-, p, hp⟩ := b z hz
    have h3 := (h.tin _ _ hp).2.2.1
    rcases (hst.kds z.1.toNat).2 h3 with e | e
    · obtain ⟨t, ht⟩ := h'.all z.1 (hin z hz).1 (by have := (hin z hz).2; omega) e
      by_cases ho : t.o = 1
      · exact absurd (hone _ t ht ho) hne
      · have := (hst.oth _ t ho).1 ht
        rw [hp] at this
        injection this with this
        exact absurd (by rw [← this]) ho
    · exact e
  have hn : ((gat s.xs root).map fun z => z.1.toNat).Pairwise (· ≠ ·) := by
    rw [List.pairwise_map]
    refine a.imp_of_mem ?_
    intro z y hz hy hne e
    have := hin z hz
    have := hin y hy
    omega
  have := len_le _ (root.toNat :: O.wh (O.isK 5) s'.ds) hn fun i hi => by
    obtain ⟨z, hz, rfl⟩ := List.mem_map.1 hi
    by_cases e : z.1 = root
    · rw [e]
      exact List.mem_cons_self ..
    · refine List.mem_cons_of_mem _ (O.wh_mem.2 ⟨by have := hin z hz; omega, ?_⟩)
      unfold O.isK
      rw [hk z hz e]
      rfl
  rw [List.length_map, List.length_cons] at this
  exact this
end
end Go.Proofs.YtpfmmlbakbhklaaGreatDoor
namespace Go.Proofs.YtpfmmlbakbhklaaGreatDoor
open Go.RowKit
/-- The tables are of two guests. -/
def Own (ty : Int → Option Kd) : Prop := ∀ f t, ty f = some t → t.o = 1 ∨ t.o = 2
theorem Stp.own {o : Int} {s s' : Sm} {ty ty' : Int → Option Kd} (h : Stp o s ty s' ty') (ho : o = 1 ∨ o = 2) (k : Own ty) : Own ty' := fun f t hf => by
  by_cases e : t.o = o
  · rw [e]; exact ho
  · exact k f t ((h.oth f t e).1 hf)
theorem bare_own {m : Nat} (h1 : 1 ≤ m) (hm : m ≤ 4095) : ∃ ty, Bare m ty ∧ Own ty := by
  have h0 := inv_z0 (n := m + 1) (by omega)
  have hf0 := z0_free (m + 1)
  obtain ⟨a1, a2, a3, a4, a5, a6, a7, a8, a9⟩ := h0.fresh (o := 1) (by decide) (by omega) (fun f t hf => by cases hf)
  obtain ⟨b1, b2, b3, b4, b5, b6, b7, b8, b9⟩ := a2.fresh (o := 2) (by decide) (by have := a4; omega) (fun f t hf ho => by
    have := (a3.oth f t (by omega)).1 hf
    cases this)
  have hl1 : (s1 m).ds.length = m + 1 := by
    show (newS (Go.Proofs.YtpfmmlbakbhklaaGreatDoor.z0 (m + 1)) 1 none16).ds.length = _
    rw [(newS_len _ _).2]
    simp [Go.Proofs.YtpfmmlbakbhklaaGreatDoor.z0]
  have hl0 : (Go.Proofs.YtpfmmlbakbhklaaGreatDoor.z0 (m + 1)).ds.length = m + 1 := by simp [Go.Proofs.YtpfmmlbakbhklaaGreatDoor.z0]
  have hr0 := b3.root (newF (Go.Proofs.YtpfmmlbakbhklaaGreatDoor.z0 (m + 1)) 1) ⟨1, 3, 0⟩ (by unfold upd; rw [if_pos rfl]) rfl
  refine ⟨_, ⟨b2, hr0, upd_self _ _ _, b1, by have := a4; have := b4; unfold s2 s1; omega, ?_, ?_, ?_, b8, ?_, ?_⟩, b3.own (.inr rfl) (a3.own (.inl rfl) (fun f t hf => by cases hf))⟩
  · unfold s2
    rw [(newS_len _ _).2]
    exact hl1
  · intro o pg ho hb
    rcases ho with rfl | rfl
    · exact b6 1 pg _ (by decide) (a7 pg hb)
    · exact b7 pg hb
  · intro i c d
    exact (b3.pls _ ⟨1, 3, 0⟩ (upd_self _ _ _) (by decide) i c d).trans (a8 i c d)
  · rw [hl0] at a5
    rw [b3.nT_oth (by decide)]
    exact a5
  · have hl1' : (newS (Go.Proofs.YtpfmmlbakbhklaaGreatDoor.z0 (m + 1)) 1 none16).ds.length = m + 1 := hl1
    rw [hl1'] at b5
    exact b5
/-- There are no entries and no tables but those that were. -/
structure Sub (s : Sm) (ty : Int → Option Kd) (s' : Sm) (ty' : Int → Option Kd) : Prop where
  tys : ∀ f t, ty' f = some t → ty f = some t
  pls : ∀ f i, 0 ≤ i → i < 16 → pl s'.xs f i = pl s.xs f i ∨ pl s'.xs f i = P.zd
theorem Sub.refl (s : Sm) (ty : Int → Option Kd) : Sub s ty s ty := ⟨fun _ _ h => h, fun _ _ _ _ => .inl rfl⟩
theorem Sub.trans {s s' s'' : Sm} {ty ty' ty'' : Int → Option Kd} (h : Sub s ty s' ty') (k : Sub s' ty' s'' ty'') : Sub s ty s'' ty'' :=
  ⟨fun f t hf => h.tys f t (k.tys f t hf), fun f i a b => by
    rcases k.pls f i a b with e | e
    · rw [e]; exact h.pls f i a b
    · exact .inr e⟩
theorem np_l {e : P.En} (h : P.rt e = true) (hp : e.p = false) : e.l = false := by rw [zd_of h hp]; rfl
section
variable {s : Sm} {ty : Int → Option Kd} {x : Int}
theorem Sub.large {s' : Sm} {ty' : Int → Option Kd} {x' : Int} (k : Sub s ty s' ty') (h : Inv s ty x) (h' : Inv s' ty' x') {o root pg : Int} (hr : ty root = some ⟨o, 3, 0⟩) (hr' : ty' root = some ⟨o, 3, 0⟩) (hb : P.btw pg 0 65535 = true) (hl : (fdE s' root pg).l = true) : (fdE s root pg).l = true := by
  obtain ⟨⟨a, b⟩, c⟩ := h'.ed hr' hb
  have e := h'.fdE_pl hr' hb
  have hd := dg_in pg (fd s' root pg).2
  rcases k.pls (fd s' root pg).1 _ hd.1 hd.2 with q | q
  · rw [q] at e b
    have hf := h.fd_of hr hb ⟨k.tys _ _ a, b⟩
    rw [h.fdE_pl hr hb, hf, ← e]
    exact hl
  · rw [e, q] at hl
    exact absurd hl (by decide)
theorem Inv.thin_sub {o pg : Int} (hb : P.btw pg 0 65535 = true) : ∀ (r : List (Int × Nat)) (y : Int × Nat) (s : Sm) (ty : Int → Option Kd) (x : Int), Inv s ty x → Up s ty o pg (y :: r) → (∀ f t, ty f = some t → t.l < 3 → f ≠ y.1 → f ≠ x) →
    ∃ ty', Inv (thinS pg (y :: r) s) ty' (-1) ∧ Stp o s ty (thinS pg (y :: r) s) ty' ∧ Sub s ty (thinS pg (y :: r) s) ty' ∧ O.cK (thinS pg (y :: r) s).ds 0 = O.cK s.ds 0 ∧ ∀ o' pg' q, P.btw pg' 0 65535 = true → Vw s ty o' pg' q → Vw (thinS pg (y :: r) s) ty' o' pg' q
  | [], y, s, ty, x, h, hu, hx => by
    refine ⟨ty, h.noex fun f t hf hl _ e => ?_, Stp.refl .., Sub.refl .., rfl, fun _ _ _ _ hv => hv⟩
    by_cases e2 : f = y.1
    · have h1 := hu.1
      unfold On at h1
      rw [← e2, hf] at h1
      injection h1 with h1
      have : t.l = y.2 := congrArg Kd.l h1
      have := hu.2
      omega
    · exact absurd e (hx f t hf hl e2)
  | z :: r, y, s, ty, x, h, hu, hx => by
    obtain ⟨hon, hlz, htb, hfz, hu'⟩ := hu
    have honz := hu'.on z (List.mem_cons_self ..)
    have h3 := (h.tlv _ _ honz).1
    simp only at h3
    cases hemp : empW s.xs y.1
    · have hS : thinS pg (y :: z :: r) s = s := by unfold thinS; rw [hemp, if_neg (by decide)]
      rw [hS]
      refine ⟨ty, h.noex fun f t hf hl _ e => ?_, Stp.refl .., Sub.refl .., rfl, fun _ _ _ _ hv => hv⟩
      by_cases e2 : f = y.1
      · rw [e2]
        exact h.nemp hon hemp
      · exact absurd e (hx f t hf hl e2)
    · have hS : thinS pg (y :: z :: r) s = thinS pg (z :: r) ⟨setW s.xs (P.at' z.1 pg z.2) 0, O.tL s.ds y.1 5 0⟩ := by conv => lhs; unfold thinS; rw [hemp, if_pos rfl]
      rw [hS]
      obtain ⟨u1, u2⟩ := up_one (pg := pg) (l := y.2) (by omega)
      rw [← hlz] at u1 u2
      have hg : ty z.1 = some ⟨o, y.2 + 1, pg / wi y.2 / 16⟩ := by
        rw [u1, ← hlz]
        exact honz
      obtain ⟨a1, a2, a3, a4, a5⟩ := h.take hon (by simp only; omega) (h.emp hon hemp) hg (by simp only; rw [u2]; exact htb) (by simp only; rw [u2]; exact hfz) (fun f t hf hl e1 e2 => hx f t hf hl e1)
      simp only at a1 a2 a3 a4 a5
      rw [u2] at a1 a2 a4 a5
      have hsub : Sub s ty ⟨setW s.xs (16 * z.1 + dg pg z.2) 0, O.tL s.ds y.1 5 0⟩ (upd ty y.1 none) := ⟨fun f t hf => by
        unfold upd at hf
        split at hf
        · cases hf
        · exact hf, fun f i a b => by
        simp only
        rw [a4 f i a b]
        split
        · exact .inr rfl
        · exact .inl rfl⟩
      rw [at_dg hb h3 (h.low honz)]
      obtain ⟨ty', b1, b2, b2', b3, b4⟩ := Inv.thin_sub hb r z _ _ _ a1 (hu'.keep (fun w hw => by
          have hw' := hu'.on w hw
          unfold On upd
          rw [if_neg]
          · exact hw'
          · intro e
            have h1 := hon
            unfold On at h1 hw'
            rw [← e, hw'] at h1
            injection h1 with h1
            have h2 : w.2 = y.2 := congrArg Kd.l h1
            rcases List.mem_cons.1 hw with rfl | hw
            · omega
            · have := hu'.lev w hw
              omega) (fun w hw => by
          have hd := dg_in pg w.2
          simp only
          rw [a4 _ _ hd.1 hd.2, if_neg]
          rintro ⟨e, -⟩
          have h1 := honz
          have h2 := hu'.on w (List.mem_cons_of_mem _ hw)
          unfold On at h1 h2
          rw [← e, h2] at h1
          injection h1 with h1
          have h4 : w.2 = z.2 := congrArg Kd.l h1
          have := hu'.lev w hw
          omega)) (fun _ _ _ _ e => e)
      exact ⟨ty', b1, a2.trans b2, hsub.trans b2', b3.trans a3, fun o' pg' q hb' hv => b4 o' pg' q hb' (a5 o' pg' q hb' hv)⟩
/-- What is mapped, is taken away; what is large behind it, was, and is of another sixteen. -/
theorem Inv.unmap_more (h : Inv s ty (-1)) {o pg root : Int} (hr : ty root = some ⟨o, 3, 0⟩) (hb : P.btw pg 0 65535 = true) (ho : 1 ≤ o ∧ o ≤ 16) (hq : qE s root pg = 0) (hf : (fdE s root pg).l = true → 0 < O.cK s.ds 0) :
    unE s o root pg = 0 ∧ ∃ ty', Inv (unS s o root pg) ty' (-1) ∧ Stp o s ty (unS s o root pg) ty' ∧ O.cK (unS s o root pg).ds 0 + (if (fdE s root pg).l = true then 1 else 0) = O.cK s.ds 0 ∧
      (∀ o' pg' q, P.btw pg' 0 65535 = true → Vw s ty o' pg' q → Vw (unS s o root pg) ty' o' pg' (if o' = o ∧ pg' = pg then (0, 0) else q)) ∧
      ∀ pg', P.btw pg' 0 65535 = true → (fdE (unS s o root pg) root pg').l = true → (fdE s root pg').l = true ∧ pg' / 16 ≠ pg / 16 := by
  have hp : (fdE s root pg).p = true := by
    unfold qE at hq
    rw [hb, if_neg (fun e => Bool.noConfusion e)] at hq
    cases hpp : (fdE s root pg).p
    · rw [hpp, if_pos rfl] at hq; omega
    · rfl
  obtain ⟨a1, ty1, a2, a3, a4, a5, a6, a7, a9, a8⟩ := h.alone hr hb ho hp hf
  have hE : unE s o root pg = 0 := by unfold unE; rw [if_pos hq, a1]
  have hr1 := a3.root root _ hr rfl
  obtain ⟨⟨hon, hnt⟩, -⟩ := a2.ed hr1 hb
  have hpl := a2.fdE_pl hr1 hb
  rw [a5] at hon hnt hpl
  have hS : unS s o root pg = thinS pg (wayF (lay (alS s o root pg) (16 * (fd (alS s o root pg) root pg).1 + dg pg 0) P.zd).xs pg 0 3 root).reverse (lay (alS s o root pg) (16 * (fd (alS s o root pg) root pg).1 + dg pg 0) P.zd) := by
    unfold unS
    rw [if_pos hE]
    unfold unA
    have : P.at' (fd (alS s o root pg) root pg).1 pg ((fd (alS s o root pg) root pg).2 : Nat) = 16 * (fd (alS s o root pg) root pg).1 + dg pg 0 := by
      rw [a5]
      exact at_dg hb (by omega) (a2.low hon)
    rw [this]
  have hsml : ∀ pg', P.btw pg' 0 65535 = true → (fdE (alS s o root pg) root pg').l = true → pg' / 16 ≠ pg / 16 := by
    intro pg' hb' hl e
    have hon' : On ty1 o pg' (fd (alS s o root pg) root pg).1 0 := by
      unfold On at hon ⊢
      rw [wi_0] at hon ⊢
      rw [e]
      exact hon
    have hd' := dg_in pg' 0
    have hfd := a2.fd_of hr1 hb' ⟨hon', a2.leaf0 hon' _ hd'.1 hd'.2⟩
    cases hpp : (fdE (alS s o root pg) root pg').p
    · rw [np_l (by rw [a2.fdE_pl hr1 hb']; exact pl_rt _ _ _) hpp] at hl
      cases hl
    · rcases a2.fd_lf hr1 hb' hpp with ⟨-, q⟩ | ⟨q, -, -⟩
      · rw [q] at hl
        cases hl
      · rw [hfd] at q
        simp at q
  rw [hS]
  generalize alS s o root pg = s1 at *
  obtain ⟨b1, b2, b3, b4⟩ := a2.put_leaf (e := P.zd) (lo := 0) rt_zd' tb_zd (fun hh => by cases hh) hon (x' := (fd s1 root pg).1) (fun f t hf hl e => ⟨fun e2 => absurd e2 e, fun _ => a2.neg hf⟩) hnt
  generalize hs2 : lay s1 (16 * (fd s1 root pg).1 + dg pg 0) P.zd = s2 at *
  have hr2 := b2.root root _ hr1 rfl
  have hd0 := dg_in pg 0
  have hfd2 := b1.fd_of hr2 hb (⟨hon, by rw [b3 _ _ hd0.1 hd0.2, if_pos ⟨rfl, rfl⟩]; exact tb_zd⟩ : Ed _ _ o pg (fd s1 root pg).1 0)
  have hup := b1.way_up hb 3 root [] (⟨root_on hr2 hb, rfl⟩ : Up s2 ty1 o pg [(root, 3)])
  rw [List.append_nil] at hup
  obtain ⟨l, hl⟩ := way_end s2.xs pg 0 3 root
  have hl2 : (wayF s2.xs pg 0 3 root).reverse = ((fd s1 root pg).1, 0) :: l.reverse := by
    rw [hl, List.reverse_append, List.reverse_singleton, List.singleton_append, show endF s2.xs pg 0 3 root = fd s2 root pg from rfl, hfd2]
  rw [hl2] at hup ⊢
  obtain ⟨ty', c1, c2, c2', c3, c4⟩ := Inv.thin_sub hb _ _ _ _ _ b1 hup (fun f t _ _ e => e)
  have hds : s2.ds = s1.ds := by rw [← hs2]; rfl
  have hsub : Sub s1 ty1 s2 ty1 := ⟨fun _ _ h => h, fun f i a b => by
    rw [b3 f i a b]
    split
    · exact .inr rfl
    · exact .inl rfl⟩
  have hst := (a3.trans b2).trans c2
  refine ⟨hE, ty', c1, hst, ?_, fun o' pg' q hb' hv => ?_, fun pg' hb' hlg => ?_⟩
  · rw [c3, hds]
    exact a4
  · have hv2 := c4 _ _ _ hb' (b4 o' pg' q hb' (a8 o' pg' q hb' hv))
    have e : Mt o pg 0 o' pg' ↔ o' = o ∧ pg' = pg := by
      unfold Mt
      rw [sp_0]
      constructor
      · rintro ⟨x, y⟩; exact ⟨x, by omega⟩
      · rintro ⟨x, y⟩; exact ⟨x, by omega⟩
    by_cases hm : o' = o ∧ pg' = pg
    · rw [if_pos (e.2 hm), vE_np rfl] at hv2
      rw [if_pos hm]
      exact hv2
    · rw [if_neg (fun hh => hm (e.1 hh))] at hv2
      rw [if_neg hm]
      exact hv2
  · have hl1 := (hsub.trans c2').large a2 c1 hr1 (hst.root root _ hr rfl) hb' hlg
    exact ⟨a9 o pg' root hb' hr hl1, hsml pg' hb' hl1⟩
/-- What is put, was not there. -/
theorem Inv.put_no (h : Inv s ty (-1)) {o root pg : Int} {lo : Nat} {e : P.En} (hr : ty root = some ⟨o, 3, 0⟩) (hlo : lo = 0 ∨ lo = 1) (h0 : putE s root pg lo e = 0) {pg' : Int} (hm : pg' / P.sp lo = pg / P.sp lo) : Vw s ty o pg' (0, 0) := by
  obtain ⟨a1, -, -, -, a5, -⟩ := putE_in h0
  have hon := root_on hr a1
  obtain ⟨b1, b2, b3, -⟩ := h.end_on a1 lo 3 root (by omega) hon
  rw [en_pl a1 b3 (h.low b1)] at a5
  generalize (endF s.xs pg lo 3 root).1 = f at *
  generalize (endF s.xs pg lo 3 root).2 = v at *
  have e2 : pg' / wi v = pg / wi v ∧ dg pg' v = dg pg v := by
    unfold dg
    rcases hlo with rfl | rfl
    · rw [sp_0] at hm
      obtain rfl : pg' = pg := by omega
      exact ⟨rfl, rfl⟩
    · rw [sp_1] at hm
      rcases (show v = 1 ∨ v = 2 ∨ v = 3 by omega) with rfl | rfl | rfl
      · rw [wi_1, sp_1]; omega
      · rw [wi_2, sp_2]; omega
      · rw [wi_3, sp_3]; omega
  refine ⟨f, v, ⟨?_, ?_⟩, ?_⟩
  · unfold On
    rw [e2.1]
    exact b1
  · rw [e2.2]
    exact tb_np a5
  · rw [e2.2, vE_np a5]
/-- The sixteens in which there may be a large entry. -/
def Lgs (s : Sm) (root : Int) (B : List Int) : Prop := ∀ pg, P.btw pg 0 65535 = true → (fdE s root pg).l = true → pg / 16 ∈ B
theorem filt_len {B : List Int} {b : Int} : (B.filter fun x => x != b).length ≤ B.length ∧ (b ∈ B → (B.filter fun x => x != b).length + 1 ≤ B.length) := by
  induction B with
  | nil => exact ⟨Nat.le_refl _, fun h => by cases h⟩
  | cons a B ih =>
    by_cases e : a = b
    · subst e
      have : (List.filter (fun x => x != a) (a :: B)) = B.filter fun x => x != a := by simp
      rw [this, List.length_cons]
      have := ih.1
      exact ⟨by omega, fun _ => by omega⟩
    · have : (List.filter (fun x => x != b) (a :: B)) = a :: B.filter fun x => x != b := by simp [e]
      rw [this, List.length_cons, List.length_cons]
      refine ⟨by have := ih.1; omega, fun h => ?_⟩
      rcases List.mem_cons.1 h with h | h
      · exact absurd h.symm e
      · have := ih.2 h
        omega
/-- Where no page is mapped there is the root alone, whose words are 0; the tables are two, and the others are retired. -/
theorem Inv.ends (h : Inv s ty (-1)) (ho : Own ty) {root : Int} (hr : ty root = some ⟨1, 3, 0⟩) (h2 : nT ty 2 s.ds.length = 1) (hv : ∀ pg, P.btw pg 0 65535 = true → Vw s ty 1 pg (0, 0)) :
    gat s.xs root = [(root, 3)] ∧ (∀ j : Int, 0 ≤ j → j < 16 → wordAt s.xs (16 * root + j) = 0) ∧ O.cK s.ds 3 = 2 := by
  obtain ⟨a, b⟩ := h.alone_root hr hv
  obtain ⟨c, d⟩ := h.gat_nd hr
  have hg : gat s.xs root = [(root, 3)] := by
    have hall : ∀ z, z ∈ gat s.xs root → z.1 = root := fun z hz => by
      obtain ⟨-, p, hp⟩ := d z hz
      exact a _ _ hp rfl
    rw [gat_self] at c hall ⊢
    cases hq : (gat s.xs root).flatMap (kids s.xs) with
    | nil => rfl
    | cons z q =>
      rw [hq] at c hall
      have := (List.pairwise_cons.1 c).1 z (List.mem_cons_self ..)
      exact absurd (hall z (List.mem_cons_of_mem _ (List.mem_cons_self ..))).symm this
  refine ⟨hg, fun j j0 j1 => ?_, ?_⟩
  · rw [h.wds root _ j hr j0 j1, b j j0 j1]
    exact pk_zd'
  · rw [h.tables ho, h2, ← h.gat_count hr, hg]
    rfl
end
end Go.Proofs.YtpfmmlbakbhklaaGreatDoor
namespace Go.Proofs.YtpfmmlbakbhklaaGreatDoor
open Go.RowKit
/-- Which pages of the first guest are mapped. -/
structure Mp (s : Sm) (ty : Int → Option Kd) (L : List Int) : Prop where
  yes : ∀ pg, pg ∈ L → P.btw pg 0 65535 = true ∧ ∃ q, Vw s ty 1 pg q ∧ q.2 ≠ 0
  no : ∀ pg, P.btw pg 0 65535 = true → pg ∉ L → Vw s ty 1 pg (0, 0)
  nd : L.Pairwise (· ≠ ·)
section
variable {s s' : Sm} {ty ty' : Int → Option Kd} {L M : List Int}
theorem Mp.put (h : Inv s ty (-1)) (k : Mp s ty L) {root p r f : Int} {lo : Nat} {l : Bool} (hr : ty root = some ⟨1, 3, 0⟩) (hlo : lo = 0 ∨ lo = 1) (h0 : putE s root p lo ⟨true, r, l, f⟩ = 0)
    (hv : ∀ o' pg' q, P.btw pg' 0 65535 = true → Vw s ty o' pg' q → Vw s' ty' o' pg' (if Mt 1 p lo o' pg' then vE ⟨true, r, l, f⟩ lo pg' else q))
    (hM : ∀ pg, pg ∈ M ↔ pg / P.sp lo = p / P.sp lo) (hMb : ∀ pg, pg ∈ M → P.btw pg 0 65535 = true) (hnd : M.Pairwise (· ≠ ·)) : Mp s' ty' (L ++ M) := by
  have hr0 : r ≠ 0 := by
    have := P.btw_yes.1 (putE_in h0).2.2.1
    simp only at this
    omega
  have hve : ∀ pg, (vE ⟨true, r, l, f⟩ lo pg).2 ≠ 0 := fun pg => by
    unfold vE
    rw [if_pos rfl]
    exact hr0
  have hin : ∀ pg, pg ∈ M → Vw s ty 1 pg (0, 0) := fun pg hpg => h.put_no hr hlo h0 ((hM pg).1 hpg)
  refine ⟨fun pg hpg => ?_, fun pg hb hpg => ?_, ?_⟩
  · rcases List.mem_append.1 hpg with hL | hm
    · obtain ⟨hb, q, hq, hq0⟩ := k.yes pg hL
      refine ⟨hb, _, hv 1 pg q hb hq, ?_⟩
      split
      · exact hve pg
      · exact hq0
    · have hb := hMb pg hm
      have := hv 1 pg _ hb (hin pg hm)
      rw [if_pos ⟨rfl, (hM pg).1 hm⟩] at this
      exact ⟨hb, _, this, hve pg⟩
  · have h1 : pg ∉ L := fun e => hpg (List.mem_append_left _ e)
    have h2 : pg ∉ M := fun e => hpg (List.mem_append_right _ e)
    have := hv 1 pg _ hb (k.no pg hb h1)
    rw [if_neg (fun e : Mt 1 p lo 1 pg => h2 ((hM pg).2 e.2))] at this
    exact this
  · refine List.pairwise_append.2 ⟨k.nd, hnd, fun a ha b hb e => ?_⟩
    subst e
    obtain ⟨hbb, q, hq, hq0⟩ := k.yes a ha
    rw [h.vw_uniq hq (hin a hb)] at hq0
    exact hq0 rfl
theorem Mp.take {pg : Int} (k : Mp s ty (pg :: L))
    (hv : ∀ o' pg' q, P.btw pg' 0 65535 = true → Vw s ty o' pg' q → Vw s' ty' o' pg' (if o' = 1 ∧ pg' = pg then (0, 0) else q)) : Mp s' ty' L := by
  obtain ⟨n1, n2⟩ := List.pairwise_cons.1 k.nd
  refine ⟨fun p hp => ?_, fun p hb hp => ?_, n2⟩
  · obtain ⟨hb, q, hq, hq0⟩ := k.yes p (List.mem_cons_of_mem _ hp)
    have := hv 1 p q hb hq
    rw [if_neg (fun e => n1 p hp e.2.symm)] at this
    exact ⟨hb, q, this, hq0⟩
  · by_cases e : p = pg
    · obtain ⟨hb', q, hq, -⟩ := k.yes pg (List.mem_cons_self ..)
      have := hv 1 pg q hb' hq
      rw [if_pos ⟨rfl, rfl⟩] at this
      rw [e]
      exact this
    · have := hv 1 p _ hb (k.no p hb (fun h => (List.mem_cons.1 h).elim e hp))
      rw [if_neg (fun h => e h.2)] at this
      exact this
/-- Sixteen pages, one behind the other. -/
def blkL (p : Int) (m : Nat) : List Int := (List.range m).map fun j => p + (j : Nat)
theorem blkL_zero (p : Int) : blkL p 0 = [] := rfl
theorem blkL_succ (p : Int) (m : Nat) : blkL p (m + 1) = blkL p m ++ [p + (m : Nat)] := by unfold blkL; rw [List.range_succ, List.map_append]; rfl
theorem blkL_len (p : Int) (m : Nat) : (blkL p m).length = m := by simp [blkL]
theorem blkL_mem {p : Int} (h : p % 16 = 0) (q : Int) : q ∈ blkL p 16 ↔ q / 16 = p / 16 := by
  unfold blkL
  rw [List.mem_map]
  constructor
  · rintro ⟨j, hj, rfl⟩
    have := List.mem_range.1 hj
    omega
  · intro e
    exact ⟨(q - p).toNat, List.mem_range.2 (by omega), by omega⟩
theorem blkL_nd (p : Int) (m : Nat) : (blkL p m).Pairwise (· ≠ ·) := by
  unfold blkL
  rw [List.pairwise_map]
  exact (List.pairwise_lt_range).imp fun h e => by omega
end
/-- What is known of the world behind each call. -/
structure Eg (w0 : World) (d : Sd) (k : Nat) (L : List Int) (w : World) (s : Sm) (ty : Int → Option Kd) : Prop where
  fv : Fv w0 d s k w
  inv : Inv s ty (-1)
  r0 : ty d.r0 = some ⟨1, 3, 0⟩
  own : Own ty
  n2 : nT ty 2 s.ds.length = 1
  mp : Mp s ty L
/-- What lies below n. -/
def Lw (d : Sd) (n : Nat) : Prop := (d.u.mp < n ∧ d.u.wb < n) ∧ (d.u.pp < n ∧ d.u.pb < n) ∧ d.g < n ∧ d.a0 < n ∧ ∀ a1, d.x1 = some ⟨a1, 0, none⟩ → a1 < n
section
variable {w0 w w' : World} {d : Sd} {s s' : Sm} {ty ty' : Int → Option Kd} {k k' i i' n N : Nat} {L L' : List Int}
theorem Fv.lw (h : Fv w0 d s k w) : Lw d w.heap.size := by
  refine ⟨h.wo.lt.1, h.wo.lt.2, lt_of_block h.blk, h.t0.lt, fun a1 e => ?_⟩
  rcases h.t1 with e1 | ⟨a, e1, i⟩
  · rw [e1] at e; cases e
  · rw [e1] at e
    injection e with e
    injection e with e
    rw [← e]
    exact i.lt
theorem Fv.belowN (h : Fv w0 d s k w) (b : Below N w w') (hl : Lw d N) (hn : w0.heap.size ≤ N) : Fv w0 d s k w' := by
  obtain ⟨l1, l2, l3, l4, l5⟩ := hl
  refine ⟨(b.block _ l3).trans h.blk, h.wo.belowN b l1 l2, (b.block _ l4).trans h.t0, ?_, h.lo, h.bel.trans (b.mono hn)⟩
  rcases h.t1 with e1 | ⟨a, e1, i⟩
  · exact .inl e1
  · exact .inr ⟨a, e1, (b.block _ (l5 a e1)).trans i⟩
theorem Eg.belowN (h : Eg w0 d k L w s ty) (b : Below N w w') (hl : Lw d N) (hn : w0.heap.size ≤ N) : Eg w0 d k L w' s ty := ⟨h.fv.belowN b hl hn, h.inv, h.r0, h.own, h.n2, h.mp⟩
theorem Eg.below (h : Eg w0 d k L w s ty) (b : Below w.heap.size w w') : Eg w0 d k L w' s ty := ⟨h.fv.below b, h.inv, h.r0, h.own, h.n2, h.mp⟩
theorem Eg.mono (h : Eg w0 d k L w s ty) (hk : k ≤ k') : Eg w0 d k' L w s ty := ⟨h.fv.mono hk, h.inv, h.r0, h.own, h.n2, h.mp⟩
theorem Eg.turn (h : Eg w0 d k L w s ty) (hC : Ch d.u w w') (hW : Wo d.u w' s' k') (hi : Inv s' ty' (-1)) (hst : Stp 1 s ty s' ty') (hm : Mp s' ty' L') : Eg w0 d k' L' w' s' ty' :=
  ⟨h.fv.turn hC hW, hi, hst.root _ _ h.r0 rfl, hst.own (.inl rfl) h.own, by rw [hst.len, hst.nT_oth (by decide)]; exact h.n2, hm⟩
/-- While pages are mapped: i calls. -/
def En (w0 : World) (d : Sd) (k i : Nat) (L : List Int) (w : World) : Prop := ∃ s ty, Eg w0 d k L w s ty ∧ 198 ≤ O.cK s.ds 0 + 3 * i ∧ ∃ B : List Int, B.length ≤ i ∧ ∀ pg, pg ∈ L → pg / 16 ∈ B
theorem En.lw (h : En w0 d k i L w) : Lw d w.heap.size := h.elim fun _ h => h.elim fun _ h => h.1.fv.lw
theorem En.bel (h : En w0 d k i L w) : Below w0.heap.size w0 w := h.elim fun _ h => h.elim fun _ h => h.1.fv.bel
theorem En.belowN (h : En w0 d k i L w) (b : Below N w w') (hl : Lw d N) (hn : w0.heap.size ≤ N) : En w0 d k i L w' := by
  obtain ⟨s, ty, h, hn', hB⟩ := h
  exact ⟨s, ty, h.belowN b hl hn, hn', hB⟩
theorem En.below (h : En w0 d k i L w) (b : Below w.heap.size w w') : En w0 d k i L w' := by
  obtain ⟨s, ty, h, hn', hB⟩ := h
  exact ⟨s, ty, h.below b, hn', hB⟩
theorem En.mono (h : En w0 d k i L w) (hk : k ≤ k') (hi : i ≤ i') : En w0 d k' i' L w := by
  obtain ⟨s, ty, h, hn, B, hB, hBL⟩ := h
  exact ⟨s, ty, h.mono hk, by omega, B, by omega, hBL⟩
theorem En.map (h : En w0 d k i L w) (hk : k + 200 ≤ bnd) (pg f r : Int) : Calls Tryz.prog 21 #[.pointer (some ⟨d.a0, 0, none⟩), .int .i64 pg, .int .i64 f, .int .i64 r] w fun e w' => ∃ x : Int, e = .returned (.int .i64 x) ∧ En w0 d (k + 100) (i + 1) (if x = 0 then L ++ [pg] else L) w' ∧ Kp w w' := by
  obtain ⟨s, ty, h, hn, B, hB, hBL⟩ := h
  refine (map_at h.fv.t0 h.fv.wo hk pg f r).mono ?_
  rintro e w' ⟨rfl, hW, hC⟩
  refine ⟨_, rfl, ?_, .of_ch h.fv.wo hC⟩
  by_cases h0 : putE s d.r0 pg 0 ⟨true, r, false, f⟩ = 0
  · obtain ⟨ty', b1, b2, b3, -, -, b4⟩ := h.inv.put h.r0 (by decide) (.inl ⟨rfl, rfl⟩) h0
    have hl := endF_le' s.xs pg 0 3 d.r0
    have hb := (putE_in h0).1
    rw [if_pos h0]
    refine ⟨_, ty', h.turn hC hW b1 b2 (h.mp.put h.inv h.r0 (.inl rfl) h0 b4 (M := [pg]) (fun q => ?_) (fun q hq => ?_) (List.pairwise_singleton _ _)), by omega, pg / 16 :: B, by simp; omega, fun q hq => ?_⟩
    · rw [List.mem_singleton, sp_0]; omega
    · rw [List.mem_singleton.1 hq]; exact hb
    · rcases List.mem_append.1 hq with hq | hq
      · exact List.mem_cons_of_mem _ (hBL q hq)
      · rw [List.mem_singleton.1 hq]; exact List.mem_cons_self ..
  · rw [putT_err h0] at hW
    rw [if_neg h0]
    exact ⟨s, ty, h.turn hC hW h.inv (Stp.refl ..) h.mp, by omega, B, by omega, hBL⟩
theorem En.large (h : En w0 d k i L w) (hk : k + 200 ≤ bnd) (pg f r : Int) : Calls Tryz.prog 22 #[.pointer (some ⟨d.a0, 0, none⟩), .int .i64 pg, .int .i64 f, .int .i64 r] w fun e w' => ∃ x : Int, e = .returned (.int .i64 x) ∧ (x = 0 → 0 ≤ pg ∧ pg ≤ 65520) ∧ En w0 d (k + 100) (i + 1) (if x = 0 then L ++ blkL pg 16 else L) w' ∧ Kp w w' := by
  obtain ⟨s, ty, h, hn, B, hB, hBL⟩ := h
  refine (large_at h.fv.t0 h.fv.wo hk pg f r).mono ?_
  rintro e w' ⟨rfl, hW, hC⟩
  by_cases h0 : putE s d.r0 pg 1 ⟨true, r, true, f⟩ = 0
  · obtain ⟨ty', b1, b2, b3, -, -, b4⟩ := h.inv.put h.r0 (by decide) (.inr ⟨rfl, rfl⟩) h0
    have hl := endF_le' s.xs pg 1 3 d.r0
    have hb := P.btw_yes.1 (putE_in h0).1
    have hal := putE_al h0
    rw [sp_1] at hal
    refine ⟨_, rfl, fun _ => by omega, ?_, .of_ch h.fv.wo hC⟩
    rw [if_pos h0]
    refine ⟨_, ty', h.turn hC hW b1 b2 (h.mp.put h.inv h.r0 (.inr rfl) h0 b4 (M := blkL pg 16) (fun q => ?_) (fun q hq => ?_) (blkL_nd _ _)), by omega, pg / 16 :: B, by simp; omega, fun q hq => ?_⟩
    · rw [blkL_mem hal, sp_1]
    · have := (blkL_mem hal q).1 hq
      exact P.btw_yes.2 ⟨by omega, by omega⟩
    · rcases List.mem_append.1 hq with hq | hq
      · exact List.mem_cons_of_mem _ (hBL q hq)
      · rw [(blkL_mem hal q).1 hq]; exact List.mem_cons_self ..
  · rw [putT_err h0] at hW
    refine ⟨_, rfl, fun e => absurd e h0, ?_, .of_ch h.fv.wo hC⟩
    rw [if_neg h0]
    exact ⟨s, ty, h.turn hC hW h.inv (Stp.refl ..) h.mp, by omega, B, by omega, hBL⟩
/-- While pages are taken away: the others are mapped; n tables there were. -/
def Eu (w0 : World) (d : Sd) (k n : Nat) (L : List Int) (w : World) : Prop :=
  ∃ s0 ty0 s ty, Inv s0 ty0 (-1) ∧ ty0 d.r0 = some ⟨1, 3, 0⟩ ∧ (gat s0.xs d.r0).length = n ∧ Stp 1 s0 ty0 s ty ∧ Eg w0 d k L w s ty ∧ ∃ B, Lgs s d.r0 B ∧ B.length ≤ O.cK s.ds 0
theorem Eu.below (h : Eu w0 d k n L w) (b : Below w.heap.size w w') : Eu w0 d k n L w' := by
  obtain ⟨s0, ty0, s, ty, h1, h2, h3, h4, h5, h6⟩ := h
  exact ⟨s0, ty0, s, ty, h1, h2, h3, h4, h5.below b, h6⟩
theorem Eu.fv (h : Eu w0 d k n L w) : ∃ s, Fv w0 d s k w := by
  obtain ⟨s0, ty0, s, ty, h1, h2, h3, h4, h5, h6⟩ := h
  exact ⟨s, h5.fv⟩
theorem Mp.large (h : Inv s ty (-1)) (k : Mp s ty L) {root : Int} (hr : ty root = some ⟨1, 3, 0⟩) {pg : Int} (hb : P.btw pg 0 65535 = true) (hl : (fdE s root pg).l = true) : pg ∈ L := by
  apply Classical.byContradiction
  intro hn
  have e := h.vw_uniq (k.no pg hb hn) (h.vw_has hr hb)
  have ht := (h.ed hr hb).1.2
  rw [← h.fdE_pl hr hb] at ht
  have hrt : P.rt (fdE s root pg) = true := by rw [h.fdE_pl hr hb]; exact pl_rt _ _ _
  cases hp : (fdE s root pg).p
  · rw [np_l hrt hp] at hl
    cases hl
  · have := tb_no hrt hp ht
    unfold vE at e
    rw [hp, if_pos rfl] at e
    injection e with _ e
    omega
theorem En.all (h : En w0 d k i L w) (hi : i ≤ 20) : Calls Tryz.prog 16 #[.pointer (some ⟨d.a0, 0, none⟩)] w fun e w' => ∃ g n c, e = .returned (.slice (some ⟨g, 0, none⟩) n c) ∧ 1 ≤ n ∧ n ≤ 5000 ∧ Eu w0 d k n L w' ∧ Below w.heap.size w w' := by
  obtain ⟨s, ty, h, hn, B, hB, hBL⟩ := h
  refine (all_at h.fv.t0 h.fv.wo).mono ?_
  rintro e w' ⟨v, rfl, a, b⟩
  have h1 : 1 ≤ (gat s.xs d.r0).length := by rw [gat_self]; simp
  have h2 := gat_len s.xs d.r0
  obtain ⟨n, hn1⟩ : ∃ n, (gat s.xs d.r0).length = n + 1 := ⟨(gat s.xs d.r0).length - 1, by omega⟩
  rw [allL_len, hn1] at a
  obtain ⟨g, c, rfl⟩ := ownsRow_succ a
  exact ⟨g, n + 1, c, rfl, by omega, by omega, ⟨s, ty, s, ty, h.inv, h.r0, hn1, Stp.refl .., h.below b, B, fun pg hb hl => hBL pg (h.mp.large h.inv h.r0 hb hl), by omega⟩, b⟩
theorem Eu.unmap {pg : Int} (h : Eu w0 d k n (pg :: L) w) (hk : k + 200 ≤ bnd) : Calls Tryz.prog 23 #[.pointer (some ⟨d.a0, 0, none⟩), .int .i64 pg] w fun e w' => ∃ y : Int, e = .returned (.tuple #[.int .i64 y, .int .i64 0]) ∧ Eu w0 d (k + 100) n L w' ∧ Kp w w' := by
  obtain ⟨s0, ty0, s, ty, h1, h2, h3, h4, h, B, hB, hBn⟩ := h
  obtain ⟨hb, q, hq, hq0⟩ := h.mp.yes pg (List.mem_cons_self ..)
  obtain ⟨e0, ty', b1, b2, b3, b4, b5⟩ := h.inv.unmap_more h.r0 hb (by decide) (qE_of h.inv h.r0 hb hq hq0) (fun hl => by
    have := List.length_pos_of_mem (hB pg hb hl)
    omega)
  refine (unmap_at h.fv.t0 h.fv.wo hk pg).mono ?_
  rintro e w' ⟨rfl, hW, hC⟩
  rw [e0]
  refine ⟨_, rfl, ⟨s0, ty0, _, ty', h1, h2, h3, h4.trans b2, h.turn hC hW b1 b2 (h.mp.take b4), B.filter fun x => x != pg / 16, fun p hp hl => ?_, ?_⟩, .of_ch h.fv.wo hC⟩
  · obtain ⟨c1, c2⟩ := b5 p hp hl
    exact List.mem_filter.2 ⟨hB p hp c1, by simpa using c2⟩
  · have hf := filt_len (B := B) (b := pg / 16)
    by_cases hl : (fdE s d.r0 pg).l = true
    · rw [if_pos hl] at b3
      have := hf.2 (hB pg hb hl)
      omega
    · rw [if_neg hl] at b3
      have := hf.1
      omega
/-- Behind the last Unmap. -/
structure Ez (w0 : World) (d : Sd) (n : Nat) (w : World) (s : Sm) (k : Nat) : Prop where
  fv : Fv w0 d s k w
  all : allL s.xs d.r0 = [d.r0]
  zs : ∀ j : Int, 0 ≤ j → j < 16 → wordAt s.xs (16 * d.r0 + j) = 0
  tb : O.cK s.ds 3 = 2
  rt : n ≤ O.cK s.ds 5 + 1
  r0 : 0 ≤ d.r0 ∧ d.r0 ≤ 4095
  len : 16 * d.r0 + 16 ≤ s.xs.length
def El (w0 : World) (d : Sd) (n : Nat) (w : World) : Prop := ∃ s k, Ez w0 d n w s k
theorem Eu.last (h : Eu w0 d k n [] w) : El w0 d n w := by
  obtain ⟨s0, ty0, s, ty, h1, h2, h3, h4, h, B, hB, hBn⟩ := h
  have hv : ∀ pg, P.btw pg 0 65535 = true → Vw s ty 1 pg (0, 0) := fun pg hb => h.mp.no pg hb (by simp)
  obtain ⟨a, b, c⟩ := h.inv.ends h.own h.r0 h.n2 hv
  have hret := retired_many h1 h.inv h4 h2 (h.inv.alone_root h.r0 hv).1
  have ht := h.inv.tin _ _ h.r0
  have hl := h.inv.len
  refine ⟨s, k, h.fv, ?_, b, c, by rw [← h3]; exact hret, h.inv.low h.r0, by omega⟩
  unfold allL
  rw [a]
  simp
theorem Ez.below (h : Ez w0 d n w s k) (b : Below w.heap.size w w') : Ez w0 d n w' s k := ⟨h.fv.below b, h.all, h.zs, h.tb, h.rt, h.r0, h.len⟩
theorem El.below (h : El w0 d n w) (b : Below w.heap.size w w') : El w0 d n w' := h.elim fun s h => h.elim fun k h => ⟨s, k, h.below b⟩
theorem El.r0_in (h : El w0 d n w) : 0 ≤ d.r0 ∧ d.r0 ≤ 4095 := h.elim fun _ h => h.elim fun _ h => h.r0
theorem El.bel (h : El w0 d n w) : Below w0.heap.size w0 w := h.elim fun _ h => h.elim fun _ h => h.fv.bel
theorem El.all (h : El w0 d n w) : Calls Tryz.prog 16 #[.pointer (some ⟨d.a0, 0, none⟩)] w fun e w' => ∃ g c, e = .returned (.slice (some ⟨g, 0, none⟩) 1 c) ∧ w'.cell? ⟨g, 0, none⟩ = some (.int .i64 d.r0) ∧ El w0 d n w' ∧ Below w.heap.size w w' := by
  obtain ⟨s, k, h⟩ := h
  refine (all_at h.fv.t0 h.fv.wo).mono ?_
  rintro e w' ⟨v, rfl, a, b⟩
  rw [h.all] at a
  obtain ⟨g, c, rfl⟩ := ownsRow_succ a
  obtain ⟨-, cur, hgh, -, -, -, htk⟩ := row_block a
  refine ⟨g, c, rfl, P.cell_of hgh ?_, ⟨s, k, h.below b⟩, b⟩
  have : (cur.toList.take (1 * 1))[0]? = some (.int .i64 d.r0) := by
    rw [show [d.r0].length * 1 = 1 * 1 from rfl] at htk
    rw [htk]
    rfl
  rw [List.getElem?_take_of_lt (by decide)] at this
  simpa using this
theorem El.root (h : El w0 d n w) : Calls Tryz.prog 18 #[.pointer (some ⟨d.a0, 0, none⟩)] w fun e w' => e = .returned (.int .i64 d.r0) ∧ w' = w := by
  obtain ⟨s, k, h⟩ := h
  exact root_at h.fv.t0
theorem El.words (h : El w0 d n w) : Calls Tryz.prog 29 #[.pointer (some ⟨d.u.mp, 0, none⟩), .int .i64 (16 * d.r0), .int .i64 16] w fun e w' => (∃ g off c, e = .returned (.slice (some ⟨g, off, none⟩) 16 c) ∧ g < w'.heap.size ∧ ∀ j, j < 16 → w'.cell? ⟨g, off + j, none⟩ = some (.int .u64 0)) ∧ El w0 d n w' ∧ Below w.heap.size w w' := by
  obtain ⟨s, k, h⟩ := h
  obtain ⟨a, b, hm, -⟩ := h.fv.wo.mem
  have hr := h.r0
  have hlen := h.len
  have hall : allB s.xs.length (16 * d.r0) 16 = true := allB_yes.2 ⟨by omega, by omega, by omega⟩
  refine (words_any (s := ⟨s.xs, a, b⟩) hm (16 * d.r0) 16 (by decide)).mono ?_
  rintro e w' ⟨v, rfl, hL, hB⟩
  refine ⟨?_, ⟨s, k, h.below hB⟩, hB⟩
  unfold wordsV at hL
  simp only at hL
  rw [hall, if_pos rfl] at hL
  have hcl : (cut s.xs (16 * d.r0).toNat (16 : Int).toNat).length = 16 := cut_length (by omega)
  obtain ⟨-, q, c, rfl, hc⟩ := hL
  rw [hcl] at hc ⊢
  obtain ⟨g, off, rfl, hlt, hcell⟩ := hc (by intro e; rw [e] at hcl; simp at hcl)
  refine ⟨g, off, c, rfl, hlt, fun j hj => ?_⟩
  rw [hcell j hj]
  have hw := h.zs j (by omega) (by omega)
  unfold wordAt at hw
  rw [if_pos (inB_yes.2 ⟨by omega, by omega⟩)] at hw
  have : (cut s.xs (16 * d.r0).toNat (16 : Int).toNat).getD j 0 = s.xs.getD (16 * d.r0 + j).toNat 0 := by
    rw [show (16 : Int).toNat = 16 from rfl]
    simp only [List.getD, cut_get hj]
    rw [show (16 * d.r0 + (j : Nat)).toNat = (16 * d.r0).toNat + j by omega]
  rw [this, hw]
theorem El.count3 (h : El w0 d n w) : Calls Tryz.prog 31 #[.pointer (some ⟨d.u.pp, 0, none⟩), .int .i64 3] w fun e w' => e = .returned (.int .i64 2) ∧ El w0 d n w' ∧ Below w.heap.size w w' := by
  obtain ⟨s, k, h⟩ := h
  refine (O.count_at h.fv.wo.pool 3).mono ?_
  rintro e w' ⟨rfl, b⟩
  rw [h.tb]
  exact ⟨rfl, ⟨s, k, h.below b⟩, b⟩
theorem El.count5 (h : El w0 d n w) : Calls Tryz.prog 31 #[.pointer (some ⟨d.u.pp, 0, none⟩), .int .i64 5] w fun e w' => (∃ c : Nat, e = .returned (.int .i64 c) ∧ n ≤ c + 1) ∧ El w0 d n w' ∧ Below w.heap.size w w' := by
  obtain ⟨s, k, h⟩ := h
  refine (O.count_at h.fv.wo.pool 5).mono ?_
  rintro e w' ⟨rfl, b⟩
  exact ⟨⟨_, rfl, h.rt⟩, ⟨s, k, h.below b⟩, b⟩
theorem El.known (h : El w0 d n w) : Calls Tryz.prog 20 #[] w fun e w' => e = .returned (.bool true) ∧ El w0 d n w' ∧ Below w.heap.size w w' := by
  obtain ⟨s, k, h⟩ := h
  refine (known_yes _ h.fv.wo.tab).mono ?_
  rintro e w' ⟨rfl, b⟩
  exact ⟨rfl, ⟨s, k, h.below b⟩, b⟩
end
/-- A new world of 200 frames or more. -/
theorem En.start {w w1 : World} {m : Nat} {u v : Si} {a0 b0 a1 b1 : Nat} {x1 : Option Addr} {ty : Int → Option Kd} (hb : Bgn w m w1 u v a0 b0 a1 b1 x1) (hB : Bare m ty) (ho : Own ty) (hm : 199 ≤ m) :
    En w ⟨w.heap.size, u, v, a0, b0, b1, x1, newF (z0 (m + 1)) 1, newF (s1 m) 2⟩ 32 0 [] w1 :=
  ⟨s2 m, ty, ⟨Fv.of_bgn hb, hB.inv, hB.r0, ho, by rw [hB.len]; exact hB.n2, ⟨fun pg h => (by cases h), fun pg hb _ => hB.no 1 pg (.inl rfl) hb, List.Pairwise.nil⟩⟩, by have := hB.free; omega, [], Nat.le_refl _, fun pg h => by cases h⟩
/-- A slice of one's own stays where blocks of other types are turned. -/
theorem Kp.row {w w' : World} (h : Kp w w') {n m : Nat} {v : Value} {xs : List Value} (hr : w.ownsRow n 3 1 v m xs) : w'.ownsRow n 3 1 v m xs := by
  refine ⟨hr.1, ?_⟩
  rcases hr.2 with e | ⟨g, cap, cur, e1, e2, e3, e4⟩
  · exact .inl e
  · exact .inr ⟨g, cap, cur, e1, e2, h _ _ _ (by decide) (by decide) (by decide) (by decide) e3, e4⟩
theorem row_not {W : World} {n m z : Nat} {v : Value} {xs : List Value} {c : Array Value} {T : TypeId} (h : W.ownsRow n 3 1 v m xs) (hz : W.heap[z]? = some (.cells c T (0, 0))) (hT : T ≠ 3) : some z = v.ownBlock → False := fun e => by
  rcases h.2 with ⟨h, -⟩ | ⟨g', cap', cur', hgg, -, hgh, -⟩
  · rw [h] at e; simp [Value.ownBlock] at e
  · rw [hgg] at e
    simp [Value.ownBlock] at e
    subst e
    rw [hz] at hgh
    injection hgh with hgh
    injection hgh with _ hgh _
    exact hT hgh
theorem grow_cell {W W' : World} {n m z : Nat} {v : Value} {xs : List Value} {c : Array Value} {T : TypeId} {tmp : Obj} (h : W.ownsRow n 3 1 v m xs) (hz : W.heap[z]? = some (.cells c T (0, 0))) (hT : T ≠ 3) (hg : (W.alloc tmp).grownBy W' v.ownBlock) : W'.heap[z]? = some (.cells c T (0, 0)) :=
  (hg.block z (by have := lt_of_block hz; simp; omega) (row_not h hz hT)).trans (P.hkeep hz tmp)
theorem grow_below {W W' : World} {n m : Nat} {v : Value} {xs : List Value} {tmp : Obj} (h : W.ownsRow n 3 1 v m xs) (hn : n ≤ W.heap.size) (hg : (W.alloc tmp).grownBy W' v.ownBlock) : Below n W W' :=
  ((Below.refl n W).alloc hn tmp).grown hg (by simp; omega) fun j hj => (h.lt _ hj).1
/-- A slice of one's own, to read. -/
def Pg (W : World) (q : Option Addr) (L : List Int) : Prop := L ≠ [] → ∃ b cur, q = some ⟨b, 0, none⟩ ∧ W.heap[b]? = some (.cells cur 3 (0, 0)) ∧ ∀ i, i < L.length → cur[i]? = some (.int .i64 (L.getD i 0))
theorem Pg.kp {w w' : World} {q : Option Addr} {L : List Int} (h : Pg w q L) (k : Kp w w') : Pg w' q L := fun hne => by
  obtain ⟨b, cur, h1, h2, h3⟩ := h hne
  exact ⟨b, cur, h1, k _ _ _ (by decide) (by decide) (by decide) (by decide) h2, h3⟩
theorem pg_of {w : World} {n : Nat} {v : Value} {L : List Int} (h : w.ownsRow n 3 1 v L.length (L.map (Value.int .i64))) : ∃ q c, v = .slice q L.length c ∧ Pg w q L := by
  cases hL : L.length with
  | zero =>
    have e : L = [] := List.eq_nil_of_length_eq_zero hL
    rw [hL] at h
    rcases h.2 with ⟨e1, -⟩ | ⟨g, cap, cur, e1, -⟩
    · exact ⟨none, 0, e1, fun hne => absurd e hne⟩
    · exact ⟨_, _, e1, fun hne => absurd e hne⟩
  | succ m =>
    rw [hL] at h
    obtain ⟨g, c, rfl⟩ := ownsRow_succ h
    obtain ⟨-, cur, hgh, -, -, -, htk⟩ := row_block h
    refine ⟨_, c, rfl, fun _ => ⟨g, cur, rfl, hgh, fun i hi => ?_⟩⟩
    have h1 : (cur.toList.take ((m + 1) * 1))[i]? = some (.int .i64 (L.getD i 0)) := by
      rw [htk, List.getElem?_map, List.getElem?_eq_getElem hi]
      simp [List.getD, hi]
    rw [List.getElem?_take_of_lt (by omega)] at h1
    simpa using h1
/-- Behind the last All: what it told lies there. -/
def Ek (w0 : World) (d : Sd) (n g : Nat) (w : World) : Prop := El w0 d n w ∧ w.cell? ⟨g, 0, none⟩ = some (.int .i64 d.r0)
theorem Ek.below {w0 w w' : World} {d : Sd} {n g : Nat} (h : Ek w0 d n g w) (b : Below w.heap.size w w') : Ek w0 d n g w' :=
  ⟨h.1.below b, (b.cell (p := ⟨g, 0, none⟩) (World.block_lt_of_cell? w ⟨g, 0, none⟩ h.2)).trans h.2⟩
theorem Ek.c0 {w0 w : World} {d : Sd} {n g : Nat} (h : Ek w0 d n g w) : w.cell? ⟨d.g, 0, none⟩ = some (.pointer (some ⟨d.u.mp, 0, none⟩)) := h.1.elim fun _ h => h.elim fun _ h => P.cell_of (i := 0) h.fv.blk rfl
theorem Ek.c1 {w0 w : World} {d : Sd} {n g : Nat} (h : Ek w0 d n g w) : w.cell? ⟨d.g, 1, none⟩ = some (.pointer (some ⟨d.u.pp, 0, none⟩)) := h.1.elim fun _ h => h.elim fun _ h => P.cell_of (i := 1) h.fv.blk rfl
/-- Sixteen words that are 0. -/
def Zr (w : World) (g off : Nat) : Prop := g < w.heap.size ∧ ∀ j : Nat, j < 16 → w.cell? ⟨g, off + j, none⟩ = some (.int .u64 0)
theorem Zr.below {w w' : World} {g off : Nat} (h : Zr w g off) (b : Below w.heap.size w w') : Zr w' g off := ⟨Nat.lt_of_lt_of_le h.1 b.size, fun j hj => (b.cell (p := ⟨g, off + j, none⟩) h.1).trans (h.2 j hj)⟩
end Go.Proofs.YtpfmmlbakbhklaaGreatDoor
