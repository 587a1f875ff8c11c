/- A round of the program's and the document's: what each call of it tells and leaves, by conditions on memory that are letters. Conditions: the counts are below 2^62. -/
import Derived.Test.YtfnfbceblpaggaaY5
import Derived.Test.YtfnfbceblpaggaaL4
import Derived.Test.YtfnfbceblpaggaaW5
namespace Go.Proofs.Ytfnfbceblpaggaa
open Go.RowKit

structure Rnd (fn fs : Nat) (T0 T1 T2 : World → Prop) (g g' p p' : Nat) (a : Ac) (dn : Bool) : Prop where
  n1 : ∀ {w' : World}, T0 w' → Calls Try.prog fn #[.pointer (some ⟨g, 0, none⟩)] w' fun e w'' => e = .returned (acV a) ∧ T0 w''
  n2 : ∀ {w' : World}, T0 w' → Calls Try.prog 18 #[.pointer (some ⟨g', 0, none⟩)] w' fun e w'' => e = .returned (acV a) ∧ T0 w''
  s1 : ∀ {w' : World}, T0 w' → Calls Try.prog fs #[.pointer (some ⟨g, 0, none⟩), .pointer (some ⟨p, 0, none⟩)] w' fun e w'' => e = .returned (.bool dn) ∧ T1 w''
  s2 : ∀ {w' : World}, T1 w' → Calls Try.prog 20 #[.pointer (some ⟨g', 0, none⟩), .pointer (some ⟨p', 0, none⟩)] w' fun e w'' => e = .returned (.bool dn) ∧ T2 w''
structure ReP (T2 : World → Prop) (g g' : Nat) (wh dn : Bool) : Prop where
  re : ∀ {w' : World}, T2 w' → Calls Try.prog 21 #[.pointer (some ⟨g, 0, none⟩)] w' fun e w'' => e = .returned (.tuple #[.bool wh, .bool dn]) ∧ T2 w''
  c7 : ∀ {w' : World}, T2 w' → w'.cell? ⟨g', 7, none⟩ = some (.bool wh)
  c6 : ∀ {w' : World}, T2 w' → w'.cell? ⟨g', 6, none⟩ = some (.bool dn)
structure ReG (T2 : World → Prop) (g g' : Nat) (v u : Int) (wh dn : Bool) : Prop where
  re : ∀ {w' : World}, T2 w' → Calls Try.prog 24 #[.pointer (some ⟨g, 0, none⟩)] w' fun e w'' => e = .returned (.tuple #[.int .u64 v, .bool wh, .bool dn]) ∧ T2 w''
  c7 : ∀ {w' : World}, T2 w' → w'.cell? ⟨g', 7, none⟩ = some (.bool wh)
  c6 : ∀ {w' : World}, T2 w' → w'.cell? ⟨g', 6, none⟩ = some (.bool dn)
  c3 : ∀ {w' : World}, T2 w' → w'.cell? ⟨g', 3, none⟩ = some (.int .u64 u)
  e1 : wh = true → u = v
  e0 : wh = false → v = 0
structure Aft (T2 : World → Prop) (T3 : Nat → World → Prop) (p p' b' L : Nat) : Prop where
  cf : ∀ {w' : World}, T2 w' → w'.cell? ⟨p', 0, none⟩ = some (.slice (some ⟨b', 0, none⟩) L L)
  dr : ∀ {w' : World}, T2 w' → T2 w'.drew
  w1 : ∀ {w' : World}, T2 w' → Calls Try.prog 26 #[.pointer (some ⟨p, 0, none⟩), .int .i64 0, .int .i64 (L : Int)] w' fun e w'' => ∃ u, e = .returned (.slice (some ⟨u, 0, none⟩) L L) ∧ T3 u w'' ∧ w''.cell? ⟨p', 0, none⟩ = some (.slice (some ⟨b', 0, none⟩) L L)
  w2 : ∀ {w' : World} {u : Nat}, T3 u w' → Calls Try.prog 25 #[.slice (some ⟨u, 0, none⟩) L L, .slice (some ⟨b', 0, none⟩) L L] w' fun e w'' => e = .returned (.bool true) ∧ T2 w'' ∧ w''.cell? ⟨p', 0, none⟩ = some (.slice (some ⟨b', 0, none⟩) L L)
structure Ini (T0 T1 T2 : World → Prop) (S : World → Prop) (p p' : Nat) (ad n e0 : Int) : Prop where
  i1 : ∀ {w' : World}, T0 w' → Calls Try.prog 12 #[.agg #[.int .i64 ad, .int .i64 n], .pointer (some ⟨p, 0, none⟩)] w' fun e w'' => e = .returned (.int .i64 e0) ∧ T1 w'' ∧ S w''
  i2 : ∀ {w' : World}, T1 w' → Calls Try.prog 13 #[.pointer (some ⟨p', 0, none⟩), .int .i64 ad, .int .i64 n] w' fun e w'' => e = .returned (.int .i64 e0) ∧ T2 w'' ∧ S w''
section
variable {w0 w w' : World} {p b r : Nat} {ad n : Int} {p' b' np : Nat} {GP : Nat → Nat} {vP : Value} {ng : Nat} {GG : Nat → Nat} {vG : Value} {nu : Nat} {GU : Nat → Nat} {vU : Value} {s s' s1 : St} {fP fG : Nat → Pr} {fU : Nat → Us} {L : Nat} {c : Cs} {q0 : Nat}

theorem mk_rndP (P : Pu L np ng s fP fG fU) {i j : Nat} (hi : i < np) (hu : i < nu) (hc : Cnt s j) (hj : j ≤ bnd) :
    Rnd 17 19 (Tw w0 p b r ad n p' b' np GP vP ng GG vG nu GU vU s s fP fG fU) (Tw w0 p b r ad n p' b' np GP vP ng GG vG nu GU vU (pT s (fP i)) s (put fP i (pX s (fP i))) fG fU)
      (Tw w0 p b r ad n p' b' np GP vP ng GG vG nu GU vU (pT s (fP i)) (pT s (fP i)) (put fP i (pX s (fP i))) fG (put fU i (uX s (fU i)))) (GP i) (GU i) p p' (pNext (fP i)) ((pX s (fP i)).tn == 5) := by
  obtain ⟨hl, hy⟩ := P.lp i hi
  refine ⟨fun {w'} H => ?_, fun {w'} H => ?_, fun {w'} H => ?_, fun {w'} H => ?_⟩
  · refine (nextP (H.a.hsP hi).pr hy.xo).mono ?_
    rintro e w'' ⟨rfl, K⟩
    exact ⟨rfl, H.below K⟩
  · refine (unext_at (H.rs hu).us (hl.uok hy)).mono ?_
    rintro e w'' ⟨rfl, K⟩
    exact ⟨by rw [hl.next], H.below K⟩
  · refine (Ytfnfbceblpaggaa.stepP (H.a.hsP hi) hy.xo hc hj).mono ?_
    rintro e w'' ⟨rfl, K⟩
    exact ⟨rfl, H.stepP hi K⟩
  · refine (ustep_at (H.rs hu) (hl.uok hy) hc hj).mono ?_
    rintro e w'' ⟨rfl, K⟩
    rw [hl.turn] at K
    exact ⟨by rw [(hl.step hy.xo s).dn], H.stepU hu K⟩
theorem mk_rndG (P : Pu L np ng s fP fG fU) {i j : Nat} (hi : i < ng) (hu : np + i < nu) (hc : Cnt s j) (hj : j ≤ bnd) :
    Rnd 22 23 (Tw w0 p b r ad n p' b' np GP vP ng GG vG nu GU vU s s fP fG fU) (Tw w0 p b r ad n p' b' np GP vP ng GG vG nu GU vU (pT s (fG i)) s fP (put fG i (pX s (fG i))) fU)
      (Tw w0 p b r ad n p' b' np GP vP ng GG vG nu GU vU (pT s (fG i)) (pT s (fG i)) fP (put fG i (pX s (fG i))) (put fU (np + i) (uX s (fU (np + i))))) (GG i) (GU (np + i)) p p' (pNext (fG i)) ((pX s (fG i)).tn == 5) := by
  obtain ⟨hl, hy, hp⟩ := P.lg i hi
  refine ⟨fun {w'} H => ?_, fun {w'} H => ?_, fun {w'} H => ?_, fun {w'} H => ?_⟩
  · refine (nextG (H.a.hsG hi).pr hy.xo).mono ?_
    rintro e w'' ⟨rfl, K⟩
    exact ⟨rfl, H.below K⟩
  · refine (unext_at (H.rs hu).us (hl.uok hy)).mono ?_
    rintro e w'' ⟨rfl, K⟩
    exact ⟨by rw [hl.next], H.below K⟩
  · refine (Ytfnfbceblpaggaa.stepG (H.a.hsG hi) hy.xo hc hj).mono ?_
    rintro e w'' ⟨rfl, K⟩
    exact ⟨rfl, H.stepG hi K⟩
  · refine (ustep_at (H.rs hu) (hl.uok hy) hc hj).mono ?_
    rintro e w'' ⟨rfl, K⟩
    rw [hl.turn] at K
    exact ⟨by rw [(hl.step hy.xo s).dn], H.stepU hu K⟩
theorem mk_reP {i : Nat} (hi : i < np) (hu : i < nu) (hl : Lk (fP i) (fU i)) :
    ReP (Tw w0 p b r ad n p' b' np GP vP ng GG vG nu GU vU s s' fP fG fU) (GP i) (GU i) (fP i).wh ((fP i).tn == 5) := by
  refine ⟨fun {w'} H => ?_, fun {w'} H => ?_, fun {w'} H => ?_⟩
  · refine (resP (H.a.hsP hi).pr).mono ?_
    rintro e w'' ⟨rfl, m, hm⟩
    exact ⟨rfl, H.below (by rw [hm]; exact below_drewN (Below.refl _ _) m)⟩
  · rw [← hl.hs]; exact (H.rs hu).us.uc.c7
  · rw [← hl.dn]; exact (H.rs hu).us.uc.c6
theorem mk_reG {i : Nat} (hi : i < ng) (hu : np + i < nu) (hl : Lk (fG i) (fU (np + i))) (hp : (fG i).pv = none) :
    ReG (Tw w0 p b r ad n p' b' np GP vP ng GG vG nu GU vU s s' fP fG fU) (GG i) (GU (np + i)) (gotV (fG i)) (fU (np + i)).v (fG i).wh (gotD (fG i)) := by
  obtain ⟨h1, h2, h3, h4⟩ := hl.got hp
  refine ⟨fun {w'} H => ?_, fun {w'} H => ?_, fun {w'} H => ?_, fun {w'} H => (H.rs hu).us.uc.c3, fun e => (h3 e).symm, h4⟩
  · refine (resG (H.a.hsG hi).pr).mono ?_
    rintro e w'' ⟨rfl, hm⟩
    exact ⟨rfl, by rw [hm]; exact H⟩
  · rw [h1]; exact (H.rs hu).us.uc.c7
  · rw [h2]; exact (H.rs hu).us.uc.c6
theorem tw_cf (hl : s'.xs.length = L) (H : Tw w0 p b r ad n p' b' np GP vP ng GG vG nu GU vU s s' fP fG fU w) : w.cell? ⟨p', 0, none⟩ = some (.slice (some ⟨b', 0, none⟩) L L) := by
  have := H.rm.cells.1
  rw [hl] at this
  exact this
theorem mk_aft (hl : s.xs.length = L) (h1 : 1 ≤ L) (h2 : L ≤ 65536) :
    Aft (Tw w0 p b r ad n p' b' np GP vP ng GG vG nu GU vU s s fP fG fU) (fun u w' => Tw w0 p b r ad n p' b' np GP vP ng GG vG nu GU vU s s fP fG fU w' ∧ (∃ xs, IsRow w' u xs ∧ IsRow w' b' xs ∧ xs.length = L)) p p' b' L := by
  refine ⟨fun {w'} H => tw_cf hl H, fun {w'} H => H.below (Below.refl _ _).drew, fun {w'} H => ?_, fun {w' u} H => ?_⟩
  · refine (words_yes H.a.kn.mem 0 L h1 (by omega)).mono ?_
    rintro e w'' ⟨rfl, hR, K⟩
    have hcut : cut s.xs 0 L = s.xs := by unfold cut; rw [← hl]; simp
    rw [hcut] at hR
    have H2 := H.below K
    exact ⟨_, rfl, ⟨H2, s.xs, hR, H2.rm.row, hl⟩, tw_cf hl H2⟩
  · obtain ⟨H1, xs, hR, hR', hx⟩ := H
    refine (same_any (hR.lies (c := L) hx h2) (hR'.lies (c := L) hx h2)).mono ?_
    rintro e w'' ⟨rfl, K⟩
    exact ⟨rfl, H1.below K, tw_cf hl (H1.below K)⟩

/-- A round in which one who pushes goes on, or one who pops. -/
theorem round_P {j i : Nat} (H : Tw w0 p b r ad n p' b' np GP vP ng GG vG nu GU vU s s fP fG fU w) (P : Pu L np ng s fP fG fU) (c : Cnt s j) (hj : j ≤ bnd) (hi : i < np) (hu : i < nu) :
    ∃ (T0 T1 T2 : World → Prop) (a : Ac) (wh dn : Bool), T0 w ∧ Rnd 17 19 T0 T1 T2 (GP i) (GU i) p p' a dn ∧ ReP T2 (GP i) (GU i) wh dn ∧
      ∀ w', T2 w' → ∃ s fP fG fU, Tw w0 p b r ad n p' b' np GP vP ng GG vG nu GU vU s s fP fG fU w' ∧ Pu L np ng s fP fG fU ∧ Cnt s (j + 1) := by
  have hP := P.stepP hi
  have hR := mk_reP (w0 := w0) (p := p) (b := b) (r := r) (ad := ad) (n := n) (p' := p') (b' := b') (GP := GP) (vP := vP) (ng := ng) (GG := GG) (vG := vG) (GU := GU) (vU := vU) (s := pT s (fP i)) (s' := pT s (fP i)) (fG := fG) hi hu (hP.lp i hi).1
  rw [put_at] at hR
  exact ⟨_, _, _, _, _, _, H, mk_rndP P hi hu c hj, hR, fun w' h => ⟨_, _, _, _, h, hP, c.next _⟩⟩
theorem round_G {j i : Nat} (H : Tw w0 p b r ad n p' b' np GP vP ng GG vG nu GU vU s s fP fG fU w) (P : Pu L np ng s fP fG fU) (c : Cnt s j) (hj : j ≤ bnd) (hi : i < ng) (hu : np + i < nu) :
    ∃ (T0 T1 T2 : World → Prop) (a : Ac) (v u : Int) (wh dn dn' : Bool), T0 w ∧ Rnd 22 23 T0 T1 T2 (GG i) (GU (np + i)) p p' a dn ∧ ReG T2 (GG i) (GU (np + i)) v u wh dn' ∧
      ∀ w', T2 w' → ∃ s fP fG fU, Tw w0 p b r ad n p' b' np GP vP ng GG vG nu GU vU s s fP fG fU w' ∧ Pu L np ng s fP fG fU ∧ Cnt s (j + 1) := by
  have hP := P.stepG hi
  have hR := mk_reG (w0 := w0) (p := p) (b := b) (r := r) (ad := ad) (n := n) (p' := p') (b' := b') (GP := GP) (vP := vP) (GG := GG) (vG := vG) (GU := GU) (vU := vU) (s := pT s (fG i)) (s' := pT s (fG i)) (fP := fP) hi hu (hP.lg i hi).1 (hP.lg i hi).2.2
  exact ⟨_, _, _, _, _, _, _, _, _, H, mk_rndG P hi hu c hj, hR, fun w' h => ⟨_, _, _, _, h, hP, c.next _⟩⟩
theorem round_A {j : Nat} (H : Tw w0 p b r ad n p' b' np GP vP ng GG vG nu GU vU s s fP fG fU w) (P : Pu L np ng s fP fG fU) (c : Cnt s j) (h1 : 1 ≤ L) (h2 : L ≤ 65536) :
    ∃ (T2 : World → Prop) (T3 : Nat → World → Prop), T2 w ∧ Aft T2 T3 p p' b' L ∧
      ∀ w', T2 w' → ∃ s fP fG fU, Tw w0 p b r ad n p' b' np GP vP ng GG vG nu GU vU s s fP fG fU w' ∧ Pu L np ng s fP fG fU ∧ Cnt s j :=
  ⟨_, _, H, mk_aft P.len h1 h2, fun _ h => ⟨_, _, _, _, h, P, c⟩⟩

/-- What is loaded for the two Inits. -/
abbrev Cb (r q0 : Nat) (ad n : Int) (za zs : Nat) (w : World) : Prop :=
  (w.cell? ⟨r, 0, none⟩ = some (.int .i64 ad) ∧ w.cell? ⟨r, 1, none⟩ = some (.int .i64 n)) ∧ (w.cell? ⟨q0, 0, none⟩ = some (.int .u8 za) ∧ w.cell? ⟨q0, 1, none⟩ = some (.int .u8 zs))
theorem Tw.cb (H : Tw w0 p b r ad n p' b' np GP vP ng GG vG nu GU vU s s' fP fG fU w) (B : Bx w0 q0 c) : Cb r q0 ad n c.za c.zs w :=
  ⟨⟨H.a.kn.c0, H.a.kn.c1⟩, (B.below H.a.kn.bel).c0, (B.below H.a.kn.bel).c1⟩
theorem init_both {za zs : Nat} (H : Tw w0 p b r za zs p' b' np GP vP ng GG vG nu GU vU ⟨List.replicate L 0, 0, 0⟩ ⟨List.replicate L 0, 0, 0⟩ fP fG fU w) (B : Bx w0 q0 c) (ha : c.za = za) (hs : c.zs = zs) :
    ∃ (T0 T1 T2 : World → Prop) (e0 : Int) (s1 : St), T0 w.drew ∧ Ini T0 T1 T2 (Cb r q0 za zs za zs) p p' za zs e0 ∧ s1.xs.length = L ∧ SOk s1 ∧ Cnt s1 1000 ∧
      ∀ w', T2 w' → Tw w0 p b r za zs p' b' np GP vP ng GG vG nu GU vU s1 s1 fP fG fU w' := by
  subst ha hs
  have hc0 : Cnt ⟨List.replicate L 0, 0, 0⟩ 0 := ⟨by simp, by simp, by simp, by simp⟩
  by_cases hq : canB c.za c.zs = true
  · have q : QOk c.za c.zs := by
      simp [canB] at hq
      exact ⟨by omega, by omega, by omega, by omega⟩
    refine ⟨_, Tw w0 p b r c.za c.zs p' b' np GP vP ng GG vG nu GU vU (initR ⟨List.replicate L 0, 0, 0⟩ c.za (emp c.zs)).1 ⟨List.replicate L 0, 0, 0⟩ fP fG fU, Tw w0 p b r c.za c.zs p' b' np GP vP ng GG vG nu GU vU (initR ⟨List.replicate L 0, 0, 0⟩ c.za (emp c.zs)).1 (initR ⟨List.replicate L 0, 0, 0⟩ c.za (emp c.zs)).1 fP fG fU,
      (initR ⟨List.replicate L 0, 0, 0⟩ c.za (emp c.zs)).2, (initR ⟨List.replicate L 0, 0, 0⟩ c.za (emp c.zs)).1, H.below (Below.refl _ _).drew, ⟨fun {w'} H => ?_, fun {w'} H => ?_⟩, ?_, ?_, ?_, fun w' h => h⟩
    · refine (init_at H.a.kn.mem hc0 (by decide) c.zs c.za q).mono ?_
      rintro e w'' ⟨rfl, T⟩
      exact ⟨rfl, H.loadA T, (H.loadA T).cb B⟩
    · refine (rinit_at H.rm hc0 (by decide) c.zs c.za q).mono ?_
      rintro e w'' ⟨rfl, T⟩
      exact ⟨rfl, H.loadU T, (H.loadU T).cb B⟩
    · rw [initR_len]; simp
    · exact initR_sok _ _ _ (sok_zero L) (emp_in _ (by have := q.s1; omega))
    · exact (initR_cnt _ _ _ 0 hc0).mono (by rw [empK_length]; have := q.s1; omega)
  · have hf : canB c.za c.zs = false := by simpa using hq
    refine ⟨_, Tw w0 p b r c.za c.zs p' b' np GP vP ng GG vG nu GU vU ⟨List.replicate L 0, 0, 0⟩ ⟨List.replicate L 0, 0, 0⟩ fP fG fU, Tw w0 p b r c.za c.zs p' b' np GP vP ng GG vG nu GU vU ⟨List.replicate L 0, 0, 0⟩ ⟨List.replicate L 0, 0, 0⟩ fP fG fU, 1, _, H.below (Below.refl _ _).drew, ⟨fun {w'} H => ?_, fun {w'} H => ?_⟩, by simp, sok_zero L, hc0.mono (by omega), fun w' h => h⟩
    · refine (init_no _ _ hf).mono ?_
      rintro e w'' ⟨rfl, K⟩
      exact ⟨rfl, H.below K, (H.below K).cb B⟩
    · refine (rinit_no _ _ hf).mono ?_
      rintro e w'' ⟨rfl, hw⟩
      rw [hw]
      exact ⟨rfl, H, H.cb B⟩
/-- What is loaded for one more who pushes. -/
abbrev Cv (r q0 vb vo : Nat) (ad n : Int) (vn vc k : Nat) (v : Int) (w : World) : Prop :=
  (w.cell? ⟨r, 0, none⟩ = some (.int .i64 ad) ∧ w.cell? ⟨r, 1, none⟩ = some (.int .i64 n)) ∧ (w.cell? ⟨q0, 2, none⟩ = some (.slice (some ⟨vb, vo, none⟩) vn vc) ∧ w.cell? ⟨vb, vo + k, none⟩ = some (.int .u64 v))
abbrev Cw (q0 vb vo za zs : Nat) (vn vc k : Nat) (v : Int) (w : World) : Prop :=
  (w.cell? ⟨q0, 0, none⟩ = some (.int .u8 za) ∧ w.cell? ⟨q0, 1, none⟩ = some (.int .u8 zs)) ∧ (w.cell? ⟨q0, 2, none⟩ = some (.slice (some ⟨vb, vo, none⟩) vn vc) ∧ w.cell? ⟨vb, vo + k, none⟩ = some (.int .u64 v))
theorem Tw.cv {vb vo vn vc k : Nat} {v : Int} (H : Tw w0 p b r ad n p' b' np GP vP ng GG vG nu GU vU s s' fP fG fU w) (B : Bx w0 q0 c) (e1 : (Value.slice c.vq c.vn c.vc) = .slice (some ⟨vb, vo, none⟩) vn vc) (hb : vb < w0.heap.size) (hv : w0.cell? ⟨vb, vo + k, none⟩ = some (.int .u64 v)) : Cv r q0 vb vo ad n vn vc k v w ∧ Cw q0 vb vo c.za c.zs vn vc k v w := by
  have b2 := (B.below H.a.kn.bel).c2
  rw [e1] at b2
  have hv2 := (H.a.kn.bel.cell (p := ⟨vb, vo + k, none⟩) hb).trans hv
  exact ⟨⟨⟨H.a.kn.c0, H.a.kn.c1⟩, b2, hv2⟩, ⟨(B.below H.a.kn.bel).c0, (B.below H.a.kn.bel).c1⟩, b2, hv2⟩
theorem hat_of {v : Value} {g H n c : Nat} (h : v.ownBlock = some g ∨ g = H) : (Value.slice (some ⟨g, 0, none⟩) n c).ownBlock = v.ownBlock ∨ (Value.slice (some ⟨g, 0, none⟩) n c).ownBlock = some H := by
  rcases h with h | h
  · exact Or.inl h.symm
  · exact Or.inr (by rw [h]; rfl)
theorem rnew_I (i : Int) (n : Nat) (w : World) (hi : i = n) (h1 : 1 ≤ n) (h2 : n ≤ 65536) :
    Calls Try.prog 11 #[.int .i64 i] w fun e w' => e = .returned (.tuple #[.pointer (some ⟨w.heap.size + 1, 0, none⟩), .int .i64 0]) ∧ IsMem 62 w' (w.heap.size + 1) w.heap.size (List.replicate n 0) 0 0 ∧ Below w.heap.size w w' := by
  subst hi
  exact rnew_yes n w h1 h2
/-- The two memories, and the ring's block. -/
theorem Tw.begin {w1 w2 : World} {ad n : Int} {L : Nat} {G1 G2 G3 : Nat → Nat} {f1 f2 : Nat → Pr} {f3 : Nat → Us} (hM1 : IsMem 77 w1 (w0.heap.size + 1) w0.heap.size (List.replicate L 0) 0 0) (hB1 : Below w0.heap.size w0 w1) (hM2 : IsMem 62 w2 (w1.heap.size + 1) w1.heap.size (List.replicate L 0) 0 0) (hB2 : Below w1.heap.size w1 w2) :
    Tw w0 (w0.heap.size + 1) w0.heap.size w2.heap.size ad n (w1.heap.size + 1) w1.heap.size 0 G1 (.slice none 0 0) 0 G2 (.slice none 0 0) 0 G3 (.slice none 0 0) ⟨List.replicate L 0, 0, 0⟩ ⟨List.replicate L 0, 0, 0⟩ f1 f2 f3 (w2.alloc (.cells #[.int .i64 ad, .int .i64 n] 35)) := by
  have l1 := hM1.lt
  have l2 := hM2.lt
  refine Tw.first ⟨(hM1.below hB2).below (below_alloc _ _), heap_alloc_new _ _, bel_trans (bel_trans hB1 hB2) (below_alloc _ _), by omega, by omega, by omega, by omega, by omega⟩ (hM2.below (below_alloc _ _)) (by omega) (by omega) ⟨by omega, by omega, by omega⟩ ⟨by omega, by omega, by omega⟩
end
end Go.Proofs.Ytfnfbceblpaggaa
