/- A round of the program's holders and the document's: what each call of it tells and leaves, by conditions on memory that are letters. Conditions: the counts are below 2^62. -/
import Derived.Test.YtidgajjahpbbdaaY8
namespace Go.Proofs.Ytidgajjahpbbdaa
open Go.RowKit

/-- The words are words, as many as L; the holders are right ones. -/
structure PI (L : Nat) (s : St) (k : Nat) (f : Nat → Ho) : Prop where
  len : s.xs.length = L
  wr : ∀ v ∈ s.xs, 0 ≤ v ∧ v ≤ 18446744073709551615
  ok : ∀ i, i < k → HOk (f i)
theorem add64_in (x v : Int) : 0 ≤ add64 x v ∧ add64 x v ≤ 18446744073709551615 := by unfold add64; omega
theorem storeT_wr {s : St} (h : ∀ v ∈ s.xs, 0 ≤ v ∧ v ≤ 18446744073709551615) (a u : Int) (hu : 0 ≤ u ∧ u ≤ 18446744073709551615) : (storeT s a u).xs.length = s.xs.length ∧ ∀ v ∈ (storeT s a u).xs, 0 ≤ v ∧ v ≤ 18446744073709551615 := by
  unfold storeT
  split
  · refine ⟨by simp, fun v hv => ?_⟩
    rcases List.mem_or_eq_of_mem_set hv with h1 | h1
    · exact h v h1
    · subst h1; exact hu
  · exact ⟨rfl, h⟩
theorem loadT_xs (s : St) (a : Int) : (loadT s a).xs = s.xs := by unfold loadT; split <;> rfl
theorem loadV_in {s : St} (h : ∀ v ∈ s.xs, 0 ≤ v ∧ v ≤ 18446744073709551615) (a : Int) : 0 ≤ loadV s a ∧ loadV s a ≤ 18446744073709551615 := by
  unfold loadV
  split
  · by_cases hi : a.toNat < s.xs.length
    · have e : s.xs.getD a.toNat 0 = s.xs[a.toNat] := by simp [List.getD, hi]
      rw [e]; exact h _ (List.getElem_mem hi)
    · have e : s.xs.getD a.toNat 0 = 0 := by simp [List.getD, hi]
      rw [e]; decide
  · decide
theorem hT_wr {s : St} {x : Ho} (h : ∀ v ∈ s.xs, 0 ≤ v ∧ v ≤ 18446744073709551615) : (hT s x).xs.length = s.xs.length ∧ ∀ v ∈ (hT s x).xs, 0 ≤ v ∧ v ≤ 18446744073709551615 := by
  by_cases h0 : x.st = 0
  · have e : hT s x = addT s x.ad 1 := by
      unfold hT hNext; rw [if_pos h0]; simp [doT]
    rw [e]; exact storeT_wr h _ _ (add64_in _ _)
  · by_cases h1 : x.st = 1
    · have e : hT s x = loadT s (x.ad + 1) := by
        unfold hT hNext; rw [if_neg h0, if_pos h1]; simp [doT]
      rw [e, loadT_xs]; exact ⟨rfl, h⟩
    · by_cases h2 : x.st = 2 ∧ x.lv = true
      · have e : hT s x = storeT s (x.ad + 1) (add64 x.tk 1) := by
          unfold hT hNext; rw [if_neg h0, if_neg h1, if_pos h2]; simp [doT]
        rw [e]; exact storeT_wr h _ _ (add64_in _ _)
      · rw [(hX_no (s := s) h0 h1 (fun e => by cases hl : x.lv with | false => rfl | true => exact absurd ⟨e, hl⟩ h2)).2]; exact ⟨rfl, h⟩
theorem hGo_ok {x : Ho} (ok : HOk x) (r : Re) (hr : 0 ≤ r.v ∧ r.v ≤ 18446744073709551615) : HOk (hGo x r) := by
  obtain ⟨a, b, c, d⟩ := ok
  unfold hGo
  split
  · split
    · exact ⟨a, b, hr.1, hr.2⟩
    · split
      · split <;> exact ⟨a, b, c, d⟩
      · exact ⟨a, b, c, d⟩
  · exact ⟨a, b, c, d⟩
theorem hX_ok {s : St} {x : Ho} (h : ∀ v ∈ s.xs, 0 ≤ v ∧ v ≤ 18446744073709551615) (ok : HOk x) : HOk (hX s x) := by
  unfold hX
  split
  · exact ok
  · refine hGo_ok ok _ ?_
    unfold doR
    split
    · exact loadV_in h _
    · split
      · simp
      · split
        · simp
        · split
          · exact loadV_in h _
          · simp
theorem lvT_ok {x : Ho} (ok : HOk x) : HOk (lvT x) := by
  obtain ⟨a, b, c, d⟩ := ok
  unfold lvT; split <;> exact ⟨a, b, c, d⟩
theorem PI.upd {L : Nat} {s s1 : St} {k : Nat} {f : Nat → Ho} (H : PI L s k f) (i : Nat) {x : Ho} (hx : HOk x) (hl : s1.xs.length = s.xs.length) (hw : ∀ v ∈ s1.xs, 0 ≤ v ∧ v ≤ 18446744073709551615) : PI L s1 k (upd f i x) :=
  ⟨hl.trans H.len, hw, fun j hj => by
    by_cases e : j = i
    · subst e; rw [upd_at]; exact hx
    · rw [upd_ne _ _ e]; exact H.ok j hj⟩

/-- What is loaded of the two slices. -/
abbrev Ce (sq yq i g g' : Nat) (w : World) : Prop :=
  w.cell? ⟨sq, i, none⟩ = some (.pointer (some ⟨g, 0, none⟩)) ∧ w.cell? ⟨yq, i, none⟩ = some (.pointer (some ⟨g', 0, none⟩))
section
variable {w0 w w' : World} {p b k : Nat} {G : Nat → Nat} {sq sc : Nat} {s s1 : St} {f : Nat → Ho} {p' b' : Nat} {G' : Nat → Nat} {yq yc : Nat} {s' s1' : St} {f' : Nat → Ho} {x : Ho}
theorem slice_at {t : TypeId} {base n cap : Nat} (h : w.ownsRow base t 1 (.slice (some ⟨sq, 0, none⟩) n cap) n (ptrs n G)) (i : Nat) (hi : i < n) : w.cell? ⟨sq, i, none⟩ = some (.pointer (some ⟨G i, 0, none⟩)) := by
  obtain ⟨q, c, e, hc⟩ := own_cells h (by omega)
  obtain ⟨rfl, _⟩ : sq = q ∧ True := by simp at e; exact ⟨e.1, trivial⟩
  rw [hc i hi]
  simp [ptrs, hi, ptr]
theorem Tw.ce (H : Tw w0 w p b k G (.slice (some ⟨sq, 0, none⟩) k sc) s f p' b' k G' (.slice (some ⟨yq, 0, none⟩) k yc) s' f') (i : Nat) (hi : i < k) : Ce sq yq i (G i) (G' i) w :=
  ⟨slice_at H.a.own i hi, slice_at H.r.own i hi⟩

/-- The calls of a step, by conditions on memory. -/
structure Stp (T0 T1 T2 : World → Prop) (sq yq i g g' p p' : Nat) (a : Ac) (st : Int) : Prop where
  n1 : ∀ {w' : World}, T0 w' → Calls Try.prog 14 #[.pointer (some ⟨g, 0, none⟩)] w' fun e w'' => e = .returned (acV a) ∧ T0 w'' ∧ Ce sq yq i g g' w''
  n2 : ∀ {w' : World}, T0 w' → Calls Try.prog 15 #[.pointer (some ⟨g', 0, none⟩)] w' fun e w'' => e = .returned (acV a) ∧ T0 w'' ∧ Ce sq yq i g g' w''
  s1 : ∀ {w' : World}, T0 w' → Calls Try.prog 16 #[.pointer (some ⟨g, 0, none⟩), .pointer (some ⟨p, 0, none⟩)] w' fun e w'' => e = .returned (.int .i64 st) ∧ T1 w'' ∧ Ce sq yq i g g' w''
  s2 : ∀ {w' : World}, T1 w' → Calls Try.prog 17 #[.pointer (some ⟨g', 0, none⟩), .pointer (some ⟨p', 0, none⟩)] w' fun e w'' => e = .returned (.int .i64 st) ∧ T2 w'' ∧ Ce sq yq i g g' w''
/-- The calls of a leaving. -/
structure Lve (T0 T1 T2 : World → Prop) (sq yq i g g' : Nat) (lb : Bool) : Prop where
  l1 : ∀ {w' : World}, T0 w' → Calls Try.prog 12 #[.pointer (some ⟨g, 0, none⟩)] w' fun e w'' => e = .returned (.bool lb) ∧ T1 w'' ∧ Ce sq yq i g g' w''
  l2 : ∀ {w' : World}, T1 w' → Calls Try.prog 13 #[.pointer (some ⟨g', 0, none⟩)] w' fun e w'' => e = .returned (.bool lb) ∧ T2 w'' ∧ Ce sq yq i g g' w''
/-- What is loaded when both have gone on. -/
abbrev Cf (yq i g' p' b' : Nat) (st tk : Int) (w : World) : Prop :=
  (w.cell? ⟨yq, i, none⟩ = some (.pointer (some ⟨g', 0, none⟩)) ∧ w.cell? ⟨g', 1, none⟩ = some (.int .i64 st)) ∧ (w.cell? ⟨g', 2, none⟩ = some (.int .u64 tk) ∧ w.cell? ⟨p', 0, none⟩ = some (.slice (some ⟨b', 0, none⟩) 12 12))
structure Aft (T2 : World → Prop) (T3 : Nat → World → Prop) (sq yq i g g' p p' b' : Nat) (st tk : Int) : Prop where
  ce : ∀ {w' : World}, T2 w' → Ce sq yq i g g' w'
  ta : ∀ {w' : World}, T2 w' → Calls Try.prog 18 #[.pointer (some ⟨g, 0, none⟩)] w' fun e w'' => e = .returned (.tuple #[.int .i64 st, .int .u64 tk]) ∧ T2 w''
  cf : ∀ {w' : World}, T2 w' → Cf yq i g' p' b' st tk w'
  dr : ∀ {w' : World}, T2 w' → T2 w'.drew
  w1 : ∀ {w' : World}, T2 w' → Calls Try.prog 20 #[.pointer (some ⟨p, 0, none⟩), .int .i64 0, .int .i64 12] w' fun e w'' => ∃ u, e = .returned (.slice (some ⟨u, 0, none⟩) 12 12) ∧ T3 u w'' ∧ Cf yq i g' p' b' st tk w''
  w2 : ∀ {w' : World} {u : Nat}, T3 u w' → Calls Try.prog 19 #[.slice (some ⟨u, 0, none⟩) 12 12, .slice (some ⟨b', 0, none⟩) 12 12] w' fun e w'' => e = .returned (.bool true) ∧ T2 w'' ∧ Cf yq i g' p' b' st tk w''

abbrev TW (w0 : World) (p b k : Nat) (G : Nat → Nat) (sq sc : Nat) (p' b' : Nat) (G' : Nat → Nat) (yq yc : Nat) (s : St) (f : Nat → Ho) (s' : St) (f' : Nat → Ho) (w : World) : Prop :=
  Tw w0 w p b k G (.slice (some ⟨sq, 0, none⟩) k sc) s f p' b' k G' (.slice (some ⟨yq, 0, none⟩) k yc) s' f'

theorem upd_self {f : Nat → Ho} {i : Nat} (x : Ho) : upd f i x i = x := upd_at _ _ _

theorem mk_stp {k c : Nat} {s : St} {f : Nat → Ho} (i : Nat) (hi : i < k) (ok : HOk (f i)) (hc : Cnt s c) (hb : c ≤ bnd) :
    Stp (TW w0 p b k G sq sc p' b' G' yq yc s f s f) (TW w0 p b k G sq sc p' b' G' yq yc (hT s (f i)) (upd f i (hX s (f i))) s f)
      (TW w0 p b k G sq sc p' b' G' yq yc (hT s (f i)) (upd f i (hX s (f i))) (hT s (f i)) (upd f i (hX s (f i)))) sq yq i (G i) (G' i) p p' (hNext (f i)) (hX s (f i)).st := by
  refine ⟨fun {w'} H => ?_, fun {w'} H => ?_, fun {w'} H => ?_, fun {w'} H => ?_⟩
  · refine (hnext_at (H.a.ho i hi) ok).mono ?_
    rintro e w'' ⟨rfl, K⟩
    exact ⟨rfl, H.below K, (H.below K).ce i hi⟩
  · refine (rnext_at (H.r.rh i hi) ok).mono ?_
    rintro e w'' ⟨rfl, K⟩
    exact ⟨rfl, H.below K, (H.below K).ce i hi⟩
  · refine (hstep_at (H.a.hs i hi) ok hc hb).mono ?_
    rintro e w'' ⟨rfl, K⟩
    have := H.stepA i hi K
    exact ⟨rfl, this, this.ce i hi⟩
  · refine (rstep_at (H.r.rs i hi) ok hc hb).mono ?_
    rintro e w'' ⟨rfl, K⟩
    have := H.stepR i hi K
    exact ⟨rfl, this, this.ce i hi⟩
theorem mk_lve {k : Nat} {s : St} {f : Nat → Ho} (i : Nat) (hi : i < k) :
    Lve (TW w0 p b k G sq sc p' b' G' yq yc s f s f) (TW w0 p b k G sq sc p' b' G' yq yc s (upd f i (lvT (f i))) s f)
      (TW w0 p b k G sq sc p' b' G' yq yc s (upd f i (lvT (f i))) s (upd f i (lvT (f i)))) sq yq i (G i) (G' i) (lvV (f i)) := by
  refine ⟨fun {w'} H => ?_, fun {w'} H => ?_⟩
  · refine (leave_at (H.a.ho i hi)).mono ?_
    rintro e w'' ⟨rfl, K⟩
    have := H.leaveA i hi K
    exact ⟨rfl, this, this.ce i hi⟩
  · refine (rleave_at (H.r.rh i hi)).mono ?_
    rintro e w'' ⟨rfl, K⟩
    have := H.leaveR i hi K
    exact ⟨rfl, this, this.ce i hi⟩
theorem tw_cf {k : Nat} {s : St} {f : Nat → Ho} (i : Nat) (hi : i < k) (hl : s.xs.length = 12) {w' : World} (H : TW w0 p b k G sq sc p' b' G' yq yc s f s f w') : Cf yq i (G' i) p' b' (f i).st (f i).tk w' :=
  ⟨⟨(H.ce i hi).2, (H.r.rh i hi).rc.c1⟩, (H.r.rh i hi).rc.c2, by have := H.r.mem.cells.1; rw [hl] at this; exact this⟩
theorem mk_aft {k : Nat} {s : St} {f : Nat → Ho} (i : Nat) (hi : i < k) (hl : s.xs.length = 12) :
    Aft (TW w0 p b k G sq sc p' b' G' yq yc s f s f) (fun u w' => TW w0 p b k G sq sc p' b' G' yq yc s f s f w' ∧ (∃ xs, IsRow w' u xs ∧ IsRow w' b' xs ∧ xs.length = 12)) sq yq i (G i) (G' i) p p' b' (f i).st (f i).tk := by
  refine ⟨fun {w'} H => H.ce i hi, fun {w'} H => ?_, fun {w'} H => tw_cf i hi hl H, fun {w'} H => H.below (Below.refl _ _).drew, fun {w'} H => ?_, fun {w' u} H => ?_⟩
  · refine (state_at (H.a.ho i hi)).mono ?_
    rintro e w'' ⟨rfl, m, hm⟩
    exact ⟨rfl, H.below (by rw [hm]; exact below_drewN (Below.refl _ _) m)⟩
  · refine (words_yes H.a.mem 0 12 (by decide) (by omega)).mono ?_
    rintro e w'' ⟨rfl, hR, K⟩
    have hcut : cut s.xs 0 12 = s.xs := by unfold cut; rw [← hl]; simp
    rw [hcut] at hR
    have H2 := H.below K
    exact ⟨_, rfl, ⟨H2, s.xs, hR, H2.r.mem.row, hl⟩, tw_cf i hi hl H2⟩
  · obtain ⟨H1, xs, hR, hR', hx⟩ := H
    refine (same_any (hR.lies (c := 12) hx (by omega)) (hR'.lies (c := 12) hx (by omega))).mono ?_
    rintro e w'' ⟨rfl, K⟩
    exact ⟨rfl, H1.below K, tw_cf i hi hl (H1.below K)⟩
/-- A round in which one leaves, or goes on. -/
theorem round_lve {j : Nat} {s : St} {f : Nat → Ho} (H : TW w0 p b k G sq sc p' b' G' yq yc s f s f w) (P : PI 12 s k f) (c : Cnt s j) (i : Nat) (hi : i < k) :
    ∃ (T0 T1 T2 : World → Prop) (T3 : Nat → World → Prop) (lb : Bool) (st tk : Int), T0 w.drew ∧ Lve T0 T1 T2 sq yq i (G i) (G' i) lb ∧ Aft T2 T3 sq yq i (G i) (G' i) p p' b' st tk ∧
      ∀ w', T2 w' → ∃ s f, TW w0 p b k G sq sc p' b' G' yq yc s f s f w' ∧ PI 12 s k f ∧ Cnt s (j + 1) := by
  have hP := P.upd i (lvT_ok (P.ok i hi)) rfl P.wr
  have hA := mk_aft (w0 := w0) (p := p) (b := b) (G := G) (sq := sq) (sc := sc) (p' := p') (b' := b') (G' := G') (yq := yq) (yc := yc) (s := s) (f := Ytidgajjahpbbdaa.upd f i (lvT (f i))) i hi hP.len
  exact ⟨_, _, _, _, _, _, _, H.below (Below.refl _ _).drew, mk_lve i hi, hA, fun w' h => ⟨_, _, h, hP, c.mono (by omega)⟩⟩
theorem round_stp {j : Nat} {s : St} {f : Nat → Ho} (H : TW w0 p b k G sq sc p' b' G' yq yc s f s f w) (P : PI 12 s k f) (c : Cnt s j) (hj : j ≤ bnd) (i : Nat) (hi : i < k) :
    ∃ (T0 T1 T2 : World → Prop) (T3 : Nat → World → Prop) (a : Ac) (st0 st tk : Int), T0 w.drew ∧ Stp T0 T1 T2 sq yq i (G i) (G' i) p p' a st0 ∧ Aft T2 T3 sq yq i (G i) (G' i) p p' b' st tk ∧
      ∀ w', T2 w' → ∃ s f, TW w0 p b k G sq sc p' b' G' yq yc s f s f w' ∧ PI 12 s k f ∧ Cnt s (j + 1) := by
  have hP := P.upd i (hX_ok P.wr (P.ok i hi)) (hT_wr (x := f i) P.wr).1 (hT_wr (x := f i) P.wr).2
  have hA := mk_aft (w0 := w0) (p := p) (b := b) (G := G) (sq := sq) (sc := sc) (p' := p') (b' := b') (G' := G') (yq := yq) (yc := yc) (s := hT s (f i)) (f := Ytidgajjahpbbdaa.upd f i (hX s (f i))) i hi hP.len
  exact ⟨_, _, _, _, _, _, _, _, H.below (Below.refl _ _).drew, mk_stp i hi (P.ok i hi) c hj, hA, fun w' h => ⟨_, _, h, hP, c.hT _⟩⟩
end
end Go.Proofs.Ytidgajjahpbbdaa
