/- The document's user and the one who pushes or pops: as each goes on the one tells what the other tells. Conditions: the ring is one that can be; the counts are below 2^62. -/
import Derived.Test.YtfnfbceblpaggaaR4
namespace Go.Proofs.Ytfnfbceblpaggaa
open Go.RowKit

def uNext (u : Us) : Ac := if u.dn = true then ⟨0, 0, 0, 0⟩ else pNext ⟨u.ad, u.sz, pvU u, u.tn, u.ps, 0, false⟩
def uGo (u : Us) (r : Re) : Us :=
  if r.e = 0 then
    if u.tn = 0 then { u with ps := r.v, tn := 1 }
    else if u.tn = 1 then (if difA r.v (opensV (pvU u) u.ps) = 0 then { u with tn := 2 } else if difA r.v (opensV (pvU u) u.ps) < 0 then { u with dn := true } else { u with tn := 0 })
    else if u.tn = 2 then (if r.ok = true then { u with tn := 3 } else { u with tn := 0 })
    else if u.tn = 3 then { u with v := bif u.po then r.v else u.v, tn := 4 }
    else { u with dn := true, hs := true }
  else { u with dn := true, v := 0 }
def uT (s : St) (u : Us) : St := if u.dn = true then s else doT s (uNext u)
def uX (s : St) (u : Us) : Us := if u.dn = true then u else uGo u (doR s (uNext u))

theorem unext_at {w : World} {g : Nat} {u : Us} (h : IsUs w g u) (ok : UOk u) :
    Calls Try.prog 18 #[.pointer (some ⟨g, 0, none⟩)] w fun e w' => e = .returned (acV (uNext u)) ∧ Below w.heap.size w w' := by
  have t0 := ok.t0
  have t1 := ok.t1
  obtain ⟨ad, sz, po, v, ps, tn, dn, hs⟩ := u
  simp only [] at t0 t1
  cases dn with
  | true => exact un_done h rfl
  | false =>
    obtain rfl | rfl | rfl | rfl | rfl : tn = 0 ∨ tn = 1 ∨ tn = 2 ∨ tn = 3 ∨ tn = 4 := by omega
    · cases po with
      | true => exact un0G h ok
      | false => exact un0P h ok
    · cases po with
      | true => exact un1G h ok
      | false => exact un1P h ok
    · cases po with
      | true => exact un2G h ok
      | false => exact un2P h ok
    · cases po with
      | true => exact un3G h ok
      | false => exact un3P h ok
    · cases po with
      | true => exact un4G h ok
      | false => exact un4P h ok

theorem ustep_at {w : World} {p b g : Nat} {s : St} {u : Us} {k : Nat} (h : Rs w p b g s u) (ok : UOk u) (c : Cnt s k) (hk : k ≤ bnd) :
    Calls Try.prog 20 #[.pointer (some ⟨g, 0, none⟩), .pointer (some ⟨p, 0, none⟩)] w fun e w' => e = .returned (.bool (uX s u).dn) ∧ Rs w' p b g (uT s u) (uX s u) ∧ But3 g p b w w' := by
  by_cases hd : u.dn = true
  · have e1 : uX s u = u := by rw [uX, if_pos hd]
    have e2 : uT s u = s := by rw [uT, if_pos hd]
    rw [e1, e2, hd]
    refine (us_done h hd).mono ?_
    rintro e w' ⟨rfl, rfl⟩
    exact ⟨rfl, h, But3.of_below (Below.refl _ _)⟩
  · have e1 : uX s u = uGo u (doR s (uNext u)) := by rw [uX, if_neg hd]
    have e2 : uT s u = doT s (uNext u) := by rw [uT, if_neg hd]
    rw [e1, e2]
    have hN := unext_at h.us ok
    have hA : ∀ {w' : World}, Mem 62 w' p b s → Calls Try.prog 37 #[.pointer (some ⟨p, 0, none⟩), acV (uNext u)] w' fun e w'' => e = .returned (reV (doR s (uNext u))) ∧ Turns 62 p b w' w'' (doT s (uNext u)) := fun hm => rdo_at hm c hk (uNext u)
    have t0 := ok.t0
    have t1 := ok.t1
    generalize uNext u = a at *
    generalize doT s a = s' at *
    generalize doR s a = r at *
    obtain ⟨rv, ro, re⟩ := r
    obtain ⟨ad, sz, po, v, ps, tn, dn, hs⟩ := u
    have hdf : dn = false := by simpa using hd
    subst hdf
    simp only [] at t0 t1
    by_cases he : re = 0
    · subst he
      obtain rfl | rfl | rfl | rfl | rfl : tn = 0 ∨ tn = 1 ∨ tn = 2 ∨ tn = 3 ∨ tn = 4 := by omega
      · cases po with
        | true => exact u0G h hN hA
        | false => exact u0P h hN hA
      · cases po with
        | true =>
          have e3 : uGo ⟨ad, sz, true, v, ps, 1, false, hs⟩ ⟨rv, ro, 0⟩ = if difA rv (add64 ps 1) = 0 then ⟨ad, sz, true, v, ps, 2, false, hs⟩ else if difA rv (add64 ps 1) < 0 then ⟨ad, sz, true, v, ps, 1, true, hs⟩ else ⟨ad, sz, true, v, ps, 0, false, hs⟩ := rfl
          rw [e3]
          by_cases q1 : difA rv (add64 ps 1) = 0
          · rw [if_pos q1]; exact u1zG h q1 hN hA
          · rw [if_neg q1]
            by_cases q2 : difA rv (add64 ps 1) < 0
            · rw [if_pos q2]; exact u1nG h q2 hN hA
            · rw [if_neg q2]; exact u1pG h (by omega) hN hA
        | false =>
          have e3 : uGo ⟨ad, sz, false, v, ps, 1, false, hs⟩ ⟨rv, ro, 0⟩ = if difA rv ps = 0 then ⟨ad, sz, false, v, ps, 2, false, hs⟩ else if difA rv ps < 0 then ⟨ad, sz, false, v, ps, 1, true, hs⟩ else ⟨ad, sz, false, v, ps, 0, false, hs⟩ := rfl
          rw [e3]
          by_cases q1 : difA rv ps = 0
          · rw [if_pos q1]; exact u1zP h q1 hN hA
          · rw [if_neg q1]
            by_cases q2 : difA rv ps < 0
            · rw [if_pos q2]; exact u1nP h q2 hN hA
            · rw [if_neg q2]; exact u1pP h (by omega) hN hA
      · cases ro with
        | true => cases po with
          | true => exact u2yG h hN hA
          | false => exact u2yP h hN hA
        | false => cases po with
          | true => exact u2nG h hN hA
          | false => exact u2nP h hN hA
      · cases po with
        | true => exact u3G h hN hA
        | false => exact u3P h hN hA
      · cases po with
        | true => exact u4G h hN hA
        | false => exact u4P h hN hA
    · have e3 : uGo ⟨ad, sz, po, v, ps, tn, false, hs⟩ ⟨rv, ro, re⟩ = ⟨ad, sz, po, 0, ps, tn, true, hs⟩ := by simp [uGo, he]
      rw [e3]
      exact ue h (by simpa using he) hN hA

/-- The one who pushes or pops is as the document's user. -/
structure Lk (x : Pr) (u : Us) : Prop where
  ad : u.ad = x.ad
  sz : u.sz = x.sz
  ps : u.ps = x.ps
  po : u.po = x.pv.isNone
  dn : u.dn = (x.tn == 5)
  tn : x.tn ≠ 5 → u.tn = x.tn
  t0 : 0 ≤ u.tn
  t1 : u.tn ≤ 4
  hs : u.hs = x.wh
  vp : ∀ v, x.pv = some v → x.tn ≠ 5 → u.v = v
  vg : x.pv = none → x.tn = 4 ∨ x.wh = true → u.v = x.mv
  wh : x.wh = true → x.tn = 5
theorem Lk.uok {x : Pr} {u : Us} (h : Lk x u) (y : YOk x) : UOk u :=
  ⟨by rw [h.ad, h.sz]; exact y.xo.ok.q, by rw [h.ps]; exact y.xo.ok.p0, by rw [h.ps]; exact y.xo.ok.p1, h.t0, h.t1⟩
theorem Lk.next {x : Pr} {u : Us} (h : Lk x u) : uNext u = pNext x := by
  unfold uNext
  by_cases h5 : x.tn = 5
  · rw [if_pos (by rw [h.dn, h5]; rfl)]
    simp [pNext, h5]
  · rw [if_neg (by rw [h.dn]; simpa using h5)]
    have e : pvU u = x.pv ∨ (∃ v, x.pv = some v ∧ False) := by
      left
      unfold pvU
      rw [h.po]
      cases hp : x.pv with
      | none => rfl
      | some v => simp [h.vp v hp h5]
    rcases e with e | ⟨_, _, e⟩
    · simp only [pNext, e, h.ad, h.sz, h.ps, h.tn h5]
    · exact e.elim
theorem Lk.pv {x : Pr} {u : Us} (h : Lk x u) (h5 : x.tn ≠ 5) : pvU u = x.pv := by
  unfold pvU
  rw [h.po]
  cases hp : x.pv with
  | none => rfl
  | some v => simp [h.vp v hp h5]
theorem Lk.turn {x : Pr} {u : Us} (h : Lk x u) (s : St) : uT s u = pT s x := by
  unfold uT pT
  by_cases h5 : x.tn = 5
  · rw [if_pos h5, if_pos (by rw [h.dn, h5]; rfl)]
  · rw [if_neg h5, if_neg (by rw [h.dn]; simpa using h5), h.next]
theorem Lk.step {x : Pr} {u : Us} (h : Lk x u) (y : XOk x) (s : St) : Lk (pX s x) (uX s u) := by
  unfold pX uX
  by_cases h5 : x.tn = 5
  · rw [if_pos h5, if_pos (by rw [h.dn, h5]; rfl)]; exact h
  · have hd : ¬ u.dn = true := by rw [h.dn]; simpa using h5
    rw [if_neg h5, if_neg hd, h.next]
    have hpv := h.pv h5
    have htn := h.tn h5
    have hw : x.wh = false := by cases q : x.wh with | false => rfl | true => exact absurd (h.wh q) h5
    have t0 := y.t0
    have t1 := y.t1
    have hdf : u.dn = false := by simpa using hd
    obtain ⟨ha, hz, hp, hpo, _, _, ht0, ht1, hhs, hvp, hvg, _⟩ := h
    generalize doR s (pNext x) = r
    obtain ⟨ua, uz, upo, uv, ups, utn, udn, uhs⟩ := u
    obtain ⟨xa, xz, xv, xt, xp, xm, xw⟩ := x
    simp only [] at ha hz hp hpo ht0 ht1 hhs hvp hvg hdf htn hw t0 t1 h5
    subst ha hz hp hhs hdf htn hpo
    subst hw
    have fin : ∀ (ps tn : Int), 0 ≤ tn → tn ≤ 4 → tn ≠ 4 → Lk ⟨ua, uz, xv, tn, ps, xm, false⟩ ⟨ua, uz, xv.isNone, uv, ps, tn, false, false⟩ := fun ps tn h0 h1 h2 =>
      ⟨rfl, rfl, rfl, rfl, by have : tn ≠ 5 := by omega
                              simp [this], fun _ => rfl, h0, h1, rfl, fun v hv _ => hvp v hv h5, fun _ c => by simp at c; omega, fun c => by simp at c⟩
    have ends : ∀ (v tn : Int), 0 ≤ tn → tn ≤ 4 → Lk ⟨ua, uz, xv, 5, ups, xm, false⟩ ⟨ua, uz, xv.isNone, v, ups, tn, true, false⟩ := fun v tn h0 h1 =>
      ⟨rfl, rfl, rfl, rfl, rfl, fun c => absurd rfl c, h0, h1, rfl, fun v _ c => absurd rfl c, fun _ c => by simp at c, fun _ => rfl⟩
    unfold pGo uGo
    rw [hpv]
    simp only []
    by_cases he : r.e = 0
    · rw [if_pos he, if_pos he]
      by_cases q0 : utn = 0
      · rw [if_pos q0, if_pos q0]; exact fin _ 1 (by decide) (by decide) (by decide)
      · rw [if_neg q0, if_neg q0]
        by_cases q1 : utn = 1
        · rw [if_pos q1, if_pos q1]
          unfold bhT
          by_cases d0 : difA r.v (opensV xv ups) = 0
          · rw [if_pos d0, if_pos d0]; exact fin _ 2 (by decide) (by decide) (by decide)
          · rw [if_neg d0, if_neg d0]
            by_cases d1 : difA r.v (opensV xv ups) < 0
            · rw [if_pos d1, if_pos d1]; exact ends _ _ ht0 ht1
            · rw [if_neg d1, if_neg d1]; exact fin _ 0 (by decide) (by decide) (by decide)
        · rw [if_neg q1, if_neg q1]
          by_cases q2 : utn = 2
          · rw [if_pos q2, if_pos q2]
            by_cases o : r.ok = true
            · rw [if_pos o, if_pos o]; exact fin _ 3 (by decide) (by decide) (by decide)
            · rw [if_neg o, if_neg o]; exact fin _ 0 (by decide) (by decide) (by decide)
          · rw [if_neg q2, if_neg q2]
            by_cases q3 : utn = 3
            · rw [if_pos q3, if_pos q3]
              refine ⟨rfl, rfl, rfl, rfl, rfl, fun _ => rfl, by simp, by simp, rfl, fun v hv _ => ?_, fun hv _ => ?_, fun c => by simp at c⟩
              · simp only [] at hv
                subst hv
                exact hvp v rfl h5
              · simp only [] at hv
                subst hv
                rfl
            · rw [if_neg q3, if_neg q3]
              have q4 : utn = 4 := by omega
              exact ⟨rfl, rfl, rfl, rfl, rfl, fun c => absurd rfl c, ht0, ht1, rfl, fun v _ c => absurd rfl c, fun hv _ => hvg hv (Or.inl q4), fun _ => rfl⟩
    · rw [if_neg he, if_neg he]; exact ends _ _ ht0 ht1
theorem Lk.newP (ad sz v : Int) : Lk (newP ad sz v) ⟨ad, sz, false, v, 0, 0, false, false⟩ :=
  ⟨rfl, rfl, rfl, rfl, rfl, fun _ => rfl, by simp, by simp, rfl, fun u e _ => by obtain rfl := Option.some.inj e; rfl, fun e => (by cases e), fun e => (by cases e)⟩
theorem Lk.newG (ad sz : Int) : Lk (newG ad sz) ⟨ad, sz, true, 0, 0, 0, false, false⟩ :=
  ⟨rfl, rfl, rfl, rfl, rfl, fun _ => rfl, by simp, by simp, rfl, fun u e _ => (by cases e), fun _ _ => rfl, fun e => (by cases e)⟩
/-- What is told of one who pops. -/
theorem Lk.got {x : Pr} {u : Us} (h : Lk x u) (hp : x.pv = none) : x.wh = u.hs ∧ gotD x = u.dn ∧ (x.wh = true → gotV x = u.v) ∧ (x.wh = false → gotV x = 0) := by
  refine ⟨h.hs.symm, ?_, fun e => ?_, fun e => by simp [gotV, e]⟩
  · unfold gotD
    rw [h.dn]
    cases q : x.wh with
    | false => rfl
    | true => rw [h.wh q]; rfl
  · rw [h.vg hp (Or.inr e)]; simp [gotV, e]
end Go.Proofs.Ytfnfbceblpaggaa
