/- What a thief's turn leaves of the world of DequeOnce. Conditions: the thieves' tasks are such as Steal gave. -/
import Derived.Test.YtmglacaikpcjhaaY2a
namespace Go.Proofs.Ytmglacaikpcjhaa
open Go.RowKit


set_option maxRecDepth 100000 in
set_option maxHeartbeats 800000 in
theorem thief_new2 {w : World} {gx : Nat} {c : Xr} (hx : IsX w gx c) (ht : c.t2 = none) (q : QOk 3 c.n) :
    Calls Try.prog 24 #[.pointer (some ⟨gx, 0, none⟩), .int .i64 2] w fun e w' => e = .returned (.tuple #[]) ∧ ∃ g, w.heap.size ≤ g ∧ IsTk w' g (newS 3 c.n) ∧ IsX w' gx (c.setT 2 (some g)) ∧ But gx gx w w' := by
  obtain ⟨c0, c1, c2, c3, c4, c5, c6, c7, c8, c9, c10, c11, c12⟩ := hx.xc
  have HX := hid hx
  have hlt := hx.lt
  obtain ⟨p, n, ow, po, u, t0, t1, t2, gh, N, pu, ta⟩ := c
  simp only [] at ht c0 c1 c2 c3 c4 c5 c6 c7 c8 c9 c10 c11 c12 q
  subst ht
  simp only [ptrV] at c8
  have HC : Hid (Calls Try.prog 14 #[.agg #[.int .i64 3, .int .i64 n]] w.drew fun e w' => ∃ g, e = .returned (.pointer (some ⟨g, 0, none⟩)) ∧ (w'.cell? ⟨gx, 1, none⟩ = some (.int .i64 3) ∧ w'.cell? ⟨gx, 2, none⟩ = some (.int .i64 n)) ∧ (w'.cell? ⟨gx, 8, none⟩ = some (.pointer none) ∧ w'.frozen? ⟨gx, 8, none⟩ = false) ∧ Hid (IsTk w' g (newS 3 n) ∧ w.heap.size ≤ g ∧ Below w.heap.size w w')) := hid (by
    refine (steal_at w.drew q).mono ?_
    rintro e w' ⟨g, rfl, h1, h2, h3⟩
    have hB : Below w.heap.size w w' := bel_trans (Below.refl _ _).drew h3
    have hx' := HX.out.below hB
    exact ⟨g, rfl, ⟨hx'.xc.c1, hx'.xc.c2⟩, ⟨hx'.xc.c8, hx'.free 8⟩, h1, h2, hB⟩)
  have hS0 : w.drew.cell? ⟨gx, 1, none⟩ = some (.int .i64 3) ∧ w.drew.cell? ⟨gx, 2, none⟩ = some (.int .i64 n) := ⟨c1, c2⟩
  clear hx q c0 c3 c4 c5 c9 c10 c11 c12
  go_enter Try.func24, Try.ntmps24
  go_wp2_with fail
  clear c1 c2 c6 c7 c8
  go_region_held3 (fun w' => w'.cell? ⟨gx, 1, none⟩ = some (.int .i64 3) ∧ w'.cell? ⟨gx, 2, none⟩ = some (.int .i64 n)) (first | with_reducible exact cells12 (by assumption) (by decide) | with_reducible exact hS0 | with_reducible assumption)
    (first
      | (go_at_call 14; refine HC.out.mono ?_; rintro e4 w4 ⟨g, rfl, hS4, ⟨d0, f0⟩, hX⟩))
  have HI := hid ((HX.out.below hX.out.2.2).setT2 (some g))
  have HT := hid (hX.out.1.keep (w' := w4.setCell ⟨gx, 8, none⟩ (ptrV (some g))) (Below.heap_setCell _ _ _ _ (by simp; have := hX.out.2.1; omega)))
  have HB : Hid (But gx gx w (w4.setCell ⟨gx, 8, none⟩ (ptrV (some g)))) := hid ((But.of_below hX.out.2.2).trans (but_set gx 8 _ _))
  have HG := hid hX.out.2.1
  simp only [ptrV] at HI HT HB
  clear hX HC hS0 hS4 d0 f0
  generalize w4.setCell ⟨gx, 8, none⟩ (.pointer (some ⟨g, 0, none⟩)) = w5 at *
  obtain ⟨c0, c1, c2, c3, c4, c5, c6, c7, c8, c9, c10, c11, c12⟩ := HI.out.xc
  have f12 := HI.out.free 12
  have e8 : w5.cell? ⟨gx, 8, none⟩ = some (.pointer (some ⟨g, 0, none⟩)) := c8
  clear c0 c1 c2 c3 c4 c5 c6 c7 c8 c9 c10 c11
  go_wp2
  first | go_end0 | (refine bodyPost_ret (results_none rfl _ _ _) rfl ?_)
  exact ⟨rfl, g, HG.out, HT.out.keep (Below.heap_setCell _ _ _ _ (by simp; have := HG.out; omega)), HI.out.setBad, HB.out.trans (but_set gx 12 _ _)⟩

set_option maxRecDepth 100000 in
set_option maxHeartbeats 800000 in
theorem thief_go2 {w : World} {gx b g k : Nat} {c : Xr} {s : St} {x : Tk} (hx : IsX w gx c) (ht : c.t2 = some g) (hs : Hs w c.p b g s x) (ok : XOk x) (hc : Cnt s k) (hk : k ≤ bnd) (hgg : gx ≠ g) (hgp : gx ≠ c.p) (hgb : gx ≠ b) (h6 : (tX s x).tn ≠ 6) :
    Calls Try.prog 24 #[.pointer (some ⟨gx, 0, none⟩), .int .i64 2] w fun e w' => e = .returned (.tuple #[]) ∧ IsX w' gx c ∧ Hs w' c.p b g (tT s x) (tX s x) ∧ But3 g c.p b w w' := by
  have h6' : ((tX s x).tn == 6) = false := beq_eq_false_iff_ne.2 h6
  obtain ⟨c0, c1, c2, c3, c4, c5, c6, c7, c8, c9, c10, c11, c12⟩ := hx.xc
  have HX := hid hx
  have hlt := hx.lt
  obtain ⟨p, n, ow, po, u, t0, t1, t2, gh, N, pu, ta⟩ := c
  simp only [] at ht hs hgp c0 c1 c2 c3 c4 c5 c6 c7 c8 c9 c10 c11 c12
  subst ht
  simp only [ptrV] at c8
  have HC : Hid (Calls Try.prog 18 #[.pointer (some ⟨g, 0, none⟩), .pointer (some ⟨p, 0, none⟩)] w.drew fun e w' => e = .returned (.bool false) ∧ (w'.cell? ⟨gx, 0, none⟩ = some (.pointer (some ⟨p, 0, none⟩)) ∧ w'.cell? ⟨gx, 8, none⟩ = some (.pointer (some ⟨g, 0, none⟩))) ∧ Hid (Hs w' p b g (tT s x) (tX s x) ∧ But3 g p b w w')) := hid (by
    refine (tstep_at (hs.below (Below.refl _ _).drew) ok hc hk).mono ?_
    rintro e w' ⟨rfl, h1, h2⟩
    have hB : But3 g p b w w' := (But3.of_below (Below.refl _ _).drew).trans h2
    have hx' := HX.out.keep (hB.ne hlt hgg hgp hgb)
    have q2 := hx'.xc.c8
    simp only [ptrV] at q2
    exact ⟨by rw [h6'], ⟨hx'.xc.c0, q2⟩, h1, hB⟩)
  have hS0 : w.drew.cell? ⟨gx, 0, none⟩ = some (.pointer (some ⟨p, 0, none⟩)) ∧ w.drew.cell? ⟨gx, 8, none⟩ = some (.pointer (some ⟨g, 0, none⟩)) := ⟨c0, c8⟩
  have HS := hid hs
  clear hx hs c1 c2 c3 c4 c5 c9 c10 c11 c12
  go_enter Try.func24, Try.ntmps24
  go_wp2_with fail
  clear c0 c6 c7 c8
  go_region_held3 (fun w' => w'.cell? ⟨gx, 0, none⟩ = some (.pointer (some ⟨p, 0, none⟩)) ∧ w'.cell? ⟨gx, 8, none⟩ = some (.pointer (some ⟨g, 0, none⟩))) (first | with_reducible exact hS0 | with_reducible assumption)
    (first
      | (go_at_call 18; refine HC.out.mono ?_; rintro e4 w4 ⟨rfl, hS4, hX⟩))
  have HI := hid (HX.out.keep (hX.out.2.ne hlt hgg hgp hgb))
  have HT := hid hX.out.1
  have HB := hid hX.out.2
  clear hX HC hS0 hS4 HS
  go_wp2
  first | go_end0 | (refine bodyPost_ret (results_none rfl _ _ _) rfl ?_)
  exact ⟨rfl, HI.out, HT.out, HB.out⟩

set_option maxRecDepth 100000 in
set_option maxHeartbeats 800000 in
theorem thief_no2 {w : World} {gx b g k : Nat} {c : Xr} {s : St} {x : Tk} (hx : IsX w gx c) (ht : c.t2 = some g) (hs : Hs w c.p b g s x) (ok : XOk x) (hc : Cnt s k) (hk : k ≤ bnd) (hgg : gx ≠ g) (hgp : gx ≠ c.p) (hgb : gx ≠ b) (h6 : (tX s x).tn = 6) (hr : resB (tX s x) = false) :
    Calls Try.prog 24 #[.pointer (some ⟨gx, 0, none⟩), .int .i64 2] w fun e w' => e = .returned (.tuple #[]) ∧ IsX w' gx (c.setT 2 none) ∧ Mem 78 w' c.p b (tT s x) ∧ But5 gx gx g c.p b w w' := by
  have h6' : ((tX s x).tn == 6) = true := by simp [h6]
  obtain ⟨c0, c1, c2, c3, c4, c5, c6, c7, c8, c9, c10, c11, c12⟩ := hx.xc
  have HX := hid hx
  have hlt := hx.lt
  obtain ⟨p, n, ow, po, u, t0, t1, t2, gh, N, pu, ta⟩ := c
  simp only [] at ht hs hgp c0 c1 c2 c3 c4 c5 c6 c7 c8 c9 c10 c11 c12
  subst ht
  simp only [ptrV] at c8
  have HC : Hid (Calls Try.prog 18 #[.pointer (some ⟨g, 0, none⟩), .pointer (some ⟨p, 0, none⟩)] w.drew fun e w' => e = .returned (.bool true) ∧ (w'.cell? ⟨gx, 0, none⟩ = some (.pointer (some ⟨p, 0, none⟩)) ∧ w'.cell? ⟨gx, 8, none⟩ = some (.pointer (some ⟨g, 0, none⟩))) ∧ Hid (Hs w' p b g (tT s x) (tX s x) ∧ But3 g p b w w')) := hid (by
    refine (tstep_at (hs.below (Below.refl _ _).drew) ok hc hk).mono ?_
    rintro e w' ⟨rfl, h1, h2⟩
    have hB : But3 g p b w w' := (But3.of_below (Below.refl _ _).drew).trans h2
    have hx' := HX.out.keep (hB.ne hlt hgg hgp hgb)
    have q2 := hx'.xc.c8
    simp only [ptrV] at q2
    exact ⟨by rw [h6'], ⟨hx'.xc.c0, q2⟩, h1, hB⟩)
  have hS0 : w.drew.cell? ⟨gx, 0, none⟩ = some (.pointer (some ⟨p, 0, none⟩)) ∧ w.drew.cell? ⟨gx, 8, none⟩ = some (.pointer (some ⟨g, 0, none⟩)) := ⟨c0, c8⟩
  have HS := hid hs
  clear hx hs c1 c2 c3 c4 c5 c9 c10 c11 c12
  go_enter Try.func24, Try.ntmps24
  go_wp2_with fail
  clear c0 c6 c7 c8
  go_region_held3 (fun w' => w'.cell? ⟨gx, 0, none⟩ = some (.pointer (some ⟨p, 0, none⟩)) ∧ w'.cell? ⟨gx, 8, none⟩ = some (.pointer (some ⟨g, 0, none⟩))) (first | with_reducible exact hS0 | with_reducible assumption)
    (first
      | (go_at_call 18; refine HC.out.mono ?_; rintro e4 w4 ⟨rfl, hS4, hX⟩))
  have HI := hid (HX.out.keep (hX.out.2.ne hlt hgg hgp hgb))
  have HT := hid hX.out.1
  have HB := hid hX.out.2
  have HRs := hid (res_at hX.out.1.tk)
  rw [hr, h6'] at HRs
  have f8 := HI.out.free 8
  have d8 := hS4.2
  clear hX HC hS0 hS4 HS
  generalize resV (tX s x) = rv at *
  go_wp2_with fail
  refine HRs.out.mono ?_
  rintro e w5 ⟨rfl, hw5⟩
  rw [hw5]
  clear hw5 w5 HRs
  go_wp2
  first | go_end0 | (refine bodyPost_ret (results_none rfl _ _ _) rfl ?_)
  exact ⟨rfl, HI.out.setT2 none, HT.out.mem.keep (Below.heap_setCell _ _ _ _ (Ne.symm hgp)) (Below.heap_setCell _ _ _ _ (Ne.symm hgb)), (But5.of3 HB.out).trans (But5.of1 (but_set gx 8 _ _))⟩

set_option maxRecDepth 100000 in
set_option maxHeartbeats 800000 in
theorem thief_yes2 {w : World} {gx b g k : Nat} {c : Xr} {s : St} {x : Tk} (hx : IsX w gx c) (ht : c.t2 = some g) (hs : Hs w c.p b g s x) (ok : XOk x) (hc : Cnt s k) (hk : k ≤ bnd) (hgg : gx ≠ g) (hgp : gx ≠ c.p) (hgb : gx ≠ b) {H : Nat → Int} {i : Nat} (hh : IsH w c.gh c.N H) (hne : gx ≠ c.gh) (hgh : c.gh ≠ g ∧ c.gh ≠ c.p ∧ c.gh ≠ b) (hi : i < c.N) (hN : c.N ≤ 20) (h0 : H i = 0) (hta0 : 0 ≤ c.ta) (hta1 : c.ta ≤ 100000) (h6 : (tX s x).tn = 6) (hr : resB (tX s x) = true) (hv : resV (tX s x) = 100 + (i : Int)) :
    Calls Try.prog 24 #[.pointer (some ⟨gx, 0, none⟩), .int .i64 2] w fun e w' => e = .returned (.tuple #[]) ∧ IsX w' gx ({ c with ta := c.ta + 1 }.setT 2 none) ∧ IsH w' c.gh c.N (updH H i 1) ∧ Mem 78 w' c.p b (tT s x) ∧ But5 gx c.gh g c.p b w w' := by
  have h6' : ((tX s x).tn == 6) = true := by simp [h6]
  have HTK : Hid (∀ {w' : World}, IsX w' gx c → IsH w' c.gh c.N H → Calls Try.prog 26 #[.pointer (some ⟨gx, 0, none⟩), .int .u64 (100 + (i : Int))] w' fun e w'' => e = .returned (.tuple #[]) ∧ IsX w'' gx { c with ta := c.ta + 1 } ∧ IsH w'' c.gh c.N (updH H i 1) ∧ But gx c.gh w' w'') := hid (fun a b => take_at a b hne hi hN h0 hta0 hta1)
  have HHH := hid hh
  have HGH := hid hgh
  clear hh hgh hi hN h0 hta0 hta1
  obtain ⟨c0, c1, c2, c3, c4, c5, c6, c7, c8, c9, c10, c11, c12⟩ := hx.xc
  have HX := hid hx
  have hlt := hx.lt
  obtain ⟨p, n, ow, po, u, t0, t1, t2, gh, N, pu, ta⟩ := c
  simp only [] at ht hs hgp c0 c1 c2 c3 c4 c5 c6 c7 c8 c9 c10 c11 c12
  subst ht
  simp only [ptrV] at c8
  have HC : Hid (Calls Try.prog 18 #[.pointer (some ⟨g, 0, none⟩), .pointer (some ⟨p, 0, none⟩)] w.drew fun e w' => e = .returned (.bool true) ∧ (w'.cell? ⟨gx, 0, none⟩ = some (.pointer (some ⟨p, 0, none⟩)) ∧ w'.cell? ⟨gx, 8, none⟩ = some (.pointer (some ⟨g, 0, none⟩))) ∧ Hid (Hs w' p b g (tT s x) (tX s x) ∧ But3 g p b w w')) := hid (by
    refine (tstep_at (hs.below (Below.refl _ _).drew) ok hc hk).mono ?_
    rintro e w' ⟨rfl, h1, h2⟩
    have hB : But3 g p b w w' := (But3.of_below (Below.refl _ _).drew).trans h2
    have hx' := HX.out.keep (hB.ne hlt hgg hgp hgb)
    have q2 := hx'.xc.c8
    simp only [ptrV] at q2
    exact ⟨by rw [h6'], ⟨hx'.xc.c0, q2⟩, h1, hB⟩)
  have hS0 : w.drew.cell? ⟨gx, 0, none⟩ = some (.pointer (some ⟨p, 0, none⟩)) ∧ w.drew.cell? ⟨gx, 8, none⟩ = some (.pointer (some ⟨g, 0, none⟩)) := ⟨c0, c8⟩
  have HS := hid hs
  clear hx hs c1 c2 c3 c4 c5 c9 c10 c11 c12
  go_enter Try.func24, Try.ntmps24
  go_wp2_with fail
  clear c0 c6 c7 c8
  go_region_held3 (fun w' => w'.cell? ⟨gx, 0, none⟩ = some (.pointer (some ⟨p, 0, none⟩)) ∧ w'.cell? ⟨gx, 8, none⟩ = some (.pointer (some ⟨g, 0, none⟩))) (first | with_reducible exact hS0 | with_reducible assumption)
    (first
      | (go_at_call 18; refine HC.out.mono ?_; rintro e4 w4 ⟨rfl, hS4, hX⟩))
  have HI := hid (HX.out.keep (hX.out.2.ne hlt hgg hgp hgb))
  have HT := hid hX.out.1
  have HB := hid hX.out.2
  have HRs := hid (res_at hX.out.1.tk)
  rw [hr, h6', hv] at HRs
  (try simp only [] at HTK HHH HGH hne)
  have HH4 := hid (HHH.out.keep (hX.out.2.ne HHH.out.lt HGH.out.1 HGH.out.2.1 HGH.out.2.2))
  have d8 := hS4.2
  clear hX HC hS0 hS4 HS
  go_wp2_with fail
  refine HRs.out.mono ?_
  rintro e w5 ⟨rfl, hw5⟩
  rw [hw5]
  clear hw5 w5 HRs d8
  go_wp2_with fail
  refine (HTK.out HI.out HH4.out).mono ?_
  rintro e w6 ⟨rfl, q1, q2, q3⟩
  have Q1 := hid q1
  have Q2 := hid q2
  have Q3 := hid q3
  have f8 := q1.free 8
  have e8 := q1.xc.c8
  simp only [ptrV] at e8
  clear q1 q2 q3
  go_wp2
  first | go_end0 | (refine bodyPost_ret (results_none rfl _ _ _) rfl ?_)
  exact ⟨rfl, Q1.out.setT2 none, Q2.out.keep (Below.heap_setCell _ _ _ _ (Ne.symm hne)), (HT.out.mem.but Q3.out (Ne.symm hgp) (Ne.symm HGH.out.2.1) (Ne.symm hgb) (Ne.symm HGH.out.2.2)).keep (Below.heap_setCell _ _ _ _ (Ne.symm hgp)) (Below.heap_setCell _ _ _ _ (Ne.symm hgb)), ((But5.of3 HB.out).trans (But5.of2 Q3.out)).trans (But5.of1 (but_set gx 8 _ _))⟩
end Go.Proofs.Ytmglacaikpcjhaa
