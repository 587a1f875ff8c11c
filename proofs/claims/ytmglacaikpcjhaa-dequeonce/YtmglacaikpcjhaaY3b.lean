/- What the owner's turn leaves of the world of DequeOnce. Conditions: the owner's task is such as Push or Pop gave. -/
import Derived.Test.YtmglacaikpcjhaaY2a
namespace Go.Proofs.Ytmglacaikpcjhaa
open Go.RowKit

set_option maxRecDepth 100000 in
set_option maxHeartbeats 800000 in
theorem own_go {w : World} {gx b g k : Nat} {c : Xr} {s : St} {x : Tk} (hx : IsX w gx c) (ht : c.ow = some g) (hs : Hs w c.p b g s x) (ok : XOk x) (hc : Cnt s k) (hk : k ≤ bnd) (hgg : gx ≠ g) (hgp : gx ≠ c.p) (hgb : gx ≠ b) (lv : Value) (h6 : (tX s x).tn ≠ 6) :
    Calls Try.prog 23 #[.pointer (some ⟨gx, 0, none⟩), lv] w fun e w' => e = .returned (.tuple #[]) ∧ IsX w' gx c ∧ Hs w' c.p b g (tT s x) (tX s x) ∧ But3 g c.p b w w' := by
  have h6' : ((tX s x).tn == 6) = false := beq_eq_false_iff_ne.2 h6
  obtain ⟨c0, c1, c2, c3, c4, c5, c6, c7, c8, c9, c10, c11, c12⟩ := hx.xc
  have HX := hid hx
  have hlt := hx.lt
  obtain ⟨p, n, ow, po, u, t0, t1, t2, gh, N, pu, ta⟩ := c
  simp only [] at ht hs hgp c0 c1 c2 c3 c4 c5 c6 c7 c8 c9 c10 c11 c12
  subst ht
  simp only [ptrV] at c3
  have HC : Hid (Calls Try.prog 18 #[.pointer (some ⟨g, 0, none⟩), .pointer (some ⟨p, 0, none⟩)] w.drew fun e w' => e = .returned (.bool false) ∧ (w'.cell? ⟨gx, 0, none⟩ = some (.pointer (some ⟨p, 0, none⟩)) ∧ w'.cell? ⟨gx, 3, none⟩ = some (.pointer (some ⟨g, 0, none⟩))) ∧ Hid (Hs w' p b g (tT s x) (tX s x) ∧ But3 g p b w w')) := hid (by
    refine (tstep_at (hs.below (Below.refl _ _).drew) ok hc hk).mono ?_
    rintro e w' ⟨rfl, h1, h2⟩
    have hB : But3 g p b w w' := (But3.of_below (Below.refl _ _).drew).trans h2
    have hx' := HX.out.keep (hB.ne hlt hgg hgp hgb)
    have q2 := hx'.xc.c3
    simp only [ptrV] at q2
    exact ⟨by rw [h6'], ⟨hx'.xc.c0, q2⟩, h1, hB⟩)
  have hS0 : w.drew.cell? ⟨gx, 0, none⟩ = some (.pointer (some ⟨p, 0, none⟩)) ∧ w.drew.cell? ⟨gx, 3, none⟩ = some (.pointer (some ⟨g, 0, none⟩)) := ⟨c0, c3⟩
  clear hx hs c1 c2 c4 c5 c6 c7 c8 c9 c10 c11 c12
  go_enter Try.func23, Try.ntmps23
  go_wp2_with fail
  clear c0 c3
  go_region_held3 (fun w' => w'.cell? ⟨gx, 0, none⟩ = some (.pointer (some ⟨p, 0, none⟩)) ∧ w'.cell? ⟨gx, 3, none⟩ = some (.pointer (some ⟨g, 0, none⟩))) (first | with_reducible exact hS0 | with_reducible assumption)
    (first
      | (go_at_call 18; refine HC.out.mono ?_; rintro e4 w4 ⟨rfl, hS4, hX⟩))
  have HI := hid (HX.out.keep (hX.out.2.ne hlt hgg hgp hgb))
  have HT := hid hX.out.1
  have HB := hid hX.out.2
  clear hX HC hS0 hS4
  go_wp2
  first | go_end0 | (refine bodyPost_ret (results_none rfl _ _ _) rfl ?_)
  exact ⟨rfl, HI.out, HT.out, HB.out⟩
set_option maxRecDepth 100000 in
set_option maxHeartbeats 800000 in
theorem own_no {w : World} {gx b g k : Nat} {c : Xr} {s : St} {x : Tk} (hx : IsX w gx c) (ht : c.ow = some g) (hs : Hs w c.p b g s x) (ok : XOk x) (hc : Cnt s k) (hk : k ≤ bnd) (hgg : gx ≠ g) (hgp : gx ≠ c.p) (hgb : gx ≠ b) (lv : Value) (h6 : (tX s x).tn = 6) (hr : resB (tX s x) = false) :
    Calls Try.prog 23 #[.pointer (some ⟨gx, 0, none⟩), lv] w fun e w' => e = .returned (.tuple #[]) ∧ IsX w' gx { c with ow := none } ∧ Mem 78 w' c.p b (tT s x) ∧ But5 gx gx g c.p b w w' := by
  have h6' : ((tX s x).tn == 6) = true := by simp [h6]
  obtain ⟨c0, c1, c2, c3, c4, c5, c6, c7, c8, c9, c10, c11, c12⟩ := hx.xc
  have HX := hid hx
  have hlt := hx.lt
  obtain ⟨p, n, ow, po, u, t0, t1, t2, gh, N, pu, ta⟩ := c
  simp only [] at ht hs hgp c0 c1 c2 c3 c4 c5 c6 c7 c8 c9 c10 c11 c12
  subst ht
  simp only [ptrV] at c3
  have HC : Hid (Calls Try.prog 18 #[.pointer (some ⟨g, 0, none⟩), .pointer (some ⟨p, 0, none⟩)] w.drew fun e w' => e = .returned (.bool true) ∧ (w'.cell? ⟨gx, 0, none⟩ = some (.pointer (some ⟨p, 0, none⟩)) ∧ w'.cell? ⟨gx, 3, none⟩ = some (.pointer (some ⟨g, 0, none⟩))) ∧ Hid (Hs w' p b g (tT s x) (tX s x) ∧ But3 g p b w w')) := hid (by
    refine (tstep_at (hs.below (Below.refl _ _).drew) ok hc hk).mono ?_
    rintro e w' ⟨rfl, h1, h2⟩
    have hB : But3 g p b w w' := (But3.of_below (Below.refl _ _).drew).trans h2
    have hx' := HX.out.keep (hB.ne hlt hgg hgp hgb)
    have q2 := hx'.xc.c3
    simp only [ptrV] at q2
    exact ⟨by rw [h6'], ⟨hx'.xc.c0, q2⟩, h1, hB⟩)
  have hS0 : w.drew.cell? ⟨gx, 0, none⟩ = some (.pointer (some ⟨p, 0, none⟩)) ∧ w.drew.cell? ⟨gx, 3, none⟩ = some (.pointer (some ⟨g, 0, none⟩)) := ⟨c0, c3⟩
  clear hx hs c1 c2 c4 c5 c6 c7 c8 c9 c10 c11 c12
  go_enter Try.func23, Try.ntmps23
  go_wp2_with fail
  clear c0 c3
  go_region_held3 (fun w' => w'.cell? ⟨gx, 0, none⟩ = some (.pointer (some ⟨p, 0, none⟩)) ∧ w'.cell? ⟨gx, 3, none⟩ = some (.pointer (some ⟨g, 0, none⟩))) (first | with_reducible exact hS0 | with_reducible assumption)
    (first
      | (go_at_call 18; refine HC.out.mono ?_; rintro e4 w4 ⟨rfl, hS4, hX⟩))
  have HI := hid (HX.out.keep (hX.out.2.ne hlt hgg hgp hgb))
  have HT := hid hX.out.1
  have HB := hid hX.out.2
  have HRs := hid (res_at hX.out.1.tk)
  rw [hr, h6'] at HRs
  have d3 := hS4.2
  obtain ⟨_, _, _, _, d4, _, _, _, _, _, d10, _, _⟩ := HI.out.xc
  simp only [] at d4 d10
  have f3 := HI.out.free 3
  have f10 := HI.out.free 10
  clear hX HC hS0 hS4
  generalize resV (tX s x) = rv at *
  go_wp2_with fail
  refine HRs.out.mono ?_
  rintro e w5 ⟨rfl, hw5⟩
  rw [hw5]
  clear hw5 w5 HRs
  go_wp2
  first | go_end0 | (refine bodyPost_ret (results_none rfl _ _ _) rfl ?_)
  exact ⟨rfl, HI.out.setOw none, HT.out.mem.keep (Below.heap_setCell _ _ _ _ (Ne.symm hgp)) (Below.heap_setCell _ _ _ _ (Ne.symm hgb)), (But5.of3 HB.out).trans (But5.of1 (but_set gx 3 _ _))⟩
set_option maxRecDepth 100000 in
set_option maxHeartbeats 800000 in
theorem own_push {w : World} {gx b g k : Nat} {c : Xr} {s : St} {x : Tk} (hx : IsX w gx c) (ht : c.ow = some g) (hs : Hs w c.p b g s x) (ok : XOk x) (hc : Cnt s k) (hk : k ≤ bnd) (hgg : gx ≠ g) (hgp : gx ≠ c.p) (hgb : gx ≠ b) (lv : Value) (hpo : c.po = false) (hpu0 : 0 ≤ c.pu) (hpu1 : c.pu ≤ 100000) (h6 : (tX s x).tn = 6) (hr : resB (tX s x) = true) :
    Calls Try.prog 23 #[.pointer (some ⟨gx, 0, none⟩), lv] w fun e w' => e = .returned (.tuple #[]) ∧ IsX w' gx { c with ow := none, pu := c.pu + 1 } ∧ Mem 78 w' c.p b (tT s x) ∧ But5 gx gx g c.p b w w' := by
  have h6' : ((tX s x).tn == 6) = true := by simp [h6]
  obtain ⟨c0, c1, c2, c3, c4, c5, c6, c7, c8, c9, c10, c11, c12⟩ := hx.xc
  have HX := hid hx
  have hlt := hx.lt
  obtain ⟨p, n, ow, po, u, t0, t1, t2, gh, N, pu, ta⟩ := c
  simp only [] at ht hs hgp c0 c1 c2 c3 c4 c5 c6 c7 c8 c9 c10 c11 c12
  subst ht
  simp only [ptrV] at c3
  have HC : Hid (Calls Try.prog 18 #[.pointer (some ⟨g, 0, none⟩), .pointer (some ⟨p, 0, none⟩)] w.drew fun e w' => e = .returned (.bool true) ∧ (w'.cell? ⟨gx, 0, none⟩ = some (.pointer (some ⟨p, 0, none⟩)) ∧ w'.cell? ⟨gx, 3, none⟩ = some (.pointer (some ⟨g, 0, none⟩))) ∧ Hid (Hs w' p b g (tT s x) (tX s x) ∧ But3 g p b w w')) := hid (by
    refine (tstep_at (hs.below (Below.refl _ _).drew) ok hc hk).mono ?_
    rintro e w' ⟨rfl, h1, h2⟩
    have hB : But3 g p b w w' := (But3.of_below (Below.refl _ _).drew).trans h2
    have hx' := HX.out.keep (hB.ne hlt hgg hgp hgb)
    have q2 := hx'.xc.c3
    simp only [ptrV] at q2
    exact ⟨by rw [h6'], ⟨hx'.xc.c0, q2⟩, h1, hB⟩)
  have hS0 : w.drew.cell? ⟨gx, 0, none⟩ = some (.pointer (some ⟨p, 0, none⟩)) ∧ w.drew.cell? ⟨gx, 3, none⟩ = some (.pointer (some ⟨g, 0, none⟩)) := ⟨c0, c3⟩
  clear hx hs c1 c2 c4 c5 c6 c7 c8 c9 c10 c11 c12
  go_enter Try.func23, Try.ntmps23
  go_wp2_with fail
  clear c0 c3
  go_region_held3 (fun w' => w'.cell? ⟨gx, 0, none⟩ = some (.pointer (some ⟨p, 0, none⟩)) ∧ w'.cell? ⟨gx, 3, none⟩ = some (.pointer (some ⟨g, 0, none⟩))) (first | with_reducible exact hS0 | with_reducible assumption)
    (first
      | (go_at_call 18; refine HC.out.mono ?_; rintro e4 w4 ⟨rfl, hS4, hX⟩))
  have HI := hid (HX.out.keep (hX.out.2.ne hlt hgg hgp hgb))
  have HT := hid hX.out.1
  have HB := hid hX.out.2
  have HRs := hid (res_at hX.out.1.tk)
  rw [hr, h6'] at HRs
  have d3 := hS4.2
  obtain ⟨_, _, _, _, d4, _, _, _, _, _, d10, _, _⟩ := HI.out.xc
  simp only [] at d4 d10
  have f3 := HI.out.free 3
  have f10 := HI.out.free 10
  clear hX HC hS0 hS4
  (try simp only [] at hpo hpu0 hpu1)
  subst hpo
  generalize resV (tX s x) = rv at *
  go_wp2_with fail
  refine HRs.out.mono ?_
  rintro e w5 ⟨rfl, hw5⟩
  rw [hw5]
  clear hw5 w5 HRs
  go_wp2
  first | go_end0 | (refine bodyPost_ret (results_none rfl _ _ _) rfl ?_)
  exact ⟨rfl, (HI.out.setPu (pu + 1)).setOw none, (HT.out.mem.keep (Below.heap_setCell _ _ _ _ (Ne.symm hgp)) (Below.heap_setCell _ _ _ _ (Ne.symm hgb))).keep (Below.heap_setCell _ _ _ _ (Ne.symm hgp)) (Below.heap_setCell _ _ _ _ (Ne.symm hgb)), ((But5.of3 HB.out).trans (But5.of1 (but_set gx 10 _ _))).trans (But5.of1 (but_set gx 3 _ _))⟩
set_option maxRecDepth 100000 in
set_option maxHeartbeats 800000 in
theorem own_take {w : World} {gx b g k : Nat} {c : Xr} {s : St} {x : Tk} (hx : IsX w gx c) (ht : c.ow = some g) (hs : Hs w c.p b g s x) (ok : XOk x) (hc : Cnt s k) (hk : k ≤ bnd) (hgg : gx ≠ g) (hgp : gx ≠ c.p) (hgb : gx ≠ b) (lv : Value) (hpo : c.po = true) {H : Nat → Int} {i : Nat} (hh : IsH w c.gh c.N H) (hne : gx ≠ c.gh) (hgh : c.gh ≠ g ∧ c.gh ≠ c.p ∧ c.gh ≠ b) (hi : i < c.N) (hN : c.N ≤ 20) (h0 : H i = 0) (hta0 : 0 ≤ c.ta) (hta1 : c.ta ≤ 100000) (h6 : (tX s x).tn = 6) (hr : resB (tX s x) = true) (hv : resV (tX s x) = 100 + (i : Int)) :
    Calls Try.prog 23 #[.pointer (some ⟨gx, 0, none⟩), lv] w fun e w' => e = .returned (.tuple #[]) ∧ IsX w' gx { c with ow := none, ta := c.ta + 1 } ∧ IsH w' c.gh c.N (updH H i 1) ∧ Mem 78 w' c.p b (tT s x) ∧ But5 gx c.gh g c.p b w w' := by
  have h6' : ((tX s x).tn == 6) = true := by simp [h6]
  have HTK : Hid (∀ {w' : World}, IsX w' gx c → IsH w' c.gh c.N H → Calls Try.prog 26 #[.pointer (some ⟨gx, 0, none⟩), .int .u64 (100 + (i : Int))] w' fun e w'' => e = .returned (.tuple #[]) ∧ IsX w'' gx { c with ta := c.ta + 1 } ∧ IsH w'' c.gh c.N (updH H i 1) ∧ But gx c.gh w' w'') := hid (fun a b => take_at a b hne hi hN h0 hta0 hta1)
  have HHH := hid hh
  have HGH := hid hgh
  clear hh hgh hi hN h0 hta0 hta1
  obtain ⟨c0, c1, c2, c3, c4, c5, c6, c7, c8, c9, c10, c11, c12⟩ := hx.xc
  have HX := hid hx
  have hlt := hx.lt
  obtain ⟨p, n, ow, po, u, t0, t1, t2, gh, N, pu, ta⟩ := c
  simp only [] at ht hs hgp c0 c1 c2 c3 c4 c5 c6 c7 c8 c9 c10 c11 c12
  subst ht
  simp only [ptrV] at c3
  have HC : Hid (Calls Try.prog 18 #[.pointer (some ⟨g, 0, none⟩), .pointer (some ⟨p, 0, none⟩)] w.drew fun e w' => e = .returned (.bool true) ∧ (w'.cell? ⟨gx, 0, none⟩ = some (.pointer (some ⟨p, 0, none⟩)) ∧ w'.cell? ⟨gx, 3, none⟩ = some (.pointer (some ⟨g, 0, none⟩))) ∧ Hid (Hs w' p b g (tT s x) (tX s x) ∧ But3 g p b w w')) := hid (by
    refine (tstep_at (hs.below (Below.refl _ _).drew) ok hc hk).mono ?_
    rintro e w' ⟨rfl, h1, h2⟩
    have hB : But3 g p b w w' := (But3.of_below (Below.refl _ _).drew).trans h2
    have hx' := HX.out.keep (hB.ne hlt hgg hgp hgb)
    have q2 := hx'.xc.c3
    simp only [ptrV] at q2
    exact ⟨by rw [h6'], ⟨hx'.xc.c0, q2⟩, h1, hB⟩)
  have hS0 : w.drew.cell? ⟨gx, 0, none⟩ = some (.pointer (some ⟨p, 0, none⟩)) ∧ w.drew.cell? ⟨gx, 3, none⟩ = some (.pointer (some ⟨g, 0, none⟩)) := ⟨c0, c3⟩
  clear hx hs c1 c2 c4 c5 c6 c7 c8 c9 c10 c11 c12
  go_enter Try.func23, Try.ntmps23
  go_wp2_with fail
  clear c0 c3
  go_region_held3 (fun w' => w'.cell? ⟨gx, 0, none⟩ = some (.pointer (some ⟨p, 0, none⟩)) ∧ w'.cell? ⟨gx, 3, none⟩ = some (.pointer (some ⟨g, 0, none⟩))) (first | with_reducible exact hS0 | with_reducible assumption)
    (first
      | (go_at_call 18; refine HC.out.mono ?_; rintro e4 w4 ⟨rfl, hS4, hX⟩))
  have HI := hid (HX.out.keep (hX.out.2.ne hlt hgg hgp hgb))
  have HT := hid hX.out.1
  have HB := hid hX.out.2
  have HRs := hid (res_at hX.out.1.tk)
  rw [hr, h6', hv] at HRs
  (try simp only [] at hpo)
  subst hpo
  have HH4 := hid (HHH.out.keep (hX.out.2.ne HHH.out.lt HGH.out.1 HGH.out.2.1 HGH.out.2.2))
  have d3 := hS4.2
  obtain ⟨_, _, _, _, d4, _, _, _, _, _, _, _, _⟩ := HI.out.xc
  simp only [] at d4
  clear hX HC hS0 hS4
  go_wp2_with fail
  refine HRs.out.mono ?_
  rintro e w5 ⟨rfl, hw5⟩
  rw [hw5]
  clear hw5 w5 HRs
  go_wp2_with fail
  refine (HTK.out HI.out HH4.out).mono ?_
  rintro e w6 ⟨rfl, q1, q2, q3⟩
  have Q1 := hid q1
  have Q2 := hid q2
  have Q3 := hid q3
  have f3 := q1.free 3
  obtain ⟨_, _, _, e3, e4, _, _, _, _, _, _, _, _⟩ := q1.xc
  simp only [ptrV] at e3 e4
  clear q1 q2 q3 d3 d4
  go_wp2
  first | go_end0 | (refine bodyPost_ret (results_none rfl _ _ _) rfl ?_)
  exact ⟨rfl, Q1.out.setOw none, Q2.out.keep (Below.heap_setCell _ _ _ _ (Ne.symm hne)), (HT.out.mem.but Q3.out (Ne.symm hgp) (Ne.symm HGH.out.2.1) (Ne.symm hgb) (Ne.symm HGH.out.2.2)).keep (Below.heap_setCell _ _ _ _ (Ne.symm hgp)) (Below.heap_setCell _ _ _ _ (Ne.symm hgb)), ((But5.of3 HB.out).trans (But5.of2 Q3.out)).trans (But5.of1 (but_set gx 3 _ _))⟩
end Go.Proofs.Ytmglacaikpcjhaa
