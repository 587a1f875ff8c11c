/- What a reader's Step returns and leaves, where its act has no error. Conditions: it is one that Read gave; the counts are below 2^62. -/
import Derived.Test.YtkdgjgbmbdmmfaaS8
import Derived.Test.YtkdgjgbmbdmmfaaS9
namespace Go.Proofs.Ytkdgjgbmbdmmfaa
open Go.RowKit

/-- The state of words and of a reader. -/
structure Rs (w : World) (p b g : Nat) (s : St) (x : Rd) : Prop where
  mem : Mem 56 w p b s
  rd : IsRd w g x
  gp : g ≠ p
  gb : g ≠ b
theorem Rs.below {w w' : World} {p b g : Nat} {s : St} {x : Rd} (h : Rs w p b g s x) (k : Below w.heap.size w w') : Rs w' p b g s x := ⟨h.mem.below k, h.rd.below k, h.gp, h.gb⟩

theorem rnext_in {w : World} {p b g : Nat} {s : St} {x : Rd} (h : Rs w p b g s x) (ok : ROk x.x) {w' : World} (k : Below w.heap.size w w') :
    Calls Try.prog 20 #[.pointer (some ⟨g, 0, none⟩)] w' fun e w'' => e = .returned (acV (rNext x.x)) ∧ Hid (Below w.heap.size w w'') := by
  refine (rnext_at (h.rd.below k).pc ok).mono ?_
  rintro e w'' ⟨rfl, K⟩
  exact ⟨rfl, bel_trans k K⟩
/-- What stands behind the act of a step: the words have turned, the reader has not. -/
structure MidR (w : World) (p b g : Nat) (s : St) (x : Rd) (w' : World) : Prop where
  ws : Rs w' p b g s x
  but : But3 g p b w w'
theorem rdo_in {w : World} {p b g : Nat} {s : St} {x : Rd} {k : Nat} (h : Rs w p b g s x) (c : Cnt s k) (hk : k ≤ bnd) (he : (doR s (rNext x.x)).e = 0) {w' : World} (K : Hid (Below w.heap.size w w')) :
    Calls Try.prog 26 #[.pointer (some ⟨g, 0, none⟩), .pointer (some ⟨p, 0, none⟩), acV (rNext x.x)] w' fun e w'' => e = .returned (.tuple #[reV (doR s (rNext x.x)), .bool true]) ∧ Hid (MidR w p b g (doT s (rNext x.x)) x w'') := by
  refine (pDo_at (h.mem.below K.out) c hk _ (rNext x.x) he).mono ?_
  rintro e w'' ⟨rfl, T1, T2⟩
  exact ⟨rfl, ⟨T1, (h.rd.below K.out).keep (T2.block _ (h.rd.below K.out).lt h.gp h.gb), h.gp, h.gb⟩, (But3.of_below K.out).trans (But3.of_but T2)⟩
theorem MidR.alloc {w : World} {p b g : Nat} {s : St} {x : Rd} {w' : World} (h : MidR w p b g s x w') (o : Obj) : MidR w p b g s x (w'.alloc o) :=
  ⟨h.ws.below (below_alloc _ _), h.but.trans (But3.of_below (below_alloc _ _))⟩


theorem rmid_alloc {w : World} {p b g : Nat} {s : St} {x : Rd} {w' : World} (h : MidR w p b g s x w') (rv : Int) (ro : Bool) (re : Int) :
    MidR w p b g s x (w'.alloc (.cells #[.int .u64 rv, .bool ro, .int .i64 re] 66)) ∧ (w'.alloc (.cells #[.int .u64 rv, .bool ro, .int .i64 re] 66)).heap[w'.heap.size]? = some (.cells #[.int .u64 rv, .bool ro, .int .i64 re] 66 (0, 0)) :=
  ⟨h.alloc _, heap_alloc_new _ _⟩
theorem Rs.set {w : World} {p b g : Nat} {s : St} {x : Rd} (h : Rs w p b g s x) (q i : Nat) (v : Value) (h1 : p ≠ q) (h2 : b ≠ q) (h3 : g ≠ q) : Rs (w.setCell ⟨q, i, none⟩ v) p b g s x :=
  ⟨h.mem.keep (Below.heap_setCell _ _ _ _ h1) (Below.heap_setCell _ _ _ _ h2), h.rd.keep (Below.heap_setCell _ _ _ _ h3), h.gp, h.gb⟩
theorem rmid_put {w : World} {p b g q : Nat} {s s0 : St} {x x0 : Rd} {w' : World} (h0 : Rs w p b g s0 x0) (h : MidR w p b g s x w') (hq : Q3 w w' q) (rv : Int) (ro : Bool) (re : Int) :
    MidR w p b g s x (((w'.setCell ⟨q, 0, none⟩ (.int .u64 rv)).setCell ⟨q, 1, none⟩ (.bool ro)).setCell ⟨q, 2, none⟩ (.int .i64 re)) ∧ (((w'.setCell ⟨q, 0, none⟩ (.int .u64 rv)).setCell ⟨q, 1, none⟩ (.bool ro)).setCell ⟨q, 2, none⟩ (.int .i64 re)).heap[q]? = some (.cells #[.int .u64 rv, .bool ro, .int .i64 re] 66 (0, 0)) := by
  have l1 := h0.mem.lt
  have l2 := h0.rd.lt
  have l3 := hq.2
  exact ⟨⟨((h.ws.set q 0 _ (by omega) (by omega) (by omega)).set q 1 _ (by omega) (by omega) (by omega)).set q 2 _ (by omega) (by omega) (by omega), ((h.but.set q 0 _ l3).set q 1 _ l3).set q 2 _ l3⟩, put3 hq.1 _ _ _⟩

theorem rstep_end {w w' w'' : World} {p b g : Nat} {s : St} {x x' : Rd} (h : MidR w p b g s x w') (h1 : IsRd w'' g x') (h2 : But g g w' w'') : Rs w'' p b g s x' ∧ But3 g p b w w'' :=
  ⟨⟨h.ws.mem.but h2 h.ws.gp.symm h.ws.gp.symm h.ws.gb.symm h.ws.gb.symm, h1, h.ws.gp, h.ws.gb⟩, h.but.trans (But3.of_one h2)⟩
theorem rnext_inB {w : World} {p b g : Nat} {s : St} {x : Rd} (h : Rs w p b g s x) (ok : ROk x.x) {w' : World} (k : Below w.heap.size w w') :
    Calls Try.prog 20 #[.pointer (some ⟨g, 0, none⟩)] (w'.alloc (.cells z3 66)).drew fun e w'' => e = .returned (acV (rNext x.x)) ∧ Hid (Below w.heap.size w w'' ∧ Q3 w w'' w'.heap.size) := by
  have k2 := (k.alloc k.size (.cells z3 66)).drew
  refine (rnext_at (h.rd.below k2).pc ok).mono ?_
  rintro e w'' ⟨rfl, K⟩
  exact ⟨rfl, bel_trans k2 K, ((Q3.new k).below (Below.refl _ _).drew).below K⟩
theorem rdo_inC {w : World} {p b g q : Nat} {s : St} {x : Rd} {k : Nat} (h : Rs w p b g s x) (c : Cnt s k) (hk : k ≤ bnd) (he : (doR s (rNext x.x)).e = 0) {w' : World} (K : Hid (Below w.heap.size w w' ∧ Q3 w w' q)) :
    Calls Try.prog 26 #[.pointer (some ⟨g, 0, none⟩), .pointer (some ⟨p, 0, none⟩), acV (rNext x.x)] w' fun e w'' => e = .returned (.tuple #[reV (doR s (rNext x.x)), .bool true]) ∧ Hid (MidR w p b g (doT s (rNext x.x)) x w'') ∧ Hid (Q3 w w'' q) ∧ There3 w'' q := by
  refine (pDo_at (h.mem.below K.out.1) c hk _ (rNext x.x) he).mono ?_
  rintro e w'' ⟨rfl, T1, T2⟩
  have hq := K.out.2.but T2 h.mem.lt.1 h.mem.lt.2
  exact ⟨rfl, ⟨⟨T1, (h.rd.below K.out.1).keep (T2.block _ (h.rd.below K.out.1).lt h.gp h.gb), h.gp, h.gb⟩, (But3.of_below K.out.1).trans (But3.of_but T2)⟩, hq, hq.there⟩
theorem rdo_inB {w : World} {p b g : Nat} {s : St} {x : Rd} {k : Nat} (h : Rs w p b g s x) (c : Cnt s k) (hk : k ≤ bnd) (he : (doR s (rNext x.x)).e = 0) {w' : World} (K : Hid (Below w.heap.size w w')) :
    Calls Try.prog 26 #[.pointer (some ⟨g, 0, none⟩), .pointer (some ⟨p, 0, none⟩), acV (rNext x.x)] (w'.alloc (.cells z3 66)) fun e w'' => e = .returned (.tuple #[reV (doR s (rNext x.x)), .bool true]) ∧ Hid (MidR w p b g (doT s (rNext x.x)) x w'') ∧ Hid (Q3 w w'' w'.heap.size) ∧ There3 w'' w'.heap.size :=
  rdo_inC h c hk he (q := w'.heap.size) (hid ⟨K.out.alloc K.out.size _, Q3.new K.out⟩)

set_option maxRecDepth 100000 in
set_option maxHeartbeats 1000000 in
theorem rstep_on {w : World} {p b g : Nat} {s : St} {x : Rd} {k : Nat} (h : Rs w p b g s x) (ok : ROk x.x) (c : Cnt s k) (hk : k ≤ bnd) (hd : x.x.t ≠ x.x.e) (hz : (x.x.t == 0) = false) (he : (doR s (rNext x.x)).e = 0) (hv0 : 0 ≤ (doR s (rNext x.x)).v) (hv1 : (doR s (rNext x.x)).v ≤ 18446744073709551615) :
    Calls Try.prog 14 #[.pointer (some ⟨g, 0, none⟩), .pointer (some ⟨p, 0, none⟩)] w fun e w' => e = .returned (.bool ((rGo x (doR s (rNext x.x)).v).x.t == (rGo x (doR s (rNext x.x)).v).x.e)) ∧ Rs w' p b g (doT s (rNext x.x)) (rGo x (doR s (rNext x.x)).v) ∧ But3 g p b w w' := by
  have HA := hid h
  have HO := hid ok
  have HNE := hid hd
  have HE := hid he
  have HC := hid c
  have HKB := hid hk
  have hne : (x.x.e == 0) = false := beq_eq_false_iff_ne.2 (by have := ok.e; have := ok.n0; omega)
  have hnt : (x.x.t == x.x.e) = false := beq_eq_false_iff_ne.2 hd
  clear h ok c hk hd he
  obtain ⟨a, ha⟩ : ∃ a, rNext x.x = a := ⟨_, rfl⟩
  rw [ha] at HE hv0 hv1 ⊢
  have HAe := hid ha
  clear ha
  obtain ⟨s', hs'⟩ : ∃ s', doT s a = s' := ⟨_, rfl⟩
  obtain ⟨r, hr⟩ : ∃ r, doR s a = r := ⟨_, rfl⟩
  rw [hs']
  rw [hr] at HE hv0 hv1 ⊢
  have HSe := hid hs'
  have HRe := hid hr
  clear hs' hr
  obtain ⟨ak, ad, aa, ab⟩ := a
  obtain ⟨rv, ro, re⟩ := r
  simp only [] at hv0 hv1 ⊢
  obtain ⟨x', hx'⟩ : ∃ x', rGo x rv = x' := ⟨_, rfl⟩
  rw [hx']
  have HXe := hid hx'
  clear hx'
  go_enter Try.func14, Try.ntmps14
  go_wp2_with fail
  refine (pNone_at _ g x.x.e HA.out.rd.pc.c3).mono ?_
  rintro e1 w1 ⟨rfl, hw1⟩
  rw [hw1, hne]
  clear hw1 w1
  go_wp2_with fail
  refine (pDone_at _ g x.x.t x.x.e HA.out.rd.pc.c2 HA.out.rd.pc.c3).mono ?_
  rintro e2 w2 ⟨rfl, m2, hm2⟩
  rw [hnt]
  have hBB : Below w.heap.size w w2 := by rw [hm2]; exact below_drewN (Below.refl _ _) m2
  have h2 := HA.out.below hBB
  have HBB := hid hBB
  clear hm2 hBB
  have c2 := h2.rd.pc.c2
  have HW := hid h2
  have HWB : Hid (But3 g p b w w2) := But3.of_below HBB.out
  clear h2 HBB
  generalize x.x.t = t at hz c2
  have hlt := HW.out.rd.lt
  go_wp2_with fail
  clear c2 hz
  generalize w2 = wb at *
  have HN : Hid (∀ {w' : World}, Below wb.heap.size wb w' → Calls Try.prog 20 #[.pointer (some ⟨g, 0, none⟩)] w' fun e w'' => e = .returned (acV ⟨ak, ad, aa, ab⟩) ∧ Hid (Below wb.heap.size wb w'')) := hid (fun k => HAe.out ▸ rnext_in HW.out HO.out k)
  have HNB : Hid (∀ {w' : World}, Below wb.heap.size wb w' → Calls Try.prog 20 #[.pointer (some ⟨g, 0, none⟩)] (w'.alloc (.cells z3 66)).drew fun e w'' => e = .returned (acV ⟨ak, ad, aa, ab⟩) ∧ Hid (Below wb.heap.size wb w'' ∧ Q3 wb w'' w'.heap.size)) := hid (fun k => HAe.out ▸ rnext_inB HW.out HO.out k)
  have HD : Hid (∀ {w' : World}, Hid (Below wb.heap.size wb w') → Calls Try.prog 26 #[.pointer (some ⟨g, 0, none⟩), .pointer (some ⟨p, 0, none⟩), acV ⟨ak, ad, aa, ab⟩] w' fun e w'' => e = .returned (.tuple #[reV ⟨rv, ro, re⟩, .bool true]) ∧ Hid (MidR wb p b g s' x w'')) := hid (fun K => by
    have := rdo_in HW.out HC.out HKB.out (by show (doR s (rNext x.x)).e = 0; rw [HAe.out, HRe.out]; exact HE.out) K
    rw [show rNext (x : Rd).x = _ from HAe.out, HRe.out, HSe.out] at this
    exact this)
  have HDC : Hid (∀ {w' : World} {q : Nat}, Hid (Below wb.heap.size wb w' ∧ Q3 wb w' q) → Calls Try.prog 26 #[.pointer (some ⟨g, 0, none⟩), .pointer (some ⟨p, 0, none⟩), acV ⟨ak, ad, aa, ab⟩] w' fun e w'' => e = .returned (.tuple #[reV ⟨rv, ro, re⟩, .bool true]) ∧ Hid (MidR wb p b g s' x w'') ∧ Hid (Q3 wb w'' q) ∧ There3 w'' q) := hid (fun K => by
    have := rdo_inC HW.out HC.out HKB.out (by show (doR s (rNext x.x)).e = 0; rw [HAe.out, HRe.out]; exact HE.out) K
    rw [show rNext (x : Rd).x = _ from HAe.out, HRe.out, HSe.out] at this
    exact this)
  have HDB : Hid (∀ {w' : World}, Hid (Below wb.heap.size wb w') → Calls Try.prog 26 #[.pointer (some ⟨g, 0, none⟩), .pointer (some ⟨p, 0, none⟩), acV ⟨ak, ad, aa, ab⟩] (w'.alloc (.cells z3 66)) fun e w'' => e = .returned (.tuple #[reV ⟨rv, ro, re⟩, .bool true]) ∧ Hid (MidR wb p b g s' x w'') ∧ Hid (Q3 wb w'' w'.heap.size) ∧ There3 w'' w'.heap.size) := hid (fun K => by
    have := rdo_inB HW.out HC.out HKB.out (by show (doR s (rNext x.x)).e = 0; rw [HAe.out, HRe.out]; exact HE.out) K
    rw [show rNext (x : Rd).x = _ from HAe.out, HRe.out, HSe.out] at this
    exact this)
  have hB2 : Below wb.heap.size wb wb := Below.refl _ _
  have hB3 := hB2.drew
  go_wp2_with fail
  go_region_held3 (fun _ => True) (trivial)
    (first
      | (go_at_call 20; refine (HN.out ?_).mono ?_; with_reducible exact hB3; rintro e3 w3 ⟨rfl, hK⟩)
      | (go_at_call 20; refine (HNB.out ?_).mono ?_; with_reducible exact hB2; rintro e3 w3 ⟨rfl, hK⟩)
      | (go_at_call 26; refine (HDC.out (q := wb.heap.size) ?_).mono ?_; with_reducible assumption; rintro e4 w4 ⟨rfl, hX, hQ, ⟨d0, d1, d2, f0, f1, f2⟩⟩)
      | (go_at_call 26; refine (HD.out ?_).mono ?_; with_reducible assumption; rintro e4 w4 ⟨rfl, hX⟩)
      | (go_at_call 26; refine (HDB.out ?_).mono ?_; with_reducible assumption; rintro e4 w4 ⟨rfl, hX, hQ, ⟨d0, d1, d2, f0, f1, f2⟩⟩))
  · obtain ⟨hM5, hg5⟩ := rmid_alloc hX.out rv ro re
    have hlt5 := lt_of_block hg5
    generalize (w4.alloc (.cells #[.int .u64 rv, .bool ro, .int .i64 re] 66)) = w5 at hM5 hg5 hlt5 ⊢
    generalize w4.heap.size = q5 at hg5 hlt5 ⊢
    have HM5 := hid hM5
    have g0 := cell_of (i := 0) hg5 rfl
    have g1 := cell_of (i := 1) hg5 rfl
    have g2 := cell_of (i := 2) hg5 rfl
    clear hM5 hg5 hB2 hB3
    go_wp2_with fail
    refine (rgo_at HM5.out.ws.rd rv HO.out HNE.out hv0 hv1).mono ?_
    rintro e6 w6 ⟨rfl, hW6, hB6⟩
    have HX6 := hid (rstep_end HM5.out hW6 hB6)
    clear hW6 hB6 g0 g1 g2
    rw [HXe.out] at HX6
    go_wp2_with fail
    refine (pDone_at _ g x'.x.t x'.x.e HX6.out.1.rd.pc.c2 HX6.out.1.rd.pc.c3).mono ?_
    rintro e7 w7 ⟨rfl, m7, hm7⟩
    have HX7 : Hid (Rs w7 p b g s' x' ∧ But3 g p b w w7) := by
      rw [hm7]
      exact ⟨HX6.out.1.below (below_drewN (Below.refl _ _) m7), (HWB.out.trans HX6.out.2).trans (But3.of_below (below_drewN (Below.refl _ _) m7))⟩
    clear hm7
    go_wp2
    go_ret
    exact ⟨rfl, HX7.out⟩
  · obtain ⟨hM5, hg5⟩ := rmid_put HW.out hX.out hQ.out rv ro re
    have hlt5 := lt_of_block hg5
    generalize (((w4.setCell ⟨w3.heap.size, 0, none⟩ (.int .u64 rv)).setCell ⟨w3.heap.size, 1, none⟩ (.bool ro)).setCell ⟨w3.heap.size, 2, none⟩ (.int .i64 re)) = w5 at hM5 hg5 hlt5 ⊢
    clear hK hQ d0 d1 d2 f0 f1 f2
    generalize w3.heap.size = q5 at hg5 hlt5 ⊢
    have HM5 := hid hM5
    have g0 := cell_of (i := 0) hg5 rfl
    have g1 := cell_of (i := 1) hg5 rfl
    have g2 := cell_of (i := 2) hg5 rfl
    clear hM5 hg5 hB2 hB3
    go_wp2_with fail
    refine (rgo_at HM5.out.ws.rd rv HO.out HNE.out hv0 hv1).mono ?_
    rintro e6 w6 ⟨rfl, hW6, hB6⟩
    have HX6 := hid (rstep_end HM5.out hW6 hB6)
    clear hW6 hB6 g0 g1 g2
    rw [HXe.out] at HX6
    go_wp2_with fail
    refine (pDone_at _ g x'.x.t x'.x.e HX6.out.1.rd.pc.c2 HX6.out.1.rd.pc.c3).mono ?_
    rintro e7 w7 ⟨rfl, m7, hm7⟩
    have HX7 : Hid (Rs w7 p b g s' x' ∧ But3 g p b w w7) := by
      rw [hm7]
      exact ⟨HX6.out.1.below (below_drewN (Below.refl _ _) m7), (HWB.out.trans HX6.out.2).trans (But3.of_below (below_drewN (Below.refl _ _) m7))⟩
    clear hm7
    go_wp2
    go_ret
    exact ⟨rfl, HX7.out⟩
  · obtain ⟨hM5, hg5⟩ := rmid_put HW.out hX.out hQ.out rv ro re
    have hlt5 := lt_of_block hg5
    generalize (((w4.setCell ⟨wb.heap.size, 0, none⟩ (.int .u64 rv)).setCell ⟨wb.heap.size, 1, none⟩ (.bool ro)).setCell ⟨wb.heap.size, 2, none⟩ (.int .i64 re)) = w5 at hM5 hg5 hlt5 ⊢
    clear hK hQ d0 d1 d2 f0 f1 f2
    generalize wb.heap.size = q5 at hg5 hlt5 ⊢
    have HM5 := hid hM5
    have g0 := cell_of (i := 0) hg5 rfl
    have g1 := cell_of (i := 1) hg5 rfl
    have g2 := cell_of (i := 2) hg5 rfl
    clear hM5 hg5 hB2 hB3
    go_wp2_with fail
    refine (rgo_at HM5.out.ws.rd rv HO.out HNE.out hv0 hv1).mono ?_
    rintro e6 w6 ⟨rfl, hW6, hB6⟩
    have HX6 := hid (rstep_end HM5.out hW6 hB6)
    clear hW6 hB6 g0 g1 g2
    rw [HXe.out] at HX6
    go_wp2_with fail
    refine (pDone_at _ g x'.x.t x'.x.e HX6.out.1.rd.pc.c2 HX6.out.1.rd.pc.c3).mono ?_
    rintro e7 w7 ⟨rfl, m7, hm7⟩
    have HX7 : Hid (Rs w7 p b g s' x' ∧ But3 g p b w w7) := by
      rw [hm7]
      exact ⟨HX6.out.1.below (below_drewN (Below.refl _ _) m7), (HWB.out.trans HX6.out.2).trans (But3.of_below (below_drewN (Below.refl _ _) m7))⟩
    clear hm7
    go_wp2
    go_ret
    exact ⟨rfl, HX7.out⟩
set_option maxRecDepth 100000 in
set_option maxHeartbeats 1000000 in
theorem rstep_0 {w : World} {p b g : Nat} {s : St} {x : Rd} {k : Nat} (h : Rs w p b g s x) (ok : ROk x.x) (c : Cnt s k) (hk : k ≤ bnd) (hd : x.x.t ≠ x.x.e) (hz : x.x.t = 0) (hk0 : 0 ≤ x.k) (hk1 : x.k ≤ 4611686018427387904) (he : (doR s (rNext x.x)).e = 0) (hv0 : 0 ≤ (doR s (rNext x.x)).v) (hv1 : (doR s (rNext x.x)).v ≤ 18446744073709551615) :
    Calls Try.prog 14 #[.pointer (some ⟨g, 0, none⟩), .pointer (some ⟨p, 0, none⟩)] w fun e w' => e = .returned (.bool ((rGo { x with k := x.k + 1 } (doR s (rNext x.x)).v).x.t == (rGo { x with k := x.k + 1 } (doR s (rNext x.x)).v).x.e)) ∧ Rs w' p b g (doT s (rNext x.x)) (rGo { x with k := x.k + 1 } (doR s (rNext x.x)).v) ∧ But3 g p b w w' := by
  have HA := hid h
  have HO := hid ok
  have HNE := hid hd
  have HE := hid he
  have HC := hid c
  have HKB := hid hk
  have hne : (x.x.e == 0) = false := beq_eq_false_iff_ne.2 (by have := ok.e; have := ok.n0; omega)
  have hnt : (x.x.t == x.x.e) = false := beq_eq_false_iff_ne.2 hd
  clear h ok c hk hd he
  obtain ⟨a, ha⟩ : ∃ a, rNext x.x = a := ⟨_, rfl⟩
  rw [ha] at HE hv0 hv1 ⊢
  have HAe := hid ha
  clear ha
  obtain ⟨s', hs'⟩ : ∃ s', doT s a = s' := ⟨_, rfl⟩
  obtain ⟨r, hr⟩ : ∃ r, doR s a = r := ⟨_, rfl⟩
  rw [hs']
  rw [hr] at HE hv0 hv1 ⊢
  have HSe := hid hs'
  have HRe := hid hr
  clear hs' hr
  obtain ⟨ak, ad, aa, ab⟩ := a
  obtain ⟨rv, ro, re⟩ := r
  simp only [] at hv0 hv1 ⊢
  obtain ⟨x', hx'⟩ : ∃ x', rGo { x with k := x.k + 1 } rv = x' := ⟨_, rfl⟩
  rw [hx']
  have HXe := hid hx'
  clear hx'
  go_enter Try.func14, Try.ntmps14
  go_wp2_with fail
  refine (pNone_at _ g x.x.e HA.out.rd.pc.c3).mono ?_
  rintro e1 w1 ⟨rfl, hw1⟩
  rw [hw1, hne]
  clear hw1 w1
  go_wp2_with fail
  refine (pDone_at _ g x.x.t x.x.e HA.out.rd.pc.c2 HA.out.rd.pc.c3).mono ?_
  rintro e2 w2 ⟨rfl, m2, hm2⟩
  rw [hnt]
  have hBB : Below w.heap.size w w2 := by rw [hm2]; exact below_drewN (Below.refl _ _) m2
  have h2 := HA.out.below hBB
  have HBB := hid hBB
  clear hm2 hBB
  have c2 := h2.rd.pc.c2
  rw [hz] at c2
  have ck := h2.rd.tries
  have fk := h2.rd.free 21
  have HZ := hid hz
  have HW : Hid (Rs (w2.setCell ⟨g, 21, none⟩ (.int .i64 (x.k + 1))) p b g s { x with k := x.k + 1 }) := hid ⟨h2.mem.keep (Below.heap_setCell _ _ _ _ h2.gp.symm) (Below.heap_setCell _ _ _ _ h2.gb.symm), h2.rd.setK _, h2.gp, h2.gb⟩
  have HWB : Hid (But3 g p b w (w2.setCell ⟨g, 21, none⟩ (.int .i64 (x.k + 1)))) := (But3.of_below HBB.out).trans (But3.of_one (but_set g 21 _ _))
  have hlt := h2.rd.lt
  clear h2 hz HBB
  go_wp2_with fail
  clear c2 ck fk
  generalize (w2.setCell ⟨g, 21, none⟩ (.int .i64 (x.k + 1))) = wb at *
  have HN : Hid (∀ {w' : World}, Below wb.heap.size wb w' → Calls Try.prog 20 #[.pointer (some ⟨g, 0, none⟩)] w' fun e w'' => e = .returned (acV ⟨ak, ad, aa, ab⟩) ∧ Hid (Below wb.heap.size wb w'')) := hid (fun k => HAe.out ▸ rnext_in HW.out HO.out k)
  have HNB : Hid (∀ {w' : World}, Below wb.heap.size wb w' → Calls Try.prog 20 #[.pointer (some ⟨g, 0, none⟩)] (w'.alloc (.cells z3 66)).drew fun e w'' => e = .returned (acV ⟨ak, ad, aa, ab⟩) ∧ Hid (Below wb.heap.size wb w'' ∧ Q3 wb w'' w'.heap.size)) := hid (fun k => HAe.out ▸ rnext_inB HW.out HO.out k)
  have HD : Hid (∀ {w' : World}, Hid (Below wb.heap.size wb w') → Calls Try.prog 26 #[.pointer (some ⟨g, 0, none⟩), .pointer (some ⟨p, 0, none⟩), acV ⟨ak, ad, aa, ab⟩] w' fun e w'' => e = .returned (.tuple #[reV ⟨rv, ro, re⟩, .bool true]) ∧ Hid (MidR wb p b g s' { x with k := x.k + 1 } w'')) := hid (fun K => by
    have := rdo_in HW.out HC.out HKB.out (by show (doR s (rNext x.x)).e = 0; rw [HAe.out, HRe.out]; exact HE.out) K
    rw [show rNext ({ x with k := x.k + 1 } : Rd).x = _ from HAe.out, HRe.out, HSe.out] at this
    exact this)
  have HDC : Hid (∀ {w' : World} {q : Nat}, Hid (Below wb.heap.size wb w' ∧ Q3 wb w' q) → Calls Try.prog 26 #[.pointer (some ⟨g, 0, none⟩), .pointer (some ⟨p, 0, none⟩), acV ⟨ak, ad, aa, ab⟩] w' fun e w'' => e = .returned (.tuple #[reV ⟨rv, ro, re⟩, .bool true]) ∧ Hid (MidR wb p b g s' { x with k := x.k + 1 } w'') ∧ Hid (Q3 wb w'' q) ∧ There3 w'' q) := hid (fun K => by
    have := rdo_inC HW.out HC.out HKB.out (by show (doR s (rNext x.x)).e = 0; rw [HAe.out, HRe.out]; exact HE.out) K
    rw [show rNext ({ x with k := x.k + 1 } : Rd).x = _ from HAe.out, HRe.out, HSe.out] at this
    exact this)
  have HDB : Hid (∀ {w' : World}, Hid (Below wb.heap.size wb w') → Calls Try.prog 26 #[.pointer (some ⟨g, 0, none⟩), .pointer (some ⟨p, 0, none⟩), acV ⟨ak, ad, aa, ab⟩] (w'.alloc (.cells z3 66)) fun e w'' => e = .returned (.tuple #[reV ⟨rv, ro, re⟩, .bool true]) ∧ Hid (MidR wb p b g s' { x with k := x.k + 1 } w'') ∧ Hid (Q3 wb w'' w'.heap.size) ∧ There3 w'' w'.heap.size) := hid (fun K => by
    have := rdo_inB HW.out HC.out HKB.out (by show (doR s (rNext x.x)).e = 0; rw [HAe.out, HRe.out]; exact HE.out) K
    rw [show rNext ({ x with k := x.k + 1 } : Rd).x = _ from HAe.out, HRe.out, HSe.out] at this
    exact this)
  have hB2 : Below wb.heap.size wb wb := Below.refl _ _
  have hB3 := hB2.drew
  go_wp2_with fail
  go_region_held3 (fun _ => True) (trivial)
    (first
      | (go_at_call 20; refine (HN.out ?_).mono ?_; with_reducible exact hB3; rintro e3 w3 ⟨rfl, hK⟩)
      | (go_at_call 20; refine (HNB.out ?_).mono ?_; with_reducible exact hB2; rintro e3 w3 ⟨rfl, hK⟩)
      | (go_at_call 26; refine (HDC.out (q := wb.heap.size) ?_).mono ?_; with_reducible assumption; rintro e4 w4 ⟨rfl, hX, hQ, ⟨d0, d1, d2, f0, f1, f2⟩⟩)
      | (go_at_call 26; refine (HD.out ?_).mono ?_; with_reducible assumption; rintro e4 w4 ⟨rfl, hX⟩)
      | (go_at_call 26; refine (HDB.out ?_).mono ?_; with_reducible assumption; rintro e4 w4 ⟨rfl, hX, hQ, ⟨d0, d1, d2, f0, f1, f2⟩⟩))
  · obtain ⟨hM5, hg5⟩ := rmid_alloc hX.out rv ro re
    have hlt5 := lt_of_block hg5
    generalize (w4.alloc (.cells #[.int .u64 rv, .bool ro, .int .i64 re] 66)) = w5 at hM5 hg5 hlt5 ⊢
    generalize w4.heap.size = q5 at hg5 hlt5 ⊢
    have HM5 := hid hM5
    have g0 := cell_of (i := 0) hg5 rfl
    have g1 := cell_of (i := 1) hg5 rfl
    have g2 := cell_of (i := 2) hg5 rfl
    clear hM5 hg5 hB2 hB3
    go_wp2_with fail
    refine (rgo_at HM5.out.ws.rd rv HO.out HNE.out hv0 hv1).mono ?_
    rintro e6 w6 ⟨rfl, hW6, hB6⟩
    have HX6 := hid (rstep_end HM5.out hW6 hB6)
    clear hW6 hB6 g0 g1 g2
    rw [HXe.out] at HX6
    go_wp2_with fail
    refine (pDone_at _ g x'.x.t x'.x.e HX6.out.1.rd.pc.c2 HX6.out.1.rd.pc.c3).mono ?_
    rintro e7 w7 ⟨rfl, m7, hm7⟩
    have HX7 : Hid (Rs w7 p b g s' x' ∧ But3 g p b w w7) := by
      rw [hm7]
      exact ⟨HX6.out.1.below (below_drewN (Below.refl _ _) m7), (HWB.out.trans HX6.out.2).trans (But3.of_below (below_drewN (Below.refl _ _) m7))⟩
    clear hm7
    go_wp2
    go_ret
    exact ⟨rfl, HX7.out⟩
  · obtain ⟨hM5, hg5⟩ := rmid_put HW.out hX.out hQ.out rv ro re
    have hlt5 := lt_of_block hg5
    generalize (((w4.setCell ⟨w3.heap.size, 0, none⟩ (.int .u64 rv)).setCell ⟨w3.heap.size, 1, none⟩ (.bool ro)).setCell ⟨w3.heap.size, 2, none⟩ (.int .i64 re)) = w5 at hM5 hg5 hlt5 ⊢
    clear hK hQ d0 d1 d2 f0 f1 f2
    generalize w3.heap.size = q5 at hg5 hlt5 ⊢
    have HM5 := hid hM5
    have g0 := cell_of (i := 0) hg5 rfl
    have g1 := cell_of (i := 1) hg5 rfl
    have g2 := cell_of (i := 2) hg5 rfl
    clear hM5 hg5 hB2 hB3
    go_wp2_with fail
    refine (rgo_at HM5.out.ws.rd rv HO.out HNE.out hv0 hv1).mono ?_
    rintro e6 w6 ⟨rfl, hW6, hB6⟩
    have HX6 := hid (rstep_end HM5.out hW6 hB6)
    clear hW6 hB6 g0 g1 g2
    rw [HXe.out] at HX6
    go_wp2_with fail
    refine (pDone_at _ g x'.x.t x'.x.e HX6.out.1.rd.pc.c2 HX6.out.1.rd.pc.c3).mono ?_
    rintro e7 w7 ⟨rfl, m7, hm7⟩
    have HX7 : Hid (Rs w7 p b g s' x' ∧ But3 g p b w w7) := by
      rw [hm7]
      exact ⟨HX6.out.1.below (below_drewN (Below.refl _ _) m7), (HWB.out.trans HX6.out.2).trans (But3.of_below (below_drewN (Below.refl _ _) m7))⟩
    clear hm7
    go_wp2
    go_ret
    exact ⟨rfl, HX7.out⟩
  · obtain ⟨hM5, hg5⟩ := rmid_put HW.out hX.out hQ.out rv ro re
    have hlt5 := lt_of_block hg5
    generalize (((w4.setCell ⟨wb.heap.size, 0, none⟩ (.int .u64 rv)).setCell ⟨wb.heap.size, 1, none⟩ (.bool ro)).setCell ⟨wb.heap.size, 2, none⟩ (.int .i64 re)) = w5 at hM5 hg5 hlt5 ⊢
    clear hK hQ d0 d1 d2 f0 f1 f2
    generalize wb.heap.size = q5 at hg5 hlt5 ⊢
    have HM5 := hid hM5
    have g0 := cell_of (i := 0) hg5 rfl
    have g1 := cell_of (i := 1) hg5 rfl
    have g2 := cell_of (i := 2) hg5 rfl
    clear hM5 hg5 hB2 hB3
    go_wp2_with fail
    refine (rgo_at HM5.out.ws.rd rv HO.out HNE.out hv0 hv1).mono ?_
    rintro e6 w6 ⟨rfl, hW6, hB6⟩
    have HX6 := hid (rstep_end HM5.out hW6 hB6)
    clear hW6 hB6 g0 g1 g2
    rw [HXe.out] at HX6
    go_wp2_with fail
    refine (pDone_at _ g x'.x.t x'.x.e HX6.out.1.rd.pc.c2 HX6.out.1.rd.pc.c3).mono ?_
    rintro e7 w7 ⟨rfl, m7, hm7⟩
    have HX7 : Hid (Rs w7 p b g s' x' ∧ But3 g p b w w7) := by
      rw [hm7]
      exact ⟨HX6.out.1.below (below_drewN (Below.refl _ _) m7), (HWB.out.trans HX6.out.2).trans (But3.of_below (below_drewN (Below.refl _ _) m7))⟩
    clear hm7
    go_wp2
    go_ret
    exact ⟨rfl, HX7.out⟩

set_option maxRecDepth 100000 in
set_option maxHeartbeats 400000 in
theorem rstep_done {w : World} {p b g : Nat} {s : St} {x : Rd} (h : Rs w p b g s x) (ok : ROk x.x) (hd : x.x.t = x.x.e) :
    Calls Try.prog 14 #[.pointer (some ⟨g, 0, none⟩), .pointer (some ⟨p, 0, none⟩)] w fun e w' => e = .returned (.bool true) ∧ Rs w' p b g s x ∧ But3 g p b w w' := by
  have HW := hid h
  have hne : (x.x.e == 0) = false := beq_eq_false_iff_ne.2 (by have := ok.e; have := ok.n0; omega)
  have hnt : (x.x.t == x.x.e) = true := by simp [hd]
  clear h ok hd
  go_enter Try.func14, Try.ntmps14
  go_wp2_with fail
  refine (pNone_at _ g x.x.e HW.out.rd.pc.c3).mono ?_
  rintro e1 w1 ⟨rfl, hw1⟩
  rw [hw1, hne]
  clear hw1 w1
  go_wp2_with fail
  refine (pDone_at _ g x.x.t x.x.e HW.out.rd.pc.c2 HW.out.rd.pc.c3).mono ?_
  rintro e2 w2 ⟨rfl, m2, hm2⟩
  rw [hnt]
  have HB : Hid (Below w.heap.size w w2) := by rw [hm2]; exact below_drewN (Below.refl _ _) m2
  clear hm2
  go_wp2
  go_ret
  exact ⟨rfl, HW.out.below HB.out, But3.of_below HB.out⟩
end Go.Proofs.Ytkdgjgbmbdmmfaa
