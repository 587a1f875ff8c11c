/- What the document's answer for layer 6 tells of a user's step, and what it leaves. Conditions: the ring is one that can be; the counts are below 2^62. -/
import Derived.Test.YtfnfbceblpaggaaR3
namespace Go.Proofs.Ytfnfbceblpaggaa
open Go.RowKit

/-- The document's words, and a user. -/
structure Rs (w : World) (p b g : Nat) (s : St) (u : Us) : Prop where
  mem : Mem 62 w p b s
  us : IsUs w g u
  gp : g ≠ p
  gb : g ≠ b
theorem Rs.below {w w' : World} {p b g : Nat} {s : St} {u : Us} (h : Rs w p b g s u) (k : Below w.heap.size w w') : Rs w' p b g s u := ⟨h.mem.below k, h.us.below k, h.gp, h.gb⟩
theorem Rs.set {w w' : World} {p b g : Nat} {s : St} {u u' : Us} (h : Rs w p b g s u) (h1 : IsUs w' g u') (h2 : But g g w w') : Rs w' p b g s u' :=
  ⟨h.mem.but h2 h.gp.symm h.gp.symm h.gb.symm h.gb.symm, h1, h.gp, h.gb⟩
theorem us_end {w w3 w' : World} {p b g : Nat} {s : St} {u u' : Us} (h : Rs w3 p b g s u) (hb : But3 g p b w w3) (h1 : IsUs w' g u') (h2 : But g g w3 w') (o : Obj) : Rs (w'.alloc o) p b g s u' ∧ But3 g p b w (w'.alloc o) :=
  ⟨(h.set h1 h2).below (below_alloc _ _), (hb.trans (But3.of_one h2)).trans (But3.of_below (below_alloc _ _))⟩
theorem wrap64_i (x : Int) : wrap64 x = IntKind.i64.wrap x := by
  unfold wrap64
  simp [IntKind.wrap, IntKind.signed, IntKind.bits]
  omega
theorem dif_w (r o : Int) : wrap64 (IntKind.u64.wrap (r - o)) = difA r o := wrap64_i _
theorem dif_w1 (r ps : Int) : wrap64 (IntKind.u64.wrap (r - IntKind.u64.wrap (ps + 1))) = difA r (add64 ps 1) := wrap64_i _
set_option maxHeartbeats 400000 in
theorem us_done {w : World} {p b g : Nat} {s : St} {u : Us} (h : Rs w p b g s u) (hd : u.dn = true) :
    Calls Try.prog 20 #[.pointer (some ⟨g, 0, none⟩), .pointer (some ⟨p, 0, none⟩)] w fun e w' => e = .returned (.bool true) ∧ w' = w := by
  have c6 := h.us.uc.c6
  rw [hd] at c6
  clear h
  go_enter Try.func20, Try.ntmps20
  go_wp2
  go_ret
  exact ⟨rfl, rfl⟩

set_option maxRecDepth 100000 in
set_option maxHeartbeats 1000000 in
theorem ue {w : World} {p b g : Nat} {s s' : St} {a : Ac} {ad sz v ps tn rv re : Int} {po hs ro : Bool} (h : Rs w p b g s ⟨ad, sz, po, v, ps, tn, false, hs⟩) (he : (re != 0) = true)
    (hN : Calls Try.prog 18 #[.pointer (some ⟨g, 0, none⟩)] w fun e w' => e = .returned (acV a) ∧ Below w.heap.size w w')
    (hA : ∀ {w' : World}, Mem 62 w' p b s → Calls Try.prog 37 #[.pointer (some ⟨p, 0, none⟩), acV a] w' fun e w'' => e = .returned (reV ⟨rv, ro, re⟩) ∧ Turns 62 p b w' w'' s') :
    Calls Try.prog 20 #[.pointer (some ⟨g, 0, none⟩), .pointer (some ⟨p, 0, none⟩)] w fun e w' => e = .returned (.bool true) ∧ Rs w' p b g s' ⟨ad, sz, po, 0, ps, tn, true, hs⟩ ∧ But3 g p b w w' := by
  have HH := hid h
  have HN := hid hN
  have HA : Hid (∀ {w' : World}, Mem 62 w' p b s → Calls Try.prog 37 #[.pointer (some ⟨p, 0, none⟩), acV a] w' fun e w'' => e = .returned (reV ⟨rv, ro, re⟩) ∧ Turns 62 p b w' w'' s') := hid (fun h' => hA h')
  have c6 := h.us.uc.c6
  simp only [] at c6
  clear h hN hA
  obtain ⟨ak, aad, aa, ab⟩ := a
  go_enter Try.func20, Try.ntmps20
  go_wp2_with fail
  refine HN.out.mono ?_
  rintro e w2 ⟨rfl, K2⟩
  have H2 := hid (HH.out.below K2)
  have HB := hid K2
  clear K2 HN c6
  go_wp2_with fail
  refine (HA.out H2.out.mem).mono ?_
  rintro e w3 ⟨rfl, T⟩
  have h3 : Rs w3 p b g s' ⟨ad, sz, po, v, ps, tn, false, hs⟩ := ⟨T.1, H2.out.us.keep (T.2.block _ H2.out.us.lt H2.out.gp H2.out.gb), H2.out.gp, H2.out.gb⟩
  have H3 := hid h3
  have HB3 : Hid (But3 g p b w w3) := hid ((But3.of_below HB.out).trans (But3.of_but T.2))
  obtain ⟨c0, c1, c2, c3, c4, c5, c6, c7⟩ := h3.us.uc
  have f3 := h3.us.free 3
  have f4 := h3.us.free 4
  have f5 := h3.us.free 5
  have f6 := h3.us.free 6
  have f7 := h3.us.free 7
  have hlt3 := h3.us.lt
  simp only [] at c0 c1 c2 c3 c4 c5 c6 c7
  clear T h3 HB H2 HA c0 c1
  have hne3 : g ≠ w3.heap.size := by omega
  go_wp2
  go_ret
  exact ⟨rfl, us_end H3.out HB3.out ((H3.out.us.setD true).setV 0) (((But.refl _ _ _).trans (but_set g 6 _ _)).trans (but_set g 3 _ _)) _⟩
set_option maxRecDepth 100000 in
set_option maxHeartbeats 1000000 in
theorem u0P {w : World} {p b g : Nat} {s s' : St} {a : Ac} {ad sz v ps rv : Int} {hs ro : Bool} (h : Rs w p b g s ⟨ad, sz, false, v, ps, 0, false, hs⟩) 
    (hN : Calls Try.prog 18 #[.pointer (some ⟨g, 0, none⟩)] w fun e w' => e = .returned (acV a) ∧ Below w.heap.size w w')
    (hA : ∀ {w' : World}, Mem 62 w' p b s → Calls Try.prog 37 #[.pointer (some ⟨p, 0, none⟩), acV a] w' fun e w'' => e = .returned (reV ⟨rv, ro, 0⟩) ∧ Turns 62 p b w' w'' s') :
    Calls Try.prog 20 #[.pointer (some ⟨g, 0, none⟩), .pointer (some ⟨p, 0, none⟩)] w fun e w' => e = .returned (.bool false) ∧ Rs w' p b g s' ⟨ad, sz, false, v, rv, 1, false, hs⟩ ∧ But3 g p b w w' := by
  have HH := hid h
  have HN := hid hN
  have HA : Hid (∀ {w' : World}, Mem 62 w' p b s → Calls Try.prog 37 #[.pointer (some ⟨p, 0, none⟩), acV a] w' fun e w'' => e = .returned (reV ⟨rv, ro, 0⟩) ∧ Turns 62 p b w' w'' s') := hid (fun h' => hA h')
  have c6 := h.us.uc.c6
  simp only [] at c6
  clear h hN hA
  obtain ⟨ak, aad, aa, ab⟩ := a
  go_enter Try.func20, Try.ntmps20
  go_wp2_with fail
  refine HN.out.mono ?_
  rintro e w2 ⟨rfl, K2⟩
  have H2 := hid (HH.out.below K2)
  have HB := hid K2
  clear K2 HN c6
  go_wp2_with fail
  refine (HA.out H2.out.mem).mono ?_
  rintro e w3 ⟨rfl, T⟩
  have h3 : Rs w3 p b g s' ⟨ad, sz, false, v, ps, 0, false, hs⟩ := ⟨T.1, H2.out.us.keep (T.2.block _ H2.out.us.lt H2.out.gp H2.out.gb), H2.out.gp, H2.out.gb⟩
  have H3 := hid h3
  have HB3 : Hid (But3 g p b w w3) := hid ((But3.of_below HB.out).trans (But3.of_but T.2))
  obtain ⟨c0, c1, c2, c3, c4, c5, c6, c7⟩ := h3.us.uc
  have f3 := h3.us.free 3
  have f4 := h3.us.free 4
  have f5 := h3.us.free 5
  have f6 := h3.us.free 6
  have f7 := h3.us.free 7
  have hlt3 := h3.us.lt
  simp only [] at c0 c1 c2 c3 c4 c5 c6 c7
  clear T h3 HB H2 HA c0 c1
  have hne3 : g ≠ w3.heap.size := by omega
  go_wp2
  go_ret
  exact ⟨rfl, us_end H3.out HB3.out ((H3.out.us.setP rv).setT 1) (((But.refl _ _ _).trans (but_set g 4 _ _)).trans (but_set g 5 _ _)) _⟩
set_option maxRecDepth 100000 in
set_option maxHeartbeats 1000000 in
theorem u1zP {w : World} {p b g : Nat} {s s' : St} {a : Ac} {ad sz v ps rv : Int} {hs ro : Bool} (h : Rs w p b g s ⟨ad, sz, false, v, ps, 1, false, hs⟩) (hq : difA rv (ps) = 0)
    (hN : Calls Try.prog 18 #[.pointer (some ⟨g, 0, none⟩)] w fun e w' => e = .returned (acV a) ∧ Below w.heap.size w w')
    (hA : ∀ {w' : World}, Mem 62 w' p b s → Calls Try.prog 37 #[.pointer (some ⟨p, 0, none⟩), acV a] w' fun e w'' => e = .returned (reV ⟨rv, ro, 0⟩) ∧ Turns 62 p b w' w'' s') :
    Calls Try.prog 20 #[.pointer (some ⟨g, 0, none⟩), .pointer (some ⟨p, 0, none⟩)] w fun e w' => e = .returned (.bool false) ∧ Rs w' p b g s' ⟨ad, sz, false, v, ps, 2, false, hs⟩ ∧ But3 g p b w w' := by
  have HH := hid h
  have HN := hid hN
  have HA : Hid (∀ {w' : World}, Mem 62 w' p b s → Calls Try.prog 37 #[.pointer (some ⟨p, 0, none⟩), acV a] w' fun e w'' => e = .returned (reV ⟨rv, ro, 0⟩) ∧ Turns 62 p b w' w'' s') := hid (fun h' => hA h')
  have c6 := h.us.uc.c6
  simp only [] at c6
  clear h hN hA
  obtain ⟨ak, aad, aa, ab⟩ := a
  go_enter Try.func20, Try.ntmps20
  go_wp2_with fail
  refine HN.out.mono ?_
  rintro e w2 ⟨rfl, K2⟩
  have H2 := hid (HH.out.below K2)
  have HB := hid K2
  clear K2 HN c6
  go_wp2_with fail
  refine (HA.out H2.out.mem).mono ?_
  rintro e w3 ⟨rfl, T⟩
  have h3 : Rs w3 p b g s' ⟨ad, sz, false, v, ps, 1, false, hs⟩ := ⟨T.1, H2.out.us.keep (T.2.block _ H2.out.us.lt H2.out.gp H2.out.gb), H2.out.gp, H2.out.gb⟩
  have H3 := hid h3
  have HB3 : Hid (But3 g p b w w3) := hid ((But3.of_below HB.out).trans (But3.of_but T.2))
  obtain ⟨c0, c1, c2, c3, c4, c5, c6, c7⟩ := h3.us.uc
  have f3 := h3.us.free 3
  have f4 := h3.us.free 4
  have f5 := h3.us.free 5
  have f6 := h3.us.free 6
  have f7 := h3.us.free 7
  have hlt3 := h3.us.lt
  simp only [] at c0 c1 c2 c3 c4 c5 c6 c7
  clear T h3 HB H2 HA c0 c1
  have hne3 : g ≠ w3.heap.size := by omega
  have hq1 : (wrap64 (IntKind.u64.wrap (rv - ps)) == 0) = true := by rw [dif_w, hq]; rfl
  clear hq
  go_wp2
  go_ret
  exact ⟨rfl, us_end H3.out HB3.out (H3.out.us.setT 2) ((But.refl _ _ _).trans (but_set g 5 _ _)) _⟩
set_option maxRecDepth 100000 in
set_option maxHeartbeats 1000000 in
theorem u1nP {w : World} {p b g : Nat} {s s' : St} {a : Ac} {ad sz v ps rv : Int} {hs ro : Bool} (h : Rs w p b g s ⟨ad, sz, false, v, ps, 1, false, hs⟩) (hq : difA rv (ps) < 0)
    (hN : Calls Try.prog 18 #[.pointer (some ⟨g, 0, none⟩)] w fun e w' => e = .returned (acV a) ∧ Below w.heap.size w w')
    (hA : ∀ {w' : World}, Mem 62 w' p b s → Calls Try.prog 37 #[.pointer (some ⟨p, 0, none⟩), acV a] w' fun e w'' => e = .returned (reV ⟨rv, ro, 0⟩) ∧ Turns 62 p b w' w'' s') :
    Calls Try.prog 20 #[.pointer (some ⟨g, 0, none⟩), .pointer (some ⟨p, 0, none⟩)] w fun e w' => e = .returned (.bool true) ∧ Rs w' p b g s' ⟨ad, sz, false, v, ps, 1, true, hs⟩ ∧ But3 g p b w w' := by
  have HH := hid h
  have HN := hid hN
  have HA : Hid (∀ {w' : World}, Mem 62 w' p b s → Calls Try.prog 37 #[.pointer (some ⟨p, 0, none⟩), acV a] w' fun e w'' => e = .returned (reV ⟨rv, ro, 0⟩) ∧ Turns 62 p b w' w'' s') := hid (fun h' => hA h')
  have c6 := h.us.uc.c6
  simp only [] at c6
  clear h hN hA
  obtain ⟨ak, aad, aa, ab⟩ := a
  go_enter Try.func20, Try.ntmps20
  go_wp2_with fail
  refine HN.out.mono ?_
  rintro e w2 ⟨rfl, K2⟩
  have H2 := hid (HH.out.below K2)
  have HB := hid K2
  clear K2 HN c6
  go_wp2_with fail
  refine (HA.out H2.out.mem).mono ?_
  rintro e w3 ⟨rfl, T⟩
  have h3 : Rs w3 p b g s' ⟨ad, sz, false, v, ps, 1, false, hs⟩ := ⟨T.1, H2.out.us.keep (T.2.block _ H2.out.us.lt H2.out.gp H2.out.gb), H2.out.gp, H2.out.gb⟩
  have H3 := hid h3
  have HB3 : Hid (But3 g p b w w3) := hid ((But3.of_below HB.out).trans (But3.of_but T.2))
  obtain ⟨c0, c1, c2, c3, c4, c5, c6, c7⟩ := h3.us.uc
  have f3 := h3.us.free 3
  have f4 := h3.us.free 4
  have f5 := h3.us.free 5
  have f6 := h3.us.free 6
  have f7 := h3.us.free 7
  have hlt3 := h3.us.lt
  simp only [] at c0 c1 c2 c3 c4 c5 c6 c7
  clear T h3 HB H2 HA c0 c1
  have hne3 : g ≠ w3.heap.size := by omega
  have hq1 : (wrap64 (IntKind.u64.wrap (rv - ps)) == 0) = false := by rw [dif_w]; exact beq_eq_false_iff_ne.2 (by omega)
  have hq2 : wrap64 (IntKind.u64.wrap (rv - ps)) < 0 := by rw [dif_w]; exact hq
  clear hq
  go_wp2
  go_ret
  exact ⟨rfl, us_end H3.out HB3.out (H3.out.us.setD true) ((But.refl _ _ _).trans (but_set g 6 _ _)) _⟩
set_option maxRecDepth 100000 in
set_option maxHeartbeats 1000000 in
theorem u1pP {w : World} {p b g : Nat} {s s' : St} {a : Ac} {ad sz v ps rv : Int} {hs ro : Bool} (h : Rs w p b g s ⟨ad, sz, false, v, ps, 1, false, hs⟩) (hq : 0 < difA rv (ps))
    (hN : Calls Try.prog 18 #[.pointer (some ⟨g, 0, none⟩)] w fun e w' => e = .returned (acV a) ∧ Below w.heap.size w w')
    (hA : ∀ {w' : World}, Mem 62 w' p b s → Calls Try.prog 37 #[.pointer (some ⟨p, 0, none⟩), acV a] w' fun e w'' => e = .returned (reV ⟨rv, ro, 0⟩) ∧ Turns 62 p b w' w'' s') :
    Calls Try.prog 20 #[.pointer (some ⟨g, 0, none⟩), .pointer (some ⟨p, 0, none⟩)] w fun e w' => e = .returned (.bool false) ∧ Rs w' p b g s' ⟨ad, sz, false, v, ps, 0, false, hs⟩ ∧ But3 g p b w w' := by
  have HH := hid h
  have HN := hid hN
  have HA : Hid (∀ {w' : World}, Mem 62 w' p b s → Calls Try.prog 37 #[.pointer (some ⟨p, 0, none⟩), acV a] w' fun e w'' => e = .returned (reV ⟨rv, ro, 0⟩) ∧ Turns 62 p b w' w'' s') := hid (fun h' => hA h')
  have c6 := h.us.uc.c6
  simp only [] at c6
  clear h hN hA
  obtain ⟨ak, aad, aa, ab⟩ := a
  go_enter Try.func20, Try.ntmps20
  go_wp2_with fail
  refine HN.out.mono ?_
  rintro e w2 ⟨rfl, K2⟩
  have H2 := hid (HH.out.below K2)
  have HB := hid K2
  clear K2 HN c6
  go_wp2_with fail
  refine (HA.out H2.out.mem).mono ?_
  rintro e w3 ⟨rfl, T⟩
  have h3 : Rs w3 p b g s' ⟨ad, sz, false, v, ps, 1, false, hs⟩ := ⟨T.1, H2.out.us.keep (T.2.block _ H2.out.us.lt H2.out.gp H2.out.gb), H2.out.gp, H2.out.gb⟩
  have H3 := hid h3
  have HB3 : Hid (But3 g p b w w3) := hid ((But3.of_below HB.out).trans (But3.of_but T.2))
  obtain ⟨c0, c1, c2, c3, c4, c5, c6, c7⟩ := h3.us.uc
  have f3 := h3.us.free 3
  have f4 := h3.us.free 4
  have f5 := h3.us.free 5
  have f6 := h3.us.free 6
  have f7 := h3.us.free 7
  have hlt3 := h3.us.lt
  simp only [] at c0 c1 c2 c3 c4 c5 c6 c7
  clear T h3 HB H2 HA c0 c1
  have hne3 : g ≠ w3.heap.size := by omega
  have hq1 : (wrap64 (IntKind.u64.wrap (rv - ps)) == 0) = false := by rw [dif_w]; exact beq_eq_false_iff_ne.2 (by omega)
  have hq2 : 0 ≤ wrap64 (IntKind.u64.wrap (rv - ps)) := by rw [dif_w]; omega
  clear hq
  go_wp2
  go_ret
  exact ⟨rfl, us_end H3.out HB3.out (H3.out.us.setT 0) ((But.refl _ _ _).trans (but_set g 5 _ _)) _⟩
set_option maxRecDepth 100000 in
set_option maxHeartbeats 1000000 in
theorem u2yP {w : World} {p b g : Nat} {s s' : St} {a : Ac} {ad sz v ps rv : Int} {hs : Bool} (h : Rs w p b g s ⟨ad, sz, false, v, ps, 2, false, hs⟩) 
    (hN : Calls Try.prog 18 #[.pointer (some ⟨g, 0, none⟩)] w fun e w' => e = .returned (acV a) ∧ Below w.heap.size w w')
    (hA : ∀ {w' : World}, Mem 62 w' p b s → Calls Try.prog 37 #[.pointer (some ⟨p, 0, none⟩), acV a] w' fun e w'' => e = .returned (reV ⟨rv, true, 0⟩) ∧ Turns 62 p b w' w'' s') :
    Calls Try.prog 20 #[.pointer (some ⟨g, 0, none⟩), .pointer (some ⟨p, 0, none⟩)] w fun e w' => e = .returned (.bool false) ∧ Rs w' p b g s' ⟨ad, sz, false, v, ps, 3, false, hs⟩ ∧ But3 g p b w w' := by
  have HH := hid h
  have HN := hid hN
  have HA : Hid (∀ {w' : World}, Mem 62 w' p b s → Calls Try.prog 37 #[.pointer (some ⟨p, 0, none⟩), acV a] w' fun e w'' => e = .returned (reV ⟨rv, true, 0⟩) ∧ Turns 62 p b w' w'' s') := hid (fun h' => hA h')
  have c6 := h.us.uc.c6
  simp only [] at c6
  clear h hN hA
  obtain ⟨ak, aad, aa, ab⟩ := a
  go_enter Try.func20, Try.ntmps20
  go_wp2_with fail
  refine HN.out.mono ?_
  rintro e w2 ⟨rfl, K2⟩
  have H2 := hid (HH.out.below K2)
  have HB := hid K2
  clear K2 HN c6
  go_wp2_with fail
  refine (HA.out H2.out.mem).mono ?_
  rintro e w3 ⟨rfl, T⟩
  have h3 : Rs w3 p b g s' ⟨ad, sz, false, v, ps, 2, false, hs⟩ := ⟨T.1, H2.out.us.keep (T.2.block _ H2.out.us.lt H2.out.gp H2.out.gb), H2.out.gp, H2.out.gb⟩
  have H3 := hid h3
  have HB3 : Hid (But3 g p b w w3) := hid ((But3.of_below HB.out).trans (But3.of_but T.2))
  obtain ⟨c0, c1, c2, c3, c4, c5, c6, c7⟩ := h3.us.uc
  have f3 := h3.us.free 3
  have f4 := h3.us.free 4
  have f5 := h3.us.free 5
  have f6 := h3.us.free 6
  have f7 := h3.us.free 7
  have hlt3 := h3.us.lt
  simp only [] at c0 c1 c2 c3 c4 c5 c6 c7
  clear T h3 HB H2 HA c0 c1
  have hne3 : g ≠ w3.heap.size := by omega
  go_wp2
  go_ret
  exact ⟨rfl, us_end H3.out HB3.out ((H3.out.us.setT 0).setT 3) (((But.refl _ _ _).trans (but_set g 5 _ _)).trans (but_set g 5 _ _)) _⟩
set_option maxRecDepth 100000 in
set_option maxHeartbeats 1000000 in
theorem u2nP {w : World} {p b g : Nat} {s s' : St} {a : Ac} {ad sz v ps rv : Int} {hs : Bool} (h : Rs w p b g s ⟨ad, sz, false, v, ps, 2, false, hs⟩) 
    (hN : Calls Try.prog 18 #[.pointer (some ⟨g, 0, none⟩)] w fun e w' => e = .returned (acV a) ∧ Below w.heap.size w w')
    (hA : ∀ {w' : World}, Mem 62 w' p b s → Calls Try.prog 37 #[.pointer (some ⟨p, 0, none⟩), acV a] w' fun e w'' => e = .returned (reV ⟨rv, false, 0⟩) ∧ Turns 62 p b w' w'' s') :
    Calls Try.prog 20 #[.pointer (some ⟨g, 0, none⟩), .pointer (some ⟨p, 0, none⟩)] w fun e w' => e = .returned (.bool false) ∧ Rs w' p b g s' ⟨ad, sz, false, v, ps, 0, false, hs⟩ ∧ But3 g p b w w' := by
  have HH := hid h
  have HN := hid hN
  have HA : Hid (∀ {w' : World}, Mem 62 w' p b s → Calls Try.prog 37 #[.pointer (some ⟨p, 0, none⟩), acV a] w' fun e w'' => e = .returned (reV ⟨rv, false, 0⟩) ∧ Turns 62 p b w' w'' s') := hid (fun h' => hA h')
  have c6 := h.us.uc.c6
  simp only [] at c6
  clear h hN hA
  obtain ⟨ak, aad, aa, ab⟩ := a
  go_enter Try.func20, Try.ntmps20
  go_wp2_with fail
  refine HN.out.mono ?_
  rintro e w2 ⟨rfl, K2⟩
  have H2 := hid (HH.out.below K2)
  have HB := hid K2
  clear K2 HN c6
  go_wp2_with fail
  refine (HA.out H2.out.mem).mono ?_
  rintro e w3 ⟨rfl, T⟩
  have h3 : Rs w3 p b g s' ⟨ad, sz, false, v, ps, 2, false, hs⟩ := ⟨T.1, H2.out.us.keep (T.2.block _ H2.out.us.lt H2.out.gp H2.out.gb), H2.out.gp, H2.out.gb⟩
  have H3 := hid h3
  have HB3 : Hid (But3 g p b w w3) := hid ((But3.of_below HB.out).trans (But3.of_but T.2))
  obtain ⟨c0, c1, c2, c3, c4, c5, c6, c7⟩ := h3.us.uc
  have f3 := h3.us.free 3
  have f4 := h3.us.free 4
  have f5 := h3.us.free 5
  have f6 := h3.us.free 6
  have f7 := h3.us.free 7
  have hlt3 := h3.us.lt
  simp only [] at c0 c1 c2 c3 c4 c5 c6 c7
  clear T h3 HB H2 HA c0 c1
  have hne3 : g ≠ w3.heap.size := by omega
  go_wp2
  go_ret
  exact ⟨rfl, us_end H3.out HB3.out (H3.out.us.setT 0) ((But.refl _ _ _).trans (but_set g 5 _ _)) _⟩
set_option maxRecDepth 100000 in
set_option maxHeartbeats 1000000 in
theorem u3P {w : World} {p b g : Nat} {s s' : St} {a : Ac} {ad sz v ps rv : Int} {hs ro : Bool} (h : Rs w p b g s ⟨ad, sz, false, v, ps, 3, false, hs⟩) 
    (hN : Calls Try.prog 18 #[.pointer (some ⟨g, 0, none⟩)] w fun e w' => e = .returned (acV a) ∧ Below w.heap.size w w')
    (hA : ∀ {w' : World}, Mem 62 w' p b s → Calls Try.prog 37 #[.pointer (some ⟨p, 0, none⟩), acV a] w' fun e w'' => e = .returned (reV ⟨rv, ro, 0⟩) ∧ Turns 62 p b w' w'' s') :
    Calls Try.prog 20 #[.pointer (some ⟨g, 0, none⟩), .pointer (some ⟨p, 0, none⟩)] w fun e w' => e = .returned (.bool false) ∧ Rs w' p b g s' ⟨ad, sz, false, v, ps, 4, false, hs⟩ ∧ But3 g p b w w' := by
  have HH := hid h
  have HN := hid hN
  have HA : Hid (∀ {w' : World}, Mem 62 w' p b s → Calls Try.prog 37 #[.pointer (some ⟨p, 0, none⟩), acV a] w' fun e w'' => e = .returned (reV ⟨rv, ro, 0⟩) ∧ Turns 62 p b w' w'' s') := hid (fun h' => hA h')
  have c6 := h.us.uc.c6
  simp only [] at c6
  clear h hN hA
  obtain ⟨ak, aad, aa, ab⟩ := a
  go_enter Try.func20, Try.ntmps20
  go_wp2_with fail
  refine HN.out.mono ?_
  rintro e w2 ⟨rfl, K2⟩
  have H2 := hid (HH.out.below K2)
  have HB := hid K2
  clear K2 HN c6
  go_wp2_with fail
  refine (HA.out H2.out.mem).mono ?_
  rintro e w3 ⟨rfl, T⟩
  have h3 : Rs w3 p b g s' ⟨ad, sz, false, v, ps, 3, false, hs⟩ := ⟨T.1, H2.out.us.keep (T.2.block _ H2.out.us.lt H2.out.gp H2.out.gb), H2.out.gp, H2.out.gb⟩
  have H3 := hid h3
  have HB3 : Hid (But3 g p b w w3) := hid ((But3.of_below HB.out).trans (But3.of_but T.2))
  obtain ⟨c0, c1, c2, c3, c4, c5, c6, c7⟩ := h3.us.uc
  have f3 := h3.us.free 3
  have f4 := h3.us.free 4
  have f5 := h3.us.free 5
  have f6 := h3.us.free 6
  have f7 := h3.us.free 7
  have hlt3 := h3.us.lt
  simp only [] at c0 c1 c2 c3 c4 c5 c6 c7
  clear T h3 HB H2 HA c0 c1
  have hne3 : g ≠ w3.heap.size := by omega
  go_wp2
  go_ret
  exact ⟨rfl, us_end H3.out HB3.out (H3.out.us.setT 4) ((But.refl _ _ _).trans (but_set g 5 _ _)) _⟩
set_option maxRecDepth 100000 in
set_option maxHeartbeats 1000000 in
theorem u4P {w : World} {p b g : Nat} {s s' : St} {a : Ac} {ad sz v ps rv : Int} {hs ro : Bool} (h : Rs w p b g s ⟨ad, sz, false, v, ps, 4, false, hs⟩) 
    (hN : Calls Try.prog 18 #[.pointer (some ⟨g, 0, none⟩)] w fun e w' => e = .returned (acV a) ∧ Below w.heap.size w w')
    (hA : ∀ {w' : World}, Mem 62 w' p b s → Calls Try.prog 37 #[.pointer (some ⟨p, 0, none⟩), acV a] w' fun e w'' => e = .returned (reV ⟨rv, ro, 0⟩) ∧ Turns 62 p b w' w'' s') :
    Calls Try.prog 20 #[.pointer (some ⟨g, 0, none⟩), .pointer (some ⟨p, 0, none⟩)] w fun e w' => e = .returned (.bool true) ∧ Rs w' p b g s' ⟨ad, sz, false, v, ps, 4, true, true⟩ ∧ But3 g p b w w' := by
  have HH := hid h
  have HN := hid hN
  have HA : Hid (∀ {w' : World}, Mem 62 w' p b s → Calls Try.prog 37 #[.pointer (some ⟨p, 0, none⟩), acV a] w' fun e w'' => e = .returned (reV ⟨rv, ro, 0⟩) ∧ Turns 62 p b w' w'' s') := hid (fun h' => hA h')
  have c6 := h.us.uc.c6
  simp only [] at c6
  clear h hN hA
  obtain ⟨ak, aad, aa, ab⟩ := a
  go_enter Try.func20, Try.ntmps20
  go_wp2_with fail
  refine HN.out.mono ?_
  rintro e w2 ⟨rfl, K2⟩
  have H2 := hid (HH.out.below K2)
  have HB := hid K2
  clear K2 HN c6
  go_wp2_with fail
  refine (HA.out H2.out.mem).mono ?_
  rintro e w3 ⟨rfl, T⟩
  have h3 : Rs w3 p b g s' ⟨ad, sz, false, v, ps, 4, false, hs⟩ := ⟨T.1, H2.out.us.keep (T.2.block _ H2.out.us.lt H2.out.gp H2.out.gb), H2.out.gp, H2.out.gb⟩
  have H3 := hid h3
  have HB3 : Hid (But3 g p b w w3) := hid ((But3.of_below HB.out).trans (But3.of_but T.2))
  obtain ⟨c0, c1, c2, c3, c4, c5, c6, c7⟩ := h3.us.uc
  have f3 := h3.us.free 3
  have f4 := h3.us.free 4
  have f5 := h3.us.free 5
  have f6 := h3.us.free 6
  have f7 := h3.us.free 7
  have hlt3 := h3.us.lt
  simp only [] at c0 c1 c2 c3 c4 c5 c6 c7
  clear T h3 HB H2 HA c0 c1
  have hne3 : g ≠ w3.heap.size := by omega
  go_wp2
  go_ret
  exact ⟨rfl, us_end H3.out HB3.out ((H3.out.us.setD true).setH true) (((But.refl _ _ _).trans (but_set g 6 _ _)).trans (but_set g 7 _ _)) _⟩
set_option maxRecDepth 100000 in
set_option maxHeartbeats 1000000 in
theorem u0G {w : World} {p b g : Nat} {s s' : St} {a : Ac} {ad sz v ps rv : Int} {hs ro : Bool} (h : Rs w p b g s ⟨ad, sz, true, v, ps, 0, false, hs⟩) 
    (hN : Calls Try.prog 18 #[.pointer (some ⟨g, 0, none⟩)] w fun e w' => e = .returned (acV a) ∧ Below w.heap.size w w')
    (hA : ∀ {w' : World}, Mem 62 w' p b s → Calls Try.prog 37 #[.pointer (some ⟨p, 0, none⟩), acV a] w' fun e w'' => e = .returned (reV ⟨rv, ro, 0⟩) ∧ Turns 62 p b w' w'' s') :
    Calls Try.prog 20 #[.pointer (some ⟨g, 0, none⟩), .pointer (some ⟨p, 0, none⟩)] w fun e w' => e = .returned (.bool false) ∧ Rs w' p b g s' ⟨ad, sz, true, v, rv, 1, false, hs⟩ ∧ But3 g p b w w' := by
  have HH := hid h
  have HN := hid hN
  have HA : Hid (∀ {w' : World}, Mem 62 w' p b s → Calls Try.prog 37 #[.pointer (some ⟨p, 0, none⟩), acV a] w' fun e w'' => e = .returned (reV ⟨rv, ro, 0⟩) ∧ Turns 62 p b w' w'' s') := hid (fun h' => hA h')
  have c6 := h.us.uc.c6
  simp only [] at c6
  clear h hN hA
  obtain ⟨ak, aad, aa, ab⟩ := a
  go_enter Try.func20, Try.ntmps20
  go_wp2_with fail
  refine HN.out.mono ?_
  rintro e w2 ⟨rfl, K2⟩
  have H2 := hid (HH.out.below K2)
  have HB := hid K2
  clear K2 HN c6
  go_wp2_with fail
  refine (HA.out H2.out.mem).mono ?_
  rintro e w3 ⟨rfl, T⟩
  have h3 : Rs w3 p b g s' ⟨ad, sz, true, v, ps, 0, false, hs⟩ := ⟨T.1, H2.out.us.keep (T.2.block _ H2.out.us.lt H2.out.gp H2.out.gb), H2.out.gp, H2.out.gb⟩
  have H3 := hid h3
  have HB3 : Hid (But3 g p b w w3) := hid ((But3.of_below HB.out).trans (But3.of_but T.2))
  obtain ⟨c0, c1, c2, c3, c4, c5, c6, c7⟩ := h3.us.uc
  have f3 := h3.us.free 3
  have f4 := h3.us.free 4
  have f5 := h3.us.free 5
  have f6 := h3.us.free 6
  have f7 := h3.us.free 7
  have hlt3 := h3.us.lt
  simp only [] at c0 c1 c2 c3 c4 c5 c6 c7
  clear T h3 HB H2 HA c0 c1
  have hne3 : g ≠ w3.heap.size := by omega
  go_wp2
  go_ret
  exact ⟨rfl, us_end H3.out HB3.out ((H3.out.us.setP rv).setT 1) (((But.refl _ _ _).trans (but_set g 4 _ _)).trans (but_set g 5 _ _)) _⟩
set_option maxRecDepth 100000 in
set_option maxHeartbeats 1000000 in
theorem u1zG {w : World} {p b g : Nat} {s s' : St} {a : Ac} {ad sz v ps rv : Int} {hs ro : Bool} (h : Rs w p b g s ⟨ad, sz, true, v, ps, 1, false, hs⟩) (hq : difA rv (add64 ps 1) = 0)
    (hN : Calls Try.prog 18 #[.pointer (some ⟨g, 0, none⟩)] w fun e w' => e = .returned (acV a) ∧ Below w.heap.size w w')
    (hA : ∀ {w' : World}, Mem 62 w' p b s → Calls Try.prog 37 #[.pointer (some ⟨p, 0, none⟩), acV a] w' fun e w'' => e = .returned (reV ⟨rv, ro, 0⟩) ∧ Turns 62 p b w' w'' s') :
    Calls Try.prog 20 #[.pointer (some ⟨g, 0, none⟩), .pointer (some ⟨p, 0, none⟩)] w fun e w' => e = .returned (.bool false) ∧ Rs w' p b g s' ⟨ad, sz, true, v, ps, 2, false, hs⟩ ∧ But3 g p b w w' := by
  have HH := hid h
  have HN := hid hN
  have HA : Hid (∀ {w' : World}, Mem 62 w' p b s → Calls Try.prog 37 #[.pointer (some ⟨p, 0, none⟩), acV a] w' fun e w'' => e = .returned (reV ⟨rv, ro, 0⟩) ∧ Turns 62 p b w' w'' s') := hid (fun h' => hA h')
  have c6 := h.us.uc.c6
  simp only [] at c6
  clear h hN hA
  obtain ⟨ak, aad, aa, ab⟩ := a
  go_enter Try.func20, Try.ntmps20
  go_wp2_with fail
  refine HN.out.mono ?_
  rintro e w2 ⟨rfl, K2⟩
  have H2 := hid (HH.out.below K2)
  have HB := hid K2
  clear K2 HN c6
  go_wp2_with fail
  refine (HA.out H2.out.mem).mono ?_
  rintro e w3 ⟨rfl, T⟩
  have h3 : Rs w3 p b g s' ⟨ad, sz, true, v, ps, 1, false, hs⟩ := ⟨T.1, H2.out.us.keep (T.2.block _ H2.out.us.lt H2.out.gp H2.out.gb), H2.out.gp, H2.out.gb⟩
  have H3 := hid h3
  have HB3 : Hid (But3 g p b w w3) := hid ((But3.of_below HB.out).trans (But3.of_but T.2))
  obtain ⟨c0, c1, c2, c3, c4, c5, c6, c7⟩ := h3.us.uc
  have f3 := h3.us.free 3
  have f4 := h3.us.free 4
  have f5 := h3.us.free 5
  have f6 := h3.us.free 6
  have f7 := h3.us.free 7
  have hlt3 := h3.us.lt
  simp only [] at c0 c1 c2 c3 c4 c5 c6 c7
  clear T h3 HB H2 HA c0 c1
  have hne3 : g ≠ w3.heap.size := by omega
  have hq1 : (wrap64 (IntKind.u64.wrap (rv - IntKind.u64.wrap (ps + 1))) == 0) = true := by rw [dif_w1, hq]; rfl
  clear hq
  go_wp2
  go_ret
  exact ⟨rfl, us_end H3.out HB3.out (H3.out.us.setT 2) ((But.refl _ _ _).trans (but_set g 5 _ _)) _⟩
set_option maxRecDepth 100000 in
set_option maxHeartbeats 1000000 in
theorem u1nG {w : World} {p b g : Nat} {s s' : St} {a : Ac} {ad sz v ps rv : Int} {hs ro : Bool} (h : Rs w p b g s ⟨ad, sz, true, v, ps, 1, false, hs⟩) (hq : difA rv (add64 ps 1) < 0)
    (hN : Calls Try.prog 18 #[.pointer (some ⟨g, 0, none⟩)] w fun e w' => e = .returned (acV a) ∧ Below w.heap.size w w')
    (hA : ∀ {w' : World}, Mem 62 w' p b s → Calls Try.prog 37 #[.pointer (some ⟨p, 0, none⟩), acV a] w' fun e w'' => e = .returned (reV ⟨rv, ro, 0⟩) ∧ Turns 62 p b w' w'' s') :
    Calls Try.prog 20 #[.pointer (some ⟨g, 0, none⟩), .pointer (some ⟨p, 0, none⟩)] w fun e w' => e = .returned (.bool true) ∧ Rs w' p b g s' ⟨ad, sz, true, v, ps, 1, true, hs⟩ ∧ But3 g p b w w' := by
  have HH := hid h
  have HN := hid hN
  have HA : Hid (∀ {w' : World}, Mem 62 w' p b s → Calls Try.prog 37 #[.pointer (some ⟨p, 0, none⟩), acV a] w' fun e w'' => e = .returned (reV ⟨rv, ro, 0⟩) ∧ Turns 62 p b w' w'' s') := hid (fun h' => hA h')
  have c6 := h.us.uc.c6
  simp only [] at c6
  clear h hN hA
  obtain ⟨ak, aad, aa, ab⟩ := a
  go_enter Try.func20, Try.ntmps20
  go_wp2_with fail
  refine HN.out.mono ?_
  rintro e w2 ⟨rfl, K2⟩
  have H2 := hid (HH.out.below K2)
  have HB := hid K2
  clear K2 HN c6
  go_wp2_with fail
  refine (HA.out H2.out.mem).mono ?_
  rintro e w3 ⟨rfl, T⟩
  have h3 : Rs w3 p b g s' ⟨ad, sz, true, v, ps, 1, false, hs⟩ := ⟨T.1, H2.out.us.keep (T.2.block _ H2.out.us.lt H2.out.gp H2.out.gb), H2.out.gp, H2.out.gb⟩
  have H3 := hid h3
  have HB3 : Hid (But3 g p b w w3) := hid ((But3.of_below HB.out).trans (But3.of_but T.2))
  obtain ⟨c0, c1, c2, c3, c4, c5, c6, c7⟩ := h3.us.uc
  have f3 := h3.us.free 3
  have f4 := h3.us.free 4
  have f5 := h3.us.free 5
  have f6 := h3.us.free 6
  have f7 := h3.us.free 7
  have hlt3 := h3.us.lt
  simp only [] at c0 c1 c2 c3 c4 c5 c6 c7
  clear T h3 HB H2 HA c0 c1
  have hne3 : g ≠ w3.heap.size := by omega
  have hq1 : (wrap64 (IntKind.u64.wrap (rv - IntKind.u64.wrap (ps + 1))) == 0) = false := by rw [dif_w1]; exact beq_eq_false_iff_ne.2 (by omega)
  have hq2 : wrap64 (IntKind.u64.wrap (rv - IntKind.u64.wrap (ps + 1))) < 0 := by rw [dif_w1]; exact hq
  clear hq
  go_wp2
  go_ret
  exact ⟨rfl, us_end H3.out HB3.out (H3.out.us.setD true) ((But.refl _ _ _).trans (but_set g 6 _ _)) _⟩
set_option maxRecDepth 100000 in
set_option maxHeartbeats 1000000 in
theorem u1pG {w : World} {p b g : Nat} {s s' : St} {a : Ac} {ad sz v ps rv : Int} {hs ro : Bool} (h : Rs w p b g s ⟨ad, sz, true, v, ps, 1, false, hs⟩) (hq : 0 < difA rv (add64 ps 1))
    (hN : Calls Try.prog 18 #[.pointer (some ⟨g, 0, none⟩)] w fun e w' => e = .returned (acV a) ∧ Below w.heap.size w w')
    (hA : ∀ {w' : World}, Mem 62 w' p b s → Calls Try.prog 37 #[.pointer (some ⟨p, 0, none⟩), acV a] w' fun e w'' => e = .returned (reV ⟨rv, ro, 0⟩) ∧ Turns 62 p b w' w'' s') :
    Calls Try.prog 20 #[.pointer (some ⟨g, 0, none⟩), .pointer (some ⟨p, 0, none⟩)] w fun e w' => e = .returned (.bool false) ∧ Rs w' p b g s' ⟨ad, sz, true, v, ps, 0, false, hs⟩ ∧ But3 g p b w w' := by
  have HH := hid h
  have HN := hid hN
  have HA : Hid (∀ {w' : World}, Mem 62 w' p b s → Calls Try.prog 37 #[.pointer (some ⟨p, 0, none⟩), acV a] w' fun e w'' => e = .returned (reV ⟨rv, ro, 0⟩) ∧ Turns 62 p b w' w'' s') := hid (fun h' => hA h')
  have c6 := h.us.uc.c6
  simp only [] at c6
  clear h hN hA
  obtain ⟨ak, aad, aa, ab⟩ := a
  go_enter Try.func20, Try.ntmps20
  go_wp2_with fail
  refine HN.out.mono ?_
  rintro e w2 ⟨rfl, K2⟩
  have H2 := hid (HH.out.below K2)
  have HB := hid K2
  clear K2 HN c6
  go_wp2_with fail
  refine (HA.out H2.out.mem).mono ?_
  rintro e w3 ⟨rfl, T⟩
  have h3 : Rs w3 p b g s' ⟨ad, sz, true, v, ps, 1, false, hs⟩ := ⟨T.1, H2.out.us.keep (T.2.block _ H2.out.us.lt H2.out.gp H2.out.gb), H2.out.gp, H2.out.gb⟩
  have H3 := hid h3
  have HB3 : Hid (But3 g p b w w3) := hid ((But3.of_below HB.out).trans (But3.of_but T.2))
  obtain ⟨c0, c1, c2, c3, c4, c5, c6, c7⟩ := h3.us.uc
  have f3 := h3.us.free 3
  have f4 := h3.us.free 4
  have f5 := h3.us.free 5
  have f6 := h3.us.free 6
  have f7 := h3.us.free 7
  have hlt3 := h3.us.lt
  simp only [] at c0 c1 c2 c3 c4 c5 c6 c7
  clear T h3 HB H2 HA c0 c1
  have hne3 : g ≠ w3.heap.size := by omega
  have hq1 : (wrap64 (IntKind.u64.wrap (rv - IntKind.u64.wrap (ps + 1))) == 0) = false := by rw [dif_w1]; exact beq_eq_false_iff_ne.2 (by omega)
  have hq2 : 0 ≤ wrap64 (IntKind.u64.wrap (rv - IntKind.u64.wrap (ps + 1))) := by rw [dif_w1]; omega
  clear hq
  go_wp2
  go_ret
  exact ⟨rfl, us_end H3.out HB3.out (H3.out.us.setT 0) ((But.refl _ _ _).trans (but_set g 5 _ _)) _⟩
set_option maxRecDepth 100000 in
set_option maxHeartbeats 1000000 in
theorem u2yG {w : World} {p b g : Nat} {s s' : St} {a : Ac} {ad sz v ps rv : Int} {hs : Bool} (h : Rs w p b g s ⟨ad, sz, true, v, ps, 2, false, hs⟩) 
    (hN : Calls Try.prog 18 #[.pointer (some ⟨g, 0, none⟩)] w fun e w' => e = .returned (acV a) ∧ Below w.heap.size w w')
    (hA : ∀ {w' : World}, Mem 62 w' p b s → Calls Try.prog 37 #[.pointer (some ⟨p, 0, none⟩), acV a] w' fun e w'' => e = .returned (reV ⟨rv, true, 0⟩) ∧ Turns 62 p b w' w'' s') :
    Calls Try.prog 20 #[.pointer (some ⟨g, 0, none⟩), .pointer (some ⟨p, 0, none⟩)] w fun e w' => e = .returned (.bool false) ∧ Rs w' p b g s' ⟨ad, sz, true, v, ps, 3, false, hs⟩ ∧ But3 g p b w w' := by
  have HH := hid h
  have HN := hid hN
  have HA : Hid (∀ {w' : World}, Mem 62 w' p b s → Calls Try.prog 37 #[.pointer (some ⟨p, 0, none⟩), acV a] w' fun e w'' => e = .returned (reV ⟨rv, true, 0⟩) ∧ Turns 62 p b w' w'' s') := hid (fun h' => hA h')
  have c6 := h.us.uc.c6
  simp only [] at c6
  clear h hN hA
  obtain ⟨ak, aad, aa, ab⟩ := a
  go_enter Try.func20, Try.ntmps20
  go_wp2_with fail
  refine HN.out.mono ?_
  rintro e w2 ⟨rfl, K2⟩
  have H2 := hid (HH.out.below K2)
  have HB := hid K2
  clear K2 HN c6
  go_wp2_with fail
  refine (HA.out H2.out.mem).mono ?_
  rintro e w3 ⟨rfl, T⟩
  have h3 : Rs w3 p b g s' ⟨ad, sz, true, v, ps, 2, false, hs⟩ := ⟨T.1, H2.out.us.keep (T.2.block _ H2.out.us.lt H2.out.gp H2.out.gb), H2.out.gp, H2.out.gb⟩
  have H3 := hid h3
  have HB3 : Hid (But3 g p b w w3) := hid ((But3.of_below HB.out).trans (But3.of_but T.2))
  obtain ⟨c0, c1, c2, c3, c4, c5, c6, c7⟩ := h3.us.uc
  have f3 := h3.us.free 3
  have f4 := h3.us.free 4
  have f5 := h3.us.free 5
  have f6 := h3.us.free 6
  have f7 := h3.us.free 7
  have hlt3 := h3.us.lt
  simp only [] at c0 c1 c2 c3 c4 c5 c6 c7
  clear T h3 HB H2 HA c0 c1
  have hne3 : g ≠ w3.heap.size := by omega
  go_wp2
  go_ret
  exact ⟨rfl, us_end H3.out HB3.out ((H3.out.us.setT 0).setT 3) (((But.refl _ _ _).trans (but_set g 5 _ _)).trans (but_set g 5 _ _)) _⟩
set_option maxRecDepth 100000 in
set_option maxHeartbeats 1000000 in
theorem u2nG {w : World} {p b g : Nat} {s s' : St} {a : Ac} {ad sz v ps rv : Int} {hs : Bool} (h : Rs w p b g s ⟨ad, sz, true, v, ps, 2, false, hs⟩) 
    (hN : Calls Try.prog 18 #[.pointer (some ⟨g, 0, none⟩)] w fun e w' => e = .returned (acV a) ∧ Below w.heap.size w w')
    (hA : ∀ {w' : World}, Mem 62 w' p b s → Calls Try.prog 37 #[.pointer (some ⟨p, 0, none⟩), acV a] w' fun e w'' => e = .returned (reV ⟨rv, false, 0⟩) ∧ Turns 62 p b w' w'' s') :
    Calls Try.prog 20 #[.pointer (some ⟨g, 0, none⟩), .pointer (some ⟨p, 0, none⟩)] w fun e w' => e = .returned (.bool false) ∧ Rs w' p b g s' ⟨ad, sz, true, v, ps, 0, false, hs⟩ ∧ But3 g p b w w' := by
  have HH := hid h
  have HN := hid hN
  have HA : Hid (∀ {w' : World}, Mem 62 w' p b s → Calls Try.prog 37 #[.pointer (some ⟨p, 0, none⟩), acV a] w' fun e w'' => e = .returned (reV ⟨rv, false, 0⟩) ∧ Turns 62 p b w' w'' s') := hid (fun h' => hA h')
  have c6 := h.us.uc.c6
  simp only [] at c6
  clear h hN hA
  obtain ⟨ak, aad, aa, ab⟩ := a
  go_enter Try.func20, Try.ntmps20
  go_wp2_with fail
  refine HN.out.mono ?_
  rintro e w2 ⟨rfl, K2⟩
  have H2 := hid (HH.out.below K2)
  have HB := hid K2
  clear K2 HN c6
  go_wp2_with fail
  refine (HA.out H2.out.mem).mono ?_
  rintro e w3 ⟨rfl, T⟩
  have h3 : Rs w3 p b g s' ⟨ad, sz, true, v, ps, 2, false, hs⟩ := ⟨T.1, H2.out.us.keep (T.2.block _ H2.out.us.lt H2.out.gp H2.out.gb), H2.out.gp, H2.out.gb⟩
  have H3 := hid h3
  have HB3 : Hid (But3 g p b w w3) := hid ((But3.of_below HB.out).trans (But3.of_but T.2))
  obtain ⟨c0, c1, c2, c3, c4, c5, c6, c7⟩ := h3.us.uc
  have f3 := h3.us.free 3
  have f4 := h3.us.free 4
  have f5 := h3.us.free 5
  have f6 := h3.us.free 6
  have f7 := h3.us.free 7
  have hlt3 := h3.us.lt
  simp only [] at c0 c1 c2 c3 c4 c5 c6 c7
  clear T h3 HB H2 HA c0 c1
  have hne3 : g ≠ w3.heap.size := by omega
  go_wp2
  go_ret
  exact ⟨rfl, us_end H3.out HB3.out (H3.out.us.setT 0) ((But.refl _ _ _).trans (but_set g 5 _ _)) _⟩
set_option maxRecDepth 100000 in
set_option maxHeartbeats 1000000 in
theorem u3G {w : World} {p b g : Nat} {s s' : St} {a : Ac} {ad sz v ps rv : Int} {hs ro : Bool} (h : Rs w p b g s ⟨ad, sz, true, v, ps, 3, false, hs⟩) 
    (hN : Calls Try.prog 18 #[.pointer (some ⟨g, 0, none⟩)] w fun e w' => e = .returned (acV a) ∧ Below w.heap.size w w')
    (hA : ∀ {w' : World}, Mem 62 w' p b s → Calls Try.prog 37 #[.pointer (some ⟨p, 0, none⟩), acV a] w' fun e w'' => e = .returned (reV ⟨rv, ro, 0⟩) ∧ Turns 62 p b w' w'' s') :
    Calls Try.prog 20 #[.pointer (some ⟨g, 0, none⟩), .pointer (some ⟨p, 0, none⟩)] w fun e w' => e = .returned (.bool false) ∧ Rs w' p b g s' ⟨ad, sz, true, rv, ps, 4, false, hs⟩ ∧ But3 g p b w w' := by
  have HH := hid h
  have HN := hid hN
  have HA : Hid (∀ {w' : World}, Mem 62 w' p b s → Calls Try.prog 37 #[.pointer (some ⟨p, 0, none⟩), acV a] w' fun e w'' => e = .returned (reV ⟨rv, ro, 0⟩) ∧ Turns 62 p b w' w'' s') := hid (fun h' => hA h')
  have c6 := h.us.uc.c6
  simp only [] at c6
  clear h hN hA
  obtain ⟨ak, aad, aa, ab⟩ := a
  go_enter Try.func20, Try.ntmps20
  go_wp2_with fail
  refine HN.out.mono ?_
  rintro e w2 ⟨rfl, K2⟩
  have H2 := hid (HH.out.below K2)
  have HB := hid K2
  clear K2 HN c6
  go_wp2_with fail
  refine (HA.out H2.out.mem).mono ?_
  rintro e w3 ⟨rfl, T⟩
  have h3 : Rs w3 p b g s' ⟨ad, sz, true, v, ps, 3, false, hs⟩ := ⟨T.1, H2.out.us.keep (T.2.block _ H2.out.us.lt H2.out.gp H2.out.gb), H2.out.gp, H2.out.gb⟩
  have H3 := hid h3
  have HB3 : Hid (But3 g p b w w3) := hid ((But3.of_below HB.out).trans (But3.of_but T.2))
  obtain ⟨c0, c1, c2, c3, c4, c5, c6, c7⟩ := h3.us.uc
  have f3 := h3.us.free 3
  have f4 := h3.us.free 4
  have f5 := h3.us.free 5
  have f6 := h3.us.free 6
  have f7 := h3.us.free 7
  have hlt3 := h3.us.lt
  simp only [] at c0 c1 c2 c3 c4 c5 c6 c7
  clear T h3 HB H2 HA c0 c1
  have hne3 : g ≠ w3.heap.size := by omega
  go_wp2
  go_ret
  exact ⟨rfl, us_end H3.out HB3.out ((H3.out.us.setV rv).setT 4) (((But.refl _ _ _).trans (but_set g 3 _ _)).trans (but_set g 5 _ _)) _⟩
set_option maxRecDepth 100000 in
set_option maxHeartbeats 1000000 in
theorem u4G {w : World} {p b g : Nat} {s s' : St} {a : Ac} {ad sz v ps rv : Int} {hs ro : Bool} (h : Rs w p b g s ⟨ad, sz, true, v, ps, 4, false, hs⟩) 
    (hN : Calls Try.prog 18 #[.pointer (some ⟨g, 0, none⟩)] w fun e w' => e = .returned (acV a) ∧ Below w.heap.size w w')
    (hA : ∀ {w' : World}, Mem 62 w' p b s → Calls Try.prog 37 #[.pointer (some ⟨p, 0, none⟩), acV a] w' fun e w'' => e = .returned (reV ⟨rv, ro, 0⟩) ∧ Turns 62 p b w' w'' s') :
    Calls Try.prog 20 #[.pointer (some ⟨g, 0, none⟩), .pointer (some ⟨p, 0, none⟩)] w fun e w' => e = .returned (.bool true) ∧ Rs w' p b g s' ⟨ad, sz, true, v, ps, 4, true, true⟩ ∧ But3 g p b w w' := by
  have HH := hid h
  have HN := hid hN
  have HA : Hid (∀ {w' : World}, Mem 62 w' p b s → Calls Try.prog 37 #[.pointer (some ⟨p, 0, none⟩), acV a] w' fun e w'' => e = .returned (reV ⟨rv, ro, 0⟩) ∧ Turns 62 p b w' w'' s') := hid (fun h' => hA h')
  have c6 := h.us.uc.c6
  simp only [] at c6
  clear h hN hA
  obtain ⟨ak, aad, aa, ab⟩ := a
  go_enter Try.func20, Try.ntmps20
  go_wp2_with fail
  refine HN.out.mono ?_
  rintro e w2 ⟨rfl, K2⟩
  have H2 := hid (HH.out.below K2)
  have HB := hid K2
  clear K2 HN c6
  go_wp2_with fail
  refine (HA.out H2.out.mem).mono ?_
  rintro e w3 ⟨rfl, T⟩
  have h3 : Rs w3 p b g s' ⟨ad, sz, true, v, ps, 4, false, hs⟩ := ⟨T.1, H2.out.us.keep (T.2.block _ H2.out.us.lt H2.out.gp H2.out.gb), H2.out.gp, H2.out.gb⟩
  have H3 := hid h3
  have HB3 : Hid (But3 g p b w w3) := hid ((But3.of_below HB.out).trans (But3.of_but T.2))
  obtain ⟨c0, c1, c2, c3, c4, c5, c6, c7⟩ := h3.us.uc
  have f3 := h3.us.free 3
  have f4 := h3.us.free 4
  have f5 := h3.us.free 5
  have f6 := h3.us.free 6
  have f7 := h3.us.free 7
  have hlt3 := h3.us.lt
  simp only [] at c0 c1 c2 c3 c4 c5 c6 c7
  clear T h3 HB H2 HA c0 c1
  have hne3 : g ≠ w3.heap.size := by omega
  go_wp2
  go_ret
  exact ⟨rfl, us_end H3.out HB3.out ((H3.out.us.setD true).setH true) (((But.refl _ _ _).trans (but_set g 6 _ _)).trans (but_set g 7 _ _)) _⟩
end Go.Proofs.Ytfnfbceblpaggaa
