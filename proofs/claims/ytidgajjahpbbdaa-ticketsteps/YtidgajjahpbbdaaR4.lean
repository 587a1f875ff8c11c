/- What a step of the document's answer for layer 5 tells, and leaves: the same functions as package ticket's. Conditions: the lock's place is 0 to 65000; the counts are below 2^62. -/
import Derived.Test.YtidgajjahpbbdaaS5
import Derived.Test.YtidgajjahpbbdaaR3
namespace Go.Proofs.Ytidgajjahpbbdaa
open Go.RowKit

/-- The state of words and of a holder, of the document's answer. -/
structure Rs (w : World) (p b g : Nat) (s : St) (x : Ho) : Prop where
  mem : Mem 51 w p b s
  rh : IsRh w g x
  gp : g ≠ p
  gb : g ≠ b
theorem Rs.below {w w' : World} {p b g : Nat} {s : St} {x : Ho} (h : Rs w p b g s x) (k : Below w.heap.size w w') : Rs w' p b g s x := ⟨h.mem.below k, h.rh.below k, h.gp, h.gb⟩

set_option maxRecDepth 100000 in
set_option maxHeartbeats 600000 in
theorem rstep_0 {w : World} {p b g : Nat} {s : St} {x : Ho} (h : Rs w p b g s x) (ok : HOk x) (hz : hNext x = ⟨0, 0, 0, 0⟩) :
    Calls Try.prog 17 #[.pointer (some ⟨g, 0, none⟩), .pointer (some ⟨p, 0, none⟩)] w fun e w' => e = .returned (.int .i64 x.st) ∧ Rs w' p b g s x ∧ But3 g p b w w' := by
  have HW := hid h
  have HN := hid (rnext_at h.rh ok)
  rw [hz] at HN
  clear h ok hz
  go_enter Try.func17, Try.ntmps17
  go_wp2_with fail
  refine HN.out.mono ?_
  rintro e w2 ⟨rfl, K2⟩
  have h2 := HW.out.below (bel_trans K2 (below_alloc w2 (.cells (acC ⟨0, 0, 0, 0⟩) 41)))
  have H2 := hid h2
  have HB := hid (bel_trans K2 (below_alloc w2 (.cells (acC ⟨0, 0, 0, 0⟩) 41)))
  have c1 := h2.rh.rc.c1
  have d0 := (IsAc.new w2 ⟨0, 0, 0, 0⟩).c0
  have d1 := (IsAc.new w2 ⟨0, 0, 0, 0⟩).c1
  have d2 := (IsAc.new w2 ⟨0, 0, 0, 0⟩).c2
  have d3 := (IsAc.new w2 ⟨0, 0, 0, 0⟩).c3
  clear h2 K2 HN
  go_wp2
  go_ret
  exact ⟨rfl, H2.out, But3.of_below HB.out⟩
theorem rend {w w3 w5 : World} {p b g : Nat} {s' : St} {x x' : Ho} (H3 : Rs w3 p b g s' x) (HB3 : But3 g p b w w3) (h5 : IsRh w5 g x') (hb : But g g w3 w5) : Rs w5 p b g s' x' ∧ But3 g p b w w5 :=
  ⟨⟨H3.mem.but hb H3.gp.symm H3.gp.symm H3.gb.symm H3.gb.symm, h5, H3.gp, H3.gb⟩, HB3.trans (But3.of_one hb)⟩
set_option maxRecDepth 100000 in
set_option maxHeartbeats 600000 in
theorem rs_err {w : World} {p b g : Nat} {s : St} {x : Ho} {k : Nat} (h : Rs w p b g s x) (ok : HOk x) (c : Cnt s k) (hk : k ≤ bnd) (hz : ((hNext x).kd == 0) = false) (he : ((doR s (hNext x)).e == 0) = false) :
    Calls Try.prog 17 #[.pointer (some ⟨g, 0, none⟩), .pointer (some ⟨p, 0, none⟩)] w fun e w' => e = .returned (.int .i64 ({ x with st := 3 }).st) ∧ Rs w' p b g (doT s (hNext x)) ({ x with st := 3 }) ∧ But3 g p b w w' := by
  have HW := hid h
  have HN := hid (rnext_at h.rh ok)
  have HD : Hid (∀ {w' : World}, Mem 51 w' p b s → Calls Try.prog 27 #[.pointer (some ⟨p, 0, none⟩), acV (hNext x)] w' fun e w'' => e = .returned (reV (doR s (hNext x))) ∧ Turns 51 p b w' w'' (doT s (hNext x))) := hid (fun hm => rdo_at hm c hk (hNext x))
  clear h ok c hk
  generalize hNext x = a at *
  generalize doT s a = s' at *
  generalize doR s a = r at *
  obtain ⟨rv, ro, re⟩ := r
  obtain ⟨ak, ad, aa, ab⟩ := a
  simp only [] at *
  obtain ⟨xad, xlv, xst, xtk⟩ := x
  simp only [] at *
  have hb : (re != 0) = true := by simpa using he
  go_enter Try.func17, Try.ntmps17
  go_wp2_with fail
  refine HN.out.mono ?_
  rintro e w2 ⟨rfl, K2⟩
  have H2 := hid (HW.out.below (bel_trans K2 (below_alloc w2 (.cells (acC ⟨ak, ad, aa, ab⟩) 41))))
  have HB := hid (bel_trans K2 (below_alloc w2 (.cells (acC ⟨ak, ad, aa, ab⟩) 41)))
  have d0 := (IsAc.new w2 ⟨ak, ad, aa, ab⟩).c0
  have d1 := (IsAc.new w2 ⟨ak, ad, aa, ab⟩).c1
  have d2 := (IsAc.new w2 ⟨ak, ad, aa, ab⟩).c2
  have d3 := (IsAc.new w2 ⟨ak, ad, aa, ab⟩).c3
  clear K2 HN
  go_wp2_with fail
  refine (HD.out H2.out.mem).mono ?_
  rintro e w3 ⟨rfl, T⟩
  have h3 : Rs w3 p b g s' ⟨xad, xlv, xst, xtk⟩ := ⟨T.1, H2.out.rh.keep (T.2.block _ H2.out.rh.lt H2.out.gp H2.out.gb), H2.out.gp, H2.out.gb⟩
  have HB3 : Hid (But3 g p b w w3) := hid ((But3.of_below HB.out).trans (But3.of_but T.2))
  have H3 := hid h3
  obtain ⟨c0, c1, c2, c3⟩ := h3.rh.rc
  simp only [] at c0 c1 c2 c3
  have f1 := h3.rh.free 1
  have f2 := h3.rh.free 2
  have hlt := h3.rh.lt
  clear T h3 HB H2 d0 d1 d2 d3 HD
  go_wp2
  go_ret
  exact ⟨rfl, rend H3.out HB3.out ((H3.out.rh.setS 3).below (below_alloc _ _)) ((but_set g 1 _ _).trans (But.of_below (below_alloc _ _)))⟩
set_option maxRecDepth 100000 in
set_option maxHeartbeats 600000 in
theorem rs_0 {w : World} {p b g : Nat} {s : St} {x : Ho} {k : Nat} (h : Rs w p b g s x) (ok : HOk x) (c : Cnt s k) (hk : k ≤ bnd) (hz : ((hNext x).kd == 0) = false) (he : (doR s (hNext x)).e = 0) (hst : x.st = 0) :
    Calls Try.prog 17 #[.pointer (some ⟨g, 0, none⟩), .pointer (some ⟨p, 0, none⟩)] w fun e w' => e = .returned (.int .i64 ({ x with tk := (doR s (hNext x)).v, st := 1 }).st) ∧ Rs w' p b g (doT s (hNext x)) ({ x with tk := (doR s (hNext x)).v, st := 1 }) ∧ But3 g p b w w' := by
  have HW := hid h
  have HN := hid (rnext_at h.rh ok)
  have HD : Hid (∀ {w' : World}, Mem 51 w' p b s → Calls Try.prog 27 #[.pointer (some ⟨p, 0, none⟩), acV (hNext x)] w' fun e w'' => e = .returned (reV (doR s (hNext x))) ∧ Turns 51 p b w' w'' (doT s (hNext x))) := hid (fun hm => rdo_at hm c hk (hNext x))
  clear h ok c hk
  generalize hNext x = a at *
  generalize doT s a = s' at *
  generalize doR s a = r at *
  obtain ⟨rv, ro, re⟩ := r
  obtain ⟨ak, ad, aa, ab⟩ := a
  simp only [] at *
  obtain ⟨xad, xlv, xst, xtk⟩ := x
  simp only [] at *
  subst he
  subst hst
  go_enter Try.func17, Try.ntmps17
  go_wp2_with fail
  refine HN.out.mono ?_
  rintro e w2 ⟨rfl, K2⟩
  have H2 := hid (HW.out.below (bel_trans K2 (below_alloc w2 (.cells (acC ⟨ak, ad, aa, ab⟩) 41))))
  have HB := hid (bel_trans K2 (below_alloc w2 (.cells (acC ⟨ak, ad, aa, ab⟩) 41)))
  have d0 := (IsAc.new w2 ⟨ak, ad, aa, ab⟩).c0
  have d1 := (IsAc.new w2 ⟨ak, ad, aa, ab⟩).c1
  have d2 := (IsAc.new w2 ⟨ak, ad, aa, ab⟩).c2
  have d3 := (IsAc.new w2 ⟨ak, ad, aa, ab⟩).c3
  clear K2 HN
  go_wp2_with fail
  refine (HD.out H2.out.mem).mono ?_
  rintro e w3 ⟨rfl, T⟩
  have h3 : Rs w3 p b g s' ⟨xad, xlv, 0, xtk⟩ := ⟨T.1, H2.out.rh.keep (T.2.block _ H2.out.rh.lt H2.out.gp H2.out.gb), H2.out.gp, H2.out.gb⟩
  have HB3 : Hid (But3 g p b w w3) := hid ((But3.of_below HB.out).trans (But3.of_but T.2))
  have H3 := hid h3
  obtain ⟨c0, c1, c2, c3⟩ := h3.rh.rc
  simp only [] at c0 c1 c2 c3
  have f1 := h3.rh.free 1
  have f2 := h3.rh.free 2
  have hlt := h3.rh.lt
  clear T h3 HB H2 d0 d1 d2 d3 HD
  go_wp2
  go_ret
  exact ⟨rfl, rend H3.out HB3.out (((H3.out.rh.setK rv).setS 1).below (below_alloc _ _)) (((but_set g 2 _ _).trans (but_set g 1 _ _)).trans (But.of_below (below_alloc _ _)))⟩
set_option maxRecDepth 100000 in
set_option maxHeartbeats 600000 in
theorem rs_1y {w : World} {p b g : Nat} {s : St} {x : Ho} {k : Nat} (h : Rs w p b g s x) (ok : HOk x) (c : Cnt s k) (hk : k ≤ bnd) (hz : ((hNext x).kd == 0) = false) (he : (doR s (hNext x)).e = 0) (hst : x.st = 1) (hv : (doR s (hNext x)).v = x.tk) :
    Calls Try.prog 17 #[.pointer (some ⟨g, 0, none⟩), .pointer (some ⟨p, 0, none⟩)] w fun e w' => e = .returned (.int .i64 ({ x with st := 2 }).st) ∧ Rs w' p b g (doT s (hNext x)) ({ x with st := 2 }) ∧ But3 g p b w w' := by
  have HW := hid h
  have HN := hid (rnext_at h.rh ok)
  have HD : Hid (∀ {w' : World}, Mem 51 w' p b s → Calls Try.prog 27 #[.pointer (some ⟨p, 0, none⟩), acV (hNext x)] w' fun e w'' => e = .returned (reV (doR s (hNext x))) ∧ Turns 51 p b w' w'' (doT s (hNext x))) := hid (fun hm => rdo_at hm c hk (hNext x))
  clear h ok c hk
  generalize hNext x = a at *
  generalize doT s a = s' at *
  generalize doR s a = r at *
  obtain ⟨rv, ro, re⟩ := r
  obtain ⟨ak, ad, aa, ab⟩ := a
  simp only [] at *
  obtain ⟨xad, xlv, xst, xtk⟩ := x
  simp only [] at *
  subst he
  subst hst
  subst hv
  have hb : (rv == rv) = true := by simp
  go_enter Try.func17, Try.ntmps17
  go_wp2_with fail
  refine HN.out.mono ?_
  rintro e w2 ⟨rfl, K2⟩
  have H2 := hid (HW.out.below (bel_trans K2 (below_alloc w2 (.cells (acC ⟨ak, ad, aa, ab⟩) 41))))
  have HB := hid (bel_trans K2 (below_alloc w2 (.cells (acC ⟨ak, ad, aa, ab⟩) 41)))
  have d0 := (IsAc.new w2 ⟨ak, ad, aa, ab⟩).c0
  have d1 := (IsAc.new w2 ⟨ak, ad, aa, ab⟩).c1
  have d2 := (IsAc.new w2 ⟨ak, ad, aa, ab⟩).c2
  have d3 := (IsAc.new w2 ⟨ak, ad, aa, ab⟩).c3
  clear K2 HN
  go_wp2_with fail
  refine (HD.out H2.out.mem).mono ?_
  rintro e w3 ⟨rfl, T⟩
  have h3 : Rs w3 p b g s' ⟨xad, xlv, 1, rv⟩ := ⟨T.1, H2.out.rh.keep (T.2.block _ H2.out.rh.lt H2.out.gp H2.out.gb), H2.out.gp, H2.out.gb⟩
  have HB3 : Hid (But3 g p b w w3) := hid ((But3.of_below HB.out).trans (But3.of_but T.2))
  have H3 := hid h3
  obtain ⟨c0, c1, c2, c3⟩ := h3.rh.rc
  simp only [] at c0 c1 c2 c3
  have f1 := h3.rh.free 1
  have f2 := h3.rh.free 2
  have hlt := h3.rh.lt
  clear T h3 HB H2 d0 d1 d2 d3 HD
  go_wp2
  have e4 := heap_alloc_new w3 (.cells #[.int .u64 rv, .bool ro, .int .i64 0] 70 (0, 0))
  have hB4 := below_alloc w3 (.cells #[.int .u64 rv, .bool ro, .int .i64 0] 70)
  have H4 := hid (H3.out.below hB4)
  have HB4 := hid (HB3.out.trans (But3.of_below hB4))
  have e0 := cell_of (i := 0) e4 rfl
  have hq := lt_of_block e4
  clear c0 c1 c2 c3 f1 f2 hlt hB4 H3 HB3 e4
  generalize w3.alloc (.cells #[.int .u64 rv, .bool ro, .int .i64 0] 70) = W4 at *
  generalize w3.heap.size = q at *
  obtain ⟨c0, c1, c2, c3⟩ := H4.out.rh.rc
  simp only [] at c0 c1 c2 c3
  have f1 := H4.out.rh.free 1
  have hlt := H4.out.rh.lt
  go_quiet (fail)
  have H5 := hid (H4.out.below (below_drewN (Below.refl _ _) nq))
  have HB5 := hid (HB4.out.trans (But3.of_below (below_drewN (Below.refl _ _) nq)))
  have C1 : (W4.drewN nq).cell? ⟨g, 1, none⟩ = some (.int .i64 1) := by simpa using c1
  have F1 : (W4.drewN nq).frozen? ⟨g, 1, none⟩ = false := by simpa using f1
  clear H4 HB4 c0 c1 c2 c3 f1 e0
  generalize W4.drewN nq = W5 at *
  go_wp2
  go_ret
  exact ⟨rfl, rend H5.out HB5.out (H5.out.rh.setS 2) (but_set g 1 _ _)⟩
set_option maxRecDepth 100000 in
set_option maxHeartbeats 600000 in
theorem rs_1n {w : World} {p b g : Nat} {s : St} {x : Ho} {k : Nat} (h : Rs w p b g s x) (ok : HOk x) (c : Cnt s k) (hk : k ≤ bnd) (hz : ((hNext x).kd == 0) = false) (he : (doR s (hNext x)).e = 0) (hst : x.st = 1) (hv : ((doR s (hNext x)).v == x.tk) = false) :
    Calls Try.prog 17 #[.pointer (some ⟨g, 0, none⟩), .pointer (some ⟨p, 0, none⟩)] w fun e w' => e = .returned (.int .i64 ({ x with st := 1 }).st) ∧ Rs w' p b g (doT s (hNext x)) ({ x with st := 1 }) ∧ But3 g p b w w' := by
  have HW := hid h
  have HN := hid (rnext_at h.rh ok)
  have HD : Hid (∀ {w' : World}, Mem 51 w' p b s → Calls Try.prog 27 #[.pointer (some ⟨p, 0, none⟩), acV (hNext x)] w' fun e w'' => e = .returned (reV (doR s (hNext x))) ∧ Turns 51 p b w' w'' (doT s (hNext x))) := hid (fun hm => rdo_at hm c hk (hNext x))
  clear h ok c hk
  generalize hNext x = a at *
  generalize doT s a = s' at *
  generalize doR s a = r at *
  obtain ⟨rv, ro, re⟩ := r
  obtain ⟨ak, ad, aa, ab⟩ := a
  simp only [] at *
  obtain ⟨xad, xlv, xst, xtk⟩ := x
  simp only [] at *
  subst he
  subst hst
  go_enter Try.func17, Try.ntmps17
  go_wp2_with fail
  refine HN.out.mono ?_
  rintro e w2 ⟨rfl, K2⟩
  have H2 := hid (HW.out.below (bel_trans K2 (below_alloc w2 (.cells (acC ⟨ak, ad, aa, ab⟩) 41))))
  have HB := hid (bel_trans K2 (below_alloc w2 (.cells (acC ⟨ak, ad, aa, ab⟩) 41)))
  have d0 := (IsAc.new w2 ⟨ak, ad, aa, ab⟩).c0
  have d1 := (IsAc.new w2 ⟨ak, ad, aa, ab⟩).c1
  have d2 := (IsAc.new w2 ⟨ak, ad, aa, ab⟩).c2
  have d3 := (IsAc.new w2 ⟨ak, ad, aa, ab⟩).c3
  clear K2 HN
  go_wp2_with fail
  refine (HD.out H2.out.mem).mono ?_
  rintro e w3 ⟨rfl, T⟩
  have h3 : Rs w3 p b g s' ⟨xad, xlv, 1, xtk⟩ := ⟨T.1, H2.out.rh.keep (T.2.block _ H2.out.rh.lt H2.out.gp H2.out.gb), H2.out.gp, H2.out.gb⟩
  have HB3 : Hid (But3 g p b w w3) := hid ((But3.of_below HB.out).trans (But3.of_but T.2))
  have H3 := hid h3
  obtain ⟨c0, c1, c2, c3⟩ := h3.rh.rc
  simp only [] at c0 c1 c2 c3
  have f1 := h3.rh.free 1
  have f2 := h3.rh.free 2
  have hlt := h3.rh.lt
  clear T h3 HB H2 d0 d1 d2 d3 HD
  go_wp2
  have e4 := heap_alloc_new w3 (.cells #[.int .u64 rv, .bool ro, .int .i64 0] 70 (0, 0))
  have hB4 := below_alloc w3 (.cells #[.int .u64 rv, .bool ro, .int .i64 0] 70)
  have H4 := hid (H3.out.below hB4)
  have HB4 := hid (HB3.out.trans (But3.of_below hB4))
  have e0 := cell_of (i := 0) e4 rfl
  have hq := lt_of_block e4
  clear c0 c1 c2 c3 f1 f2 hlt hB4 H3 HB3 e4
  generalize w3.alloc (.cells #[.int .u64 rv, .bool ro, .int .i64 0] 70) = W4 at *
  generalize w3.heap.size = q at *
  obtain ⟨c0, c1, c2, c3⟩ := H4.out.rh.rc
  simp only [] at c0 c1 c2 c3
  have f1 := H4.out.rh.free 1
  have hlt := H4.out.rh.lt
  go_quiet (fail)
  have H5 := hid (H4.out.below (below_drewN (Below.refl _ _) nq))
  have HB5 := hid (HB4.out.trans (But3.of_below (below_drewN (Below.refl _ _) nq)))
  have C1 : (W4.drewN nq).cell? ⟨g, 1, none⟩ = some (.int .i64 1) := by simpa using c1
  have F1 : (W4.drewN nq).frozen? ⟨g, 1, none⟩ = false := by simpa using f1
  clear H4 HB4 c0 c1 c2 c3 f1 e0
  generalize W4.drewN nq = W5 at *
  go_wp2
  go_ret
  exact ⟨rfl, H5.out, HB5.out⟩
set_option maxRecDepth 100000 in
set_option maxHeartbeats 600000 in
theorem rs_2 {w : World} {p b g : Nat} {s : St} {x : Ho} {k : Nat} (h : Rs w p b g s x) (ok : HOk x) (c : Cnt s k) (hk : k ≤ bnd) (hz : ((hNext x).kd == 0) = false) (he : (doR s (hNext x)).e = 0) (hst : x.st = 2) :
    Calls Try.prog 17 #[.pointer (some ⟨g, 0, none⟩), .pointer (some ⟨p, 0, none⟩)] w fun e w' => e = .returned (.int .i64 ({ x with st := 3 }).st) ∧ Rs w' p b g (doT s (hNext x)) ({ x with st := 3 }) ∧ But3 g p b w w' := by
  have HW := hid h
  have HN := hid (rnext_at h.rh ok)
  have HD : Hid (∀ {w' : World}, Mem 51 w' p b s → Calls Try.prog 27 #[.pointer (some ⟨p, 0, none⟩), acV (hNext x)] w' fun e w'' => e = .returned (reV (doR s (hNext x))) ∧ Turns 51 p b w' w'' (doT s (hNext x))) := hid (fun hm => rdo_at hm c hk (hNext x))
  clear h ok c hk
  generalize hNext x = a at *
  generalize doT s a = s' at *
  generalize doR s a = r at *
  obtain ⟨rv, ro, re⟩ := r
  obtain ⟨ak, ad, aa, ab⟩ := a
  simp only [] at *
  obtain ⟨xad, xlv, xst, xtk⟩ := x
  simp only [] at *
  subst he
  subst hst
  go_enter Try.func17, Try.ntmps17
  go_wp2_with fail
  refine HN.out.mono ?_
  rintro e w2 ⟨rfl, K2⟩
  have H2 := hid (HW.out.below (bel_trans K2 (below_alloc w2 (.cells (acC ⟨ak, ad, aa, ab⟩) 41))))
  have HB := hid (bel_trans K2 (below_alloc w2 (.cells (acC ⟨ak, ad, aa, ab⟩) 41)))
  have d0 := (IsAc.new w2 ⟨ak, ad, aa, ab⟩).c0
  have d1 := (IsAc.new w2 ⟨ak, ad, aa, ab⟩).c1
  have d2 := (IsAc.new w2 ⟨ak, ad, aa, ab⟩).c2
  have d3 := (IsAc.new w2 ⟨ak, ad, aa, ab⟩).c3
  clear K2 HN
  go_wp2_with fail
  refine (HD.out H2.out.mem).mono ?_
  rintro e w3 ⟨rfl, T⟩
  have h3 : Rs w3 p b g s' ⟨xad, xlv, 2, xtk⟩ := ⟨T.1, H2.out.rh.keep (T.2.block _ H2.out.rh.lt H2.out.gp H2.out.gb), H2.out.gp, H2.out.gb⟩
  have HB3 : Hid (But3 g p b w w3) := hid ((But3.of_below HB.out).trans (But3.of_but T.2))
  have H3 := hid h3
  obtain ⟨c0, c1, c2, c3⟩ := h3.rh.rc
  simp only [] at c0 c1 c2 c3
  have f1 := h3.rh.free 1
  have f2 := h3.rh.free 2
  have hlt := h3.rh.lt
  clear T h3 HB H2 d0 d1 d2 d3 HD
  go_wp2
  go_ret
  exact ⟨rfl, rend H3.out HB3.out ((H3.out.rh.setS 3).below (below_alloc _ _)) ((but_set g 1 _ _).trans (But.of_below (below_alloc _ _)))⟩

theorem hNext_kd {x : Ho} (h : (hNext x).kd ≠ 0) : x.st = 0 ∨ x.st = 1 ∨ x.st = 2 := by
  unfold hNext at h
  by_cases h0 : x.st = 0
  · exact Or.inl h0
  · by_cases h1 : x.st = 1
    · exact Or.inr (Or.inl h1)
    · rw [if_neg h0, if_neg h1] at h
      by_cases h2 : x.st = 2 ∧ x.lv = true
      · exact Or.inr (Or.inr h2.1)
      · rw [if_neg h2] at h; exact absurd rfl h
theorem rstep_at {w : World} {p b g : Nat} {s : St} {x : Ho} {k : Nat} (h : Rs w p b g s x) (ok : HOk x) (c : Cnt s k) (hk : k ≤ bnd) :
    Calls Try.prog 17 #[.pointer (some ⟨g, 0, none⟩), .pointer (some ⟨p, 0, none⟩)] w fun e w' => e = .returned (.int .i64 (hX s x).st) ∧ Rs w' p b g (hT s x) (hX s x) ∧ But3 g p b w w' := by
  unfold hT hX
  by_cases hz : (hNext x).kd = 0
  · rw [if_pos hz, if_pos hz]; exact rstep_0 h ok (hNext_zero hz)
  · rw [if_neg hz, if_neg hz]
    have hzb : ((hNext x).kd == 0) = false := beq_eq_false_iff_ne.2 hz
    unfold hGo
    by_cases he : (doR s (hNext x)).e = 0
    · rw [if_pos he]
      rcases hNext_kd hz with h0 | h1 | h2
      · rw [if_pos h0]; exact rs_0 h ok c hk hzb he h0
      · rw [if_neg (by omega), if_pos h1]
        by_cases hv : (doR s (hNext x)).v = x.tk
        · rw [if_pos hv]; exact rs_1y h ok c hk hzb he h1 hv
        · rw [if_neg hv]; exact rs_1n h ok c hk hzb he h1 (beq_eq_false_iff_ne.2 hv)
      · rw [if_neg (by omega), if_neg (by omega)]; exact rs_2 h ok c hk hzb he h2
    · rw [if_neg he]; exact rs_err h ok c hk hzb (beq_eq_false_iff_ne.2 he)
end Go.Proofs.Ytidgajjahpbbdaa
