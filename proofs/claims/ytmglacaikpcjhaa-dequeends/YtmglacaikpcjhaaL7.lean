/- The walk of DequeLast: for every value and every list of bools the call returns true; nothing that lay before is changed. Condition: the list reads as such. -/
import Derived.Test.YtmglacaikpcjhaaQ2
import Derived.Test.YtmglacaikpcjhaaY0
import Derived.Test.YtmglacaikpcjhaaL6
namespace Go.Proofs.Ytmglacaikpcjhaa
open Go.RowKit

/-- A deque, and two tasks beside it. -/
structure L2 (w0 : World) (p b r ga gc k : Nat) (w : World) (s : St) (x y : Tk) : Prop where
  kn : Kn w0 p b r 0 4 w s
  ta : IsTk w ga x
  tc : IsTk w gc y
  ac : ga ≠ gc
  ap : ga ≠ p
  ab : ga ≠ b
  ar : ga ≠ r
  cp : gc ≠ p
  cb : gc ≠ b
  cr : gc ≠ r
  a0 : w0.heap.size ≤ ga
  c0 : w0.heap.size ≤ gc
  ya : YOk x
  yc : YOk y
  so : SOk s
  co : Cnt s k
theorem L2.hsA {w0 w : World} {p b r ga gc k : Nat} {s : St} {x y : Tk} (h : L2 w0 p b r ga gc k w s x y) : Hs w p b ga s x := ⟨h.kn.mem, h.ta, h.ap, h.ab⟩
theorem L2.hsC {w0 w : World} {p b r ga gc k : Nat} {s : St} {x y : Tk} (h : L2 w0 p b r ga gc k w s x y) : Hs w p b gc s y := ⟨h.kn.mem, h.tc, h.cp, h.cb⟩
theorem L2.moveA {w0 w w2 : World} {p b r ga gc k k' : Nat} {s s' : St} {x x' y : Tk} (h : L2 w0 p b r ga gc k w s x y) (T : Hs w2 p b ga s' x' ∧ But3 ga p b w w2) (hx : YOk x') (hs : SOk s') (hc : Cnt s' k') : L2 w0 p b r ga gc k' w2 s' x' y :=
  { h with kn := h.kn.ran h.ar h.a0 T, ta := T.1.tk, tc := h.tc.keep (T.2.block _ h.tc.lt h.ac.symm h.cp h.cb), ya := hx, so := hs, co := hc }
theorem L2.moveC {w0 w w2 : World} {p b r ga gc k k' : Nat} {s s' : St} {x y y' : Tk} (h : L2 w0 p b r ga gc k w s x y) (T : Hs w2 p b gc s' y' ∧ But3 gc p b w w2) (hy : YOk y') (hs : SOk s') (hc : Cnt s' k') : L2 w0 p b r ga gc k' w2 s' x y' :=
  { h with kn := h.kn.ran h.cr h.c0 T, tc := T.1.tk, ta := h.ta.keep (T.2.block _ h.ta.lt h.ac h.ap h.ab), yc := hy, so := hs, co := hc }
theorem L2.turn {w0 w w2 : World} {p b r ga gc k k' : Nat} {s s' : St} {x y : Tk} (h : L2 w0 p b r ga gc k w s x y) (T : Turns 78 p b w w2 s') (hs : SOk s') (hc : Cnt s' k') : L2 w0 p b r ga gc k' w2 s' x y :=
  { h with kn := h.kn.turn T, ta := h.ta.keep (T.2.block _ h.ta.lt h.ap h.ab), tc := h.tc.keep (T.2.block _ h.tc.lt h.cp h.cb), so := hs, co := hc }
theorem rep_new (n m : Nat) (h : 2 + n ≤ m) : Rep 0 n (List.replicate m 0) ⟨0, 0, fun _ => 0⟩ := by
  have z : ∀ j, (List.replicate m (0 : Int)).getD j 0 = 0 := fun j => by
    simp only [List.getD, List.getElem?_replicate]
    split <;> rfl
  exact ⟨by simp; omega, z _, z _, fun j _ => z _⟩
theorem q04 : QOk 0 4 := ⟨by decide, by decide, by decide, by decide⟩

set_option maxRecDepth 100000 in
set_option maxHeartbeats 2000000 in
theorem last_walk (v : Int) (h0 : 0 ≤ v) (h1 : v ≤ 18446744073709551615) (bq : Option Addr) (bn bc : Nat) (bf : Nat → Bool) (w : World) (hBl : BL w bq bn bf) :
    Calls Try.prog 7 #[.int .u64 v, .slice bq bn bc] w fun e w' => e = .returned (.bool true) ∧ Below w.heap.size w w' := by
  have HBL := hid hBl
  have hbm := hBl.1
  unfold maxLen at hbm
  clear hBl
  have HV0 := hid h0
  have HV1 := hid h1
  clear h0 h1
  go_enter Try.func7, Try.ntmps7
  go_wp2_with fail
  refine (new_yes 10 _ (by decide) (by decide)).mono ?_
  rintro e w1 ⟨rfl, hM1, hB1⟩
  have J0 : Hid (Kn w (w.heap.size + 1) w.heap.size w1.heap.size 0 4 (w1.alloc (.cells #[.int .i64 0, .int .i64 4] 34)) ⟨List.replicate 10 0, 0, 0⟩) := hid (Kn.first (s := ⟨List.replicate 10 0, 0, 0⟩) 0 4 hM1 hB1)
  clear hM1 hB1
  have c0 := J0.out.c0
  have c1 := J0.out.c1
  generalize w.heap.size + 1 = p at *
  generalize hq : w.heap.size = q at *
  have HQ := hid hq
  clear hq
  by_cases hlen : 100 < bn
  · have hlen' : (100 : Int) < (bn : Int) := by omega
    go_wp2_with fail
    refine (known_yes _).mono ?_
    rintro e w2 ⟨rfl, K⟩
    have HB := hid (J0.out.below K).bel
    clear K
    go_wp2
    go_ret
    exact ⟨rfl, HB.out⟩
  have hlen' : ¬ (100 : Int) < (bn : Int) := by omega
  go_wp2_with fail
  refine (push_at _ v q04).mono ?_
  rintro e u0 ⟨g, rfl, hx, hg, K⟩
  obtain ⟨hh, hk, hr, hg0⟩ := J0.out.task hx hg K
  have HH := hid hh
  have HK := hid hk
  have HR := hid hr
  have HG := hid hg0
  clear hx hg K hh hk hr hg0 c0 c1 J0
  have hS0 : SOk ⟨List.replicate 10 0, 0, 0⟩ := sok_of (by kernel_rfl)
  have hC0 : Cnt ⟨List.replicate 10 0, 0, 0⟩ 0 := cnt_of (by kernel_rfl)
  have hY0 := newP_ok q04 HV0.out HV1.out
  have HRO := hid (run_ok 10 hS0 hY0 hC0)
  have HPS := hid (push_solo (ad := 0) (n := 4) (s := ⟨List.replicate 10 0, 0, 0⟩) v (rep_new 4 10 (by omega)) (by omega) (by omega) (by simp) (by simp) (by decide))
  have HRUN := hid (run_at HH.out hY0 hC0 (by decide) hS0)
  clear hS0 hC0 hY0
  simp only [Int.natCast_zero, show ((4 : Nat) : Int) = 4 from rfl] at HPS
  generalize run 10 ⟨List.replicate 10 0, 0, 0⟩ (newP 0 4 v) = R at *
  obtain ⟨s0, x0⟩ := R
  simp only [] at HRUN HRO HPS
  go_wp2_with fail
  refine HRUN.out.mono ?_
  rintro e v0 ⟨rfl, T⟩
  have J1 : Hid (Kn w p q w1.heap.size 0 4 v0 s0) := hid (HK.out.ran HR.out HG.out T)
  have HRep : Hid (Rep 0 4 s0.xs ⟨0, 1, fun k => if k = 0 then v else 0⟩) := hid (by
    have := HPS.out.rep
    simp [ix] at this
    exact this)
  have HSO := hid HRO.out.1
  have HCO := hid HRO.out.2.2
  clear T HH HK HR HG HRO HPS HRUN
  have c0 := J1.out.c0
  have c1 := J1.out.c1
  go_wp2_with fail
  refine (pop_at _ q04).mono ?_
  rintro e u1 ⟨ga, rfl, hx, hg, K⟩
  obtain ⟨hh, hk, hr, hg0⟩ := J1.out.task hx hg K
  have HH := hid hh
  have HK := hid hk
  have HR := hid hr
  have HG := hid hg0
  clear hx hg K hh hk hr hg0 c0 c1 J1
  have c0 := HK.out.c0
  have c1 := HK.out.c1
  go_wp2_with fail
  refine (steal_at _ q04).mono ?_
  rintro e u2 ⟨gc, rfl, hx, hg, K⟩
  obtain ⟨hh, hk, hr, hg0⟩ := HK.out.task hx hg K
  have hI0 : L2 w p q w1.heap.size ga gc 10 u2 s0 (newG 0 4) (newS 0 4) := ⟨hk, HH.out.tk.below K, hx, by have := HH.out.tk.lt; omega, HH.out.gp, HH.out.gb, HR.out, hh.gp, hh.gb, hr, HG.out, hg0, newG_ok q04, newS_ok q04, HSO.out, HCO.out⟩
  have HI0 := hid hI0
  have HL0 := hid (LQ.first HRep.out)
  clear hx hg K hh hk hr hg0 c0 c1 hI0 HH HK HR HG HSO HCO HRep
  go_wp2
  go_loopw [10] (fun i wr => ∃ (k : Nat) (s : St) (x y : Tk), k ≤ bn ∧ i = .int .i64 k ∧ L2 w p q w1.heap.size ga gc (10 + k) wr s x y ∧ LQ v s x y) (fun i _ => bn - (intOf i).toNat)
  case atStart => exact ⟨0, _, _, _, Nat.zero_le _, rfl, HI0.out, HL0.out⟩
  case round =>
    obtain ⟨k, s, x, y, hk, rfl, hI, hL⟩ := hrel
    have HI := hid hI
    have HL := hid hL
    clear hI hL HI0 HL0
    by_cases hlt : k < bn
    · obtain ⟨bb, off, hbq, hbb, hcell⟩ := HBL.out.2 (by omega)
      have hc := (HI.out.kn.bel.cell (p := ⟨bb, off + k, none⟩) hbb).trans (hcell k hlt)
      subst hbq
      clear hcell hbb
      cases hbk : bf k
      · rw [hbk] at hc
        clear hbk
        go_wp2_with fail
        refine (tstep_at HI.out.hsC HI.out.yc.xo HI.out.co (by unfold bnd; omega)).mono ?_
        rintro e3 w3 ⟨rfl, T⟩
        have HI2 := hid (HI.out.moveC T (HI.out.yc.next HI.out.so) (HI.out.so.next HI.out.yc) (HI.out.co.next y))
        have HL2 := hid HL.out.stepC
        clear T hc
        go_wp2
        exact ⟨⟨k + 1, _, _, _, by omega, by go_num, HI2.out, HL2.out⟩, by simp [intOf]; omega⟩
      · rw [hbk] at hc
        clear hbk
        go_wp2_with fail
        refine (tstep_at HI.out.hsA HI.out.ya.xo HI.out.co (by unfold bnd; omega)).mono ?_
        rintro e3 w3 ⟨rfl, T⟩
        have HI2 := hid (HI.out.moveA T (HI.out.ya.next HI.out.so) (HI.out.so.next HI.out.ya) (HI.out.co.next x))
        have HL2 := hid HL.out.stepA
        clear T hc
        go_wp2
        exact ⟨⟨k + 1, _, _, _, by omega, by go_num, HI2.out, HL2.out⟩, by simp [intOf]; omega⟩
    · go_wp2_with fail
      refine (run_at HI.out.hsA HI.out.ya HI.out.co (by unfold bnd; omega) HI.out.so).mono ?_
      rintro e3 w3 ⟨rfl, T⟩
      obtain ⟨q1, q2, q3⟩ := run_ok 10 HI.out.so HI.out.ya HI.out.co
      have HI2 := hid (HI.out.moveA T q2 q1 q3)
      have HL2 := hid (HL.out.runA 10)
      have HE2 := hid (run_ends 10 s x HI.out.so HI.out.ya (by have := rem_le x.kd x.tn; omega))
      clear T q1 q2 q3 HI HL
      generalize run 10 s x = R at *
      obtain ⟨s2, x2⟩ := R
      simp only [] at HI2 HL2 HE2 ⊢
      go_wp2_with fail
      refine (run_at HI2.out.hsC HI2.out.yc HI2.out.co (by unfold bnd; omega) HI2.out.so).mono ?_
      rintro e3 w4 ⟨rfl, T⟩
      obtain ⟨q1, q2, q3⟩ := run_ok 10 HI2.out.so HI2.out.yc HI2.out.co
      have HI3 := hid (HI2.out.moveC T q2 q1 q3)
      have HL3 := hid (HL2.out.runC 10)
      have HE3 := hid (run_ends 10 s2 y HI2.out.so HI2.out.yc (by have := rem_le y.kd y.tn; omega))
      clear T q1 q2 q3 HI2 HL2
      generalize run 10 s2 y = R at *
      obtain ⟨s3, y3⟩ := R
      simp only [] at HI3 HL3 HE3 ⊢
      have HF := hid (HL3.out.ends HE2.out HE3.out)
      clear HL3 HE2 HE3
      go_wp2_with fail
      refine (load_any HI3.out.kn.mem HI3.out.co (by unfold bnd; omega) 0).mono ?_
      rintro e3 w5 ⟨rfl, T⟩
      have HI4 := hid (HI3.out.turn T (HI3.out.so.loadT 0) (HI3.out.co.load 0))
      have HV4 : Hid (loadV s3 0 = 1) := hid (by rw [show (0 : Int) = ((0 : Nat) : Int) from rfl, loadV_nat (by have := HF.out.2.2.1; omega)]; exact HF.out.1)
      have HV5 : Hid (loadV (loadT s3 0) 1 = 1) := hid (by
        have hx := HF.out.2.2.1
        have e : (loadT s3 (0 : Nat)).xs = s3.xs := loadT_nat (by omega)
        rw [show (1 : Int) = ((1 : Nat) : Int) from rfl, show (0 : Int) = ((0 : Nat) : Int) from rfl, loadV_nat (by rw [e]; omega), e]
        exact HF.out.2.1)
      clear T HI3
      rw [HV4.out]
      generalize errV s3 0 = ev at *
      go_wp2_with fail
      refine (load_any HI4.out.kn.mem HI4.out.co (by unfold bnd; omega) 1).mono ?_
      rintro e3 w6 ⟨rfl, T⟩
      have HB := hid (HI4.out.kn.turn T).bel
      rw [HV5.out]
      clear T HI4 HV4 HV5
      generalize errV (loadT s3 0) 1 = ev2 at *
      obtain ⟨b3, hb3⟩ : ∃ b3, resB y3 = b3 := ⟨_, rfl⟩
      obtain ⟨b2, hb2⟩ : ∃ b2, resB x2 = b2 := ⟨_, rfl⟩
      obtain ⟨r3, hr3⟩ : ∃ r3, resV y3 = r3 := ⟨_, rfl⟩
      obtain ⟨r2, hr2⟩ : ∃ r2, resV x2 = r2 := ⟨_, rfl⟩
      have hf := HF.out.2.2.2
      rw [hb3, hb2, hr3, hr2] at hf ⊢
      obtain ⟨f1, f2, f3⟩ := hf
      clear hb3 hb2 hr3 hr2 HF
      subst f1
      cases b3
      · have ev : r2 = v := f2 rfl
        subst ev
        clear f2 f3
        go_wp2_with fail
        refine (known_yes _).mono ?_
        rintro e w7 ⟨rfl, K⟩
        have HB7 := hid (bel_trans HB.out K)
        clear K
        go_wp2
        go_ret
        exact ⟨rfl, HB7.out⟩
      · have ev : r3 = v := f3 rfl
        subst ev
        clear f2 f3
        go_wp2_with fail
        refine (known_yes _).mono ?_
        rintro e w7 ⟨rfl, K⟩
        have HB7 := hid (bel_trans HB.out K)
        clear K
        go_wp2
        go_ret
        exact ⟨rfl, HB7.out⟩
end Go.Proofs.Ytmglacaikpcjhaa
