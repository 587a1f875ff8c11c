/- That EpochPlays returns true, for every number of CPUs and every script of calls; nothing that lay before is changed. No conditions. -/
import Derived.Test.YthiicngnhnglfaaY3
import Derived.Test.YthiicngnhnglfaaV1
import Derived.Test.YthiicngnhnglfaaV2
import Derived.Test.YthiicngnhnglfaaV3
import Derived.Deep.CutRange
import Derived.Deep.CutBlock
import Derived.BigQuiet
namespace Go.Proofs.Ythiicngnhnglfaa
open Go.RowKit

set_option maxRecDepth 100000 in
set_option maxHeartbeats 8000000 in
theorem plays_true (y : Int) {n : Nat} {w : World} {q : Option Addr} {c : Nat} {l : List Cl} (hn : n ≤ maxLen) (hl : l.length = n) (hs : Script w q l) :
    Calls Try.prog 3 #[.int .i64 y, .slice q n c] w fun v w' => v = .returned (.bool true) ∧ Below w.heap.size w w' := by
  have hm : n ≤ 9223372036854775807 := by unfold maxLen at hn; omega
  have HS := hid hs
  have HLn := hid hl
  clear hs hl hn
  by_cases hin : 1 ≤ y ∧ y ≤ 8
  · obtain ⟨N, rfl⟩ := Int.eq_ofNat_of_zero_le (show 0 ≤ y by omega)
    have hN1 : 1 ≤ N := by omega
    have hN8 : N ≤ 8 := by omega
    clear hin
    go_enter Try.func3, Try.ntmps3
    go_wp2_with fail
    refine (new_yes N w hN1 hN8).mono ?_
    rintro v w1 ⟨rfl, hE, hB1⟩
    go_wp2_with fail
    refine (rnew_yes N w1 hN1 hN8).mono ?_
    rintro v w2 ⟨r, rfl, hrb, hR, hB2⟩
    have TW0 : Hid (Tw w w2 (w.heap.size + 1 + 1) w.heap.size (w.heap.size + 1) w1.heap.size r (ep0 N) (ep0 N)) := by
      have hs1 := hB1.size
      exact ⟨hE.below hB2, hR, hB1.trans (hB2.mono hs1), by omega, by omega, by omega, by omega, by omega⟩
    clear hE hB1 hrb hR hB2
    generalize w1.heap.size = qr at TW0
    go_wp2
    go_loopw [5, 9] (fun ev i wr => ∃ (k p b m : Nat) (s : Ep), k ≤ n ∧ k ≤ 80 ∧ ev = .pointer (some ⟨p, 0, none⟩) ∧ i = .int .i64 (k : Nat) ∧ Tw w wr p b m qr r s s ∧ Ok k s ∧ s.P.length = N) (fun _ i _ => n - (intOf i).toNat)
    case atStart => exact ⟨0, _, _, _, _, Nat.zero_le _, by omega, rfl, rfl, TW0.out, Ok.new hN1 hN8, by simp [ep0]⟩
    case round =>
      obtain ⟨k, p, b, m, s, hkn, hk80, rfl, rfl, hTw, hOk, hLN⟩ := hrel
      have HTw := hid hTw
      have HOk := hid hOk
      have HNl := hid hLN
      clear hTw hOk hLN
      by_cases hlt : k < n
      · by_cases h80 : k < 80
        · obtain ⟨B, off, rfl, hB, hcell⟩ := HS.out (by intro h; rw [← HLn.out, h] at hlt; simp at hlt)
          obtain ⟨hfit, c0, c1, c2⟩ := hcell k (by rw [HLn.out]; exact hlt)
          have up : ∀ j, wr.cell? ⟨B, j, none⟩ = w.cell? ⟨B, j, none⟩ := fun j => HTw.out.bel.cell (p := ⟨B, j, none⟩) hB
          rw [← up] at c0 c1 c2
          clear up hcell
          generalize l.getD k noCl = cl at c0 c1 c2 hfit
          obtain ⟨kd, cc, cf⟩ := cl
          dsimp only at c0 c1 c2
          have HF : Hid (cf < 9223372036854775808) := by have h9 := hfit.2.2; dsimp only at h9; show _ < _; omega
          clear hfit
          have HZ0 := hid (HTw.out.box ⟨kd, cc, cf⟩)
          obtain ⟨WX, hWX⟩ : ∃ WX, wr.alloc (zC ⟨kd, cc, cf⟩) = WX := ⟨_, rfl⟩
          obtain ⟨z, hz⟩ : ∃ z, wr.heap.size = z := ⟨_, rfl⟩
          have HZ : Hid (Tz w p b m qr r z ⟨kd, cc, cf⟩ WX s s) := by rw [← hWX, ← hz]; exact HZ0
          have b0 := HZ.out.c0
          have b1 := HZ.out.c1
          have b2 := HZ.out.c2
          have d0 := HZ0.out.c0
          clear HZ0
          dsimp only [zC] at hWX b0 b1 b2 d0
          go_upto_block 2 with fail
          (try rw [hWX])
          (try rw [hz])
          clear hWX hz d0 c0 c1 c2
          go_cut [5, 11, 12, 13, 14] from 53 to 180 (fun ev _ _ _ _ wx => ∃ (p b m : Nat) (s : Ep), ev = .pointer (some ⟨p, 0, none⟩) ∧ Tz w p b m qr r z ⟨kd, cc, cf⟩ wx s s ∧ Ok (k + 1) s ∧ s.P.length = N)
          case first =>
            by_cases hk0 : kd = 0
            · subst hk0
              clear b0 b1 b2
              go_wp2_with fail
              refine reg19_both HZ.out HOk.out ?_
              intro u74 u75 u76 u77 u78 u79 u80 u81 w3 h3
              have H3 := hid h3
              clear h3
              go_wp2
              go_meet
              case rel => exact ⟨_, _, _, _, rfl, H3.out, (HOk.out.pin _).mono (by omega), (pinS_len _ _).trans HNl.out⟩
            · have hq0 : (kd == 0) = false := beq_eq_false_iff_ne.2 hk0
              by_cases hk1 : kd = 1
              · subst hk1
                clear b0 b1 b2
                go_wp2_with fail
                refine reg22_both HZ.out HOk.out ?_
                intro u85 u86 u87 u88 u89 u90 u91 u92 w3 h3
                have H3 := hid h3
                clear h3
                go_wp2
                go_meet
                case rel => exact ⟨_, _, _, _, rfl, H3.out, (HOk.out.un _).mono (by omega), (unS_len _ _).trans HNl.out⟩
              · have hq1 : (kd == 1) = false := beq_eq_false_iff_ne.2 hk1
                by_cases hk2 : kd = 2
                · subst hk2
                  clear b0 b1 b2
                  go_wp2_with fail
                  refine reg25_both HZ.out HOk.out (by omega) HF.out ?_
                  intro u96 u97 u98 u99 u100 u101 u102 u103 w3 h3
                  have H3 := hid h3
                  clear h3
                  go_wp2
                  go_meet
                  case rel => exact ⟨_, _, _, _, rfl, H3.out, HOk.out.ret _ HF.out, (retS_len _ _).trans HNl.out⟩
                · have hq2 : (kd == 2) = false := beq_eq_false_iff_ne.2 hk2
                  by_cases hk3 : kd = 3
                  · subst hk3
                    clear b0 b1 b2
                    go_wp2_with fail
                    refine (HZ.out.adv HOk.out (by omega)).mono ?_
                    rintro v w3 ⟨rfl, h3⟩
                    have H3 := hid h3
                    clear h3
                    have HT := hid (H3.out.radv HOk.out (by omega))
                    generalize hTT : advT s = T at *
                    have hT2 : (T != T) = false := by cases T <;> rfl
                    clear hTT
                    go_wp2_with fail
                    refine HT.out.mono ?_
                    rintro v w4 ⟨rfl, h4⟩
                    have H4 := hid h4
                    clear h4
                    go_wp2
                    go_meet
                    case rel => exact ⟨_, _, _, _, rfl, H4.out, HOk.out.adv, (advS_len _).trans HNl.out⟩
                  · have hq3 : (kd == 3) = false := beq_eq_false_iff_ne.2 hk3
                    by_cases hk4 : kd = 4
                    · subst hk4
                      clear b0 b1 b2
                      go_wp2_with fail
                      refine (HZ.out.free HOk.out (by omega)).mono ?_
                      rintro v w3 ⟨x1, rfl, hl1, ha1, h3⟩
                      have H3 := hid h3
                      have L1 := hid hl1
                      have A1 := hid ha1
                      clear h3 hl1 ha1
                      go_wp2_with fail
                      refine (H3.out.rfree HOk.out (by omega)).mono ?_
                      rintro v w4 ⟨x2, rfl, hl2, h4, hBt⟩
                      have H4 := hid h4
                      have L2 := hid hl2
                      have L3 := hid (L1.out.bt A1.out hBt)
                      clear h4 hl2 hBt
                      go_wp2_with fail
                      refine (same_any L3.out L2.out).mono ?_
                      rintro v w5 ⟨rfl, hB⟩
                      have H5 := hid (H4.out.below hB)
                      clear hB
                      go_wp2
                      go_meet
                      case rel => exact ⟨_, _, _, _, rfl, H5.out, HOk.out.fr.mono (by omega), HNl.out⟩
                    · have hq4 : (kd == 4) = false := beq_eq_false_iff_ne.2 hk4
                      clear b0 b1 b2
                      go_wp2_with fail
                      refine (HZ.out.copy HOk.out).mono ?_
                      rintro v w3 ⟨pn, bn, mn, rfl, h3, ho⟩
                      have H3 := hid h3
                      have Oo := hid ho
                      have b1 := h3.c1
                      clear h3 ho
                      go_wp2_with fail
                      refine (pin_at Oo.out.ep HOk.out cc).mono ?_
                      rintro v w4 ⟨rfl, hE, hBt⟩
                      have H4 := hid (H3.out.old Oo.out hE hBt).1
                      have O4 := hid (H3.out.old Oo.out hE hBt).2
                      have b2 := H4.out.c2
                      clear hE hBt b1
                      go_wp2_with fail
                      refine (retire_at O4.out.ep (HOk.out.pin cc) (by omega) cf HF.out).mono ?_
                      rintro v w5 ⟨rfl, hE, hBt⟩
                      have H5 := hid (H4.out.old O4.out hE hBt).1
                      have O5 := hid (H4.out.old O4.out hE hBt).2
                      clear hE hBt b2
                      go_wp2_with fail
                      refine (advance_at O5.out.ep ((HOk.out.pin cc).ret cf HF.out) (by omega)).mono ?_
                      rintro v w6 ⟨rfl, hE, hBt⟩
                      have H6 := hid (H5.out.old O5.out hE hBt).1
                      have O6 := hid (H5.out.old O5.out hE hBt).2
                      clear hE hBt
                      go_wp2_with fail
                      refine (free_at O6.out.ep ((HOk.out.pin cc).ret cf HF.out).adv (by omega)).mono ?_
                      rintro v w7 ⟨x1, rfl, hrow, hE, hBt⟩
                      have H7 := hid (H6.out.old O6.out hE hBt).1
                      clear hE hBt hrow
                      go_wp2
                      go_meet
                      case rel => exact ⟨_, _, _, _, rfl, H7.out, HOk.out.mono (by omega), HNl.out⟩
          case rest =>
            obtain ⟨p2, b2', m2, s2, rfl, hZ2, hOk2, hL2⟩ := hcut
            clear HZ HNl b0 b1 b2 HTw HOk
            have HZ := hid hZ2
            have HOk := hid hOk2
            have HNl := hid hL2
            clear hZ2 hOk2 hL2
            obtain ⟨s, hss⟩ : ∃ s, s = s2 := ⟨_, rfl⟩
            rw [← hss] at HZ HOk HNl
            clear hss
            have b1 := HZ.out.c1
            go_wp2_with fail
            refine (pinned_at HZ.out.tw.ep HOk.out cc).mono ?_
            rintro v w5 ⟨rfl, hB5⟩
            have H5 := hid (HZ.out.below hB5)
            clear hB5 b1
            have b1 := H5.out.c1
            by_cases hin : 0 ≤ cc ∧ cc < N
            · obtain ⟨j, rfl⟩ : ∃ j : Nat, cc = j := ⟨cc.toNat, by omega⟩
              have hjN : j < N := by omega
              have hlenj : j < s.P.length := by rw [HNl.out]; exact hjN
              obtain ⟨hpa, hpb⟩ := pn_nat s j hlenj
              obtain ⟨vc, vw, -, q1, -, -, -, -⟩ := H5.out.tw.rf.heads
              have q2 := H5.out.tw.rf.cells j hlenj
              rw [HNl.out] at q1
              have hw : IntKind.i64.wrap (j : Int) = (j : Int) := i64w (by omega) (by omega)
              have hji : (j : Int) < (N : Int) := by omega
              have hj0 : (0 : Int) ≤ (j : Int) := by omega
              by_cases hx : (s.P.getD j none).isSome = true
              · rw [hpa, hpb, hx]
                rw [rI_some hx] at q2
                generalize (s.P.getD j none).getD 0 = a at *
                clear hpa hpb hx hlenj
                go_wp2_with fail
                go_quiet (fail)
                have hq5 := below_drewN (Below.refl w5.heap.size w5) nq
                have H6 := hid (H5.out.below hq5)
                clear q1 q2 hq5 b1
                generalize w5.drewN nq = H6W at *
                obtain ⟨t1, t2, t3, t4, t5, t6⟩ := H6.out.tests HOk.out (by omega)
                have T1 := hid t1
                have T2 := hid t2
                have T3 := hid t3
                have T4 := hid t4
                have T5 := hid t5
                have T6 := hid t6
                clear t1 t2 t3 t4 t5 t6
                go_wp2_with fail
                refine reg37_in (T := fun W => Below H6W.heap.size H6W W) (L1 := fun u W => Lies W u (waL s)) (fun _ _ _ _ _ h => h) T1.out T2.out T3.out T4.out T5.out T6.out ?_
                intro u144 u145 u146 u147 u148 u149 u150 u151 u152 u153 u154 u155 u156 u157 u158 u159 u160 u161 u162 u163 u164 u165 u166 u167 u168 u169 u170 u171 u172 u173 u174 u175 u176 u177 u178 u179 w8 hB8
                have HB8 := hid hB8
                clear hB8
                go_wp2
                go_roundw
                case rel => exact ⟨k + 1, _, _, _, s, by omega, by omega, rfl, by go_num, (H6.out.below HB8.out).tw, HOk.out, HNl.out⟩
                case measure => simp [intOf]; omega
              · have hx2 : (s.P.getD j none).isSome = false := by simpa using hx
                have hn0 := rI_none hx
                rw [hn0] at hpa q2
                rw [hpa, hpb, hx2]
                have q2' : w5.cell? ⟨r, j, none⟩ = some (.int .i64 (-1)) := q2
                rw [show (((none : Option Nat).getD 0 : Nat) : Int) = 0 from rfl]
                clear hpa hpb hx hx2 hn0 hlenj q2
                go_wp2_with fail
                go_quiet (fail)
                have hq5 := below_drewN (Below.refl w5.heap.size w5) nq
                have H6 := hid (H5.out.below hq5)
                clear q1 q2' hq5 b1
                generalize w5.drewN nq = H6W at *
                obtain ⟨t1, t2, t3, t4, t5, t6⟩ := H6.out.tests HOk.out (by omega)
                have T1 := hid t1
                have T2 := hid t2
                have T3 := hid t3
                have T4 := hid t4
                have T5 := hid t5
                have T6 := hid t6
                clear t1 t2 t3 t4 t5 t6
                go_wp2_with fail
                refine reg37_out (T := fun W => Below H6W.heap.size H6W W) (L1 := fun u W => Lies W u (waL s)) (fun _ _ _ _ _ h => h) T1.out T2.out T3.out T4.out T5.out T6.out ?_
                intro u144 u145 u146 u147 u148 u149 u150 u151 u152 u153 u154 u155 u156 u157 u158 u159 u160 u161 u162 u163 u164 u165 u166 u167 u168 u169 u170 u171 u172 u173 u174 u175 u176 u177 u178 u179 w8 hB8
                have HB8 := hid hB8
                clear hB8
                go_wp2
                go_roundw
                case rel => exact ⟨k + 1, _, _, _, s, by omega, by omega, rfl, by go_num, (H6.out.below HB8.out).tw, HOk.out, HNl.out⟩
                case measure => simp [intOf]; omega
            · have hpa : pnA s cc = 0 := by unfold pnA; rw [if_neg (fun h => hin (by have h2 := h.2; rw [HNl.out] at h2; exact ⟨h.1, h2⟩))]
              have hpb : pnB s cc = false := by unfold pnB; rw [if_neg (fun h => hin (by have h2 := h.2; rw [HNl.out] at h2; exact ⟨h.1, h2⟩))]
              rw [hpa, hpb]
              clear hpa hpb
              have H6 := H5
              obtain ⟨H6W, hH6⟩ : ∃ W, W = w5 := ⟨_, rfl⟩
              rw [← hH6] at H5 H6 b1
              rw [← hH6]
              clear hH6
              by_cases hc0 : cc < 0
              · have hc0' : ¬ (0 : Int) ≤ cc := by omega
                obtain ⟨t1, t2, t3, t4, t5, t6⟩ := H6.out.tests HOk.out (by omega)
                have T1 := hid t1
                have T2 := hid t2
                have T3 := hid t3
                have T4 := hid t4
                have T5 := hid t5
                have T6 := hid t6
                clear t1 t2 t3 t4 t5 t6
                go_wp2_with fail
                refine reg37_out (T := fun W => Below H6W.heap.size H6W W) (L1 := fun u W => Lies W u (waL s)) (fun _ _ _ _ _ h => h) T1.out T2.out T3.out T4.out T5.out T6.out ?_
                intro u144 u145 u146 u147 u148 u149 u150 u151 u152 u153 u154 u155 u156 u157 u158 u159 u160 u161 u162 u163 u164 u165 u166 u167 u168 u169 u170 u171 u172 u173 u174 u175 u176 u177 u178 u179 w8 hB8
                have HB8 := hid hB8
                clear hB8
                go_wp2
                go_roundw
                case rel => exact ⟨k + 1, _, _, _, s, by omega, by omega, rfl, by go_num, (H6.out.below HB8.out).tw, HOk.out, HNl.out⟩
                case measure => simp [intOf]; omega
              · have hc0' : (0 : Int) ≤ cc := by omega
                have hc1 : (N : Int) ≤ cc := by omega
                clear hin
                obtain ⟨t1, t2, t3, t4, t5, t6⟩ := H6.out.tests HOk.out (by omega)
                have T1 := hid t1
                have T2 := hid t2
                have T3 := hid t3
                have T4 := hid t4
                have T5 := hid t5
                have T6 := hid t6
                clear t1 t2 t3 t4 t5 t6
                go_wp2_with fail
                refine reg37_out (T := fun W => Below H6W.heap.size H6W W) (L1 := fun u W => Lies W u (waL s)) (fun _ _ _ _ _ h => h) T1.out T2.out T3.out T4.out T5.out T6.out ?_
                intro u144 u145 u146 u147 u148 u149 u150 u151 u152 u153 u154 u155 u156 u157 u158 u159 u160 u161 u162 u163 u164 u165 u166 u167 u168 u169 u170 u171 u172 u173 u174 u175 u176 u177 u178 u179 w8 hB8
                have HB8 := hid hB8
                clear hB8
                go_wp2
                go_roundw
                case rel => exact ⟨k + 1, _, _, _, s, by omega, by omega, rfl, by go_num, (H6.out.below HB8.out).tw, HOk.out, HNl.out⟩
                case measure => simp [intOf]; omega
        · have h80' : ¬ ((k : Int) < 80) := by omega
          go_wp2_with fail
          refine (known_yes _).mono ?_
          rintro v w9 ⟨rfl, hB9⟩
          have O9 := hid hB9
          clear hB9
          go_wp2
          go_ret
          exact ⟨rfl, (HTw.out.bel.trans (O9.out.mono HTw.out.bel.size))⟩
      · have hlt' : ¬ ((k : Int) < n) := by omega
        go_wp2_with fail
        refine (known_yes _).mono ?_
        rintro v w9 ⟨rfl, hB9⟩
        have O9 := hid hB9
        clear hB9
        go_wp2
        go_ret
        exact ⟨rfl, (HTw.out.bel.trans (O9.out.mono HTw.out.bel.size))⟩
  · have HIn := hid hin
    have hcase : 8 < y ∨ y < 1 := by omega
    clear hin
    rcases hcase with h2 | h2
    all_goals
      go_enter Try.func3, Try.ntmps3
      go_wp2_with fail
      refine (new_no y w HIn.out).mono ?_
      rintro v w1 ⟨rfl, rfl⟩
      go_wp2_with fail
      refine (rnew_no y w1 HIn.out).mono ?_
      rintro v w2 ⟨rfl, hB2⟩
      have HB2 := hid hB2
      clear hB2
      go_wp2
      refine wp_loop_rounds 1 ?_
      rw [rounds_succ]
      by_cases hn0 : 0 < n
      · go_wp2_with fail
        refine (known_yes _).mono ?_
        rintro v w9 ⟨rfl, hB9⟩
        have O9 := hid (bgo HB2.out hB9)
        clear hB9
        go_wp2
        go_ret
        exact ⟨rfl, O9.out⟩
      · obtain rfl : n = 0 := by omega
        go_wp2_with fail
        refine (known_yes _).mono ?_
        rintro v w9 ⟨rfl, hB9⟩
        have O9 := hid (bgo HB2.out hB9)
        clear hB9
        go_wp2
        go_ret
        exact ⟨rfl, O9.out⟩
end Go.Proofs.Ythiicngnhnglfaa
