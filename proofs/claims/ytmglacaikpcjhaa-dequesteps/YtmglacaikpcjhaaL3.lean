/- The walk of DequeSteps: for every case the call returns true; nothing that lay before is changed. Condition: the case's lists read as such. -/
import Derived.Test.YtmglacaikpcjhaaV3
import Derived.Deep.CutRange
namespace Go.Proofs.Ytmglacaikpcjhaa
open Go.RowKit

theorem us_new (w : World) (u : Us) : IsUs (((w.alloc (.cells (usC u) 44)).alloc (.cells #[.pointer (some ⟨w.heap.size, 0, none⟩)] 42))) w.heap.size u ∧ Below w.heap.size w (((w.alloc (.cells (usC u) 44)).alloc (.cells #[.pointer (some ⟨w.heap.size, 0, none⟩)] 42))) := by
  have h : IsUs (w.alloc (.cells (usC u) 44)) w.heap.size u := heap_alloc_new _ _
  exact ⟨h.below (below_alloc _ _), bel_trans (below_alloc _ _) (below_alloc _ _)⟩
theorem Nx.mono {w0 w : World} {p b r : Nat} {ad n : Int} {p' b' k : Nat} {GT : Nat → Nat} {vT : Value} {GU : Nat → Nat} {vU : Value} {L j j' : Nat} {o : Option (Nat × Nat)} (H : Nx w0 p b r ad n p' b' k GT vT GU vU L o j w) (h : j ≤ j') : Nx w0 p b r ad n p' b' k GT vT GU vU L o j' w := by
  obtain ⟨cl, s, fT, fU, xo, uo, h1, P, c⟩ := H
  exact ⟨cl, s, fT, fU, xo, uo, h1, P, c.mono h⟩
/-- Whether the owner's next task is due. -/
theorem Nx.new {w0 w : World} {p b r : Nat} {ad n : Int} {p' b' k : Nat} {GT : Nat → Nat} {vT : Value} {GU : Nat → Nat} {vU : Value} {L j : Nat} {o : Option (Nat × Nat)} (H : Nx w0 p b r ad n p' b' k GT vT GU vU L o j w) (i ng : Nat) :
    ∃ bn : Bool, (bn = true → i = ng) ∧ (bn = false → i = ng → ∃ g g', o = some (g, g')) ∧ (i ≠ ng → bn = false) ∧ (i = ng → o = none → bn = true) ∧ (∀ g g', i = ng → o = some (g, g') → w.cell? ⟨g', 8, none⟩ = some (.bool bn)) := by
  by_cases hi : i = ng
  · cases o with
    | none => exact ⟨true, fun _ => hi, fun c => (by cases c), fun c => absurd hi c, fun _ _ => rfl, fun _ _ _ c => (by cases c)⟩
    | some a =>
      obtain ⟨g, g'⟩ := a
      obtain ⟨dn, hd⟩ := H.dn rfl
      exact ⟨dn, fun _ => hi, fun _ _ => ⟨g, g', rfl⟩, fun c => absurd hi c, fun _ c => (by cases c), fun a a' _ e => by
        obtain ⟨rfl, rfl⟩ := Prod.mk.inj (Option.some.inj e)
        exact hd⟩
  · exact ⟨false, fun c => (by cases c), fun _ c => absurd c hi, fun _ => rfl, fun c => absurd c hi, fun _ _ c => absurd c hi⟩

set_option maxRecDepth 100000 in
set_option maxHeartbeats 4000000 in
theorem steps_walk (c : Cs) (f z : Nat → Nat) (w : World) (hC : CsOk w c f z) :
    Calls Try.prog 3 #[.agg (csC c)] w fun e w' => e = .returned (.bool true) ∧ Below w.heap.size w w' := by
  have HB0 := hid (Bx.new w c)
  have HC := hid (hC.below (below_alloc w (.cells (csC c) 24)))
  have hvm := hC.nl.1
  have hpm := hC.pl.1
  unfold maxLen at hvm hpm
  have hba := hC.ba
  have hbs := hC.bs
  have hbp := hC.bp
  have hbw := hC.bw
  clear hC
  obtain ⟨za, zs, vq, vn, vc, zp, pq, pn, pc, zw⟩ := c
  simp only [] at hvm hpm hba hbs hbp hbw
  obtain ⟨ng, hng⟩ : ∃ c : Nat, zp % 4 = c := ⟨_, rfl⟩
  have hngb : ng < 4 := by omega
  have ha0 : (0 : Int) ≤ (za : Int) := by omega
  have ha1 : (za : Int) < 256 := by omega
  have hs0 : (0 : Int) ≤ (zs : Int) := by omega
  have hs1 : (zs : Int) < 256 := by omega
  have hp0 : (0 : Int) ≤ (zp : Int) := by omega
  have hp1 : (zp : Int) < 256 := by omega
  have hw0 : (0 : Int) ≤ (zw : Int) := by omega
  have hw1 : (zw : Int) < 256 := by omega
  have HM : Hid ((zp : Int).tmod 4 = (ng : Int)) := hid (by rw [Int.tmod_eq_emod_of_nonneg (by omega)]; omega)
  clear hng
  by_cases hbig : 20 < vn ∨ 300 < pn
  · by_cases hl1 : 20 < vn
    · have hd : decide ((20 : Int) < (vn : Int)) = true := by simp; omega
      clear hbig
      go_enter Try.func3, Try.ntmps3
      go_wp2_with fail
      refine (known_yes _).mono ?_
      rintro e w9 ⟨rfl, K⟩
      have HF := hid (bel_trans (below_alloc _ _) K)
      clear K
      go_wp2
      go_ret
      exact ⟨rfl, HF.out⟩
    · have hd : decide ((20 : Int) < (vn : Int)) = false := by simp; omega
      have hd2 : decide ((300 : Int) < (pn : Int)) = true := by simp; omega
      clear hbig
      go_enter Try.func3, Try.ntmps3
      go_wp2_with fail
      refine (known_yes _).mono ?_
      rintro e w9 ⟨rfl, K⟩
      have HF := hid (bel_trans (below_alloc _ _) K)
      clear K
      go_wp2
      go_ret
      exact ⟨rfl, HF.out⟩
  · have hd : decide ((20 : Int) < (vn : Int)) = false := by simp; omega
    have hd2 : decide ((300 : Int) < (pn : Int)) = false := by simp; omega
    have hvn : vn ≤ 20 := by omega
    have hpn : pn ≤ 300 := by omega
    clear hbig
    go_enter Try.func3, Try.ntmps3
    go_wp2_with fail
    clear hd hd2
    have HW0 := hid (below_alloc w (.cells (csC ⟨za, zs, vq, vn, vc, zp, pq, pn, pc, zw⟩) 24))
    generalize w.alloc (.cells #[.int .u8 (za : Int), .int .u8 (zs : Int), .slice vq vn vc, .int .u8 (zp : Int), .slice pq pn pc, .int .u8 (zw : Int)] 24) = W0 at *
    generalize hq0 : w.heap.size = q0 at *
    have HQ0 := hid hq0
    clear hq0
    obtain ⟨L, hL⟩ : ∃ L : Nat, (L : Int) = 1 + (zw : Int) := ⟨1 + zw, by simp⟩
    have hL0 : 1 ≤ L := by omega
    have hL1 : L ≤ 65536 := by omega
    rw [← hL]
    clear hL
    refine (new_yes L _ hL0 hL1).mono ?_
    rintro e w1 ⟨rfl, hM1, hB1⟩
    have HM1 := hid hM1
    have HB1 := hid hB1
    clear hM1 hB1
    go_wp2_with fail
    refine (rnew_yes L _ hL0 hL1).mono ?_
    rintro e w2 ⟨rfl, hM2, hB2⟩
    obtain ⟨cl0, hT0⟩ := Tw.begin (w0 := W0) (ad := (za : Int)) (n := (zs : Int)) (G1 := fun _ => 0) (G2 := fun _ => 0) (f1 := fun _ => (newG (za : Int) (zs : Int))) (f2 := fun _ => ⟨(za : Int), (zs : Int), 1, 0, 0, 0, 0, false, false, false⟩) (x := (newG (za : Int) (zs : Int))) (u := ⟨(za : Int), (zs : Int), 1, 0, 0, 0, 0, false, false, false⟩) HM1.out HB1.out hM2 hB2
    have HT := hid hT0
    have hbq := HB0.out.below (bel_trans HB1.out hB2)
    have b0 := hbq.c0
    have b1 := hbq.c1
    simp only [] at b0 b1
    clear hM2 hB2 HM1 HB1 hbq hT0
    generalize W0.heap.size + 1 = p at *
    obtain ⟨q, hq⟩ : ∃ q, W0.heap.size = q := ⟨_, rfl⟩
    rw [hq] at HT
    clear hq
    generalize w1.heap.size + 1 = p' at *
    obtain ⟨b', hb'⟩ : ∃ q, w1.heap.size = q := ⟨_, rfl⟩
    rw [hb'] at HT
    clear hb'
    go_wp2_with fail
    clear b0 b1
    generalize w2.alloc (.cells #[.int .i64 (za : Int), .int .i64 (zs : Int)] 34) = W3 at *
    generalize w2.heap.size = r at *
    refine (right_any _ (za : Int) (zs : Int)).mono ?_
    rintro e w6 ⟨rfl, hw6⟩
    rw [hw6]
    clear hw6 w6
    by_cases hcan : canB (za : Int) (zs : Int) = true
    · have hq : QOk (za : Int) (zs : Int) := can_ok hcan
      rw [hcan]
      have HQ := hid hq
      have HP0 : Hid (Pu L 0 ⟨List.replicate L 0, 0, 0⟩ (fun _ => (newG (za : Int) (zs : Int))) (fun _ => ⟨(za : Int), (zs : Int), 1, 0, 0, 0, 0, false, false, false⟩) (newG (za : Int) (zs : Int)) ⟨(za : Int), (zs : Int), 1, 0, 0, 0, 0, false, false, false⟩) := hid ⟨by simp, sok_zero L, fun i hi => absurd hi (by omega), Lk.newG _ _, newG_ok hq⟩
      have HCN : Hid (Cnt ⟨List.replicate L 0, 0, 0⟩ 0) := hid ⟨by simp, by simp, by simp, by simp⟩
      clear hq hcan
      go_wp2
      go_loopw [9, 10, 11] (fun v u i wr => ∃ (k : Nat) (cl : Nat → Nat) (GT GU : Nat → Nat) (fT : Nat → Tk) (fU : Nat → Us), k ≤ ng ∧ i = .int .i64 k ∧ Tw W0 p q r (za : Int) (zs : Int) p' b' k GT v k GU u none cl ⟨List.replicate L 0, 0, 0⟩ ⟨List.replicate L 0, 0, 0⟩ fT fU (newG (za : Int) (zs : Int)) ⟨(za : Int), (zs : Int), 1, 0, 0, 0, 0, false, false, false⟩ wr ∧ Pu L k ⟨List.replicate L 0, 0, 0⟩ fT fU (newG (za : Int) (zs : Int)) ⟨(za : Int), (zs : Int), 1, 0, 0, 0, 0, false, false, false⟩) (fun _ _ i _ => ng - (intOf i).toNat)
      case atStart => exact ⟨0, _, _, _, _, _, by omega, rfl, HT.out, HP0.out⟩
      case round =>
        obtain ⟨k, cl, GT, GU, fT, fU, hk2, rfl, hD, hPu⟩ := hrel
        have HD := hid hD
        have HPu := hid hPu
        have b3 := (HB0.out.below hD.kn.bel).c3
        have c0 := hD.kn.c0
        have c1 := hD.kn.c1
        simp only [] at b3
        clear hD hPu HT HP0
        have htm := HM.out
        by_cases hlt : k < ng
        · skip
          have hkl2 : (k : Int) < (ng : Int) := by omega
          obtain ⟨sq, sc, rfl⟩ := HD.out.ft.len
          obtain ⟨uq, uc, rfl⟩ := HD.out.fu.len
          go_wp2_with fail
          clear htm
          refine (steal_at _ HQ.out).mono ?_
          rintro e w4 ⟨g, rfl, hW4, hg4, hB4⟩
          have HB4 := hid hB4
          have HW4 := hid hW4
          have HG4 := hid hg4
          obtain ⟨i36, hi, hz0, hz1, hz2⟩ := info36
          have hzz : (Value.pointer none).cells.size = 1 := rfl
          clear hW4 hB4 hg4 b3 c0 c1
          go_wp2_with (at_builtin; (refine wpList_append_own_at _ rfl _ _ 40 rfl W0.heap.size 36 i36 (.pointer none) 1 8 Try.underlying40 hi hz0 hz1 hz2 hzz (by decide) _ k (ptrs k GT) rfl ?q0 ⟨w4.heap.size, 0, none⟩ 1 _ [ptr g] rfl ?m0 ?m1 ?m2 ?m3 ?m4 ?m5 ?_))
          case q0 => exact (HD.out.ft.below (zkeep HB4.out _)).own
          case m0 => rfl
          case m1 => exact one_cell w4 g 36
          case m2 => exact one_plain g
          case m3 => unfold maxLen; omega
          case m4 => omega
          case m5 => exact Nat.le_trans HD.out.kn.bel.size (zkeep HB4.out _).size
          intro v' w6 hown hgrow hnil hat
          have H6 := hid (HD.out.pushT (zkeep HB4.out (.cells #[ptr g] 36)) HG4.out (HW4.out.below (below_alloc _ _)) hown hgrow (hat.imp id (fun h => h.trans (by simp))))
          have c0 := H6.out.kn.c0
          have c1 := H6.out.kn.c1
          have HN := hid (us_new w6 ⟨(za : Int), (zs : Int), 2, 0, 0, 0, 0, false, false, false⟩)
          clear hown hgrow hnil hat hi hz0 hz1 hz2 HB4 HW4 HG4 HD
          obtain ⟨i42, hi, hz0, hz1, hz2⟩ := info42
          go_wp2_with (at_builtin; (refine wpList_append_own_at _ rfl _ _ 41 rfl W0.heap.size 42 i42 (.pointer none) 1 8 Try.underlying41 hi hz0 hz1 hz2 hzz (by decide) _ k (ptrs k GU) rfl ?r0 ⟨w6.heap.size + 1, 0, none⟩ 1 _ [ptr w6.heap.size] rfl ?s0 ?s1 ?s2 ?s3 ?s4 ?s5 ?_))
          case r0 => exact (H6.out.fu.below HN.out.2).own
          (try case s0 => rfl)
          case s1 => exact one_cell2 w6 w6.heap.size 42 44 _
          case s2 => exact one_plain _
          case s3 => unfold maxLen; omega
          case s4 => omega
          case s5 => exact Nat.le_trans H6.out.kn.bel.size HN.out.2.size
          intro v8 w8 hown hgrow hnil hat
          have H8 := hid (H6.out.pushU HN.out.2 (Nat.le_refl _) HN.out.1 hown hgrow (hat.imp id (fun h => h.trans (by simp))))
          have HPu8 := hid (HPu.out.push (Lk.newS (za : Int) (zs : Int)) (newS_ok HQ.out))
          clear hown hgrow hnil hat hi hz0 hz1 hz2 hzz H6 HN HPu c0 c1
          go_wp2
          go_roundw
          case rel => exact ⟨k + 1, _, _, _, _, _, by omega, by go_num, H8.out, HPu8.out⟩
          case measure => simp [intOf]; omega
        · skip
          have hkl2 : (ng : Int) ≤ (k : Int) := by omega
          obtain rfl : ng = k := by omega
          obtain ⟨vTq, vTc, rfl⟩ := HD.out.ft.len
          obtain ⟨vUq, vUc, rfl⟩ := HD.out.fu.len
          have HN0 : Hid (Nx W0 p q r (za : Int) (zs : Int) p' b' ng GT (.slice vTq ng vTc) GU (.slice vUq ng vUc) L none 0 wr) := hid ⟨_, _, _, _, _, _, HD.out, HPu.out, HCN.out⟩
          clear c0 c1
          go_wp2
          clear htm b3 HD HPu
          go_loopw [12, 13, 14, 15] (fun ow ot ox i wr => ∃ (j m : Nat) (o : Option (Nat × Nat)), j ≤ pn ∧ m ≤ vn ∧ i = .int .i64 j ∧ ow = .int .i64 m ∧ ot = .pointer (o.map fun a => ⟨a.1, 0, none⟩) ∧ ox = .pointer (o.map fun a => ⟨a.2, 0, none⟩) ∧ Nx W0 p q r (za : Int) (zs : Int) p' b' ng GT (.slice vTq ng vTc) GU (.slice vUq ng vUc) L o j wr) (fun _ _ _ i _ => pn - (intOf i).toNat)
          case atStart => exact ⟨0, 0, none, by omega, by omega, rfl, rfl, rfl, rfl, HN0.out⟩
          case round =>
            rename World => wi
            clear HN0
            obtain ⟨j, m, o, hj, hm, rfl, rfl, rfl, rfl, hN⟩ := hrel
            have HN := hid hN
            have b4 := (HB0.out.below hN.bel).c4
            simp only [] at b4
            clear hN
            by_cases hgo : j < pn
            · have hjl : (j : Int) < (pn : Int) := by omega
              have hj0 : (0 : Int) ≤ (j : Int) := by omega
              obtain ⟨pb, po, hpq, hpb, hpc⟩ := HC.out.pl.2.2 (by simp only []; omega)
              simp only [] at hpq hpc
              subst hpq
              have pc1 : wi.cell? ⟨pb, po + j, none⟩ = some (.int .u8 (z j : Int)) := (HN.out.bel.cell (p := ⟨pb, po + j, none⟩) hpb).trans (hpc j hgo)
              have hz256 := HC.out.pl.2.1 j
              clear hpc
              generalize z j = zj at pc1 hz256
              obtain ⟨i, hi⟩ : ∃ i, zj % (ng + 1) = i := ⟨_, rfl⟩
              have hik : i < ng + 1 := by rw [← hi]; exact Nat.mod_lt _ (by omega)
              have hi0 : (0 : Int) ≤ (i : Int) := Int.natCast_nonneg i
              have hik2 : (i : Int) < (ng : Int) + 1 := by omega
              have hz0 : (0 : Int) ≤ (zj : Int) := Int.natCast_nonneg zj
              have hz1 : (zj : Int) < 256 := by omega
              have hkz : (((ng : Int) + 1) == 0) = false := beq_eq_false_iff_ne.2 (by omega)
              have htm : (zj : Int).tmod ((ng : Int) + 1) = (i : Int) := by rw [Int.tmod_eq_emod_of_nonneg hz0, ← hi]; simp
              clear hi
              obtain ⟨bn, hbn⟩ := HN.out.new i ng
              have HBn := hid hbn
              clear hbn
              go_upto_region 25 with fail
              clear htm pc1 b4 hkz
              go_cut [13, 14, 136] from 106 to 238 (fun ot ox t wx => ot = .pointer (o.map fun a => ⟨a.1, 0, none⟩) ∧ ox = .pointer (o.map fun a => ⟨a.2, 0, none⟩) ∧ t = .bool bn ∧ wx = wi)
              case first =>
                by_cases hin : i = ng
                · have heq : ((i : Int) == (ng : Int)) = true := by simp [hin]
                  have HIN := hid hin
                  clear hin
                  cases o with
                  | none =>
                    obtain rfl : bn = true := HBn.out.2.2.2.1 HIN.out rfl
                    go_wp2
                    go_meet
                    case rel => exact ⟨rfl, rfl, rfl, rfl⟩
                  | some a =>
                    obtain ⟨g, g'⟩ := a
                    have d8 := HBn.out.2.2.2.2 g g' HIN.out rfl
                    go_wp2
                    go_meet
                    case rel => exact ⟨rfl, rfl, rfl, rfl⟩
                · have hne : ((i : Int) == (ng : Int)) = false := beq_eq_false_iff_ne.2 (by omega)
                  obtain rfl : bn = false := HBn.out.2.2.1 hin
                  clear hin
                  go_wp2
                  go_meet
                  case rel => exact ⟨rfl, rfl, rfl, rfl⟩
              case rest =>
                obtain ⟨rfl, rfl, rfl, rfl⟩ := hcut
                go_upto_if 136 with fail
                go_cut [12, 13, 14] from 106 to 238 (fun ow ot ox wx => ∃ (m : Nat) (o : Option (Nat × Nat)), m ≤ vn ∧ ow = .int .i64 m ∧ ot = .pointer (o.map fun a => ⟨a.1, 0, none⟩) ∧ ox = .pointer (o.map fun a => ⟨a.2, 0, none⟩) ∧ Nx W0 p q r (za : Int) (zs : Int) p' b' ng GT (.slice vTq ng vTc) GU (.slice vUq ng vUc) L o j wx ∧ (i = ng → ∃ g g', o = some (g, g')))
                case first =>
                  cases bn with
                  | false =>
                    have HBo := hid (HBn.out.2.1 rfl)
                    go_wp2
                    go_meet
                    case rel => exact ⟨m, o, hm, rfl, rfl, rfl, HN.out, HBo.out⟩
                  | true =>
                    have b2 := (HB0.out.below HN.out.bel).c2
                    simp only [] at b2
                    by_cases hmv : m = vn
                    · have hmb : ((m : Int) == (vn : Int)) = true := by simp [hmv]
                      clear hmv
                      go_wp2
                      go_roundw
                      case rel => exact ⟨j + 1, m, o, by omega, hm, by go_num, rfl, rfl, rfl, HN.out.mono (Nat.le_succ j)⟩
                      case measure => simp [intOf]; omega
                    · have hmb : ((m : Int) == (vn : Int)) = false := beq_eq_false_iff_ne.2 (by omega)
                      have hml : (m : Int) < (vn : Int) := by omega
                      have hm0 : (0 : Int) ≤ (m : Int) := by omega
                      obtain ⟨vb, vo, hvq, hvb, hvc⟩ := HC.out.nl.2.2 (by simp only []; omega)
                      simp only [] at hvq hvc
                      subst hvq
                      have HV := hid (hvc m (by omega))
                      have HVb := hid hvb
                      have hf256 := HC.out.nl.2.1 m
                      clear hvc hvb
                      generalize f m = fm at *
                      have hS0 := (HN.out.below (Below.refl _ _).drew).ct HB0.out rfl HVb.out HV.out
                      have hNd := HN.out.below (Below.refl _ _).drew
                      have HNd := hid hNd
                      clear hNd
                      have hrl : r < wc.heap.size := HN.out.deq.2
                      have hql : q0 < wc.heap.size := (HB0.out.below HN.out.bel).lt
                      have hvl : vb < wc.heap.size := Nat.lt_of_lt_of_le HVb.out HN.out.bel.size
                      simp only [] at hS0
                      go_wp2_with fail
                      go_region_held3 (fun w' => (w'.cell? ⟨r, 0, none⟩ = some (.int .i64 (za : Int)) ∧ w'.cell? ⟨r, 1, none⟩ = some (.int .i64 (zs : Int))) ∧ (w'.cell? ⟨q0, 2, none⟩ = some (.slice (some ⟨vb, vo, none⟩) vn vc) ∧ w'.cell? ⟨vb, vo + m, none⟩ = some (.int .u8 (fm : Int)))) (first | with_reducible exact hS0 | with_reducible assumption)
                        (first
                          | (go_at_call 15; refine (nx_task HQ.out fm hf256 m (by omega) HNd.out).mono ?_; rintro e4 w4 ⟨g, g', rfl, hN4⟩; have HN4 := hid hN4; have hS4 := hN4.ct HB0.out rfl HVb.out HV.out; clear hN4))
                      clear hS0 hS4 hrl hql hvl b2 HNd HN
                      (try clear hHeld)
                      go_wp2
                      go_meet
                      case rel => exact ⟨m + 1, some (g, g'), by omega, by go_num, rfl, rfl, HN4.out, fun _ => ⟨g, g', rfl⟩⟩
                case rest =>
                  clear HN HBn
                  obtain ⟨m2, o2, hm2, rfl, rfl, rfl, hN2, hO2⟩ := hcut
                  have HN2 := hid hN2
                  have HO2 := hid hO2
                  clear hN2 hO2
                  go_upto_if 162 with fail
                  go_cut [13, 14, 19, 20] from 106 to 238 (fun ot ox t x wx => ot = .pointer (o2.map fun a => ⟨a.1, 0, none⟩) ∧ ox = .pointer (o2.map fun a => ⟨a.2, 0, none⟩) ∧ ∃ g g', t = .pointer (some ⟨g, 0, none⟩) ∧ x = .pointer (some ⟨g', 0, none⟩) ∧ Rd (Nx W0 p q r (za : Int) (zs : Int) p' b' ng GT (.slice vTq ng vTc) GU (.slice vUq ng vUc) L o2 (j + 1)) p p' b' L g g' wx)
                  case first =>
                    by_cases hin : i < ng
                    · have hin2 : (i : Int) < (ng : Int) := by omega
                      obtain ⟨⟨tq, htq, htc, htc2, htl⟩, ⟨uq, huq, huc, huc2, hul⟩⟩ := HN2.out.atT (by omega)
                      subst htq huq
                      have ti := htl i hin
                      have ui := hul i hin
                      clear htl hul
                      unfold maxLen at htc huc
                      have HR := hid (rd_T HN2.out (by unfold bnd; omega) hL0 hL1 hin)
                      go_wp2
                      go_meet
                      case rel => exact ⟨rfl, rfl, _, _, rfl, rfl, HR.out⟩
                    · have hin2 : (ng : Int) ≤ (i : Int) := by omega
                      obtain ⟨g, g', rfl⟩ := HO2.out (by omega)
                      have HR := hid (rd_O HN2.out (by unfold bnd; omega) hL0 hL1 rfl)
                      go_wp2
                      go_meet
                      case rel => exact ⟨rfl, rfl, _, _, rfl, rfl, HR.out⟩
                  case rest =>
                    obtain ⟨rfl, rfl, g, g', rfl, rfl, T0, T1, T2, T3, ac, gv, uv, hs, dn, hT0, hL, hR, hA, he1, he0, hE⟩ := hcut
                    have HL := hid hL
                    have HR := hid hR
                    have HA := hid hA
                    have HE := hid hE
                    clear hL hR hA hE HN2 HO2
                    obtain ⟨ak, aad, aa, ab⟩ := ac
                    have q1 : (ak == ak) = true := by simp
                    have q2 : (aad == aad) = true := by simp
                    have q3 : (aa == aa) = true := by simp
                    have q4 : (ab == ab) = true := by simp
                    have q5 : (ak != ak) = false := by simp
                    have q6 : (aad != aad) = false := by simp
                    have q7 : (aa != aa) = false := by simp
                    have q8 : (ab != ab) = false := by simp
                    have q9 : (dn != dn) = false := by simp
                    go_wp2_with fail
                    refine (HL.out.n1 hT0).mono ?_
                    rintro e w3 ⟨rfl, hT3⟩
                    go_wp2_with fail
                    refine (HL.out.n2 hT3).mono ?_
                    rintro e w4 ⟨rfl, hT4⟩
                    go_wp2_with fail
                    refine (HL.out.s1 hT4).mono ?_
                    rintro e w5 ⟨rfl, hT5⟩
                    go_wp2_with fail
                    refine (HL.out.s2 hT5).mono ?_
                    rintro e w6 ⟨rfl, hT6⟩
                    go_wp2_with fail
                    refine (HR.out.re hT6).mono ?_
                    rintro e w7 ⟨rfl, hT7⟩
                    clear hT0 hT3 hT4 hT5 hT6 HL HR q1 q2 q3 q4 q5 q6 q7 q8
                    cases hs with
                    | true =>
                      obtain rfl := he1 rfl
                      clear he1 he0
                      go_wp2_with fail
                      refine reg39_true (fun _ _ _ _ _ h => h) HA.out hT7 ?_
                      intro u195 u196 u197 u198 u199 u200 u201 u202 u203 u204 u205 u206 u207 u208 u209 u210 u211 u212 u213 u214 u215 u216 u217 u218 u219 u220 u221 u222 u223 u224 u225 u226 u227 u228 u229 u230 u231 u232 u233 u234 u235 u236 u237 w9 hT9
                      have H10 := hid (HE.out w9 hT9)
                      clear hT7 hT9 HA HE
                      go_wp2
                      go_roundw
                      case rel => exact ⟨j + 1, m2, o2, by omega, hm2, by go_num, rfl, rfl, rfl, H10.out⟩
                      case measure => simp [intOf]; omega
                    | false =>
                      obtain rfl := he0 rfl
                      clear he1 he0
                      go_wp2_with fail
                      refine reg39_false (fun _ _ _ _ _ h => h) HA.out hT7 ?_
                      intro u195 u196 u197 u198 u199 u200 u201 u202 u203 u204 u205 u206 u207 u208 u209 u210 u211 u212 u213 u214 u215 u216 u217 u218 u219 u220 u221 u222 u223 u224 u225 u226 u227 u228 u229 u230 u231 u232 u233 u234 u235 u236 u237 w9 hT9
                      have H10 := hid (HE.out w9 hT9)
                      clear hT7 hT9 HA HE
                      go_wp2
                      go_roundw
                      case rel => exact ⟨j + 1, m2, o2, by omega, hm2, by go_num, rfl, rfl, rfl, H10.out⟩
                      case measure => simp [intOf]; omega
            · have hjl : (pn : Int) ≤ (j : Int) := by omega
              have HB := hid HN.out.bel
              go_wp2_with fail
              refine (known_yes _).mono ?_
              rintro e w9 ⟨rfl, K⟩
              have HF := hid (bel_q0 HW0.out HQ0.out (bel_trans HB.out K))
              clear K
              go_wp2
              go_ret
              exact ⟨rfl, HF.out⟩
    · skip
      have hf : canB (za : Int) (zs : Int) = false := by simpa using hcan
      rw [hf]
      have c0 := HT.out.kn.c0
      have c1 := HT.out.kn.c1
      clear hcan
      go_wp2_with fail
      refine (push_no _ 1 hf).mono ?_
      rintro e w7 ⟨rfl, K⟩
      have HT7 := hid (HT.out.below K)
      clear K c0 c1 HT
      have c0 := HT7.out.kn.c0
      have c1 := HT7.out.kn.c1
      go_wp2_with fail
      refine (pop_no _ hf).mono ?_
      rintro e w8 ⟨rfl, K⟩
      have HT8 := hid (HT7.out.below K)
      clear K c0 c1 HT7
      have c0 := HT8.out.kn.c0
      have c1 := HT8.out.kn.c1
      go_wp2_with fail
      refine (steal_no _ hf).mono ?_
      rintro e w10 ⟨rfl, K⟩
      have HT10 := hid (HT8.out.below K)
      clear K c0 c1 HT8
      go_wp2_with fail
      refine (known_yes _).mono ?_
      rintro e w9 ⟨rfl, K⟩
      have HF := hid (bel_q0 HW0.out HQ0.out (bel_trans HT10.out.kn.bel K))
      clear K HT10
      go_wp2
      go_ret
      exact ⟨rfl, HF.out⟩
end Go.Proofs.Ytmglacaikpcjhaa
