/- The walk of NptLarge: for every page below 65536 and every three numbers below 256 it returns true; nothing that lay before is changed. Condition: the rules lie in their variable. -/
import Derived.Test.YtpfmmlbakbhklaaGreatDoorBY
import Derived.Deep.CutRange
namespace Go.Proofs.YtpfmmlbakbhklaaGreatDoor
open Go.RowKit
theorem wrapS {a : Int} (h : -9223372036854775808 ≤ a) (h' : a ≤ 9223372036854775807) : wrap64 a = a := by unfold wrap64; omega
theorem large_nums (pg x0 x1 x2 : Nat) (hpg : pg < 65536) (h0 : x0 < 256) : ∃ M p f r' o' k : Nat,
    Hid (((pg : Nat) : Int).tmod 16 = (M : Int) ∧ wrap64 ((pg : Int) - (M : Int)) = (p : Int) ∧ wrap64 (16 * (x0 : Int)) = (f : Int) ∧ ((x1 : Nat) : Int).tmod 7 = (r' : Int) ∧ ((x2 : Nat) : Int).tmod 7 = (o' : Int) ∧ ((x2 : Nat) : Int).tmod 16 = (k : Int)) ∧
    r' < 7 ∧ o' < 7 ∧ k < 16 ∧ p % 16 = 0 ∧ f % 16 = 0 ∧ p ≤ 65520 ∧ f ≤ 4080 := by
  refine ⟨pg % 16, pg - pg % 16, 16 * x0, x1 % 7, x2 % 7, x2 % 16, ⟨rfl, ?_, ?_, rfl, rfl, rfl⟩, ?_, ?_, ?_, ?_, ?_, ?_, ?_⟩
  · rw [wrapS (by omega) (by omega)]; omega
  · rw [wrapS (by omega) (by omega)]; omega
  all_goals omega
structure Nums (p f r o k : Nat) : Prop where
  p16 : (p : Int) % 16 = 0
  f16 : (f : Int) % 16 = 0
  pb : P.btw (p : Int) 0 65535 = true
  fb : P.btw (f : Int) 0 4080 = true
  fb' : P.btw (f : Int) 0 4095 = true
  kb : P.btw ((p : Int) + k) 0 65535 = true
  rb : P.btw (r : Int) 1 7 = true
  ob : P.btw (o : Int) 1 7 = true
  r0 : (r : Int) ≠ 0
  o0 : (o : Int) ≠ 0
  a : blk16 p f r ((p : Int) + k) = ((f : Int) + k, (r : Int))
  wp : ∀ i : Nat, i ≤ 20 → wrap64 ((p : Int) + (i : Int)) = (p : Int) + (i : Int)
  wf : ∀ i : Nat, i ≤ 20 → wrap64 ((f : Int) + (i : Int)) = (f : Int) + (i : Int)
  wj : ∀ i : Nat, i ≤ 20 → wrap64 ((p : Int) + ((i : Int) - 1)) = (p : Int) + ((i : Int) - 1)
  k16 : k < 16
theorem nums_of {p f r o k : Nat} (a1 : r ≤ 7) (a2 : o ≤ 7) (a3 : k < 16) (a4 : p % 16 = 0) (a5 : f % 16 = 0) (a6 : p ≤ 65520) (a7 : f ≤ 4080) (a8 : 1 ≤ r) (a9 : 1 ≤ o) : Nums p f r o k := by
  refine ⟨by omega, by omega, P.btw_yes.2 ⟨by omega, by omega⟩, P.btw_yes.2 ⟨by omega, by omega⟩, P.btw_yes.2 ⟨by omega, by omega⟩, P.btw_yes.2 ⟨by omega, by omega⟩, P.btw_yes.2 ⟨by omega, by omega⟩, P.btw_yes.2 ⟨by omega, by omega⟩, by omega, by omega, ?_, fun i hi => wrapS (by omega) (by omega), fun i hi => wrapS (by omega) (by omega), fun i hi => wrapS (by omega) (by omega), a3⟩
  unfold blk16
  rw [if_pos (by omega), show ((p : Int) + k) % 16 = k by omega]
theorem large_all (pg x0 x1 x2 : Nat) (hpg : pg < 65536) (h0 : x0 < 256) : ∃ M p f r' o' r o k : Nat,
    Hid ((((pg : Nat) : Int).tmod 16 = (M : Int) ∧ wrap64 ((pg : Int) - (M : Int)) = (p : Int) ∧ wrap64 (16 * (x0 : Int)) = (f : Int) ∧ ((x1 : Nat) : Int).tmod 7 = (r' : Int) ∧ ((x2 : Nat) : Int).tmod 7 = (o' : Int) ∧ ((x2 : Nat) : Int).tmod 16 = (k : Int)) ∧ wrap64 (1 + (r' : Int)) = (r : Int) ∧ wrap64 (1 + (o' : Int)) = (o : Int)) ∧ Nums p f r o k := by
  obtain ⟨M, p, f, r', o', k, HE, n1, n2, n3, n4, n5, n6, n7⟩ := large_nums pg x0 x1 x2 hpg h0
  refine ⟨M, p, f, r', o', 1 + r', 1 + o', k, ⟨HE, ?_, ?_⟩, nums_of (by omega) (by omega) n3 n4 n5 n6 n7 (by omega) (by omega)⟩
  · rw [wrapS (by omega) (by omega)]; omega
  · rw [wrapS (by omega) (by omega)]; omega
theorem jj_of (j : Nat) : (j : Int) = ((j + 1 : Nat) : Int) - 1 := by omega
theorem mjj_of {j : Nat} (h : j < 18) : 18 - (intOf (.int .i64 (j : Int)) + 1).toNat < 18 - (intOf (.int .i64 ((j : Int) - 1)) + 1).toNat := by
  simp [intOf]
  omega
theorem hil_of {k i : Nat} (h : k ≤ 132 + i * 100) : k + 100 ≤ 132 + (i + 1) * 100 := by omega
theorem kb3_of {k : Nat} (h : k ≤ 132 + 16 * 100) : k + 100 + 200 ≤ bnd := by unfold bnd; omega
theorem ms_of {N i : Nat} (h : i < N) : N - (intOf (.int .i64 ((i : Int) + 1))).toNat < N - (intOf (.int .i64 (i : Int))).toNat := by
  simp [intOf]
  omega
theorem mj_of {j : Nat} (h : j < 18) : 18 - (intOf (.int .i64 (((j + 1 : Nat) : Int) - 1)) + 1).toNat < 18 - (intOf (.int .i64 ((j : Int) - 1)) + 1).toNat := by
  simp [intOf]
  omega
theorem wr_of {i : Nat} (h : i < 100) : wrap64 ((i : Int) + 1) = ((i + 1 : Nat) : Int) := by rw [wrapS (by omega) (by omega)]; omega
theorem wj_of {j : Nat} (h : j < 100) : wrap64 ((j : Int) - 1 + 1) = ((j + 1 : Nat) : Int) - 1 := by rw [wrapS (by omega) (by omega)]; omega
theorem kb_of {k i : Nat} (h : k ≤ 132 + i * 100) (hi : i ≤ 16) : k + 200 ≤ bnd := by unfold bnd; omega
theorem kb2_of {k : Nat} (h : k ≤ 3000 + 0 * 300) : k + 200 ≤ bnd ∧ k + 100 + 200 ≤ bnd := by unfold bnd; exact ⟨by omega, by omega⟩
set_option maxRecDepth 100000 in
set_option maxHeartbeats 16000000 in
theorem large_walk (w : World) (hT : O.Tab w) (pg x0 x1 x2 : Nat) (hpg : pg < 65536) (h0 : x0 < 256) (h1 : x1 < 256) (h2 : x2 < 256) :
    Calls Tryz.prog 8 #[.int .u16 pg, .agg #[.int .u8 x0, .int .u8 x1, .int .u8 x2]] w fun e w' => e = .returned (.bool true) ∧ Below w.heap.size w w' := by
  obtain ⟨wb, hwb⟩ : ∃ wb, w.alloc (.cells #[.int .u8 x0, .int .u8 x1, .int .u8 x2] 78) = wb := ⟨_, rfl⟩
  have hbb : Below w.heap.size w wb := by rw [← hwb]; exact below_alloc w _
  have hbn : wb.heap[w.heap.size]? = some (.cells #[.int .u8 x0, .int .u8 x1, .int .u8 x2] 78 (0, 0)) := by rw [← hwb]; exact heap_alloc_new w _
  have HBB := hid hbb
  have HBN := hid hbn
  have HBG := hid (begin_at wb (hT.go hbb) 39 (by omega))
  rw [show (((39 + 1 : Nat)) : Int) = 40 from rfl] at HBG
  obtain ⟨ty, hBare⟩ := bare_at (m := 39) (by omega) (by omega)
  have HBA := hid hBare
  obtain ⟨M, p, f, r', o', r, o, k, HE, hn⟩ := large_all pg x0 x1 x2 hpg h0
  have HN := hid hn
  have HV : Hid (wrap64 (pg : Int) = (pg : Int) ∧ wrap64 (x0 : Int) = (x0 : Int) ∧ wrap64 (x1 : Int) = (x1 : Int) ∧ wrap64 (x2 : Int) = (x2 : Int)) := ⟨wrapS (by omega) (by omega), wrapS (by omega) (by omega), wrapS (by omega) (by omega), wrapS (by omega) (by omega)⟩
  clear hn hpg h0 h1 h2
  obtain ⟨A, hA⟩ : ∃ A, blk16 p f r = A := ⟨_, rfl⟩
  have eA := HN.out.a
  rw [hA] at eA
  obtain ⟨A2, hA2⟩ : ∃ A2, put1 A ((p : Int) + k) ((A ((p : Int) + k)).1, (o : Int)) = A2 := ⟨_, rfl⟩
  have eA2 : A2 ((p : Int) + k) = ((f : Int) + k, (o : Int)) := by rw [← hA2]; unfold put1; rw [if_pos rfl, eA]
  have HAA := hid hA
  have HA2 := hid hA2
  have HEA := hid eA
  have HEA2 := hid eA2
  have epk := HN.out.wp k (Nat.le_of_lt (Nat.lt_of_lt_of_le HN.out.k16 (by decide)))
  have efk := HN.out.wf k (Nat.le_of_lt (Nat.lt_of_lt_of_le HN.out.k16 (by decide)))
  clear hT hbb hbn hBare eA eA2 hA hA2
  go_enter Tryz.func8, Tryz.ntmps8
  go_upto_region 1 with fail
  (try rw [hwb])
  clear hwb
  obtain ⟨z, hz⟩ : ∃ z, w.heap.size = z := ⟨_, rfl⟩
  rw [hz] at HBN
  (try rw [hz])
  go_wp2_with fail
  refine HBG.out.mono ?_
  rintro e w1 ⟨rfl, u, v, a0, b0, a1, b1, x1', hb⟩
  obtain ⟨d, hd⟩ : ∃ d, (⟨wb.heap.size, u, v, a0, b0, b1, x1', newF (z0 (39 + 1)) 1, newF (s1 39) 2⟩ : Sd) = d := ⟨_, rfl⟩
  have hdg : wb.heap.size = d.g := by rw [← hd]
  have hLQ := Lq.start hb HBA.out
  rw [hd] at hLQ
  have HZ0 : Hid (∀ i, 0 ≤ i → i < 16 → pl (s2 39).xs d.r0 i = P.zd) := by rw [← hd]; exact HBA.out.z0
  have hzb := P.stay hb.bel HBN.out
  rw [hdg]
  have HL22 := hid (Lq.large0 (N := 36) hLQ (by decide) HZ0.out HN.out.pb HN.out.fb' HN.out.rb HN.out.p16 HN.out.f16)
  rw [HAA.out] at HL22
  have c2 := P.cell_of (i := 2) hLQ.blk rfl
  have c3 := P.cell_of (i := 3) hLQ.blk rfl
  have y0 := P.cell_of (i := 0) hzb rfl
  have y1 := P.cell_of (i := 1) hzb rfl
  have y2 := P.cell_of (i := 2) hzb rfl
  clear hb hd hdg hLQ HZ0 hzb HBG HBA HBN
  go_upto_region 4 with fail
  have v0 := HV.out.1
  have v1 := HV.out.2.1
  have v2 := HV.out.2.2.1
  have v3 := HV.out.2.2.2
  have e1 := HE.out.1.1
  have e2 := HE.out.1.2.1
  go_upto_region 5 with fail
  clear e1 e2
  have e3 := HE.out.1.2.2.1
  go_upto_region 6 with fail
  clear e3
  have e4 := HE.out.1.2.2.2.1
  have e5 := HE.out.2.1
  go_upto_region 7 with fail
  clear e4 e5
  have e6 := HE.out.1.2.2.2.2.1
  have e7 := HE.out.2.2
  go_upto_region 8 with fail
  clear e6 e7
  have e8 := HE.out.1.2.2.2.2.2
  go_upto_region 9 with fail
  rw [HE.out.1.2.1, HE.out.1.2.2.1, HE.out.2.1, HE.out.2.2]
  clear e8 HE HV v0 v1 v2 v3
  go_wp2_with fail
  refine HL22.out.mono ?_
  rintro e w2 ⟨rfl, h2⟩
  have HX2 := hid h2
  clear h2 c2 c3 y0 y1 y2 HL22
  go_wp2
  go_loopw [13] (fun pv wr => ∃ (i k' : Nat), pv = .int .i64 i ∧ i ≤ 16 ∧ Lm wb d a1 k' A p f r i wr ∧ k' ≤ 132 + i * 100) (fun pv _ => 16 - (intOf pv).toNat)
  case atStart => exact ⟨0, _, rfl, by omega, Lm.first HX2.out p f r, by omega⟩
  case round =>
    obtain ⟨i, k', rfl, hi, hm, hkk⟩ := hrel
    have HM := hid hm
    have HKK := hid hkk
    clear hm HX2
    by_cases hlt : i < 16
    · have hlt1 : (i : Int) < 16 := by omega
      have epi := HN.out.wp i (by omega)
      have efi := HN.out.wf i (by omega)
      have hwr : wrap64 ((i : Int) + 1) = ((i + 1 : Nat) : Int) := wr_of (Nat.lt_trans hlt (by decide))
      have HMF : Hid (16 - (intOf (.int .i64 ((i : Int) + 1))).toNat < 16 - (intOf (.int .i64 (i : Int))).toNat) := ms_of hlt
      have HIL : Hid (i + 1 ≤ 16 ∧ k' + 100 ≤ 132 + (i + 1) * 100) := ⟨hlt, hil_of hkk⟩
      have HC := hid (Lm.map1 HM.out (kb_of hkk hi) hlt HN.out.pb HN.out.fb HN.out.rb HN.out.p16)
      obtain ⟨s0, ty0, h0, -⟩ := HM.out
      have c3 := P.cell_of (i := 3) h0.blk rfl
      clear h0 hi hkk hlt HM
      go_wp2_with fail
      refine HC.out.mono ?_
      rintro e w3 ⟨rfl, h3⟩
      have H3 := hid h3
      clear h3 HC c3
      go_wp2
      exact ⟨⟨i + 1, _, by first | rfl | rw [hwr], HIL.out.1, H3.out, HIL.out.2⟩, by first | exact HMF.out | (rw [hwr]; exact HMF.out)⟩
    · have hlt1 : ¬ (i : Int) < 16 := by omega
      obtain rfl : i = 16 := by omega
      have hx := Lm.last HM.out HN.out.p16
      rw [HAA.out] at hx
      have HX := hid hx
      have HC := hid (hx.protect0 (N := 32) (kb_of hkk (Nat.le_refl _)) HN.out.kb HN.out.ob (by rw [HEA.out]; exact HN.out.r0))
      rw [HA2.out] at HC
      have c2 := P.cell_of (i := 2) hx.choose_spec.choose_spec.blk rfl
      clear hx HM hi
      go_wp2_with fail
      refine HC.out.mono ?_
      rintro e w3 ⟨rfl, h3⟩
      have HC1 := hid (h3.protect1 (N := 31) (kb3_of hkk) HN.out.kb HN.out.ob (by rw [HEA.out]; exact HN.out.r0))
      rw [HA2.out] at HC1
      have c3 := P.cell_of (i := 3) h3.choose_spec.choose_spec.blk rfl
      clear h3 HC HX c2 hkk
      go_wp2_with fail
      refine HC1.out.mono ?_
      rintro e w4 ⟨rfl, h4⟩
      have H4 := hid h4
      clear h4 HC1 c3
      go_wp2
      go_loopw [16] (fun pv wr => ∃ (rd k2 N2 : Nat) (B : Int → Int × Int), pv = .int .i64 rd ∧ rd ≤ 2 ∧ Lx wb d a1 k2 N2 B B wr ∧ k2 ≤ 3000 + rd * 300 ∧ (rd = 0 → B = A2 ∧ N2 = 31)) (fun pv _ => 2 - (intOf pv).toNat)
      case atStart => exact ⟨0, _, _, _, rfl, by omega, H4.out, by have := HKK.out; omega, fun _ => ⟨rfl, rfl⟩⟩
      case round =>
        obtain ⟨rd, k2, N2, B, rfl, hrd, hB, hk2, h0⟩ := hrel
        have HB := hid hB
        have HK2 := hid hk2
        have H0 := hid h0
        clear hB h0 H4 HKK
        by_cases hlt2 : rd < 2
        · have hlt3 : (rd : Int) < 2 := by omega
          have hwrd : wrap64 ((rd : Int) + 1) = ((rd + 1 : Nat) : Int) := wr_of (Nat.lt_trans hlt2 (by decide))
          have HMF : Hid (2 - (intOf (.int .i64 ((rd : Int) + 1))).toNat < 2 - (intOf (.int .i64 (rd : Int))).toNat) := ms_of hlt2
          have HIL : Hid (rd + 1 ≤ 2) := hlt2
          go_wp2
          go_loopw [17] (fun pv wx => ∃ j : Nat, pv = .int .i64 ((j : Int) - 1) ∧ j ≤ 18 ∧ Lx wb d a1 k2 N2 B B wx) (fun pv _ => 18 - (intOf pv + 1).toNat)
          case atStart => exact ⟨0, by rfl, by omega, HB.out⟩
          case round =>
            obtain ⟨j, rfl, hj, hx⟩ := hrel
            have HX := hid hx
            clear HB
            by_cases hj1 : j < 18
            · have hj2 : (j : Int) - 1 < 17 := by omega
              have epj := HN.out.wj j (by omega)
              have hwj : wrap64 ((j : Int) - 1 + 1) = (j : Int) := (wj_of (Nat.lt_trans hj1 (by decide))).trans (jj_of j).symm
              have HMJ : Hid (18 - (intOf (.int .i64 (j : Int)) + 1).toNat < 18 - (intOf (.int .i64 ((j : Int) - 1)) + 1).toNat) := mjj_of hj1
              have HJL : Hid (j + 1 ≤ 18) := hj1
              have HQ0 := hid (hx.query0 ((p : Int) + ((j : Int) - 1)))
              have c2 := P.cell_of (i := 2) hx.choose_spec.choose_spec.blk rfl
              have HQ1 := hid (fun W (h : Lx wb d a1 k2 N2 B B W) => h.query1 ((p : Int) + ((j : Int) - 1)))
              generalize qa B ((p : Int) + ((j : Int) - 1)) = g1 at HQ0 HQ1
              generalize qb B ((p : Int) + ((j : Int) - 1)) = g2 at HQ0 HQ1
              generalize qc B ((p : Int) + ((j : Int) - 1)) = g3 at HQ0 HQ1
              have t1 : (g1 != g1) = false := by simp
              have t2 : (g2 != g2) = false := by simp
              have t3 : (g3 != g3) = false := by simp
              clear hx HX hj hj1
              go_wp2_with fail
              refine HQ0.out.mono ?_
              rintro e w5 ⟨rfl, h5⟩
              have HQ2 := hid (HQ1.out _ h5)
              have c3 := P.cell_of (i := 3) h5.choose_spec.choose_spec.blk rfl
              clear h5 HQ0 HQ1 c2
              go_wp2_with fail
              refine HQ2.out.mono ?_
              rintro e w6 ⟨rfl, h6⟩
              have H6 := hid h6
              clear h6 HQ2 c3
              go_wp2
              exact ⟨⟨j + 1, congrArg (Value.int .i64) (by first | exact jj_of j | (rw [hwj]; exact jj_of j)), HJL.out, H6.out⟩, by first | exact HMJ.out | (rw [hwj]; exact HMJ.out)⟩
            · have hj2 : ¬ (j : Int) - 1 < 17 := by omega
              clear hx hj
              by_cases hr0 : rd = 0
              · subst hr0
                obtain ⟨rfl, rfl⟩ := H0.out rfl
                have HC := hid (HX.out.unmap0 (N := 30) (by unfold bnd; omega) HN.out.kb (by rw [HEA2.out]; exact HN.out.o0))
                rw [HEA2.out] at HC
                have c2 := P.cell_of (i := 2) HX.out.choose_spec.choose_spec.blk rfl
                have t1 : ((f : Int) + (k : Int) != (f : Int) + (k : Int)) = false := by simp
                clear HX H0 hk2
                go_wp2_with fail
                refine HC.out.mono ?_
                rintro e w7 ⟨rfl, h7⟩
                have HC2 := hid (h7.unmap1 (N := 29) (by have := HK2.out; unfold bnd; omega) HN.out.kb (by rw [HEA2.out]; exact HN.out.o0))
                rw [HEA2.out] at HC2
                have c3 := P.cell_of (i := 3) h7.choose_spec.choose_spec.blk rfl
                clear h7 HC c2
                go_wp2_with fail
                refine HC2.out.mono ?_
                rintro e w8 ⟨rfl, h8⟩
                have H8 := hid h8
                clear h8 HC2 c3
                go_wp2
                exact ⟨⟨0 + 1, _, _, _, by rfl, HIL.out, H8.out, by have := HK2.out; omega, fun h => absurd h (by decide)⟩, HMF.out⟩
              · have hq0 : ((rd : Int) == 0) = false := by simp; omega
                go_wp2
                exact ⟨⟨rd + 1, _, _, _, by rfl, HIL.out, HX.out, by have := HK2.out; omega, fun h => absurd h (by omega)⟩, HMF.out⟩
        · have hlt3 : ¬ (rd : Int) < 2 := by omega
          obtain ⟨s0, ty0, h0⟩ := HB.out
          have H00 := hid h0
          clear h0
          go_wp2_with fail
          refine (known_yes _ H00.out.wo.tab).mono ?_
          rintro e w8 ⟨rfl, hBB⟩
          have HB8 := hid (HBB.out.trans ((H00.out.bel.trans (hBB.mono H00.out.bel.size)).mono HBB.out.size))
          clear hBB
          go_wp2
          go_ret
          exact ⟨rfl, HB8.out⟩
end Go.Proofs.YtpfmmlbakbhklaaGreatDoor
