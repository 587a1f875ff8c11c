/- The walk of NptModel: for every script and every page below 65536 it returns true; nothing that lay before is changed. Condition: the rules lie in their variable. -/
import Derived.Test.YtpfmmlbakbhklaaGreatDoorCB
import Derived.Test.YtpfmmlbakbhklaaGreatDoorBI
import Derived.Deep.CutRange
import Derived.Deep.CutBlock
import Derived.Deep.RegionLaw
namespace Go.Proofs.YtpfmmlbakbhklaaGreatDoor
open Go.RowKit
theorem page_nums (pg : Nat) (h : pg < 65536) : ∃ M : Nat, Hid (((pg : Nat) : Int).tmod 16 = (M : Int) ∧ wrap64 ((pg : Int) - (M : Int)) = (pg : Int) - (M : Int)) ∧ (pg : Int) % 16 = (M : Int) ∧ M < 16 := by
  refine ⟨pg % 16, ⟨rfl, ?_⟩, by omega, by omega⟩
  unfold wrap64
  omega
theorem wrap_in {a : Int} {M : Nat} (h : 0 ≤ a ∧ a ≤ 4095) (hM : M < 16) : wrap64 (a + (M : Int)) = a + (M : Int) := by unfold wrap64; omega
theorem kb0 {k : Nat} (h : k + 1000 + 1000 ≤ bnd) : k + 1000 ≤ bnd := by omega
theorem kb1 {k : Nat} (h : k + 1000 + 1000 ≤ bnd) : k + 100 + 1000 ≤ bnd := by omega
theorem kb2 {k : Nat} (h : k + 1000 + 1000 ≤ bnd) : k + 100 + 100 + 1000 ≤ bnd := by omega
theorem kb3 {k : Nat} (h : k + 1000 + 1000 ≤ bnd) : k + 100 + 100 + 100 + 1000 ≤ bnd := by omega
theorem kb4 {k : Nat} (h : k + 1000 + 1000 ≤ bnd) : k + 100 + 100 + 100 + 100 + 1000 ≤ bnd := by omega
theorem un_le {a b : Nat} (h : a + 3 ≤ b) : a + 2 + 1 ≤ b := h
theorem two_le {a : Nat} : a ≤ a + 2 := by omega
theorem end_n {a b i : Nat} (h : 198 ≤ a + (i + 1) * 3) (k : a ≤ b) : 198 ≤ b + (i + 1) * 3 := by omega
theorem not_pos {a : Int} (h : a = 0) : ¬ 0 < a := by omega
theorem is_pos {a : Int} (h : 0 ≤ a) (k : a ≠ 0) : 0 < a := by omega
theorem m30 {i : Nat} (h : i < 30) : 30 - (intOf (.int .i64 ((i : Int) + 1))).toNat < 30 - (intOf (.int .i64 (i : Int))).toNat := by
  simp [intOf]
  omega
theorem k500 {k i : Nat} (h : k ≤ 32 + i * 500) : k + 500 ≤ 32 + (i + 1) * 500 := by omega
theorem kbb {k i : Nat} (h : k ≤ 32 + i * 500) (hi : i < 30) : k + 1000 + 1000 ≤ bnd := by unfold bnd; omega
theorem n3 {N i : Nat} (h : 198 ≤ N + i * 3) (hi : i < 30) : ∃ N', N = N' + 3 ∧ 198 ≤ N' + (i + 1) * 3 := ⟨N - 3, by omega, by omega⟩
set_option maxRecDepth 100000 in
set_option maxHeartbeats 16000000 in
theorem model_walk (w : World) (hT : O.Tab w) (pg : Nat) (hpg : pg < 65536) {q : Option Addr} {n c : Nat} {l : List Cal} (hl : l.length = n) (hs : Script w q l) :
    Calls Tryz.prog 4 #[.slice q n c, .int .u16 pg] w fun e w' => e = .returned (.bool true) ∧ Below w.heap.size w w' := by
  have HS := hid hs
  have HL := hid hl
  have HBG := hid (begin_at w hT 199 (by omega))
  rw [show (((199 + 1 : Nat)) : Int) = 200 from rfl] at HBG
  obtain ⟨ty, hBare⟩ := bare_at (m := 199) (by omega) (by omega)
  have HBA := hid hBare
  have HPB : Hid (P.btw (pg : Int) 0 65535 = true) := P.btw_yes.2 ⟨by omega, by omega⟩
  obtain ⟨M, HE, hM, hM16⟩ := page_nums pg hpg
  have HMM := hid hM
  have HM16 := hid hM16
  have epg : wrap64 (pg : Int) = (pg : Int) := by unfold wrap64; omega
  clear hT hs hl hBare hM hM16 hpg
  go_enter Tryz.func4, Tryz.ntmps4
  go_wp2_with fail
  refine HBG.out.mono ?_
  rintro e w1 ⟨rfl, u, v, a0, b0, a1, b1, x1, hb⟩
  have HMO := hid (Mo.start hb HBA.out HPB.out)
  obtain ⟨d, hd⟩ : ∃ d, (⟨w.heap.size, u, v, a0, b0, b1, x1, newF (z0 (199 + 1)) 1, newF (s1 199) 2⟩ : Sd) = d := ⟨_, rfl⟩
  have hdg : w.heap.size = d.g := by rw [← hd]
  rw [hd] at HMO
  rw [hdg]
  have c2 := P.cell_of (i := 2) HMO.out.choose_spec.choose_spec.fv.blk rfl
  clear hd hdg HBG hb HBA
  go_wp2
  (try rw [epg])
  clear epg
  go_loopw [8, 9, 11] (fun fv rv iv wr => ∃ (i k N : Nat) (qf qr : Int), fv = .int .i64 qf ∧ rv = .int .i64 qr ∧ iv = .int .i64 i ∧ i ≤ n ∧ i ≤ 30 ∧ Mo w d (k) N (pg : Int) (qf, qr) wr ∧ k ≤ 32 + i * 500 ∧ 198 ≤ N + i * 3) (fun _ _ iv _ => 30 - (intOf iv).toNat)
  case atStart => exact ⟨0, _, _, _, _, rfl, rfl, rfl, Nat.zero_le _, Nat.zero_le _, HMO.out, by omega, by omega⟩
  case round =>
    obtain ⟨i, k, N, qf, qr, rfl, rfl, rfl, hin, hi, hf, hk, hN⟩ := hrel
    have HFr := hid hf
    clear HMO c2
    by_cases hlt : i < n
    · by_cases h40 : i < 30
      · have hlt1 : (i : Int) < (n : Int) := by omega
        have hlt2 : (i : Int) < 30 := by omega
        have hwr : wrap64 ((i : Int) + 1) = ((i + 1 : Nat) : Int) := by unfold wrap64; omega
        have HIL : Hid (i + 1 ≤ n ∧ i + 1 ≤ 30 ∧ k + 100 + 100 + 100 + 100 + 100 ≤ 32 + (i + 1) * 500) := ⟨hlt, h40, k500 hk⟩
        have HKB : Hid (k + 1000 + 1000 ≤ bnd) := kbb hk h40
        obtain ⟨N', rfl, hNN⟩ := n3 hN h40
        have HNN := hid hNN
        clear hNN
        have HMF : Hid (30 - (intOf (.int .i64 ((i : Int) + 1))).toNat < 30 - (intOf (.int .i64 (i : Int))).toNat) := m30 h40
        obtain ⟨b, off, rfl, hbl, hcl⟩ := (HS.out.below hf.choose_spec.choose_spec.fv.bel) (by intro e; rw [e] at HL; have := HL.out; simp at this; omega)
        obtain ⟨k0, k1, k2, k3, k4⟩ := hcl i (by have := HL.out; omega)
        generalize l.getD i noCal = oc at *
        obtain ⟨kd, wh, pp, fm, rt⟩ := oc
        simp only at k0 k1 k2 k3 k4
        have hb0 := below_alloc wr (.cells #[.int .i64 kd, .int .i64 wh, .int .i64 pp, .int .i64 fm, .int .i64 rt] 27)
        have hbo := heap_alloc_new wr (.cells #[.int .i64 kd, .int .i64 wh, .int .i64 pp, .int .i64 fm, .int .i64 rt] 27)
        have HTZ := hid (HFr.out.below hb0)
        have HZ := hid hbo
        clear hcl hf hb0 hbo hin hi hk hlt h40 hN
        go_upto_region 12 with fail
        obtain ⟨z, hz⟩ : ∃ z, wr.heap.size = z := ⟨_, rfl⟩
        rw [hz] at HZ ⊢
        generalize wr.alloc (.cells #[.int .i64 kd, .int .i64 wh, .int .i64 pp, .int .i64 fm, .int .i64 rt] 27) = W0 at *
        clear hz k0 k1 k2 k3 k4 hbl HFr
        refine mA HTZ.out (kb0 HKB.out) HZ.out ?_
        intro v0 v1 v2 v3 v4 v5 v6 v7 v8 v9 v10 v11 v12 v13 v14 v15 v16 v17 v18 ba q1 q2 N1 w5 hm hz hb1 hb2 hn1 hn2
        have HM := hid hm
        have HZ1 := hid hz
        have HB1 := hid (And.intro hb1 hb2)
        have HN1 := hid (And.intro hn1 hn2)
        clear hm hz hb1 hb2 hn1 hn2 HTZ HZ
        go_upto_if 73 with fail
        go_cut [8, 9] from 40 to 217 (fun fv rv wx => fv = .int .i64 q1 ∧ rv = .int .i64 q2 ∧ Mo w d (k + 100) N1 (pg : Int) (q1, q2) wx ∧ wx.heap[z]? = some (.cells #[.int .i64 kd, .int .i64 wh, .int .i64 pp, .int .i64 fm, .int .i64 rt] 27 (0, 0)))
        case first =>
          cases ba
          · obtain ⟨rfl, rfl⟩ := HB1.out.2 rfl
            go_wp2
            go_meet
            case rel => exact ⟨rfl, rfl, HM.out, HZ1.out⟩
          · obtain ⟨rfl, rfl⟩ := HB1.out.1 rfl
            have y3 := P.cell_of (i := 3) HZ1.out rfl
            have y4 := P.cell_of (i := 4) HZ1.out rfl
            go_wp2
            go_meet
            case rel => exact ⟨rfl, rfl, HM.out, HZ1.out⟩
        case rest =>
        obtain ⟨rfl, rfl, hm, hz⟩ := hcut
        have HTZ := hid hm
        have HZ := hid hz
        clear hm hz HM HZ1 HB1
        go_upto_region 15 with fail
        refine mB HTZ.out (kb1 HKB.out) HZ.out HN1.out HE.out HMM.out ?_
        intro v0 v1 v2 v3 v4 v5 v6 v7 v8 v9 v10 v11 v12 v13 v14 v15 v16 v17 v18 v19 v20 v21 bb q3 q4 N2 w6 hm hz hb1 hb2 hn1 hn2
        have HM := hid hm
        have HZ1 := hid hz
        have HB1 := hid (And.intro hb1 hb2)
        have HN2 := hid (And.intro hn1 hn2)
        clear hm hz hb1 hb2 hn1 hn2 HTZ HZ HN1
        go_upto_if 100 with fail
        go_cut [8, 9] from 40 to 217 (fun fv rv wx => fv = .int .i64 q3 ∧ rv = .int .i64 q4 ∧ Mo w d (k + 100 + 100) N2 (pg : Int) (q3, q4) wx ∧ wx.heap[z]? = some (.cells #[.int .i64 kd, .int .i64 wh, .int .i64 pp, .int .i64 fm, .int .i64 rt] 27 (0, 0)))
        case first =>
          cases bb
          · obtain ⟨rfl, rfl⟩ := HB1.out.2 rfl
            go_wp2
            go_meet
            case rel => exact ⟨rfl, rfl, HM.out, HZ1.out⟩
          · obtain ⟨rfl, rfl, hf0, hf1⟩ := HB1.out.1 rfl
            have hwf := wrap_in ⟨hf0, hf1⟩ HM16.out
            have e16 := HE.out.1
            have y3 := P.cell_of (i := 3) HZ1.out rfl
            have y4 := P.cell_of (i := 4) HZ1.out rfl
            clear hf0 hf1
            go_wp2
            go_meet
            case rel => exact ⟨by first | rfl | rw [hwf], rfl, HM.out, HZ1.out⟩
        case rest =>
        obtain ⟨rfl, rfl, hm, hz⟩ := hcut
        have HTZ := hid hm
        have HZ := hid hz
        clear hm hz HM HZ1 HB1
        have y0 := P.cell_of (i := 0) HZ.out rfl
        go_upto_if 110 with fail
        go_cut [8, 9, 13, 14] from 40 to 217 (fun fv rv _ _ wx => ∃ (q5 q6 : Int) (N3 : Nat), fv = .int .i64 q5 ∧ rv = .int .i64 q6 ∧ Mo w d (k + 100 + 100 + 100) N3 (pg : Int) (q5, q6) wx ∧ wx.heap[z]? = some (.cells #[.int .i64 kd, .int .i64 wh, .int .i64 pp, .int .i64 fm, .int .i64 rt] 27 (0, 0)) ∧ N' ≤ N3 ∧ (kd ≠ 0 → kd ≠ 1 → kd ≠ 2 → N' + 3 ≤ N3))
        case first =>
          by_cases hk2 : kd = 2
          · have tk : (kd == 2) = true := by simpa using hk2
            rw [tk]
            refine mC (HTZ.out.mono (Nat.le_refl _) (un_le (HN2.out.2 (by rw [hk2]; decide) (by rw [hk2]; decide)))) (kb2 HKB.out) HZ.out ?_
            intro v0 v1 v2 v3 v4 v5 v6 v7 v8 v9 v10 v11 v12 v13 v14 v15 v16 v17 v18 v19 v20 v21 v22 v23 v24 v25 v26 v27 v28 v29 v30 v31 v32 v33 v34 v35 v36 v37 v38 q5 q6 w7 hm hz
            have HM := hid hm
            have HZ1 := hid hz
            clear hm hz
            go_wp2
            go_meet
            case rel => exact ⟨_, _, _, rfl, rfl, HM.out, HZ1.out, two_le, fun _ _ h => absurd hk2 h⟩
          · have hq2 : (kd == 2) = false := by simpa using hk2
            clear hk2
            go_wp2
            go_meet
            case rel => exact ⟨_, _, _, rfl, rfl, HTZ.out.mono (Nat.le_add_right _ _) (Nat.le_refl _), HZ.out, HN2.out.1, fun h1 h2 _ => HN2.out.2 h1 h2⟩
        case rest =>
        obtain ⟨q5, q6, N3, rfl, rfl, hm, hz, hn1, hn2⟩ := hcut
        have HTY := hid hm
        have HZY := hid hz
        have HN3 := hid (And.intro hn1 hn2)
        clear hm hz hn1 hn2 HTZ HZ HN2 y0
        go_upto_region 25 with fail
        refine mD HTY.out (kb3 HKB.out) HZY.out HN3.out ?_
        intro v0 v1 v2 v3 v4 v5 v6 v7 v8 v9 v10 v11 v12 v13 v14 v15 v16 bd q8 N4 w7 hm hz hb1 hb2 hn1
        have HM := hid hm
        have HZ1 := hid hz
        have HB1 := hid (And.intro hb1 hb2)
        have HN4 := hid hn1
        clear hm hz hb1 hb2 hn1 HTY HZY HN3
        go_upto_if 165 with fail
        go_cut [9] from 40 to 217 (fun rv wx => rv = .int .i64 q8 ∧ Mo w d (k + 100 + 100 + 100 + 100) N4 (pg : Int) (q5, q8) wx)
        case first =>
          cases bd
          · obtain rfl := HB1.out.2 rfl
            go_wp2
            go_meet
            case rel => exact ⟨rfl, HM.out⟩
          · obtain rfl := HB1.out.1 rfl
            have y4 := P.cell_of (i := 4) HZ1.out rfl
            go_wp2
            go_meet
            case rel => exact ⟨rfl, HM.out⟩
        case rest =>
        obtain ⟨rfl, hm⟩ := hcut
        have HQ := hid hm.query
        have HQI := hid hm.q_in
        obtain ⟨g, hg⟩ : ∃ g : Int, (if (q5, q8).2 = 0 then 4 else 0) = g := ⟨_, rfl⟩
        rw [hg] at HQ
        simp only at HQ hg
        have HG := hid hg
        clear hm hg HM HZ1 HB1
        go_wp2_with fail
        refine HQ.out.mono ?_
        rintro e w8 ⟨rfl, h5, -⟩
        have H5 := hid h5
        clear h5 HQ
        go_upto_region 28 with fail
        refine mE H5.out (kb4 HKB.out) ?_
        intro v0 v1 v2 v3 v4 v5 v6 v7 z2 xx w9 hz2 hfn hm
        obtain ⟨xf, xr, xv, xe⟩ := xx
        obtain ⟨f1, f2, f3⟩ := hfn
        simp only at hz2 f1 f2 f3
        subst f1 f2
        have HM := hid hm
        have HZ2 := hid hz2
        have HM := hid hm
        have HF3 := hid f3
        clear hm hz2 H5 f3
        have HEND := hid (end_n HNN.out HN4.out)
        go_upto_region 29 with fail
        refine mF HZ2.out HG.out HQI.out.1 HF3.out ?_
        intro t0 t1 t2 t3 t4 t5 t6 t7 t8 t9 t10 t11 t12 t13 t14 t15 t16 t17 t18 t19 t20 t21 t22 t23 t24 t25 t26 t27 t28 t29 t30 t31 t32 t33 w10 hw
        rw [hw]
        clear hw
        go_wp2
        exact ⟨⟨i + 1, _, _, _, _, rfl, rfl, by rfl, HIL.out.1, HIL.out.2.1, HM.out, HIL.out.2.2, HEND.out⟩, HMF.out⟩
      · have hlt1 : (i : Int) < (n : Int) := by omega
        have hlt2 : ¬ (i : Int) < 30 := by omega
        clear hf
        obtain ⟨s0, ty0, h0⟩ := HFr.out
        have H0 := hid h0.fv
        clear h0
        go_wp2_with fail
        refine (known_yes _ H0.out.wo.tab).mono ?_
        rintro e w8 ⟨rfl, hB⟩
        have HB8 := hid (H0.out.bel.trans (hB.mono H0.out.bel.size))
        clear hB
        go_wp2
        go_ret
        exact ⟨rfl, HB8.out⟩
    · have hlt1 : ¬ (i : Int) < (n : Int) := by omega
      clear hf
      obtain ⟨s0, ty0, h0⟩ := HFr.out
      have H0 := hid h0.fv
      clear h0
      go_wp2_with fail
      refine (known_yes _ H0.out.wo.tab).mono ?_
      rintro e w8 ⟨rfl, hB⟩
      have HB8 := hid (H0.out.bel.trans (hB.mono H0.out.bel.size))
      clear hB
      go_wp2
      go_ret
      exact ⟨rfl, HB8.out⟩
end Go.Proofs.YtpfmmlbakbhklaaGreatDoor
