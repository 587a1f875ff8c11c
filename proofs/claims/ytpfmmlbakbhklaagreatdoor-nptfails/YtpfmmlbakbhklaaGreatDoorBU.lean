/- The walk of NptFails: for every number and every script it returns true; nothing that lay before is changed. Condition: the rules lie in their variable. -/
import Derived.Test.YtpfmmlbakbhklaaGreatDoorBT
import Derived.Deep.CutRange
import Derived.Deep.CutBlock
import Derived.Deep.RegionHeld3
import Derived.BigQuiet
namespace Go.Proofs.YtpfmmlbakbhklaaGreatDoor
open Go.RowKit
set_option maxRecDepth 100000 in
set_option maxHeartbeats 4000000 in
theorem fails_walk (w : World) (hT : O.Tab w) (x : Nat) (hx : x < 256) {q : Option Addr} {n c : Nat} {l : List Cal} (hl : l.length = n) (hs : Script w q l) :
    Calls Tryz.prog 5 #[.int .u8 x, .slice q n c] w fun e w' => e = .returned (.bool true) ∧ Below w.heap.size w w' := by
  have HT := hid hT
  have HS := hid hs
  have HL := hid hl
  have hm : x % 20 < 20 := Nat.mod_lt _ (by decide)
  have HBG := hid (begin_at w hT (x % 20) (by omega))
  obtain ⟨m, hmm⟩ : ∃ m, x % 20 = m := ⟨_, rfl⟩
  have em : ((x : Nat) : Int).tmod 20 = (m : Int) := by rw [← hmm]; rfl
  have e2 : wrap64 (1 + (m : Int)) = 1 + (m : Int) := by unfold wrap64; omega
  rw [hmm] at HBG hm
  rw [show (((m + 1 : Nat)) : Int) = 1 + (m : Int) by omega] at HBG
  clear hT hs hl hmm
  go_enter Tryz.func5, Tryz.ntmps5
  go_wp2_with fail
  refine HBG.out.mono ?_
  rintro e w1 ⟨rfl, u, v, a0, b0, a1, b1, x1, hb⟩
  have HF := hid (Fv.of_bgn hb)
  have HS1 := hid (HS.out.below hb.bel)
  have HB1 := hid hb.bel
  obtain ⟨d, hd⟩ : ∃ d, (⟨w.heap.size, u, v, a0, b0, b1, x1, newF (z0 (m + 1)) 1, newF (s1 m) 2⟩ : Sd) = d := ⟨_, rfl⟩
  have hdg : w.heap.size = d.g := by rw [← hd]
  rw [hd] at HF
  rw [hdg]
  clear hb hd hdg HBG HS1 em e2 hm
  go_wp2
  go_loopw [7] (fun p wr => ∃ (i : Nat) (s : Sm) (k : Nat), p = .int .i64 i ∧ i ≤ n ∧ i ≤ 40 ∧ Fv w d s k wr ∧ k ≤ 32 + i * 200) (fun p _ => 40 - (intOf p).toNat)
  case atStart => exact ⟨0, _, _, rfl, Nat.zero_le _, Nat.zero_le _, HF.out, by omega⟩
  case round =>
    obtain ⟨i, s, k, rfl, hin, hi, hf, hk⟩ := hrel
    have HFr := hid hf
    have HKr := hid hk
    have hiL : Hid (i ≤ n) := hin
    by_cases hlt : i < n
    · by_cases h40 : i < 40
      · have hlt1 : (i : Int) < (n : Int) := by omega
        have hlt2 : (i : Int) < 40 := by omega
        obtain ⟨b, off, rfl, hbl, hcl⟩ := (HS.out.below hf.bel) (by intro e; rw [e] at HL; have := HL.out; simp at this; omega)
        obtain ⟨k0, k1, k2, k3, k4⟩ := hcl i (by have := HL.out; omega)
        generalize l.getD i noCal = oc at *
        obtain ⟨kd, wh, pg, fm, rt⟩ := oc
        simp only at k0 k1 k2 k3 k4
        have hb0 := below_alloc wr (.cells #[.int .i64 kd, .int .i64 wh, .int .i64 pg, .int .i64 fm, .int .i64 rt] 27)
        have hbo := heap_alloc_new wr (.cells #[.int .i64 kd, .int .i64 wh, .int .i64 pg, .int .i64 fm, .int .i64 rt] 27)
        have HF1 := hid (HFr.out.below hb0)
        have HBO := hid hbo
        have c2 := P.cell_of (i := 2) (P.stay hb0 HFr.out.blk) rfl
        have c3 := P.cell_of (i := 3) (P.stay hb0 HFr.out.blk) rfl
        clear hcl hf hb0 hbo
        have HF0 := HF1.out
        clear c2 c3
        go_upto_region 8 with fail
        obtain ⟨z, hz⟩ : ∃ z, wr.heap.size = z := ⟨_, rfl⟩
        rw [hz] at HBO ⊢
        generalize wr.alloc (.cells #[.int .i64 kd, .int .i64 wh, .int .i64 pg, .int .i64 fm, .int .i64 rt] 27) = W0 at *
        clear hz HF1 k0 k1 k2 k3 k4 hbl
        go_cut [9] from 30 to 187 (fun tv wx => Fv w d s k wx ∧ wx.heap[z]? = some (.cells #[.int .i64 kd, .int .i64 wh, .int .i64 pg, .int .i64 fm, .int .i64 rt] 27 (0, 0)) ∧ (tv = .pointer none ∨ ∃ (t : Nat) (o root : Int), tv = .pointer (some ⟨t, 0, none⟩) ∧ IsT d.u wx t 1 o root))
        case first =>
          have c1' := P.cell_of (i := 1) HBO.out rfl
          have c2 := P.cell_of (i := 2) HF0.blk rfl
          have c3 := P.cell_of (i := 3) HF0.blk rfl
          by_cases hw : wh % 2 = 0
          · have ha : bits .and .i64 wh 1 = 0 := (i64_and1 wh).trans hw
            clear hw
            go_quiet (fail)
            go_wp2
            go_meet
            case rel =>
              have hq := below_drewN (Below.refl W0.heap.size W0) nq
              exact ⟨HF0.below hq, P.stay hq HBO.out, .inr ⟨_, _, _, rfl, (HF0.below hq).t0⟩⟩
          · have ha : bits .and .i64 wh 1 = 1 := (i64_and1 wh).trans (by omega)
            clear hw
            go_quiet (fail)
            go_wp2
            go_meet
            case rel =>
              have hq := below_drewN (Below.refl W0.heap.size W0) nq
              refine ⟨HF0.below hq, P.stay hq HBO.out, ?_⟩
              rcases (HF0.below hq).t1 with e | ⟨a1, e, i1⟩
              · exact .inl (by rw [e])
              · exact .inr ⟨_, _, _, by rw [e], i1⟩
        case rest =>
          obtain ⟨hfx, hbx, htv⟩ := hcut
          have k0' := P.cell_of (i := 0) hbx rfl
          have HFx := hid hfx
          have HBx := hid hbx
          have hwr : wrap64 ((i : Int) + 1) = ((i + 1 : Nat) : Int) := by unfold wrap64; omega
          clear HF HF0 HBO hfx hbx
          rcases htv with rfl | ⟨t, o, root, rfl, htt⟩
          · go_wp2
            go_roundw
            case measure => (simp [intOf]; omega)
            case rel => exact ⟨i + 1, s, k, by go_num, by omega, by omega, HFx.out, by have := HKr.out; omega⟩
          · have HTT := hid htt
            clear htt
            by_cases h4 : kd = 4
            · subst h4
              go_wp2
              go_roundw
              case measure => (simp [intOf]; omega)
              case rel => exact ⟨i + 1, s, k, by go_num, by omega, by omega, HFx.out, by have := HKr.out; omega⟩
            · have h4' : (kd == 4) = false := by simpa using h4
              clear h4
              obtain ⟨dd, ll, hm, -⟩ := HFx.out.wo.mem
              have HCM := hid (copy_at hm)
              have g0 := P.cell_of (i := 0) HFx.out.blk rfl
              clear hm
              go_wp2_with fail
              refine HCM.out.mono ?_
              rintro e w3 ⟨pm, bm, rfl, hm', hp', hb', hB⟩
              have HF3 := hid (HFx.out.below hB)
              have HB3 := hid (P.stay hB HBx.out)
              have HT3 := hid (HTT.out.below hB)
              have HM3 := hid hm'
              have HL3 := hid (And.intro hp' (And.intro hb' hB.size))
              have HCP := hid (O.copy_at HF3.out.wo.pool)
              have g1 := P.cell_of (i := 1) HF3.out.blk rfl
              clear hm' hp' hb' hB HCM g0
              go_wp2_with fail
              refine HCP.out.mono ?_
              rintro e w4 ⟨qp, gp, rfl, hp4, hq4, hg4, hB⟩
              have HRW : Hid (Rw w d s s k ⟨pm, bm, qp, gp, z, ⟨kd, wh, pg, fm, rt⟩⟩ w4) := by
                have lt := HFx.out.wo.lt
                have l3 := HL3.out
                refine ⟨HF3.out.below hB, ⟨_, _, HM3.out.below hB⟩, hp4, P.stay hB HB3.out, ?_⟩
                simp only
                omega
              have HT4 := hid (HT3.out.below hB)
              clear hp4 hq4 hg4 hB HF3 HB3 HT3 HM3 HL3 HCP HTT HFx HBx g1
              have k0'' := P.cell_of (i := 0) HRW.out.box rfl
              go_upto_block 2 with fail
              have k2'' := P.cell_of (i := 2) HRW.out.box rfl
              have k3'' := P.cell_of (i := 3) HRW.out.box rfl
              have k4'' := P.cell_of (i := 4) HRW.out.box rfl
              have hkb : k + 200 ≤ bnd := by have := HKr.out; unfold bnd; omega
              go_cut [12, 13, 14] from 30 to 187 (fun ev _ _ wx => ∃ (e : Int) (s' : Sm) (k' : Nat), ev = .int .i64 e ∧ k' ≤ 32 + (i + 1) * 200 ∧ Ask kd e s s' ∧ Rw w d s s' k' ⟨pm, bm, qp, gp, z, ⟨kd, wh, pg, fm, rt⟩⟩ wx)
              case first =>
                by_cases hk0 : kd = 0
                · subst hk0
                  have HC := hid (map_at HT4.out HRW.out.fv.wo hkb pg fm rt)
                  have HAS := hid (ask_put 0 s o root pg 0 ⟨true, rt, false, fm⟩)
                  generalize putE s root pg 0 ⟨true, rt, false, fm⟩ = ee at *
                  generalize putT s o root pg 0 ⟨true, rt, false, fm⟩ = st at *
                  go_wp2_with fail
                  refine HC.out.mono ?_
                  rintro e w5 ⟨rfl, hW, hC⟩
                  have HX := hid (HRW.out.turn hC hW)
                  clear hW hC HC
                  go_wp2
                  go_meet
                  case rel => exact ⟨_, _, _, rfl, by have := HKr.out; omega, HAS.out, HX.out⟩
                have hq0 : (kd == 0) = false := by simpa using hk0
                by_cases hk1 : kd = 1
                · subst hk1
                  have HC := hid (large_at HT4.out HRW.out.fv.wo hkb pg fm rt)
                  have HAS := hid (ask_put 1 s o root pg 1 ⟨true, rt, true, fm⟩)
                  generalize putE s root pg 1 ⟨true, rt, true, fm⟩ = ee at *
                  generalize putT s o root pg 1 ⟨true, rt, true, fm⟩ = st at *
                  go_wp2_with fail
                  refine HC.out.mono ?_
                  rintro e w5 ⟨rfl, hW, hC⟩
                  have HX := hid (HRW.out.turn hC hW)
                  clear hW hC HC
                  go_wp2
                  go_meet
                  case rel => exact ⟨_, _, _, rfl, by have := HKr.out; omega, HAS.out, HX.out⟩
                have hq1 : (kd == 1) = false := by simpa using hk1
                by_cases hk2 : kd = 2
                · subst hk2
                  have HC := hid (unmap_at HT4.out HRW.out.fv.wo hkb pg)
                  have HAS := hid (ask_un s o root pg)
                  generalize unE s o root pg = ee at *
                  generalize unS s o root pg = st at *
                  go_wp2_with fail
                  refine HC.out.mono ?_
                  rintro e w5 ⟨rfl, hW, hC⟩
                  have HX := hid (HRW.out.turn hC hW)
                  clear hW hC HC
                  go_wp2
                  go_meet
                  case rel => exact ⟨_, _, _, rfl, by have := HKr.out; omega, HAS.out, HX.out⟩
                have hq2 : (kd == 2) = false := by simpa using hk2
                by_cases hk3 : kd = 3
                · subst hk3
                  have HC := hid (protect_at HT4.out HRW.out.fv.wo hkb pg rt)
                  have HAS := hid (ask_pr 3 s o root pg rt)
                  generalize prE s o root pg rt = ee at *
                  generalize prS s o root pg rt = st at *
                  go_wp2_with fail
                  refine HC.out.mono ?_
                  rintro e w5 ⟨rfl, hW, hC⟩
                  have HX := hid (HRW.out.turn hC hW)
                  clear hW hC HC
                  go_wp2
                  go_meet
                  case rel => exact ⟨_, _, _, rfl, by have := HKr.out; omega, HAS.out, HX.out⟩
                have hq3 : (kd == 3) = false := by simpa using hk3
                go_wp2
                go_meet
                case rel => exact ⟨_, _, _, rfl, by have := HKr.out; omega, ask_no kd s, HRW.out⟩
              case rest =>
                obtain ⟨e, s', k', rfl, hk', hask, hrw⟩ := hcut
                have HAS := hid hask
                have HKS := hid hk'
                have HRX := hid hrw
                have HIL : Hid (i + 1 ≤ n ∧ i + 1 ≤ 40) := ⟨hlt, h40⟩
                have HMF : Hid (40 - (intOf (.int .i64 ((i : Int) + 1))).toNat < 40 - (intOf (.int .i64 (i : Int))).toNat) := by
                  show _ < _
                  simp [intOf]
                  omega
                clear hask hk' hrw HRW HT4 k0'' k2'' k3'' k4'' hkb HFr HKr hin hi hiL hlt h40 hk
                go_wp2_with fail
                refine f25 (fun _ _ _ _ _ h => h) HRX.out HAS.out ?_
                intro v0 v1 v2 v3 v4 v5 v6 v7 v8 v9 v10 v11 v12 v13 v14 v15 v16 v17 v18 w5 h5
                have HR5 := hid h5
                clear h5 HRX
                go_wp2_with fail
                refine f27 (fun _ _ _ _ _ h => h) HR5.out HAS.out ?_
                intro x0 x1 x2 x3 x4 x5 x6 x7 x8 x9 x10 x11 x12 x13 x14 x15 x16 x17 x18 x19 x20 x21 x22 x23 w6 h6
                have HR6 := hid h6
                clear h6 HR5
                go_upto_block 3 with fail
                refine f3b HR6.out HAS.out ?_
                intro y0 y1 y2 y3 y4 y5 y6 y7 y8 y9 y10 y11 y12 y13 y14 y15 y16 y17 y18 y19 y20 y21 y22 y23 y24 y25 y26 y27 y28 y29 y30 y31 y32 y33 w7 h7
                have HR7 := hid h7
                clear h7 HR6
                go_wp2
                exact ⟨⟨i + 1, _, _, by rfl, HIL.out.1, HIL.out.2, HR7.out.fv, HKS.out⟩, HMF.out⟩
      · have hlt1 : (i : Int) < (n : Int) := by omega
        have hlt2 : ¬ (i : Int) < 40 := by omega
        clear hf
        go_wp2_with fail
        refine (known_yes _ HFr.out.wo.tab).mono ?_
        rintro e w8 ⟨rfl, hB⟩
        have HB8 := hid (HFr.out.bel.trans (hB.mono HFr.out.bel.size))
        clear hB
        go_wp2
        go_ret
        exact ⟨rfl, HB8.out⟩
    · have hlt1 : ¬ (i : Int) < (n : Int) := by omega
      clear hf
      go_wp2_with fail
      refine (known_yes _ HFr.out.wo.tab).mono ?_
      rintro e w8 ⟨rfl, hB⟩
      have HB8 := hid (HFr.out.bel.trans (hB.mono HFr.out.bel.size))
      clear hB
      go_wp2
      go_ret
      exact ⟨rfl, HB8.out⟩
end Go.Proofs.YtpfmmlbakbhklaaGreatDoor
