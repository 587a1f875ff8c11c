/- The walk of NptEnds: for every script it returns true; nothing that lay before is changed. Condition: the rules lie in their variable. -/
import Derived.Test.YtpfmmlbakbhklaaGreatDoorCE
import Derived.Deep.CutRange
import Derived.Deep.CutBlock
import Derived.Deep.RegionLaw
namespace Go.Proofs.YtpfmmlbakbhklaaGreatDoor
open Go.RowKit
theorem m20 {i : Nat} (h : i < 20) : 20 - (intOf (.int .i64 ((i : Int) + 1))).toNat < 20 - (intOf (.int .i64 (i : Int))).toNat := by
  simp [intOf]
  omega
theorem m16 {i : Nat} (h : i < 16) : 16 - (intOf (.int .i64 ((i : Int) + 1))).toNat < 16 - (intOf (.int .i64 (i : Int))).toNat := by
  simp [intOf]
  omega
theorem mN {i N : Nat} (h : i < N) : N - (intOf (.int .i64 ((i : Int) + 1))).toNat < N - (intOf (.int .i64 (i : Int))).toNat := by
  simp [intOf]
  omega
theorem k20 {k i : Nat} (h : k ≤ 32 + i * 100) (hi : i < 20) : k + 200 ≤ bnd := by unfold bnd; omega
theorem k20' {k i : Nat} (h : k ≤ 32 + i * 100) : k + 100 ≤ 32 + (i + 1) * 100 := by omega
theorem kU {k i : Nat} (h : k ≤ 4000 + i * 100) (hi : i < 400) : k + 200 ≤ bnd := by unfold bnd; omega
theorem kU' {k i : Nat} (h : k ≤ 4000 + i * 100) : k + 100 ≤ 4000 + (i + 1) * 100 := by omega
theorem drop_one {L : List Int} {i : Nat} (h : i < L.length) : L.drop i = L.getD i 0 :: L.drop (i + 1) := by
  rw [List.drop_eq_getElem_cons h]
  simp [List.getD, h]
theorem len16 {L : List Int} {i : Nat} (h : L.length ≤ 16 * i) (hi : i < 20) : L.length ≤ 320 ∧ L.length ≤ 16 * (i + 1) ∧ L.length + 1 ≤ 16 * (i + 1) ∧ L.length + 16 ≤ 16 * (i + 1) := by omega
theorem in_of {j : Nat} {p : Int} (h : 0 ≤ p ∧ p ≤ 65520) (hj : j < 16) : wrap64 (p + (j : Int)) = p + (j : Int) := by unfold wrap64; omega
theorem wr1 {i : Nat} (h : i < 1000) : wrap64 ((i : Int) + 1) = ((i + 1 : Nat) : Int) := by unfold wrap64; omega
set_option maxRecDepth 100000 in
set_option maxHeartbeats 16000000 in
theorem ends_walk (w : World) (hT : O.Tab w) {q : Option Addr} {n c : Nat} {l : List Cal} (hl : l.length = n) (hs : Script w q l) :
    Calls Tryz.prog 6 #[.slice q n c] w fun e w' => e = .returned (.bool true) ∧ Below w.heap.size w w' := by
  have HS := hid hs
  have HL := hid hl
  have HBG := hid (begin_at w hT 199 (by omega))
  rw [show (((199 + 1 : Nat)) : Int) = 200 from rfl] at HBG
  obtain ⟨ty, hBare⟩ := bare_own (m := 199) (by omega) (by omega)
  have HBA := hid hBare
  obtain ⟨i0, hi3, hz0, hz1, hz2⟩ := info_parts info3'
  have HINF := hid (And.intro hi3 (And.intro hz0 (And.intro hz1 hz2)))
  clear hT hs hl hBare hi3 hz0 hz1 hz2
  go_enter Tryz.func6, Tryz.ntmps6
  go_wp2_with fail
  refine HBG.out.mono ?_
  rintro e w1 ⟨rfl, u, v, a0, b0, a1, b1, x1, hb⟩
  have HEN := hid (En.start hb HBA.out.1 HBA.out.2 (Nat.le_refl _))
  obtain ⟨d, hd⟩ : ∃ d, (⟨w.heap.size, u, v, a0, b0, b1, x1, newF (z0 (199 + 1)) 1, newF (s1 199) 2⟩ : Sd) = d := ⟨_, rfl⟩
  have hdg : w.heap.size = d.g := by rw [← hd]
  rw [hd] at HEN
  rw [hdg]
  have c2 : w1.cell? ⟨d.g, 2, none⟩ = some (.pointer (some ⟨d.a0, 0, none⟩)) := HEN.out.elim fun _ h => h.elim fun _ h => P.cell_of (i := 2) h.1.fv.blk rfl
  obtain ⟨nb, hnb⟩ : ∃ nb, w1.heap.size = nb := ⟨_, rfl⟩
  have HLW : Hid (Lw d nb ∧ w.heap.size ≤ nb ∧ nb ≤ w1.heap.size) := by
    have h1 := HEN.out.lw
    have h2 := HEN.out.bel.size
    rw [hnb] at h1 h2
    exact ⟨h1, h2, Nat.le_of_eq hnb.symm⟩
  have HR0 : Hid (w1.ownsRow nb 3 1 (.slice none 0 0) 0 []) := ⟨by simp, .inl ⟨rfl, rfl⟩⟩
  clear hd hdg HBG hb HBA hnb
  go_wp2
  go_loopw [6, 7] (fun pv iv wr => ∃ (i k : Nat) (L : List Int), iv = .int .i64 i ∧ i ≤ n ∧ i ≤ 20 ∧ En w d k i L wr ∧ wr.ownsRow nb 3 1 pv L.length (L.map (Value.int .i64)) ∧ k ≤ 32 + i * 100 ∧ L.length ≤ 16 * i ∧ nb ≤ wr.heap.size) (fun _ iv _ => 20 - (intOf iv).toNat)
  case atStart => exact ⟨0, _, [], rfl, Nat.zero_le _, Nat.zero_le _, HEN.out, HR0.out, by omega, Nat.le_refl _, HLW.out.2.2⟩
  case round =>
    obtain ⟨i, k, L, rfl, hin, hi, hf, hrow, hk, hLl, hnbr⟩ := hrel
    have HFr := hid hf
    have HROW := hid hrow
    have HNB := hid hnbr
    clear HEN c2 HR0 hrow hnbr
    by_cases hlt : i < n
    · by_cases h40 : i < 20
      · have hlt1 : (i : Int) < (n : Int) := by omega
        have hlt2 : (i : Int) < 20 := by omega
        have hwr : wrap64 ((i : Int) + 1) = ((i + 1 : Nat) : Int) := wr1 (Nat.lt_trans h40 (by decide))
        have HIL : Hid (i + 1 ≤ n ∧ i + 1 ≤ 20 ∧ k + 100 ≤ 32 + (i + 1) * 100) := ⟨hlt, h40, k20' hk⟩
        have HKB : Hid (k + 200 ≤ bnd) := k20 hk h40
        have HLL := hid (len16 hLl h40)
        have HMF : Hid (20 - (intOf (.int .i64 ((i : Int) + 1))).toNat < 20 - (intOf (.int .i64 (i : Int))).toNat) := m20 h40
        obtain ⟨b, off, rfl, hbl, hcl⟩ := (HS.out.below hf.bel) (by intro e; rw [e] at HL; have := HL.out; simp at this; omega)
        obtain ⟨k0, k1, k2, k3, k4⟩ := hcl i (by have := HL.out; omega)
        generalize l.getD i noCal = oc at *
        obtain ⟨kd, wh, pp, fm, rt⟩ := oc
        simp only at k0 k1 k2 k3 k4
        have hb0 := below_alloc wr (.cells #[.int .i64 kd, .int .i64 wh, .int .i64 pp, .int .i64 fm, .int .i64 rt] 27)
        have hbo := heap_alloc_new wr (.cells #[.int .i64 kd, .int .i64 wh, .int .i64 pp, .int .i64 fm, .int .i64 rt] 27)
        have HTZ := hid (HFr.out.below hb0)
        have HRZ := hid (HROW.out.alloc (.cells #[.int .i64 kd, .int .i64 wh, .int .i64 pp, .int .i64 fm, .int .i64 rt] 27))
        have HNZ := hid (Nat.le_trans HNB.out hb0.size)
        have HZ := hid hbo
        clear hcl hf hb0 hbo hin hi hk hlt h40 hLl
        go_upto_region 10 with fail
        obtain ⟨z, hz⟩ : ∃ z, wr.heap.size = z := ⟨_, rfl⟩
        have HZB : Hid (nb ≤ z) := by rw [← hz]; exact HNB.out
        rw [hz] at HZ ⊢
        generalize wr.alloc (.cells #[.int .i64 kd, .int .i64 wh, .int .i64 pp, .int .i64 fm, .int .i64 rt] 27) = W0 at *
        clear hz k0 k1 k2 k3 k4 hbl HFr HROW HNB
        have y0 := P.cell_of (i := 0) HZ.out rfl
        by_cases hk0 : kd = 0
        · subst hk0
          have y2 := P.cell_of (i := 2) HZ.out rfl
          have y3 := P.cell_of (i := 3) HZ.out rfl
          have y4 := P.cell_of (i := 4) HZ.out rfl
          have HC := hid (HTZ.out.map HKB.out pp fm rt)
          go_wp2_with fail
          refine HC.out.mono ?_
          rintro e w5 ⟨x, rfl, h5, hKp⟩
          have HZ5 := hid (hKp _ _ _ (by decide) (by decide) (by decide) (by decide) HZ.out)
          have HR5 := hid (hKp.row HRZ.out)
          have H5 := hid h5
          have HNB : Hid (nb ≤ w5.heap.size) := Nat.le_trans HZB.out (Nat.le_of_lt (lt_of_block HZ5.out))
          clear h5 hKp y0 y2 y3 y4 HC
          have y0 := P.cell_of (i := 0) HZ5.out rfl
          by_cases hx : x = 0
          · subst hx
            have H6 : Hid (En w d (k + 100) (i + 1) (L ++ [pp]) w5) := by have := H5.out; rw [if_pos rfl] at this; exact this
            clear H5
            have y2 := P.cell_of (i := 2) HZ5.out rfl
            have HCO := hid (cell_one w5 (.int .i64 pp) 3)
            have HCELL : Hid (∀ W, (w5.alloc (.cells #[.int .i64 pp] 3)).grownBy W u6.ownBlock → W.cell? ⟨z, 0, none⟩ = some (.int .i64 0)) := fun W hg => P.cell_of (i := 0) (grow_cell HR5.out HZ5.out (by decide) hg) rfl
            obtain ⟨hi3, hz0, hz1, hz2⟩ := HINF.out
            go_wp2_with (first | (at_builtin; refine wpList_append_own _ rfl _ _ 44 rfl nb 3 i0 (.int .i64 0) 1 8 Tryz.underlying44 hi3 hz0 hz1 hz2 rfl (by decide) _ _ _ rfl (HR5.out.alloc _) ⟨w5.heap.size, 0, none⟩ 1 1 [.int .i64 (pp)] rfl rfl HCO.out (by intro u hu; simp at hu; subst hu; rfl) (by have := HLL.out; unfold maxLen; omega) (by have := HLL.out; omega) (by simp; have := HNB.out; omega) ?_; intro v' w3 hown' hg3 hnil3; have y0' := HCELL.out _ hg3; go_frame) | go_in)
            have hb3 := grow_below HR5.out HNB.out hg3
            exact ⟨⟨i + 1, _, L ++ [pp], by first | rfl | rw [hwr], HIL.out.1, HIL.out.2.1, H6.out.belowN hb3 HLW.out.1 HLW.out.2.1, by rw [List.length_append, List.map_append]; exact hown', HIL.out.2.2, by rw [List.length_append]; exact HLL.out.2.2.1, Nat.le_trans HNB.out hb3.size⟩, by first | exact HMF.out | (rw [hwr]; exact HMF.out)⟩
          · have tx : (x == 0) = false := by simpa using hx
            have H6 : Hid (En w d (k + 100) (i + 1) L w5) := by have := H5.out; rw [if_neg hx] at this; exact this
            clear hx H5
            go_wp2
            exact ⟨⟨i + 1, _, L, by first | rfl | rw [hwr], HIL.out.1, HIL.out.2.1, H6.out, HR5.out, HIL.out.2.2, HLL.out.2.1, HNB.out⟩, by first | exact HMF.out | (rw [hwr]; exact HMF.out)⟩
        · have hq0 : (kd == 0) = false := by simpa using hk0
          by_cases hk1 : kd = 1
          · subst hk1
            have y2 := P.cell_of (i := 2) HZ.out rfl
            have y3 := P.cell_of (i := 3) HZ.out rfl
            have y4 := P.cell_of (i := 4) HZ.out rfl
            have HC := hid (HTZ.out.large HKB.out pp fm rt)
            clear hk0
            go_wp2_with fail
            refine HC.out.mono ?_
            rintro e w5 ⟨x, rfl, hxp, h5, hKp⟩
            have HZ5 := hid (hKp _ _ _ (by decide) (by decide) (by decide) (by decide) HZ.out)
            have HR5 := hid (hKp.row HRZ.out)
            have H5 := hid h5
            have HNB5 : Hid (nb ≤ w5.heap.size) := Nat.le_trans HZB.out (Nat.le_of_lt (lt_of_block HZ5.out))
            clear h5 hKp y0 y2 y3 y4 HC
            by_cases hx : x = 0
            · subst hx
              have H6 : Hid (En w d (k + 100) (i + 1) (L ++ blkL pp 16) w5) := by have := H5.out; rw [if_pos rfl] at this; exact this
              have HPP := hid (hxp rfl)
              have HRS : Hid (w5.ownsRow nb 3 1 u6 (L.length + 0) ((L ++ blkL pp 0).map (Value.int .i64))) := by rw [blkL_zero, List.append_nil]; exact HR5.out
              clear H5 hxp HR5
              go_wp2
              go_loopw [6, 9] (fun pv kv wx => ∃ j : Nat, kv = .int .i64 j ∧ j ≤ 16 ∧ En w d (k + 100) (i + 1) (L ++ blkL pp 16) wx ∧ wx.ownsRow nb 3 1 pv (L.length + j) ((L ++ blkL pp j).map (Value.int .i64)) ∧ wx.heap[z]? = some (.cells #[.int .i64 1, .int .i64 wh, .int .i64 pp, .int .i64 fm, .int .i64 rt] 27 (0, 0)) ∧ nb ≤ wx.heap.size) (fun _ kv _ => 16 - (intOf kv).toNat)
              case atStart => exact ⟨0, rfl, Nat.zero_le _, H6.out, HRS.out, HZ5.out, HNB5.out⟩
              case round =>
                obtain ⟨j, rfl, hj, hx6, hxr, hxz, hxn⟩ := hrel
                have HX6 := hid hx6
                have HXR := hid hxr
                have HXZ := hid hxz
                have HNB := hid hxn
                clear hx6 hxr hxz hxn H6 HRS HZ5 HNB5
                by_cases hj16 : j < 16
                · have hj1 : (j : Int) < 16 := by omega
                  have hwj : wrap64 ((j : Int) + 1) = ((j + 1 : Nat) : Int) := wr1 (Nat.lt_trans hj16 (by decide))
                  have epj := in_of HPP.out hj16
                  have HMJ : Hid (16 - (intOf (.int .i64 ((j : Int) + 1))).toNat < 16 - (intOf (.int .i64 (j : Int))).toNat) := m16 hj16
                  have HJL : Hid (j + 1 ≤ 16) := hj16
                  have y2 := P.cell_of (i := 2) HXZ.out rfl
                  have HCO := hid (cell_one wr (.int .i64 (pp + (j : Int))) 3)
                  have HCELL : Hid (∀ W, (wr.alloc (.cells #[.int .i64 (pp + (j : Int))] 3)).grownBy W u6.ownBlock → W.heap[z]? = some (.cells #[.int .i64 1, .int .i64 wh, .int .i64 pp, .int .i64 fm, .int .i64 rt] 27 (0, 0))) := fun W hg => grow_cell HXR.out HXZ.out (by decide) hg
                  obtain ⟨hi3, hz0, hz1, hz2⟩ := HINF.out
                  clear hj hj16
                  go_wp2_with (first | (at_builtin; refine wpList_append_own _ rfl _ _ 44 rfl nb 3 i0 (.int .i64 0) 1 8 Tryz.underlying44 hi3 hz0 hz1 hz2 rfl (by decide) _ _ _ rfl (HXR.out.alloc _) ⟨wr.heap.size, 0, none⟩ 1 1 [.int .i64 (pp + (j : Int))] rfl rfl HCO.out (by intro u hu; simp at hu; subst hu; rfl) (by have := HLL.out; have := HJL.out; unfold maxLen; omega) (by have := HLL.out; have := HJL.out; omega) (by simp; have := HNB.out; omega) ?_; intro v' w3 hown' hg3 hnil3; have y0' := HCELL.out _ hg3; go_frame) | go_in)
                  have hb3 := grow_below HXR.out HNB.out hg3
                  exact ⟨⟨j + 1, by first | rfl | rw [hwj], HJL.out, HX6.out.belowN hb3 HLW.out.1 HLW.out.2.1, by rw [blkL_succ, ← List.append_assoc, List.map_append]; exact hown', y0', Nat.le_trans HNB.out hb3.size⟩, by first | exact HMJ.out | (rw [hwj]; exact HMJ.out)⟩
                · have hj1 : ¬ (j : Int) < 16 := by omega
                  obtain rfl : j = 16 := by omega
                  have HXR' : Hid (wr.ownsRow nb 3 1 u6 (L ++ blkL pp 16).length ((L ++ blkL pp 16).map (Value.int .i64))) := by rw [List.length_append, blkL_len]; exact HXR.out
                  clear hj hj16 HXR
                  go_wp2
                  exact ⟨⟨i + 1, _, L ++ blkL pp 16, by first | rfl | rw [hwr], HIL.out.1, HIL.out.2.1, HX6.out, HXR'.out, HIL.out.2.2, by rw [List.length_append, blkL_len]; exact HLL.out.2.2.2, HNB.out⟩, by first | exact HMF.out | (rw [hwr]; exact HMF.out)⟩
            · have tx : (x == 0) = false := by simpa using hx
              have H6 : Hid (En w d (k + 100) (i + 1) L w5) := by have := H5.out; rw [if_neg hx] at this; exact this
              clear hx H5 hxp
              go_wp2
              exact ⟨⟨i + 1, _, L, by first | rfl | rw [hwr], HIL.out.1, HIL.out.2.1, H6.out, HR5.out, HIL.out.2.2, HLL.out.2.1, HNB5.out⟩, by first | exact HMF.out | (rw [hwr]; exact HMF.out)⟩
          · have hq1 : (kd == 1) = false := by simpa using hk1
            clear hk0 hk1
            go_wp2
            exact ⟨⟨i + 1, _, L, by first | rfl | rw [hwr], HIL.out.1, HIL.out.2.1, HTZ.out.mono (by omega) (Nat.le_succ _), HRZ.out, HIL.out.2.2, HLL.out.2.1, HNZ.out⟩, by first | exact HMF.out | (rw [hwr]; exact HMF.out)⟩
      · have hlt1 : (i : Int) < (n : Int) := by omega
        have hlt2 : ¬ (i : Int) < 20 := by omega
        have hk20 : k ≤ 4000 + 0 * 100 := by omega
        have hL320 : L.length ≤ 320 := by omega
        have HA := hid (hf.all hi)
        have HK0 := hid hk20
        have HL3 := hid hL320
        clear hf hin hk hLl hi hk20 hL320
        go_wp2_with fail
        refine HA.out.mono ?_
        rintro e w2 ⟨g, N, c', rfl, hN1, hN5, hEu, hB⟩
        have HEU := hid hEu
        have HN5 := hid (And.intro hN1 hN5)
        have hr2 := (Kp.of_below hB).row HROW.out
        obtain ⟨qq, cc, rfl, hpg⟩ := pg_of hr2
        have HPG := hid hpg
        obtain ⟨LN, hLN⟩ : ∃ LN, L.length = LN := ⟨_, rfl⟩
        have HLN := hid hLN
        rw [hLN]
        clear hEu hB hr2 hpg HROW HFr HA hN1 hN5 HNB hLN
        go_wp2
        go_loopw [11] (fun iv wx => ∃ (i2 k2 : Nat), iv = .int .i64 i2 ∧ i2 ≤ LN ∧ Eu w d k2 N (L.drop i2) wx ∧ Pg wx qq L ∧ k2 ≤ 4000 + i2 * 100) (fun iv _ => LN - (intOf iv).toNat)
        case atStart => exact ⟨0, k, rfl, Nat.zero_le _, HEU.out, HPG.out, HK0.out⟩
        case round =>
          obtain ⟨i2, k2, rfl, hi2, hE, hP, hk2⟩ := hrel
          have HE := hid hE
          have HP := hid hP
          clear HEU HPG HK0 hE
          by_cases hl2 : i2 < LN
          · have hl3 : (i2 : Int) < (LN : Int) := by omega
            have hlL : i2 < L.length := by have := HLN.out; omega
            have hL3 := HL3.out
            have hwi : wrap64 ((i2 : Int) + 1) = ((i2 + 1 : Nat) : Int) := wr1 (by have := HLN.out; omega)
            have HMI : Hid (LN - (intOf (.int .i64 ((i2 : Int) + 1))).toNat < LN - (intOf (.int .i64 (i2 : Int))).toNat) := mN hl2
            have HI2 : Hid (i2 + 1 ≤ LN ∧ k2 + 100 ≤ 4000 + (i2 + 1) * 100) := ⟨hl2, kU' hk2⟩
            have hE2 := HE.out
            rw [drop_one hlL] at hE2
            have HC := hid (hE2.unmap (kU hk2 (by have := HLN.out; omega)))
            obtain ⟨bb, cur, rfl, hbb, hcur⟩ := hP (by intro e; rw [e] at hlL; simp at hlL)
            have cc0 : wr.cell? ⟨bb, i2, none⟩ = some (.int .i64 (L.getD i2 0)) := P.cell_of hbb (hcur i2 hlL)
            generalize L.getD i2 0 = pgi at *
            clear hE2 hbb hcur hP hk2 hlL hL3 hi2 hl2 HE
            go_wp2_with fail
            refine HC.out.mono ?_
            rintro e w5 ⟨y, rfl, h5, hKp⟩
            have H5 := hid h5
            have HP5 := hid (HP.out.kp hKp)
            clear h5 hKp HC cc0 HP
            go_wp2
            exact ⟨⟨i2 + 1, _, by first | rfl | rw [hwi], HI2.out.1, H5.out, HP5.out, HI2.out.2⟩, by first | exact HMI.out | (rw [hwi]; exact HMI.out)⟩
          · have hl3 : ¬ (i2 : Int) < (LN : Int) := by omega
            obtain rfl : i2 = LN := by omega
            have hE2 := HE.out
            rw [← HLN.out, List.drop_length] at hE2
            have HA := hid (hE2.last.all)
            clear hE2 HE hP HP hi2 hk2 hl2
            go_wp2_with fail
            refine HA.out.mono ?_
            rintro e w3 ⟨g3, q3, rfl, hc3, hE3, -⟩
            have HEK : Hid (Ek w d N g3 w3) := ⟨hE3, hc3⟩
            clear hE3 hc3 HA
            go_upto_region 25 with fail
            refine e25 ?hQ HEK.out ?_
            case hQ => intro c a d v w h; exact h
            intro U116 U117 U118 U119 U120 U121 U122 U123 g4 off q4 w4 hE4 hz4
            have HEK4 := hid hE4
            have HZ4 := hid hz4
            clear hE4 hz4 HEK
            go_wp2
            go_loopw [16] (fun iv wx => ∃ j : Nat, iv = .int .i64 j ∧ j ≤ 16 ∧ Ek w d N g3 wx ∧ Zr wx g4 off) (fun iv _ => 16 - (intOf iv).toNat)
            case atStart => exact ⟨0, rfl, Nat.zero_le _, HEK4.out, HZ4.out⟩
            case round =>
              obtain ⟨j, rfl, hj, hE, hz⟩ := hrel
              have HE := hid hE
              have HZ := hid hz
              clear hE HEK4 HZ4
              by_cases hj16 : j < 16
              · have hj1 : (j : Int) < 16 := by omega
                have hwj : wrap64 ((j : Int) + 1) = ((j + 1 : Nat) : Int) := wr1 (Nat.lt_trans hj16 (by decide))
                have HMJ : Hid (16 - (intOf (.int .i64 ((j : Int) + 1))).toNat < 16 - (intOf (.int .i64 (j : Int))).toNat) := m16 hj16
                have HJL : Hid (j + 1 ≤ 16) := hj16
                have cz := hz.2 j hj16
                clear hz hj hj16
                go_wp2
                exact ⟨⟨j + 1, by first | rfl | rw [hwj], HJL.out, HE.out, HZ.out⟩, by first | exact HMJ.out | (rw [hwj]; exact HMJ.out)⟩
              · have hj1 : ¬ (j : Int) < 16 := by omega
                clear hz hj hj16
                go_upto_region 31 with fail
                refine e31 ?hQ HE.out HN5.out ?_
                case hQ => intro c a d v w h; exact h
                intro U135 U136 U137 U138 U139 U140 U141 U142 U143 U144 U145 U146 U147 U148 U149 U150 U151 U152 U153 U154 U155 U156 U157 U158 U159 U160 U161 U162 U163 U164 U165 U166 U167 U168 U169 U170 U171 w9 hE9
                have HB9 := hid hE9.1.bel
                clear hE9
                go_wp2
                go_ret
                exact ⟨rfl, HB9.out⟩
    · have hlt1 : ¬ (i : Int) < (n : Int) := by omega
      have hk20 : k ≤ 4000 + 0 * 100 := by omega
      have hL320 : L.length ≤ 320 := by omega
      have HA := hid (hf.all hi)
      have HK0 := hid hk20
      have HL3 := hid hL320
      clear hf hin hk hLl hi hk20 hL320
      go_wp2_with fail
      refine HA.out.mono ?_
      rintro e w2 ⟨g, N, c', rfl, hN1, hN5, hEu, hB⟩
      have HEU := hid hEu
      have HN5 := hid (And.intro hN1 hN5)
      have hr2 := (Kp.of_below hB).row HROW.out
      obtain ⟨qq, cc, rfl, hpg⟩ := pg_of hr2
      have HPG := hid hpg
      obtain ⟨LN, hLN⟩ : ∃ LN, L.length = LN := ⟨_, rfl⟩
      have HLN := hid hLN
      rw [hLN]
      clear hEu hB hr2 hpg HROW HFr HA hN1 hN5 HNB hLN
      go_wp2
      go_loopw [11] (fun iv wx => ∃ (i2 k2 : Nat), iv = .int .i64 i2 ∧ i2 ≤ LN ∧ Eu w d k2 N (L.drop i2) wx ∧ Pg wx qq L ∧ k2 ≤ 4000 + i2 * 100) (fun iv _ => LN - (intOf iv).toNat)
      case atStart => exact ⟨0, k, rfl, Nat.zero_le _, HEU.out, HPG.out, HK0.out⟩
      case round =>
        obtain ⟨i2, k2, rfl, hi2, hE, hP, hk2⟩ := hrel
        have HE := hid hE
        have HP := hid hP
        clear HEU HPG HK0 hE
        by_cases hl2 : i2 < LN
        · have hl3 : (i2 : Int) < (LN : Int) := by omega
          have hlL : i2 < L.length := by have := HLN.out; omega
          have hL3 := HL3.out
          have hwi : wrap64 ((i2 : Int) + 1) = ((i2 + 1 : Nat) : Int) := wr1 (by have := HLN.out; omega)
          have HMI : Hid (LN - (intOf (.int .i64 ((i2 : Int) + 1))).toNat < LN - (intOf (.int .i64 (i2 : Int))).toNat) := mN hl2
          have HI2 : Hid (i2 + 1 ≤ LN ∧ k2 + 100 ≤ 4000 + (i2 + 1) * 100) := ⟨hl2, kU' hk2⟩
          have hE2 := HE.out
          rw [drop_one hlL] at hE2
          have HC := hid (hE2.unmap (kU hk2 (by have := HLN.out; omega)))
          obtain ⟨bb, cur, rfl, hbb, hcur⟩ := hP (by intro e; rw [e] at hlL; simp at hlL)
          have cc0 : wr.cell? ⟨bb, i2, none⟩ = some (.int .i64 (L.getD i2 0)) := P.cell_of hbb (hcur i2 hlL)
          generalize L.getD i2 0 = pgi at *
          clear hE2 hbb hcur hP hk2 hlL hL3 hi2 hl2 HE
          go_wp2_with fail
          refine HC.out.mono ?_
          rintro e w5 ⟨y, rfl, h5, hKp⟩
          have H5 := hid h5
          have HP5 := hid (HP.out.kp hKp)
          clear h5 hKp HC cc0 HP
          go_wp2
          exact ⟨⟨i2 + 1, _, by first | rfl | rw [hwi], HI2.out.1, H5.out, HP5.out, HI2.out.2⟩, by first | exact HMI.out | (rw [hwi]; exact HMI.out)⟩
        · have hl3 : ¬ (i2 : Int) < (LN : Int) := by omega
          obtain rfl : i2 = LN := by omega
          have hE2 := HE.out
          rw [← HLN.out, List.drop_length] at hE2
          have HA := hid (hE2.last.all)
          clear hE2 HE hP HP hi2 hk2 hl2
          go_wp2_with fail
          refine HA.out.mono ?_
          rintro e w3 ⟨g3, q3, rfl, hc3, hE3, -⟩
          have HEK : Hid (Ek w d N g3 w3) := ⟨hE3, hc3⟩
          clear hE3 hc3 HA
          go_upto_region 25 with fail
          refine e25 ?hQ HEK.out ?_
          case hQ => intro c a d v w h; exact h
          intro U116 U117 U118 U119 U120 U121 U122 U123 g4 off q4 w4 hE4 hz4
          have HEK4 := hid hE4
          have HZ4 := hid hz4
          clear hE4 hz4 HEK
          go_wp2
          go_loopw [16] (fun iv wx => ∃ j : Nat, iv = .int .i64 j ∧ j ≤ 16 ∧ Ek w d N g3 wx ∧ Zr wx g4 off) (fun iv _ => 16 - (intOf iv).toNat)
          case atStart => exact ⟨0, rfl, Nat.zero_le _, HEK4.out, HZ4.out⟩
          case round =>
            obtain ⟨j, rfl, hj, hE, hz⟩ := hrel
            have HE := hid hE
            have HZ := hid hz
            clear hE HEK4 HZ4
            by_cases hj16 : j < 16
            · have hj1 : (j : Int) < 16 := by omega
              have hwj : wrap64 ((j : Int) + 1) = ((j + 1 : Nat) : Int) := wr1 (Nat.lt_trans hj16 (by decide))
              have HMJ : Hid (16 - (intOf (.int .i64 ((j : Int) + 1))).toNat < 16 - (intOf (.int .i64 (j : Int))).toNat) := m16 hj16
              have HJL : Hid (j + 1 ≤ 16) := hj16
              have cz := hz.2 j hj16
              clear hz hj hj16
              go_wp2
              exact ⟨⟨j + 1, by first | rfl | rw [hwj], HJL.out, HE.out, HZ.out⟩, by first | exact HMJ.out | (rw [hwj]; exact HMJ.out)⟩
            · have hj1 : ¬ (j : Int) < 16 := by omega
              clear hz hj hj16
              go_upto_region 31 with fail
              refine e31 ?hQ HE.out HN5.out ?_
              case hQ => intro c a d v w h; exact h
              intro U135 U136 U137 U138 U139 U140 U141 U142 U143 U144 U145 U146 U147 U148 U149 U150 U151 U152 U153 U154 U155 U156 U157 U158 U159 U160 U161 U162 U163 U164 U165 U166 U167 U168 U169 U170 U171 w9 hE9
              have HB9 := hid hE9.1.bel
              clear hE9
              go_wp2
              go_ret
              exact ⟨rfl, HB9.out⟩
end Go.Proofs.YtpfmmlbakbhklaaGreatDoor
