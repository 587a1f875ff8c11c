/- The walk of TicketOne: for every number and list the call returns true; nothing that lay before is changed. Condition: the list reads as such. -/
import Derived.Test.YtidgajjahpbbdaaY6
import Derived.Test.YtidgajjahpbbdaaL6
namespace Go.Proofs.Ytidgajjahpbbdaa
open Go.RowKit

set_option maxRecDepth 100000 in
set_option maxHeartbeats 2000000 in
theorem one_walk (y : Nat) (hy : y < 256) (pq : Option Addr) (pn pc : Nat) (z : Nat → Nat) (w : World) (hP : PL w pq pn z) :
    Calls Try.prog 4 #[.int .u8 y, .slice pq pn pc] w fun e w' => e = .returned (.bool true) ∧ Below w.heap.size w w' := by
  have HP := hid hP
  have hpm := hP.1
  unfold maxLen at hpm
  clear hP
  obtain ⟨c6, hc6⟩ : ∃ c : Nat, y % 6 = c := ⟨_, rfl⟩
  have hc6b : c6 < 6 := by omega
  have hy0 : (0 : Int) ≤ (y : Int) := by omega
  have hy1 : (y : Int) < 256 := by omega
  have htm : (y : Int).tmod 6 = (c6 : Int) := by rw [Int.tmod_eq_emod_of_nonneg (by omega)]; omega
  clear hc6
  go_enter Try.func4, Try.ntmps4
  go_wp2_with fail
  refine (new_yes 4 _ (by decide) (by decide)).mono ?_
  rintro e w1 ⟨rfl, hM1, hB1⟩
  have HM1 := hid hM1
  have HB1 := hid hB1
  have u1 := hM1.lt
  clear hM1 hB1
  go_wp2_with fail
  clear htm
  obtain ⟨k, hk⟩ : ∃ k : Nat, (k : Int) = 1 + (c6 : Int) := ⟨1 + c6, by simp⟩
  have hk0 : 0 < k := by omega
  have hk6 : k ≤ 6 := by omega
  rw [← hk]
  clear hk hc6b
  refine (start_at (w0 := w) (s := ⟨List.replicate 4 0, 0, 0⟩) 1 k HM1.out HB1.out (by omega) (by omega) (by decide) (by decide) (by omega)).mono ?_
  rintro e w2 ⟨v, G, f, rfl, hS, hf, _, _, _⟩
  have H0 := hid (Od.first hS hf)
  clear hS hf HM1 HB1 u1
  generalize w.heap.size + 1 = p at *
  obtain ⟨b, hb⟩ : ∃ b, w.heap.size = b := ⟨_, rfl⟩
  have H0' : Hid (Od w w2 p b 0 0 0 0 0 0 k G f v) := by rw [← hb]; exact H0
  clear H0 hb
  by_cases hp3 : 300 < pn
  · have hd : decide ((300 : Int) < (pn : Int)) = true := by simp; omega
    go_wp2_with fail
    refine (known_yes _).mono ?_
    rintro e w9 ⟨rfl, K⟩
    have HF := hid (bel_trans H0'.out.sy.bel K)
    clear K H0'
    go_wp2
    go_ret
    exact ⟨rfl, HF.out⟩
  · have hd : decide ((300 : Int) < (pn : Int)) = false := by simp; omega
    have hp300 : pn ≤ 300 := by omega
    clear hp3
    go_wp2
    clear hd
    have H00 := hid (Oo.first H0'.out)
    clear H0'
    go_loopw [10, 11] (fun u i wr => ∃ (j mo : Nat) (n s d l : Int) (f : Nat → Ho), j ≤ pn ∧ mo ≤ j ∧ i = .int .i64 j ∧ Oo w wr p b (10 * j) n s d l (mo : Int) k G f v mo u) (fun _ i _ => pn - (intOf i).toNat)
    case atStart => exact ⟨0, 0, _, _, _, _, _, Nat.zero_le _, Nat.le_refl _, rfl, H00.out⟩
    case round =>
      obtain ⟨j, mo, n, s, d, l, f1, hj, hmo, rfl, hO⟩ := hrel
      have HO := hid hO
      clear hO H00
      by_cases hlt : j < pn
      · obtain ⟨sq, sc, rfl, hsc, hscm, hsl⟩ := HO.out.od.sy.slice hk0
        obtain ⟨pb, po, rfl, hpb, hpc⟩ := HP.out.2.2 (by omega)
        have pc1 : wr.cell? ⟨pb, po + j, none⟩ = some (.int .u8 (z j : Int)) := (HO.out.od.sy.bel.cell (p := ⟨pb, po + j, none⟩) hpb).trans (hpc j hlt)
        have hz256 := HP.out.2.1 j
        clear hpc
        generalize z j = zj at pc1 hz256
        obtain ⟨i, hi⟩ : ∃ i, (zj / 4) % k = i := ⟨_, rfl⟩
        have hik : i < k := by rw [← hi]; exact Nat.mod_lt _ hk0
        have hi0 : (0 : Int) ≤ (i : Int) := Int.natCast_nonneg i
        have hik2 : (i : Int) < (k : Int) := Int.ofNat_lt.2 hik
        have hkz : ((k : Int) == 0) = false := beq_eq_false_iff_ne.2 (by omega)
        have hz0 : (0 : Int) ≤ (zj : Int) := Int.natCast_nonneg zj
        have hz1 : (zj : Int) < 256 := by omega
        have si := hsl i hik
        unfold ptr at si
        have hsq : sq < wr.heap.size := World.block_lt_of_cell? wr ⟨sq, i, none⟩ si
        have hdv : (zj : Int).tdiv 4 = ((zj / 4 : Nat) : Int) := by rw [Int.tdiv_eq_ediv_of_nonneg hz0]; simp
        have hd0 : (0 : Int) ≤ ((zj / 4 : Nat) : Int) := Int.natCast_nonneg _
        have hd1 : ((zj / 4 : Nat) : Int) < 64 := by omega
        have htm : ((zj / 4 : Nat) : Int).tmod (k : Int) = (i : Int) := by rw [Int.tmod_eq_emod_of_nonneg hd0, ← hi]; simp
        have hmv : (zj : Int).tmod 4 = ((zj % 4 : Nat) : Int) := by rw [Int.tmod_eq_emod_of_nonneg hz0]; simp
        clear hi
        generalize zj / 4 = zq at *
        have hz4 : zj % 4 < 4 := Nat.mod_lt _ (by decide)
        generalize zj % 4 = zr at *
        have HSL0 := hid hsl
        clear hsl
        obtain ⟨x1, hx1⟩ : ∃ x1, f1 i = x1 := ⟨_, rfl⟩
        have HX1 := hid hx1
        have HST := hid (state_at (HO.out.od.hs i hik).ho)
        rw [hx1] at HST
        clear hx1
        go_wp2_with fail
        refine HST.out.mono ?_
        rintro e wa ⟨rfl, mm, hm⟩
        have hBa : Below wr.heap.size wr wa := by rw [hm]; exact below_drewN (Below.refl _ _) mm
        have HOa := hid (HO.out.below hBa)
        have si := (hBa.cell (p := ⟨sq, i, none⟩) hsq).trans si
        have pc1 := (hBa.cell (p := ⟨pb, po + j, none⟩) (World.block_lt_of_cell? wr ⟨pb, po + j, none⟩ pc1)).trans pc1
        have hsq : sq < wa.heap.size := World.block_lt_of_cell? wa ⟨sq, i, none⟩ si
        have hpbl : pb < wa.heap.size := World.block_lt_of_cell? wa ⟨pb, po + j, none⟩ pc1
        clear hm hBa HST HO
        by_cases hr : zr = 0
        · subst hr
          go_wp2_with fail
          refine (leave_at (HOa.out.od.hs i hik).ho).mono ?_
          rintro e w7 ⟨rfl, hY⟩
          have H7 := hid (HOa.out.leave i hik hY)
          clear hY HOa si pc1 htm hmv hdv hkz
          have hnw : newly x1 (lvT x1) = false := by
            unfold newly; rw [(lvT_st x1).1]; cases hh : (x1.st == 2) <;> simp_all
          rw [HX1.out] at H7 ⊢
          generalize lvV x1 = b7
          generalize hx7 : lvT x1 = x7 at *
          have e7 : upd f1 i x7 i = x7 := upd_at _ _ _
          have E7 := hid e7
          clear e7
          generalize upd f1 i x7 = f7 at *
          have H7' := hid (H7.out.mono (Nat.le_succ _))
          clear H7 hx7
          have HNW : Hid (newly x1 x7 = true → x7.tk = (mo : Int)) := hid (fun h => by rw [hnw] at h; cases h)
          have H8 : Hid (Oo w w7 p b (10 * j + 1) n s d l (if newly x1 x7 = true then (mo : Int) + 1 else (mo : Int)) k G f7 (.slice (some ⟨sq, 0, none⟩) k sc) mo u10) := hid (by rw [hnw]; exact H7'.out)
          have HNF := hid hnw
          clear H7' hnw
          have HS7 := hid (state_at (H8.out.od.hs i hik).ho)
          rw [E7.out] at HS7
          obtain ⟨sq', sc', he8, _, _, hsl8⟩ := H8.out.od.sy.slice hk0
          obtain ⟨rfl, _, rfl⟩ : sq' = sq ∧ True ∧ sc' = sc := by simp at he8; exact ⟨he8.1.symm, trivial, he8.2.symm⟩
          have si := hsl8 i hik
          unfold ptr at si
          have hsq8 : sq' < w7.heap.size := World.block_lt_of_cell? w7 ⟨sq', i, none⟩ si
          clear he8 hsl8 HSL0
          go_wp2_with fail
          refine HS7.out.mono ?_
          rintro e w8 ⟨rfl, mm8, hm8⟩
          have H9 := hid (H8.out.below (by rw [hm8]; exact below_drewN (Below.refl _ _) mm8 : Below w7.heap.size w7 w8))
          clear hm8 H8 HS7 si hsq8 hi0 hik2 hsq HX1 E7
          obtain ⟨xad, xlv, xst, xtk⟩ := x1
          obtain ⟨yad, ylv, yst, ytk⟩ := x7
          simp only [] at *
          cases hnw : newly ⟨xad, xlv, xst, xtk⟩ ⟨yad, ylv, yst, ytk⟩
          · rw [hnw] at H9
            have H10 : Hid (Oo w w8 p b (10 * j + 1) n s d l (mo : Int) k G f7 (.slice (some ⟨sq', 0, none⟩) k sc') mo u10) := H9
            have hnb : (xst != 2) = false ∨ ((xst != 2) = true ∧ (yst == 2) = false) := by
              have : (xst != 2 && yst == 2) = false := hnw
              cases h : (xst != 2) <;> simp_all
            clear hnw H9 HNW
            rcases hnb with hnb | ⟨hnb, hnb2⟩
            ·
              go_wp2
              go_loopw [17, 18] (fun hc i wr => ∃ (a : Nat) (d : Int), a ≤ k ∧ i = .int .i64 a ∧ hc = .int .i64 (cntP pHolds f7 a : Nat) ∧ Oo w wr p b (10 * j + 1 + a) n s d l (mo : Int) k G f7 (.slice (some ⟨sq', 0, none⟩) k sc') mo u10) (fun _ i _ => k - (intOf i).toNat)
              case atStart => exact ⟨0, _, Nat.zero_le _, rfl, rfl, H10.out⟩
              case round =>
                obtain ⟨a, da, ha, rfl, rfl, hA⟩ := hrel
                have HA := hid hA
                clear hA H10
                by_cases hak : a < k
                · obtain ⟨sq2, sc2, he8, _, _, hsl8⟩ := HA.out.od.sy.slice hk0
                  obtain ⟨rfl, _, rfl⟩ : sq2 = sq' ∧ True ∧ sc2 = sc' := by simp at he8; exact ⟨he8.1.symm, trivial, he8.2.symm⟩
                  have sa := hsl8 a hak
                  unfold ptr at sa
                  have hsqr : sq2 < wr.heap.size := World.block_lt_of_cell? wr ⟨sq2, a, none⟩ sa
                  clear he8 hsl8
                  have ha0 : (0 : Int) ≤ (a : Int) := by omega
                  have ha1 : (a : Int) < (k : Int) := by omega
                  have hca := cntP_le pHolds f7 a
                  have hcs : cntP pHolds f7 (a + 1) = cntP pHolds f7 a + (if pHolds (f7 a) = true then 1 else 0) := rfl
                  have hht := HA.out.od.to.ti.h a hak
                  have HST := hid (state_at (HA.out.od.hs a hak).ho)
                  generalize cntP pHolds f7 a = cn at *
                  generalize f7 a = xa at *
                  obtain ⟨aad, alv, ast, atk⟩ := xa
                  simp only [] at hht HST
                  have hc0 : (0 : Int) ≤ (cn : Int) := Int.natCast_nonneg _
                  have hc1 : (cn : Int) ≤ 6 := by omega
                  go_wp2_with fail
                  refine HST.out.mono ?_
                  rintro e w10 ⟨rfl, mm2, hm2⟩
                  have HA2 := hid (HA.out.below (by rw [hm2]; exact below_drewN (Below.refl _ _) mm2 : Below wr.heap.size wr w10))
                  clear hm2 HST sa HA
                  go_wp2_with fail
                  refine (load_any HA2.out.od.sy.mem HA2.out.od.cnt (by unfold bnd; omega) 2).mono ?_
                  rintro e w11 ⟨rfl, hT⟩
                  rw [show loadV (s4 n s da l) 2 = s from rfl, show errV (s4 n s da l) 2 = 0 from rfl]
                  have HA3 := hid (HA2.out.load hk0 2 (by decide) (by decide) hT)
                  clear hT HA2
                  by_cases h2 : ast = 2
                  · have hts := hht h2
                    subst h2
                    subst hts
                    have HC1 : Hid (((cntP pHolds f7 (a + 1) : Nat) : Int) = cn + 1) := hid (by rw [hcs]; simp [pHolds])
                    have htt : (atk != atk) = false := by simp
                    clear hcs hht
                    go_wp2
                    go_roundw
                    case rel => exact ⟨a + 1, _, by omega, by go_num, by rw [HC1.out], HA3.out⟩
                    case measure => simp [intOf]; omega
                  · have h2b : (ast == 2) = false := beq_eq_false_iff_ne.2 h2
                    have HC1 : Hid (((cntP pHolds f7 (a + 1) : Nat) : Int) = cn) := hid (by rw [hcs]; simp [pHolds, h2])
                    clear hcs hht h2
                    go_wp2
                    go_roundw
                    case rel => exact ⟨a + 1, _, by omega, by go_num, by rw [HC1.out], HA3.out⟩
                    case measure => simp [intOf]; omega
                · have ea : a = k := by omega
                  subst ea
                  have h01 : cntP pHolds f7 a ≤ 1 := by
                    rcases HA.out.od.to.ti.one a (Nat.le_refl _) with h | h
                    · omega
                    · omega
                  generalize cntP pHolds f7 a = cn at *
                  have hc0 : (0 : Int) ≤ (cn : Int) := Int.natCast_nonneg _
                  have hcd : decide ((1 : Int) < (cn : Int)) = false := by simp; omega
                  go_wp2
                  go_roundw
                  case rel => exact ⟨j + 1, mo, _, _, _, _, _, by omega, by omega, by go_num, HA.out.mono (by omega)⟩
                  case measure => simp [intOf]; omega
            ·
              go_wp2
              go_loopw [17, 18] (fun hc i wr => ∃ (a : Nat) (d : Int), a ≤ k ∧ i = .int .i64 a ∧ hc = .int .i64 (cntP pHolds f7 a : Nat) ∧ Oo w wr p b (10 * j + 1 + a) n s d l (mo : Int) k G f7 (.slice (some ⟨sq', 0, none⟩) k sc') mo u10) (fun _ i _ => k - (intOf i).toNat)
              case atStart => exact ⟨0, _, Nat.zero_le _, rfl, rfl, H10.out⟩
              case round =>
                obtain ⟨a, da, ha, rfl, rfl, hA⟩ := hrel
                have HA := hid hA
                clear hA H10
                by_cases hak : a < k
                · obtain ⟨sq2, sc2, he8, _, _, hsl8⟩ := HA.out.od.sy.slice hk0
                  obtain ⟨rfl, _, rfl⟩ : sq2 = sq' ∧ True ∧ sc2 = sc' := by simp at he8; exact ⟨he8.1.symm, trivial, he8.2.symm⟩
                  have sa := hsl8 a hak
                  unfold ptr at sa
                  have hsqr : sq2 < wr.heap.size := World.block_lt_of_cell? wr ⟨sq2, a, none⟩ sa
                  clear he8 hsl8
                  have ha0 : (0 : Int) ≤ (a : Int) := by omega
                  have ha1 : (a : Int) < (k : Int) := by omega
                  have hca := cntP_le pHolds f7 a
                  have hcs : cntP pHolds f7 (a + 1) = cntP pHolds f7 a + (if pHolds (f7 a) = true then 1 else 0) := rfl
                  have hht := HA.out.od.to.ti.h a hak
                  have HST := hid (state_at (HA.out.od.hs a hak).ho)
                  generalize cntP pHolds f7 a = cn at *
                  generalize f7 a = xa at *
                  obtain ⟨aad, alv, ast, atk⟩ := xa
                  simp only [] at hht HST
                  have hc0 : (0 : Int) ≤ (cn : Int) := Int.natCast_nonneg _
                  have hc1 : (cn : Int) ≤ 6 := by omega
                  go_wp2_with fail
                  refine HST.out.mono ?_
                  rintro e w10 ⟨rfl, mm2, hm2⟩
                  have HA2 := hid (HA.out.below (by rw [hm2]; exact below_drewN (Below.refl _ _) mm2 : Below wr.heap.size wr w10))
                  clear hm2 HST sa HA
                  go_wp2_with fail
                  refine (load_any HA2.out.od.sy.mem HA2.out.od.cnt (by unfold bnd; omega) 2).mono ?_
                  rintro e w11 ⟨rfl, hT⟩
                  rw [show loadV (s4 n s da l) 2 = s from rfl, show errV (s4 n s da l) 2 = 0 from rfl]
                  have HA3 := hid (HA2.out.load hk0 2 (by decide) (by decide) hT)
                  clear hT HA2
                  by_cases h2 : ast = 2
                  · have hts := hht h2
                    subst h2
                    subst hts
                    have HC1 : Hid (((cntP pHolds f7 (a + 1) : Nat) : Int) = cn + 1) := hid (by rw [hcs]; simp [pHolds])
                    have htt : (atk != atk) = false := by simp
                    clear hcs hht
                    go_wp2
                    go_roundw
                    case rel => exact ⟨a + 1, _, by omega, by go_num, by rw [HC1.out], HA3.out⟩
                    case measure => simp [intOf]; omega
                  · have h2b : (ast == 2) = false := beq_eq_false_iff_ne.2 h2
                    have HC1 : Hid (((cntP pHolds f7 (a + 1) : Nat) : Int) = cn) := hid (by rw [hcs]; simp [pHolds, h2])
                    clear hcs hht h2
                    go_wp2
                    go_roundw
                    case rel => exact ⟨a + 1, _, by omega, by go_num, by rw [HC1.out], HA3.out⟩
                    case measure => simp [intOf]; omega
                · have ea : a = k := by omega
                  subst ea
                  have h01 : cntP pHolds f7 a ≤ 1 := by
                    rcases HA.out.od.to.ti.one a (Nat.le_refl _) with h | h
                    · omega
                    · omega
                  generalize cntP pHolds f7 a = cn at *
                  have hc0 : (0 : Int) ≤ (cn : Int) := Int.natCast_nonneg _
                  have hcd : decide ((1 : Int) < (cn : Int)) = false := by simp; omega
                  go_wp2
                  go_roundw
                  case rel => exact ⟨j + 1, mo, _, _, _, _, _, by omega, by omega, by go_num, HA.out.mono (by omega)⟩
                  case measure => simp [intOf]; omega
          · rw [HNF.out] at hnw; cases hnw
        · have hrz : (((zr : Nat) : Int) == 0) = false := beq_eq_false_iff_ne.2 (by omega)
          go_wp2_with fail
          refine (hstep_at (HOa.out.od.hs i hik) (HOa.out.od.to.ti.hok (by omega) i hik) HOa.out.od.cnt (by unfold bnd; omega)).mono ?_
          rintro e w7 ⟨rfl, hY⟩
          obtain ⟨n, s, d, l, h7, hnw⟩ := HOa.out.step (by omega) i hik hY
          rw [HX1.out] at h7 hnw ⊢
          generalize hx7 : hX _ x1 = x7 at *
          have e7 : upd f1 i x7 i = x7 := upd_at _ _ _
          have E7 := hid e7
          clear e7
          generalize upd f1 i x7 = f7 at *
          have H8 := hid h7
          have HNW := hid hnw
          clear h7 hnw hY HOa si pc1 htm hmv hdv hkz hrz hx7
          have HS7 := hid (state_at (H8.out.od.hs i hik).ho)
          rw [E7.out] at HS7
          obtain ⟨sq', sc', he8, _, _, hsl8⟩ := H8.out.od.sy.slice hk0
          obtain ⟨rfl, _, rfl⟩ : sq' = sq ∧ True ∧ sc' = sc := by simp at he8; exact ⟨he8.1.symm, trivial, he8.2.symm⟩
          have si := hsl8 i hik
          unfold ptr at si
          have hsq8 : sq' < w7.heap.size := World.block_lt_of_cell? w7 ⟨sq', i, none⟩ si
          clear he8 hsl8 HSL0
          go_wp2_with fail
          refine HS7.out.mono ?_
          rintro e w8 ⟨rfl, mm8, hm8⟩
          have H9 := hid (H8.out.below (by rw [hm8]; exact below_drewN (Below.refl _ _) mm8 : Below w7.heap.size w7 w8))
          clear hm8 H8 HS7 si hsq8 hi0 hik2 hsq HX1 E7
          obtain ⟨xad, xlv, xst, xtk⟩ := x1
          obtain ⟨yad, ylv, yst, ytk⟩ := x7
          simp only [] at *
          cases hnw : newly ⟨xad, xlv, xst, xtk⟩ ⟨yad, ylv, yst, ytk⟩
          · rw [hnw] at H9
            have H10 : Hid (Oo w w8 p b (10 * j + 1) n s d l (mo : Int) k G f7 (.slice (some ⟨sq', 0, none⟩) k sc') mo u10) := H9
            have hnb : (xst != 2) = false ∨ ((xst != 2) = true ∧ (yst == 2) = false) := by
              have : (xst != 2 && yst == 2) = false := hnw
              cases h : (xst != 2) <;> simp_all
            clear hnw H9 HNW
            rcases hnb with hnb | ⟨hnb, hnb2⟩
            ·
              go_wp2
              go_loopw [17, 18] (fun hc i wr => ∃ (a : Nat) (d : Int), a ≤ k ∧ i = .int .i64 a ∧ hc = .int .i64 (cntP pHolds f7 a : Nat) ∧ Oo w wr p b (10 * j + 1 + a) n s d l (mo : Int) k G f7 (.slice (some ⟨sq', 0, none⟩) k sc') mo u10) (fun _ i _ => k - (intOf i).toNat)
              case atStart => exact ⟨0, _, Nat.zero_le _, rfl, rfl, H10.out⟩
              case round =>
                obtain ⟨a, da, ha, rfl, rfl, hA⟩ := hrel
                have HA := hid hA
                clear hA H10
                by_cases hak : a < k
                · obtain ⟨sq2, sc2, he8, _, _, hsl8⟩ := HA.out.od.sy.slice hk0
                  obtain ⟨rfl, _, rfl⟩ : sq2 = sq' ∧ True ∧ sc2 = sc' := by simp at he8; exact ⟨he8.1.symm, trivial, he8.2.symm⟩
                  have sa := hsl8 a hak
                  unfold ptr at sa
                  have hsqr : sq2 < wr.heap.size := World.block_lt_of_cell? wr ⟨sq2, a, none⟩ sa
                  clear he8 hsl8
                  have ha0 : (0 : Int) ≤ (a : Int) := by omega
                  have ha1 : (a : Int) < (k : Int) := by omega
                  have hca := cntP_le pHolds f7 a
                  have hcs : cntP pHolds f7 (a + 1) = cntP pHolds f7 a + (if pHolds (f7 a) = true then 1 else 0) := rfl
                  have hht := HA.out.od.to.ti.h a hak
                  have HST := hid (state_at (HA.out.od.hs a hak).ho)
                  generalize cntP pHolds f7 a = cn at *
                  generalize f7 a = xa at *
                  obtain ⟨aad, alv, ast, atk⟩ := xa
                  simp only [] at hht HST
                  have hc0 : (0 : Int) ≤ (cn : Int) := Int.natCast_nonneg _
                  have hc1 : (cn : Int) ≤ 6 := by omega
                  go_wp2_with fail
                  refine HST.out.mono ?_
                  rintro e w10 ⟨rfl, mm2, hm2⟩
                  have HA2 := hid (HA.out.below (by rw [hm2]; exact below_drewN (Below.refl _ _) mm2 : Below wr.heap.size wr w10))
                  clear hm2 HST sa HA
                  go_wp2_with fail
                  refine (load_any HA2.out.od.sy.mem HA2.out.od.cnt (by unfold bnd; omega) 2).mono ?_
                  rintro e w11 ⟨rfl, hT⟩
                  rw [show loadV (s4 n s da l) 2 = s from rfl, show errV (s4 n s da l) 2 = 0 from rfl]
                  have HA3 := hid (HA2.out.load hk0 2 (by decide) (by decide) hT)
                  clear hT HA2
                  by_cases h2 : ast = 2
                  · have hts := hht h2
                    subst h2
                    subst hts
                    have HC1 : Hid (((cntP pHolds f7 (a + 1) : Nat) : Int) = cn + 1) := hid (by rw [hcs]; simp [pHolds])
                    have htt : (atk != atk) = false := by simp
                    clear hcs hht
                    go_wp2
                    go_roundw
                    case rel => exact ⟨a + 1, _, by omega, by go_num, by rw [HC1.out], HA3.out⟩
                    case measure => simp [intOf]; omega
                  · have h2b : (ast == 2) = false := beq_eq_false_iff_ne.2 h2
                    have HC1 : Hid (((cntP pHolds f7 (a + 1) : Nat) : Int) = cn) := hid (by rw [hcs]; simp [pHolds, h2])
                    clear hcs hht h2
                    go_wp2
                    go_roundw
                    case rel => exact ⟨a + 1, _, by omega, by go_num, by rw [HC1.out], HA3.out⟩
                    case measure => simp [intOf]; omega
                · have ea : a = k := by omega
                  subst ea
                  have h01 : cntP pHolds f7 a ≤ 1 := by
                    rcases HA.out.od.to.ti.one a (Nat.le_refl _) with h | h
                    · omega
                    · omega
                  generalize cntP pHolds f7 a = cn at *
                  have hc0 : (0 : Int) ≤ (cn : Int) := Int.natCast_nonneg _
                  have hcd : decide ((1 : Int) < (cn : Int)) = false := by simp; omega
                  go_wp2
                  go_roundw
                  case rel => exact ⟨j + 1, mo, _, _, _, _, _, by omega, by omega, by go_num, HA.out.mono (by omega)⟩
                  case measure => simp [intOf]; omega
            ·
              go_wp2
              go_loopw [17, 18] (fun hc i wr => ∃ (a : Nat) (d : Int), a ≤ k ∧ i = .int .i64 a ∧ hc = .int .i64 (cntP pHolds f7 a : Nat) ∧ Oo w wr p b (10 * j + 1 + a) n s d l (mo : Int) k G f7 (.slice (some ⟨sq', 0, none⟩) k sc') mo u10) (fun _ i _ => k - (intOf i).toNat)
              case atStart => exact ⟨0, _, Nat.zero_le _, rfl, rfl, H10.out⟩
              case round =>
                obtain ⟨a, da, ha, rfl, rfl, hA⟩ := hrel
                have HA := hid hA
                clear hA H10
                by_cases hak : a < k
                · obtain ⟨sq2, sc2, he8, _, _, hsl8⟩ := HA.out.od.sy.slice hk0
                  obtain ⟨rfl, _, rfl⟩ : sq2 = sq' ∧ True ∧ sc2 = sc' := by simp at he8; exact ⟨he8.1.symm, trivial, he8.2.symm⟩
                  have sa := hsl8 a hak
                  unfold ptr at sa
                  have hsqr : sq2 < wr.heap.size := World.block_lt_of_cell? wr ⟨sq2, a, none⟩ sa
                  clear he8 hsl8
                  have ha0 : (0 : Int) ≤ (a : Int) := by omega
                  have ha1 : (a : Int) < (k : Int) := by omega
                  have hca := cntP_le pHolds f7 a
                  have hcs : cntP pHolds f7 (a + 1) = cntP pHolds f7 a + (if pHolds (f7 a) = true then 1 else 0) := rfl
                  have hht := HA.out.od.to.ti.h a hak
                  have HST := hid (state_at (HA.out.od.hs a hak).ho)
                  generalize cntP pHolds f7 a = cn at *
                  generalize f7 a = xa at *
                  obtain ⟨aad, alv, ast, atk⟩ := xa
                  simp only [] at hht HST
                  have hc0 : (0 : Int) ≤ (cn : Int) := Int.natCast_nonneg _
                  have hc1 : (cn : Int) ≤ 6 := by omega
                  go_wp2_with fail
                  refine HST.out.mono ?_
                  rintro e w10 ⟨rfl, mm2, hm2⟩
                  have HA2 := hid (HA.out.below (by rw [hm2]; exact below_drewN (Below.refl _ _) mm2 : Below wr.heap.size wr w10))
                  clear hm2 HST sa HA
                  go_wp2_with fail
                  refine (load_any HA2.out.od.sy.mem HA2.out.od.cnt (by unfold bnd; omega) 2).mono ?_
                  rintro e w11 ⟨rfl, hT⟩
                  rw [show loadV (s4 n s da l) 2 = s from rfl, show errV (s4 n s da l) 2 = 0 from rfl]
                  have HA3 := hid (HA2.out.load hk0 2 (by decide) (by decide) hT)
                  clear hT HA2
                  by_cases h2 : ast = 2
                  · have hts := hht h2
                    subst h2
                    subst hts
                    have HC1 : Hid (((cntP pHolds f7 (a + 1) : Nat) : Int) = cn + 1) := hid (by rw [hcs]; simp [pHolds])
                    have htt : (atk != atk) = false := by simp
                    clear hcs hht
                    go_wp2
                    go_roundw
                    case rel => exact ⟨a + 1, _, by omega, by go_num, by rw [HC1.out], HA3.out⟩
                    case measure => simp [intOf]; omega
                  · have h2b : (ast == 2) = false := beq_eq_false_iff_ne.2 h2
                    have HC1 : Hid (((cntP pHolds f7 (a + 1) : Nat) : Int) = cn) := hid (by rw [hcs]; simp [pHolds, h2])
                    clear hcs hht h2
                    go_wp2
                    go_roundw
                    case rel => exact ⟨a + 1, _, by omega, by go_num, by rw [HC1.out], HA3.out⟩
                    case measure => simp [intOf]; omega
                · have ea : a = k := by omega
                  subst ea
                  have h01 : cntP pHolds f7 a ≤ 1 := by
                    rcases HA.out.od.to.ti.one a (Nat.le_refl _) with h | h
                    · omega
                    · omega
                  generalize cntP pHolds f7 a = cn at *
                  have hc0 : (0 : Int) ≤ (cn : Int) := Int.natCast_nonneg _
                  have hcd : decide ((1 : Int) < (cn : Int)) = false := by simp; omega
                  go_wp2
                  go_roundw
                  case rel => exact ⟨j + 1, mo, _, _, _, _, _, by omega, by omega, by go_num, HA.out.mono (by omega)⟩
                  case measure => simp [intOf]; omega
          · have hnb : (xst != 2 && yst == 2) = true := hnw
            have hnb1 : (xst != 2) = true := by cases h : (xst != 2) <;> simp_all
            have hnb2 : yst = 2 := by cases h : (yst == 2) <;> simp_all
            have htk : ytk = (mo : Int) := HNW.out hnw
            rw [hnw] at H9
            subst hnb2
            subst htk
            obtain ⟨i36, hi36, hz0', hz1', hz2'⟩ := info36'
            have hzz : (Value.int .u64 0).cells.size = 1 := rfl
            clear hnw hnb HNW
            obtain ⟨oq, oc, rfl, hol⟩ := own_len H9.out.ord
            go_wp2_with (at_builtin; (refine wpList_append_own_at _ rfl _ _ 48 rfl w.heap.size 36 i36 (.int .u64 0) 1 8 Try.underlying48 hi36 hz0' hz1' hz2' hzz (by decide) _ mo (ups mo) rfl ?o0 ⟨w8.heap.size, 0, none⟩ 1 _ [.int .u64 (mo : Int)] rfl ?c0 ?c1 ?c2 ?c3 ?c4 ?c5 ?_))
            case o0 => exact (H9.out.below (below_alloc _ _)).ord
            (try case c0 => rfl)
            (try case c1 => exact cell_one_new _ _ _)
            case c2 => first | exact one_int _ | rfl
            case c3 => unfold maxLen; omega
            case c4 => omega
            case c5 => have := H9.out.od.sy.bel.size; first | omega | (simp; omega)
            intro u10 w9 hown hgrow hnil hat
            have H10 : Hid (Oo w w9 p b (10 * j + 1) n s d l ((mo + 1 : Nat) : Int) k G f7 (.slice (some ⟨sq', 0, none⟩) k sc') (mo + 1) u10) := hid (H9.out.push (below_alloc w8 (.cells #[.int .u64 (mo : Int)] 36)) hown hgrow (hat.imp id (fun h => h.trans (by simp))))
            clear hown hgrow hnil hat hi36 hz0' hz1' hz2' hzz H9
            have hmo1 : mo + 1 ≤ j + 1 := by omega
            generalize mo + 1 = mo at *
            go_wp2
            go_loopw [17, 18] (fun hc i wr => ∃ (a : Nat) (d : Int), a ≤ k ∧ i = .int .i64 a ∧ hc = .int .i64 (cntP pHolds f7 a : Nat) ∧ Oo w wr p b (10 * j + 1 + a) n s d l (mo : Int) k G f7 (.slice (some ⟨sq', 0, none⟩) k sc') mo u10) (fun _ i _ => k - (intOf i).toNat)
            case atStart => exact ⟨0, _, Nat.zero_le _, rfl, rfl, H10.out⟩
            case round =>
              obtain ⟨a, da, ha, rfl, rfl, hA⟩ := hrel
              have HA := hid hA
              clear hA H10
              by_cases hak : a < k
              · obtain ⟨sq2, sc2, he8, _, _, hsl8⟩ := HA.out.od.sy.slice hk0
                obtain ⟨rfl, _, rfl⟩ : sq2 = sq' ∧ True ∧ sc2 = sc' := by simp at he8; exact ⟨he8.1.symm, trivial, he8.2.symm⟩
                have sa := hsl8 a hak
                unfold ptr at sa
                have hsqr : sq2 < wr.heap.size := World.block_lt_of_cell? wr ⟨sq2, a, none⟩ sa
                clear he8 hsl8
                have ha0 : (0 : Int) ≤ (a : Int) := by omega
                have ha1 : (a : Int) < (k : Int) := by omega
                have hca := cntP_le pHolds f7 a
                have hcs : cntP pHolds f7 (a + 1) = cntP pHolds f7 a + (if pHolds (f7 a) = true then 1 else 0) := rfl
                have hht := HA.out.od.to.ti.h a hak
                have HST := hid (state_at (HA.out.od.hs a hak).ho)
                generalize cntP pHolds f7 a = cn at *
                generalize f7 a = xa at *
                obtain ⟨aad, alv, ast, atk⟩ := xa
                simp only [] at hht HST
                have hc0 : (0 : Int) ≤ (cn : Int) := Int.natCast_nonneg _
                have hc1 : (cn : Int) ≤ 6 := by omega
                go_wp2_with fail
                refine HST.out.mono ?_
                rintro e w10 ⟨rfl, mm2, hm2⟩
                have HA2 := hid (HA.out.below (by rw [hm2]; exact below_drewN (Below.refl _ _) mm2 : Below wr.heap.size wr w10))
                clear hm2 HST sa HA
                go_wp2_with fail
                refine (load_any HA2.out.od.sy.mem HA2.out.od.cnt (by unfold bnd; omega) 2).mono ?_
                rintro e w11 ⟨rfl, hT⟩
                rw [show loadV (s4 n s da l) 2 = s from rfl, show errV (s4 n s da l) 2 = 0 from rfl]
                have HA3 := hid (HA2.out.load hk0 2 (by decide) (by decide) hT)
                clear hT HA2
                by_cases h2 : ast = 2
                · have hts := hht h2
                  subst h2
                  subst hts
                  have HC1 : Hid (((cntP pHolds f7 (a + 1) : Nat) : Int) = cn + 1) := hid (by rw [hcs]; simp [pHolds])
                  have htt : (atk != atk) = false := by simp
                  clear hcs hht
                  go_wp2
                  go_roundw
                  case rel => exact ⟨a + 1, _, by omega, by go_num, by rw [HC1.out], HA3.out⟩
                  case measure => simp [intOf]; omega
                · have h2b : (ast == 2) = false := beq_eq_false_iff_ne.2 h2
                  have HC1 : Hid (((cntP pHolds f7 (a + 1) : Nat) : Int) = cn) := hid (by rw [hcs]; simp [pHolds, h2])
                  clear hcs hht h2
                  go_wp2
                  go_roundw
                  case rel => exact ⟨a + 1, _, by omega, by go_num, by rw [HC1.out], HA3.out⟩
                  case measure => simp [intOf]; omega
              · have ea : a = k := by omega
                subst ea
                have h01 : cntP pHolds f7 a ≤ 1 := by
                  rcases HA.out.od.to.ti.one a (Nat.le_refl _) with h | h
                  · omega
                  · omega
                generalize cntP pHolds f7 a = cn at *
                have hc0 : (0 : Int) ≤ (cn : Int) := Int.natCast_nonneg _
                have hcd : decide ((1 : Int) < (cn : Int)) = false := by simp; omega
                go_wp2
                go_roundw
                case rel => exact ⟨j + 1, mo, _, _, _, _, _, by omega, by omega, by go_num, HA.out.mono (by omega)⟩
                case measure => simp [intOf]; omega
      · have hjl : decide ((j : Int) < (pn : Int)) = false := by simp; omega
        obtain ⟨oq, oc, rfl, hol⟩ := own_len HO.out.ord
        go_wp2
        go_loopw [23] (fun i wr2 => ∃ a : Nat, a ≤ mo ∧ i = .int .i64 a ∧ wr2 = wr) (fun i _ => mo - (intOf i).toNat)
        case atStart => exact ⟨0, Nat.zero_le _, rfl, rfl⟩
        case round =>
          rename World => we
          obtain ⟨a, ha, rfl, hwr⟩ := hrel
          subst hwr
          by_cases ham : a < mo
          · obtain ⟨q2, c2, he, hc⟩ := own_cells HO.out.ord (by omega)
            obtain ⟨rfl, _, rfl⟩ : oq = some ⟨q2, 0, none⟩ ∧ True ∧ c2 = oc := by simp at he; exact ⟨he.1, trivial, he.2.symm⟩
            have ca := (hc a ham).trans (ups_at ham)
            have hql := World.block_lt_of_cell? _ ⟨q2, a, none⟩ ca
            clear he hc
            have ha0 : (0 : Int) ≤ (a : Int) := by omega
            have ha1 : (a : Int) < (mo : Int) := by omega
            have haa : ((a : Int) != (a : Int)) = false := by simp
            go_wp2
            go_roundw
            case rel => exact ⟨a + 1, by omega, by go_num, trivial⟩
            case measure => simp [intOf]; omega
          · have hal : decide ((a : Int) < (mo : Int)) = false := by simp; omega
            go_wp2_with fail
            refine (known_yes _).mono ?_
            rintro e w9 ⟨rfl, K⟩
            have HF := hid (bel_trans HO.out.od.sy.bel K)
            clear K HO
            go_wp2
            go_ret
            exact ⟨rfl, HF.out⟩
end Go.Proofs.Ytidgajjahpbbdaa
