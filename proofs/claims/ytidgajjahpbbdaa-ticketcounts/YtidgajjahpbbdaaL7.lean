/- The walk of TicketCounts: for every number and list the call returns true; nothing that lay before is changed. Condition: the list reads as such. -/
import Derived.Test.YtidgajjahpbbdaaY5
import Derived.Test.YtidgajjahpbbdaaL6
namespace Go.Proofs.Ytidgajjahpbbdaa
open Go.RowKit

set_option maxRecDepth 100000 in
set_option maxHeartbeats 2000000 in
theorem counts_walk (y : Nat) (hy : y < 256) (pq : Option Addr) (pn pc : Nat) (z : Nat → Nat) (w : World) (hP : PL w pq pn z) :
    Calls Try.prog 7 #[.int .u8 y, .slice pq pn pc] w fun e w' => e = .returned (.bool true) ∧ Below w.heap.size w w' := by
  have HP := hid hP
  have hpm := hP.1
  unfold maxLen at hpm
  clear hP
  obtain ⟨c6, hc6⟩ : ∃ c : Nat, y % 6 = c := ⟨_, rfl⟩
  have hc6b : c6 < 6 := by omega
  have hy0 : (0 : Int) ≤ (y : Int) := by omega
  have hy1 : (y : Int) < 256 := by omega
  have htm : (y : Int).tmod 6 = (c6 : Int) := by rw [Int.tmod_eq_emod_of_nonneg (by omega)]; omega
  clear hc6
  go_enter Try.func7, Try.ntmps7
  go_wp2_with fail
  refine (new_yes 4 _ (by decide) (by decide)).mono ?_
  rintro e w1 ⟨rfl, hM1, hB1⟩
  have HM1 := hid hM1
  have HB1 := hid hB1
  have u1 := hM1.lt
  clear hM1 hB1
  go_wp2_with fail
  clear htm
  obtain ⟨k, hk⟩ : ∃ k : Nat, (k : Int) = 1 + (c6 : Int) := ⟨1 + c6, by simp⟩
  have hk0 : 0 < k := by omega
  have hk6 : k ≤ 6 := by omega
  rw [← hk]
  clear hk hc6b
  refine (start_at (w0 := w) (s := ⟨List.replicate 4 0, 0, 0⟩) 1 k HM1.out HB1.out (by omega) (by omega) (by decide) (by decide) (by omega)).mono ?_
  rintro e w2 ⟨v, G, f, rfl, hS, hf, _, _, _⟩
  have H0 := hid (Od.first hS hf)
  clear hS hf HM1 HB1 u1
  generalize w.heap.size + 1 = p at *
  obtain ⟨b, hb⟩ : ∃ b, w.heap.size = b := ⟨_, rfl⟩
  have H0' : Hid (Od w w2 p b 0 0 0 0 0 0 k G f v) := by rw [← hb]; exact H0
  clear H0
  by_cases hp3 : 300 < pn
  · have hd : decide ((300 : Int) < (pn : Int)) = true := by simp; omega
    go_wp2_with fail
    refine (known_yes _).mono ?_
    rintro e w9 ⟨rfl, K⟩
    have HF := hid (bel_trans H0'.out.sy.bel K)
    clear K H0'
    go_wp2
    go_ret
    exact ⟨rfl, HF.out⟩
  · have hd : decide ((300 : Int) < (pn : Int)) = false := by simp; omega
    have hp300 : pn ≤ 300 := by omega
    clear hp3
    go_wp2
    clear hd
    go_loopw [10] (fun i wr => ∃ (j : Nat) (n s d l m : Int) (f : Nat → Ho), j ≤ pn ∧ i = .int .i64 j ∧ Od w wr p b (3 * j) n s d l m k G f v) (fun i _ => pn - (intOf i).toNat)
    case atStart => exact ⟨0, _, _, _, _, _, _, Nat.zero_le _, rfl, H0'.out⟩
    case round =>
      obtain ⟨j, n, s, d, l, m, f1, hj, rfl, hO⟩ := hrel
      have HO := hid hO
      clear hO H0'
      by_cases hlt : j < pn
      · obtain ⟨sq, sc, rfl, hsc, hscm, hsl⟩ := HO.out.sy.slice hk0
        obtain ⟨pb, po, rfl, hpb, hpc⟩ := HP.out.2.2 (by omega)
        have pc1 : wr.cell? ⟨pb, po + j, none⟩ = some (.int .u8 (z j : Int)) := (HO.out.sy.bel.cell (p := ⟨pb, po + j, none⟩) hpb).trans (hpc j hlt)
        have hz256 := HP.out.2.1 j
        clear hpc
        generalize z j = zj at pc1 hz256
        obtain ⟨i, hi⟩ : ∃ i, (zj / 4) % k = i := ⟨_, rfl⟩
        have hik : i < k := by rw [← hi]; exact Nat.mod_lt _ hk0
        have hi0 : (0 : Int) ≤ (i : Int) := Int.natCast_nonneg i
        have hik2 : (i : Int) < (k : Int) := Int.ofNat_lt.2 hik
        have hkz : ((k : Int) == 0) = false := beq_eq_false_iff_ne.2 (by omega)
        have hz0 : (0 : Int) ≤ (zj : Int) := Int.natCast_nonneg zj
        have hz1 : (zj : Int) < 256 := by omega
        have si := hsl i hik
        unfold ptr at si
        have hsq : sq < wr.heap.size := World.block_lt_of_cell? wr ⟨sq, i, none⟩ si
        have hdv : (zj : Int).tdiv 4 = ((zj / 4 : Nat) : Int) := by rw [Int.tdiv_eq_ediv_of_nonneg hz0]; simp
        have hd0 : (0 : Int) ≤ ((zj / 4 : Nat) : Int) := Int.natCast_nonneg _
        have hd1 : ((zj / 4 : Nat) : Int) < 64 := by omega
        have htm : ((zj / 4 : Nat) : Int).tmod (k : Int) = (i : Int) := by rw [Int.tmod_eq_emod_of_nonneg hd0, ← hi]; simp
        have hmv : (zj : Int).tmod 4 = ((zj % 4 : Nat) : Int) := by rw [Int.tmod_eq_emod_of_nonneg hz0]; simp
        clear hi
        generalize zj / 4 = zq at *
        have hz4 : zj % 4 < 4 := Nat.mod_lt _ (by decide)
        generalize zj % 4 = zr at *
        by_cases hr : zr = 0
        · subst hr
          go_wp2_with fail
          refine (leave_at (HO.out.hs i hik).ho).mono ?_
          rintro e w7 ⟨rfl, hY⟩
          have H7 := hid (HO.out.leave i hik hY)
          clear hY HO hsl si pc1 htm hmv hdv hkz
          generalize upd f1 i (lvT (f1 i)) = f7 at H7
          generalize lvV (f1 i) = b7
          have H7' := hid (H7.out.mono (Nat.le_succ _))
          clear H7
          go_wp2_with fail
          refine (load_any H7'.out.sy.mem H7'.out.cnt (by unfold bnd; omega) 2).mono ?_
          rintro e w8 ⟨rfl, hT8⟩
          rw [show loadV (s4 n s d l) 2 = s from rfl, show errV (s4 n s d l) 2 = 0 from rfl]
          have H8 := hid (H7'.out.load 2 (by decide) (by decide) hT8)
          clear hT8 H7'
          generalize d + 1 = d8 at H8
          obtain ⟨sq', sc', he8, _, _, hsl8⟩ := H8.out.sy.slice hk0
          obtain ⟨rfl, _, rfl⟩ : sq' = sq ∧ True ∧ sc' = sc := by simp at he8; exact ⟨he8.1.symm, trivial, he8.2.symm⟩
          have HSL := hid hsl8
          have hsq8 : sq' < w8.heap.size := World.block_lt_of_cell? w8 ⟨sq', i, none⟩ (hsl8 i hik)
          clear he8 hsl8 hi0 hik2 hsq
          have hs0 := H8.out.to.ti.s0
          have hsn := H8.out.to.ti.sn
          have hnk := H8.out.to.ti.nk
          go_wp2
          go_loopw [12, 13, 16] (fun hc lc i wr => ∃ a : Nat, a ≤ k ∧ i = .int .i64 a ∧ hc = .int .i64 (cntP pHas f7 a : Nat) ∧ lc = .int .i64 (cntP pGone f7 a : Nat) ∧ Below w8.heap.size w8 wr) (fun _ _ i _ => k - (intOf i).toNat)
          case atStart => exact ⟨0, Nat.zero_le _, rfl, rfl, rfl, Below.refl _ _⟩
          case round =>
            obtain ⟨a, ha, rfl, rfl, rfl, hB⟩ := hrel
            have H9 := hid (H8.out.below hB)
            have HB9 := hid hB
            clear hB
            by_cases hak : a < k
            · have sa := (HB9.out.cell (p := ⟨sq', a, none⟩) hsq8).trans (HSL.out a hak)
              unfold ptr at sa
              have hsqr : sq' < wr.heap.size := World.block_lt_of_cell? wr ⟨sq', a, none⟩ sa
              have ha0 : (0 : Int) ≤ (a : Int) := by omega
              have ha1 : (a : Int) < (k : Int) := by omega
              have hca := cntP_le pHas f7 a
              have hcb := cntP_le pGone f7 a
              have hcs : cntP pHas f7 (a + 1) = cntP pHas f7 a + (if pHas (f7 a) = true then 1 else 0) := rfl
              have hct : cntP pGone f7 (a + 1) = cntP pGone f7 a + (if pGone (f7 a) = true then 1 else 0) := rfl
              have hst := H9.out.to.ti.st a hak
              have hwt := H9.out.to.ti.w a hak
              have HST := hid (state_at (H9.out.hs a hak).ho)
              generalize cntP pHas f7 a = cn at *
              generalize cntP pGone f7 a = cg at *
              generalize f7 a = xa at *
              obtain ⟨xad, xlv, xst, xtk⟩ := xa
              simp only [] at hst hwt HST
              have hc0 : (0 : Int) ≤ (cn : Int) := Int.natCast_nonneg _
              have hc1 : (cn : Int) ≤ 6 := by omega
              have hg0 : (0 : Int) ≤ (cg : Int) := Int.natCast_nonneg _
              have hg1 : (cg : Int) ≤ 6 := by omega
              have h4 : xst = 0 ∨ xst = 1 ∨ xst = 2 ∨ xst = 3 := by omega
              clear hst
              go_wp2_with fail
              refine HST.out.mono ?_
              rintro e w10 ⟨rfl, mm, hm⟩
              have HB10 : Hid (Below w8.heap.size w8 w10) := hid (bel_trans HB9.out (by rw [hm]; exact below_drewN (Below.refl _ _) mm))
              clear hm HST sa
              rcases h4 with rfl | rfl | rfl | rfl
              · have HC1 : Hid (((cntP pHas f7 (a + 1) : Nat) : Int) = cn) := hid (by rw [hcs]; simp [pHas])
                have HC2 : Hid (((cntP pGone f7 (a + 1) : Nat) : Int) = cg) := hid (by rw [hct]; simp [pGone])
                clear hcs hct hwt
                go_wp2
                go_roundw
                case rel => exact ⟨a + 1, by omega, by go_num, by rw [HC1.out], by rw [HC2.out], HB10.out⟩
                case measure => simp [intOf]; omega
              · have HC1 : Hid (((cntP pHas f7 (a + 1) : Nat) : Int) = cn + 1) := hid (by rw [hcs]; simp [pHas])
                have HC2 : Hid (((cntP pGone f7 (a + 1) : Nat) : Int) = cg) := hid (by rw [hct]; simp [pGone])
                have hts : decide (xtk < s) = false := by have := hwt rfl; simp; omega
                clear hcs hct hwt
                go_wp2
                go_roundw
                case rel => exact ⟨a + 1, by omega, by go_num, by rw [HC1.out], by rw [HC2.out], HB10.out⟩
                case measure => simp [intOf]; omega
              · have HC1 : Hid (((cntP pHas f7 (a + 1) : Nat) : Int) = cn + 1) := hid (by rw [hcs]; simp [pHas])
                have HC2 : Hid (((cntP pGone f7 (a + 1) : Nat) : Int) = cg) := hid (by rw [hct]; simp [pGone])
                clear hcs hct hwt
                go_wp2
                go_roundw
                case rel => exact ⟨a + 1, by omega, by go_num, by rw [HC1.out], by rw [HC2.out], HB10.out⟩
                case measure => simp [intOf]; omega
              · have HC1 : Hid (((cntP pHas f7 (a + 1) : Nat) : Int) = cn + 1) := hid (by rw [hcs]; simp [pHas])
                have HC2 : Hid (((cntP pGone f7 (a + 1) : Nat) : Int) = cg + 1) := hid (by rw [hct]; simp [pGone])
                clear hcs hct hwt
                go_wp2
                go_roundw
                case rel => exact ⟨a + 1, by omega, by go_num, by rw [HC1.out], by rw [HC2.out], HB10.out⟩
                case measure => simp [intOf]; omega
            · have ea : a = k := by omega
              subst ea
              rw [← H9.out.to.ti.cn, ← H9.out.to.ti.cs]
              go_wp2_with fail
              refine (load_any H9.out.sy.mem H9.out.cnt (by unfold bnd; omega) 1).mono ?_
              rintro e w11 ⟨rfl, hT11⟩
              rw [show loadV (s4 n s d8 l) 1 = n from rfl, show errV (s4 n s d8 l) 1 = 0 from rfl]
              have H11 := hid (H9.out.load 1 (by decide) (by decide) hT11)
              clear hT11 H9 H8
              have hnn : (n != n) = false := by simp
              have hss : (s != s) = false := by simp
              go_wp2
              go_roundw
              case rel => exact ⟨j + 1, _, _, _, _, _, _, by omega, by go_num, H11.out.mono (by omega)⟩
              case measure => simp [intOf]; omega
        · have hrz : (((zr : Nat) : Int) == 0) = false := beq_eq_false_iff_ne.2 (by omega)
          go_wp2_with fail
          refine (hstep_at (HO.out.hs i hik) (HO.out.to.ti.hok (by omega) i hik) HO.out.cnt (by unfold bnd; omega)).mono ?_
          rintro e w7 ⟨rfl, hY⟩
          obtain ⟨n, s, d, l, h7, _⟩ := HO.out.step (by omega) i hik hY
          have H7' := hid h7
          clear h7 hY HO hsl si pc1 htm hmv hdv hkz hrz
          generalize (if newly _ _ = true then m + 1 else m) = m at H7'
          generalize (hX _ (f1 i)).st = b7 at *
          generalize upd f1 i _ = f7 at H7'
          go_wp2_with fail
          refine (load_any H7'.out.sy.mem H7'.out.cnt (by unfold bnd; omega) 2).mono ?_
          rintro e w8 ⟨rfl, hT8⟩
          rw [show loadV (s4 n s d l) 2 = s from rfl, show errV (s4 n s d l) 2 = 0 from rfl]
          have H8 := hid (H7'.out.load 2 (by decide) (by decide) hT8)
          clear hT8 H7'
          generalize d + 1 = d8 at H8
          obtain ⟨sq', sc', he8, _, _, hsl8⟩ := H8.out.sy.slice hk0
          obtain ⟨rfl, _, rfl⟩ : sq' = sq ∧ True ∧ sc' = sc := by simp at he8; exact ⟨he8.1.symm, trivial, he8.2.symm⟩
          have HSL := hid hsl8
          have hsq8 : sq' < w8.heap.size := World.block_lt_of_cell? w8 ⟨sq', i, none⟩ (hsl8 i hik)
          clear he8 hsl8 hi0 hik2 hsq
          have hs0 := H8.out.to.ti.s0
          have hsn := H8.out.to.ti.sn
          have hnk := H8.out.to.ti.nk
          go_wp2
          go_loopw [12, 13, 16] (fun hc lc i wr => ∃ a : Nat, a ≤ k ∧ i = .int .i64 a ∧ hc = .int .i64 (cntP pHas f7 a : Nat) ∧ lc = .int .i64 (cntP pGone f7 a : Nat) ∧ Below w8.heap.size w8 wr) (fun _ _ i _ => k - (intOf i).toNat)
          case atStart => exact ⟨0, Nat.zero_le _, rfl, rfl, rfl, Below.refl _ _⟩
          case round =>
            obtain ⟨a, ha, rfl, rfl, rfl, hB⟩ := hrel
            have H9 := hid (H8.out.below hB)
            have HB9 := hid hB
            clear hB
            by_cases hak : a < k
            · have sa := (HB9.out.cell (p := ⟨sq', a, none⟩) hsq8).trans (HSL.out a hak)
              unfold ptr at sa
              have hsqr : sq' < wr.heap.size := World.block_lt_of_cell? wr ⟨sq', a, none⟩ sa
              have ha0 : (0 : Int) ≤ (a : Int) := by omega
              have ha1 : (a : Int) < (k : Int) := by omega
              have hca := cntP_le pHas f7 a
              have hcb := cntP_le pGone f7 a
              have hcs : cntP pHas f7 (a + 1) = cntP pHas f7 a + (if pHas (f7 a) = true then 1 else 0) := rfl
              have hct : cntP pGone f7 (a + 1) = cntP pGone f7 a + (if pGone (f7 a) = true then 1 else 0) := rfl
              have hst := H9.out.to.ti.st a hak
              have hwt := H9.out.to.ti.w a hak
              have HST := hid (state_at (H9.out.hs a hak).ho)
              generalize cntP pHas f7 a = cn at *
              generalize cntP pGone f7 a = cg at *
              generalize f7 a = xa at *
              obtain ⟨xad, xlv, xst, xtk⟩ := xa
              simp only [] at hst hwt HST
              have hc0 : (0 : Int) ≤ (cn : Int) := Int.natCast_nonneg _
              have hc1 : (cn : Int) ≤ 6 := by omega
              have hg0 : (0 : Int) ≤ (cg : Int) := Int.natCast_nonneg _
              have hg1 : (cg : Int) ≤ 6 := by omega
              have h4 : xst = 0 ∨ xst = 1 ∨ xst = 2 ∨ xst = 3 := by omega
              clear hst
              go_wp2_with fail
              refine HST.out.mono ?_
              rintro e w10 ⟨rfl, mm, hm⟩
              have HB10 : Hid (Below w8.heap.size w8 w10) := hid (bel_trans HB9.out (by rw [hm]; exact below_drewN (Below.refl _ _) mm))
              clear hm HST sa
              rcases h4 with rfl | rfl | rfl | rfl
              · have HC1 : Hid (((cntP pHas f7 (a + 1) : Nat) : Int) = cn) := hid (by rw [hcs]; simp [pHas])
                have HC2 : Hid (((cntP pGone f7 (a + 1) : Nat) : Int) = cg) := hid (by rw [hct]; simp [pGone])
                clear hcs hct hwt
                go_wp2
                go_roundw
                case rel => exact ⟨a + 1, by omega, by go_num, by rw [HC1.out], by rw [HC2.out], HB10.out⟩
                case measure => simp [intOf]; omega
              · have HC1 : Hid (((cntP pHas f7 (a + 1) : Nat) : Int) = cn + 1) := hid (by rw [hcs]; simp [pHas])
                have HC2 : Hid (((cntP pGone f7 (a + 1) : Nat) : Int) = cg) := hid (by rw [hct]; simp [pGone])
                have hts : decide (xtk < s) = false := by have := hwt rfl; simp; omega
                clear hcs hct hwt
                go_wp2
                go_roundw
                case rel => exact ⟨a + 1, by omega, by go_num, by rw [HC1.out], by rw [HC2.out], HB10.out⟩
                case measure => simp [intOf]; omega
              · have HC1 : Hid (((cntP pHas f7 (a + 1) : Nat) : Int) = cn + 1) := hid (by rw [hcs]; simp [pHas])
                have HC2 : Hid (((cntP pGone f7 (a + 1) : Nat) : Int) = cg) := hid (by rw [hct]; simp [pGone])
                clear hcs hct hwt
                go_wp2
                go_roundw
                case rel => exact ⟨a + 1, by omega, by go_num, by rw [HC1.out], by rw [HC2.out], HB10.out⟩
                case measure => simp [intOf]; omega
              · have HC1 : Hid (((cntP pHas f7 (a + 1) : Nat) : Int) = cn + 1) := hid (by rw [hcs]; simp [pHas])
                have HC2 : Hid (((cntP pGone f7 (a + 1) : Nat) : Int) = cg + 1) := hid (by rw [hct]; simp [pGone])
                clear hcs hct hwt
                go_wp2
                go_roundw
                case rel => exact ⟨a + 1, by omega, by go_num, by rw [HC1.out], by rw [HC2.out], HB10.out⟩
                case measure => simp [intOf]; omega
            · have ea : a = k := by omega
              subst ea
              rw [← H9.out.to.ti.cn, ← H9.out.to.ti.cs]
              go_wp2_with fail
              refine (load_any H9.out.sy.mem H9.out.cnt (by unfold bnd; omega) 1).mono ?_
              rintro e w11 ⟨rfl, hT11⟩
              rw [show loadV (s4 n s d8 l) 1 = n from rfl, show errV (s4 n s d8 l) 1 = 0 from rfl]
              have H11 := hid (H9.out.load 1 (by decide) (by decide) hT11)
              clear hT11 H9 H8
              have hnn : (n != n) = false := by simp
              have hss : (s != s) = false := by simp
              go_wp2
              go_roundw
              case rel => exact ⟨j + 1, _, _, _, _, _, _, by omega, by go_num, H11.out.mono (by omega)⟩
              case measure => simp [intOf]; omega
      · have hjl : decide ((j : Int) < (pn : Int)) = false := by simp; omega
        go_wp2_with fail
        refine (known_yes _).mono ?_
        rintro e w9 ⟨rfl, K⟩
        have HF := hid (bel_trans HO.out.sy.bel K)
        clear K HO
        go_wp2
        go_ret
        exact ⟨rfl, HF.out⟩
end Go.Proofs.Ytidgajjahpbbdaa
