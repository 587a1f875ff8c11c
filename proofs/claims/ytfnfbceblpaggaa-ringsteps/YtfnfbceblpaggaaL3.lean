/- The walk of RingSteps: for every case the call returns true; nothing that lay before is changed. Condition: the case's lists read as such. -/
import Derived.Test.YtfnfbceblpaggaaY6
import Derived.Deep.CutRange
namespace Go.Proofs.Ytfnfbceblpaggaa
open Go.RowKit

theorem us_new (w : World) (u : Us) : IsUs (((w.alloc (.cells (usC u) 49)).alloc (.cells #[.pointer (some ⟨w.heap.size, 0, none⟩)] 47))) w.heap.size u ∧ Below w.heap.size w (((w.alloc (.cells (usC u) 49)).alloc (.cells #[.pointer (some ⟨w.heap.size, 0, none⟩)] 47))) := by
  have h : IsUs (w.alloc (.cells (usC u) 49)) w.heap.size u := heap_alloc_new _ _
  exact ⟨h.below (below_alloc _ _), bel_trans (below_alloc _ _) (below_alloc _ _)⟩
theorem one_cell2 (w : World) (g : Nat) (e t : TypeId) (cs : Array Value) : ∀ (j : Nat) (u : Value), [ptr g][j]? = some u → ((w.alloc (.cells cs t)).alloc (.cells #[.pointer (some ⟨g, 0, none⟩)] e)).cell? ((⟨w.heap.size + 1, 0, none⟩ : Addr).add j) = some u := by
  have := one_cell (w.alloc (.cells cs t)) g e
  simpa using this

set_option maxRecDepth 100000 in
set_option maxHeartbeats 4000000 in
theorem steps_walk (c : Cs) (f : Nat → Int) (z : Nat → Nat) (w : World) (hC : CsOk w c f z) :
    Calls Try.prog 3 #[.agg (csC c)] w fun e w' => e = .returned (.bool true) ∧ Below w.heap.size w w' := by
  have HB0 := hid (Bx.new w c)
  have HC := hid (hC.below (below_alloc w (.cells (csC c) 25)))
  have hvm := hC.nl.1
  have hpm := hC.pl.1
  unfold maxLen at hvm hpm
  have hba := hC.ba
  have hbs := hC.bs
  have hbp := hC.bp
  have hbw := hC.bw
  clear hC
  obtain ⟨za, zs, vq, vn, vc, zp, pq, pn, pc, zw⟩ := c
  simp only [] at hvm hpm hba hbs hbp hbw
  obtain ⟨ng, hng⟩ : ∃ c : Nat, zp % 12 = c := ⟨_, rfl⟩
  have hngb : ng < 12 := by omega
  have ha0 : (0 : Int) ≤ (za : Int) := by omega
  have ha1 : (za : Int) < 256 := by omega
  have hs0 : (0 : Int) ≤ (zs : Int) := by omega
  have hs1 : (zs : Int) < 256 := by omega
  have hp0 : (0 : Int) ≤ (zp : Int) := by omega
  have hp1 : (zp : Int) < 256 := by omega
  have hw0 : (0 : Int) ≤ (zw : Int) := by omega
  have hw1 : (zw : Int) < 256 := by omega
  have HM : Hid ((zp : Int).tmod 12 = (ng : Int)) := hid (by rw [Int.tmod_eq_emod_of_nonneg (by omega)]; omega)
  clear hng
  by_cases hbig : 12 < vn ∨ 400 < pn
  · by_cases hl1 : 12 < vn
    · have hd : decide ((12 : Int) < (vn : Int)) = true := by simp; omega
      clear hbig
      go_enter Try.func3, Try.ntmps3
      go_wp2_with fail
      refine (known_yes _).mono ?_
      rintro e w9 ⟨rfl, K⟩
      have HF := hid (bel_trans (below_alloc _ _) K)
      clear K
      go_wp2
      go_ret
      exact ⟨rfl, HF.out⟩
    · have hd : decide ((12 : Int) < (vn : Int)) = false := by simp; omega
      have hd2 : decide ((400 : Int) < (pn : Int)) = true := by simp; omega
      clear hbig
      go_enter Try.func3, Try.ntmps3
      go_wp2_with fail
      refine (known_yes _).mono ?_
      rintro e w9 ⟨rfl, K⟩
      have HF := hid (bel_trans (below_alloc _ _) K)
      clear K
      go_wp2
      go_ret
      exact ⟨rfl, HF.out⟩
  · have hd : decide ((12 : Int) < (vn : Int)) = false := by simp; omega
    have hd2 : decide ((400 : Int) < (pn : Int)) = false := by simp; omega
    have hvn : vn ≤ 12 := by omega
    have hpn : pn ≤ 400 := by omega
    clear hbig
    go_enter Try.func3, Try.ntmps3
    go_wp2_with fail
    clear hd hd2
    have HW0 := hid (below_alloc w (.cells (csC ⟨za, zs, vq, vn, vc, zp, pq, pn, pc, zw⟩) 25))
    generalize w.alloc (.cells #[.int .u8 (za : Int), .int .u8 (zs : Int), .slice vq vn vc, .int .u8 (zp : Int), .slice pq pn pc, .int .u8 (zw : Int)] 25) = W0 at *
    generalize hq0 : w.heap.size = q0 at *
    have HQ0 := hid hq0
    clear hq0
    obtain ⟨L, hL⟩ : ∃ L : Nat, (L : Int) = 1 + (zw : Int) := ⟨1 + zw, by simp⟩
    have hL0 : 1 ≤ L := by omega
    have hL1 : L ≤ 65536 := by omega
    rw [← hL]
    clear hL
    refine (new_yes L _ hL0 hL1).mono ?_
    rintro e w1 ⟨rfl, hM1, hB1⟩
    have HM1 := hid hM1
    have HB1 := hid hB1
    clear hM1 hB1
    go_wp2_with fail
    refine (rnew_yes L _ hL0 hL1).mono ?_
    rintro e w2 ⟨rfl, hM2, hB2⟩
    have HT0 := hid (Tw.begin (w0 := W0) (ad := za) (n := zs) (G1 := fun _ => 0) (G2 := fun _ => 0) (G3 := fun _ => 0) (f1 := fun _ => newG 0 0) (f2 := fun _ => newG 0 0) (f3 := fun _ => ⟨0, 0, true, 0, 0, 0, false, false⟩) HM1.out HB1.out hM2 hB2)
    have hbq := HB0.out.below (bel_trans HB1.out hB2)
    have b0 := hbq.c0
    have b1 := hbq.c1
    simp only [] at b0 b1
    clear hM2 hB2 HM1 HB1 hbq
    generalize W0.heap.size + 1 = p at *
    obtain ⟨q, hq⟩ : ∃ q, W0.heap.size = q := ⟨_, rfl⟩
    rw [hq] at HT0
    clear hq
    generalize w1.heap.size + 1 = p' at *
    obtain ⟨b', hb'⟩ : ∃ q, w1.heap.size = q := ⟨_, rfl⟩
    rw [hb'] at HT0
    clear hb'
    go_wp2_with fail
    clear b0 b1
    generalize w2.alloc (.cells #[.int .i64 (za : Int), .int .i64 (zs : Int)] 35) = W3 at *
    generalize w2.heap.size = r at *
    obtain ⟨T0, T1, T2, e0, s1, hT0, hI, hl1, hso, hcn, hE⟩ := init_both HT0.out HB0.out rfl rfl
    have HI := hid hI
    have HL1 := hid hl1
    have HSO := hid hso
    have HCN := hid hcn
    have HE := hid hE
    have hS0 := (HT0.out.below (Below.refl _ _).drew).cb HB0.out
    have hrl : r < W3.heap.size := lt_of_block HT0.out.a.kn.ring
    have hql : q0 < W3.heap.size := (HB0.out.below HT0.out.a.kn.bel).lt
    simp only [] at hS0
    clear hI hl1 hso hcn hE HT0
    have hee : (e0 != e0) = false := by simp
    have hwa : IntKind.i64.wrap (za : Int) = (za : Int) := i64w (by omega) (by omega)
    have hwz : IntKind.i64.wrap (zs : Int) = (zs : Int) := i64w (by omega) (by omega)
    go_region_held3 (fun w' => (w'.cell? ⟨r, 0, none⟩ = some (.int .i64 (za : Int)) ∧ w'.cell? ⟨r, 1, none⟩ = some (.int .i64 (zs : Int))) ∧ (w'.cell? ⟨q0, 0, none⟩ = some (.int .u8 (za : Int)) ∧ w'.cell? ⟨q0, 1, none⟩ = some (.int .u8 (zs : Int)))) (first | with_reducible exact hS0 | with_reducible assumption)
      (first
        | (go_at_call 12; refine (HI.out.i1 ?_).mono ?_; with_reducible exact hT0; rintro e4 w4 ⟨rfl, hT1, hS1⟩)
        | (go_at_call 13; refine (HI.out.i2 ?_).mono ?_; with_reducible exact hT1; rintro e5 w5 ⟨rfl, hT2, hS2⟩))
    have HT := hid (HE.out w5 hT2)
    clear hT0 hT1 hT2 hS0 hS1 HI HE hrl hql hwa hwz
    (try clear hHeld)
    have b0 := hS2.2.1
    have b1 := hS2.2.2
    clear hS2
    go_wp2_with fail
    clear hee
    refine (right_any _ (za : Int) (zs : Int)).mono ?_
    rintro e w6 ⟨rfl, hw6⟩
    rw [hw6]
    clear hw6 w6 b0 b1
    by_cases hcan : canB (za : Int) (zs : Int) = true
    · have hq : QOk (za : Int) (zs : Int) := by
        simp [canB] at hcan
        exact ⟨by omega, by omega, by omega, by omega⟩
      rw [hcan]
      have HQ := hid hq
      clear hq hcan
      go_wp2
      have HP0 : Hid (Pu L 0 0 s1 (fun _ => newG 0 0) (fun _ => newG 0 0) (fun _ => ⟨0, 0, true, 0, 0, 0, false, false⟩)) := hid ⟨HL1.out, HSO.out, fun i hi => absurd hi (by omega), fun i hi => absurd hi (by omega)⟩
      clear HL1 HSO
      go_loopw [9, 11, 12] (fun v u i wr => ∃ (k : Nat) (GP GU : Nat → Nat) (fP : Nat → Pr) (fU : Nat → Us), k ≤ vn ∧ i = .int .i64 k ∧ Tw W0 p q r za zs p' b' k GP v 0 (fun _ => 0) (.slice none 0 0) k GU u s1 s1 fP (fun _ => newG 0 0) fU wr ∧ Pu L k 0 s1 fP (fun _ => newG 0 0) fU) (fun _ _ i _ => vn - (intOf i).toNat)
      case atStart => exact ⟨0, _, _, _, _, by omega, rfl, HT.out, HP0.out⟩
      case round =>
        obtain ⟨k, GP, GU, fP, fU, hk, rfl, hD, hPu⟩ := hrel
        have HD := hid hD
        have HPu := hid hPu
        clear hD hPu HT HP0
        by_cases hlt : k < vn
        · have hk0 : (0 : Int) ≤ (k : Int) := by omega
          have hkl : (k : Int) < (vn : Int) := by omega
          obtain ⟨vb, vo, hvq, hvb, hvc⟩ := HC.out.nl.2.2 (by simp only []; omega)
          simp only [] at hvq hvc
          subst hvq
          have HV := hid (hvc k hlt)
          have HVb := hid hvb
          have hv01 := HC.out.nl.2.1 k
          clear hvc hvb
          generalize f k = vk at *
          have hS0 := ((HD.out.below (Below.refl _ _).drew).cv HB0.out rfl HVb.out HV.out).1
          have b2 := ((HD.out.cv HB0.out rfl HVb.out HV.out).1).2.1
          obtain ⟨sq, sc, rfl⟩ := HD.out.a.fp.len
          obtain ⟨uq, uc, rfl⟩ := HD.out.fu.len
          obtain ⟨i39, hi, hz0, hz1, hz2⟩ := info39
          obtain ⟨i47, hi', hz0', hz1', hz2'⟩ := info47
          have hb63 : k + 1 ≤ maxLen := by unfold maxLen; omega
          have hbyt : (k + 1) * 8 ≤ 140737488355328 := by omega
          have hrl : r < wr.heap.size := lt_of_block HD.out.a.kn.ring
          have hql : q0 < wr.heap.size := (HB0.out.below HD.out.a.kn.bel).lt
          have hvl : vb < wr.heap.size := Nat.lt_of_lt_of_le HVb.out HD.out.a.kn.bel.size
          go_wp2_with fail
          go_region_held3 (fun w' => (w'.cell? ⟨r, 0, none⟩ = some (.int .i64 (za : Int)) ∧ w'.cell? ⟨r, 1, none⟩ = some (.int .i64 (zs : Int))) ∧ (w'.cell? ⟨q0, 2, none⟩ = some (.slice (some ⟨vb, vo, none⟩) vn vc) ∧ w'.cell? ⟨vb, vo + k, none⟩ = some (.int .u64 vk))) (first | with_reducible exact hS0 | with_reducible assumption)
            (first
              | (go_at_call 15; refine (push_at _ vk HQ.out).mono ?_; rintro e4 w4 ⟨g, rfl, hW4, hg4, hB4⟩; have HW4 := hid hW4; have HG4 := hid hg4; have HB4 := hid hB4; have HT4 := hid ((HD.out.below (Below.refl _ _).drew).below hB4); have HT5 := hid (HT4.out.below (below_alloc w4 (.cells #[.pointer (some ⟨g, 0, none⟩)] 39))); have hS4 := (HT4.out.cv HB0.out rfl HVb.out HV.out).1; have hS5 := (HT5.out.cv HB0.out rfl HVb.out HV.out).1; have hown1 := HT5.out.a.fp.own; have hnew1 := one_cell w4 g 39; have hbase1 := HT5.out.a.kn.bel.size; clear hW4 hg4 hB4)
              | (refine step_append_lies _ (by rfl) _ _ 44 (by rfl) W0.heap.size 39 i39 (.pointer none) 1 8 Try.underlying44 hi hz0 hz1 hz2 rfl (by decide) _ k _ (by rfl) hown1 ⟨w4.heap.size, 0, none⟩ 1 1 [ptr g] (by rfl) rfl hnew1 (one_plain g) (by decide) hb63 hbyt hbase1 _ rfl ?_; intro g6 cap6 w6 hown6 hgrow6 hat6 hlt6; have HT6 := hid (HD.out.pushP (zkeep (bel_trans (Below.refl _ _).drew HB4.out) _) HG4.out (HW4.out.below (below_alloc _ _)) hown6 hgrow6 (hat_of hat6)); have hS6 := (HT6.out.cv HB0.out rfl HVb.out HV.out).1))
          clear hS0 hS4 hS5 hS6 hown1 hnew1 hbase1 hown6 hgrow6 hat6 hlt6 HT4 HT5 HW4 HG4 HB4 b2 HD hrl hql hvl
          (try clear hHeld)
          have hS0 := ((HT6.out.below (Below.refl _ _).drew).cv HB0.out rfl HVb.out HV.out).2
          have HN := hid (us_new w6 ⟨(za : Int), (zs : Int), false, vk, 0, 0, false, false⟩)
          have hS1 := (((HT6.out.below (below_alloc w6 (.cells #[.int .i64 (za : Int), .int .i64 (zs : Int), .bool false, .int .u64 vk, .int .u64 0, .int .i64 0, .bool false, .bool false] 49))).below (Below.refl _ _).drew).cv HB0.out rfl HVb.out HV.out).2
          have HT7 := hid ((HT6.out.below HN.out.2).below (Below.refl _ _).drew)
          have hS2 := (HT7.out.cv HB0.out rfl HVb.out HV.out).2
          have hown1 := HT7.out.fu.own
          have hnew1 := one_cell2 w6.drew w6.heap.size 47 49 #[.int .i64 (za : Int), .int .i64 (zs : Int), .bool false, .int .u64 vk, .int .u64 0, .int .i64 0, .bool false, .bool false]
          have hbase1 := HT7.out.a.kn.bel.size
          have hql : q0 < w6.heap.size := (HB0.out.below HT6.out.a.kn.bel).lt
          have hvl : vb < w6.heap.size := Nat.lt_of_lt_of_le HVb.out HT6.out.a.kn.bel.size
          simp only [] at hS0 hS1 hS2
          have hwa : IntKind.i64.wrap (za : Int) = (za : Int) := i64w (by omega) (by omega)
          have hwz : IntKind.i64.wrap (zs : Int) = (zs : Int) := i64w (by omega) (by omega)
          go_wp2_with fail
          go_region_held3 (fun w' => (w'.cell? ⟨q0, 0, none⟩ = some (.int .u8 (za : Int)) ∧ w'.cell? ⟨q0, 1, none⟩ = some (.int .u8 (zs : Int))) ∧ (w'.cell? ⟨q0, 2, none⟩ = some (.slice (some ⟨vb, vo, none⟩) vn vc) ∧ w'.cell? ⟨vb, vo + k, none⟩ = some (.int .u64 vk))) (first | exact hS0 | exact hS1 | exact hS2 | assumption)
            (first
              | (refine step_append_lies _ (by rfl) _ _ 46 (by rfl) W0.heap.size 47 i47 (.pointer none) 1 8 Try.underlying46 hi' hz0' hz1' hz2' rfl (by decide) _ k _ (by rfl) hown1 ⟨w6.heap.size + 1, 0, none⟩ 1 1 [ptr w6.heap.size] (by rfl) rfl hnew1 (one_plain _) (by decide) hb63 hbyt hbase1 _ rfl ?_; intro g8 cap8 w8 hown8 hgrow8 hat8 hlt8; have HT8 := hid (HT6.out.pushU (bel_trans HN.out.2 (Below.refl _ _).drew) (Nat.le_refl _) (HN.out.1.below (Below.refl _ _).drew) hown8 hgrow8 (hat_of hat8)); have hS8 := (HT8.out.cv HB0.out rfl HVb.out HV.out).2))
          have HPu8 := hid (HPu.out.pushP (Lk.newP (za : Int) (zs : Int) vk) (newP_ok HQ.out hv01.1 hv01.2))
          clear hS0 hS1 hS2 hS8 hown1 hnew1 hbase1 hown8 hgrow8 hat8 hlt8 HT6 HT7 HN HPu hi hz0 hz1 hz2 hi' hz0' hz1' hz2' hql hvl hwa hwz
          (try clear hHeld)
          go_wp2
          go_roundw
          case rel => exact ⟨k + 1, _, _, _, _, by omega, by go_num, HT8.out, HPu8.out⟩
          case measure => simp [intOf]; omega
        · have hkl : (vn : Int) ≤ (k : Int) := by omega
          obtain rfl : vn = k := by omega
          obtain ⟨vPq, vPc, rfl⟩ := HD.out.a.fp.len
          have b2 := (HB0.out.below HD.out.a.kn.bel).c2
          simp only [] at b2
          go_wp2
          clear b2
          go_loopw [10, 11, 13] (fun v u i wr => ∃ (k : Nat) (GG GU : Nat → Nat) (fG : Nat → Pr) (fU : Nat → Us), k ≤ ng ∧ i = .int .i64 k ∧ Tw W0 p q r za zs p' b' vn GP (.slice vPq vn vPc) k GG v (vn + k) GU u s1 s1 fP fG fU wr ∧ Pu L vn k s1 fP fG fU) (fun _ _ i _ => ng - (intOf i).toNat)
          case atStart => exact ⟨0, _, _, _, _, by omega, rfl, HD.out, HPu.out⟩
          case round =>
            rename World => wo
            obtain ⟨k, GG, GU2, fG, fU2, hk2, rfl, hD2, hPu2⟩ := hrel
            have HD2 := hid hD2
            have HPu2 := hid hPu2
            have b3 := (HB0.out.below hD2.a.kn.bel).c3
            have c0 := hD2.a.kn.c0
            have c1 := hD2.a.kn.c1
            simp only [] at b3
            clear hD2 hPu2 HD HPu
            have htm := HM.out
            by_cases hlt : k < ng
            · have hkl2 : (k : Int) < (ng : Int) := by omega
              obtain ⟨sq, sc, rfl⟩ := HD2.out.a.fg.len
              obtain ⟨uq, uc, rfl⟩ := HD2.out.fu.len
              go_wp2_with fail
              clear htm
              refine (pop_at _ HQ.out).mono ?_
              rintro e w4 ⟨g, rfl, hW4, hg4, hB4⟩
              have HB4 := hid hB4
              have HW4 := hid hW4
              have HG4 := hid hg4
              obtain ⟨i42, hi, hz0, hz1, hz2⟩ := info42
              have hzz : (Value.pointer none).cells.size = 1 := rfl
              clear hW4 hB4 hg4 b3 c0 c1
              go_wp2_with (at_builtin; (refine wpList_append_own_at _ rfl _ _ 45 rfl W0.heap.size 42 i42 (.pointer none) 1 8 Try.underlying45 hi hz0 hz1 hz2 hzz (by decide) _ k (ptrs k GG) rfl ?q0 ⟨w4.heap.size, 0, none⟩ 1 _ [ptr g] rfl ?m0 ?m1 ?m2 ?m3 ?m4 ?m5 ?_))
              case q0 => exact (HD2.out.a.fg.below (zkeep HB4.out _)).own
              case m0 => rfl
              case m1 => exact one_cell w4 g 42
              case m2 => exact one_plain g
              case m3 => unfold maxLen; omega
              case m4 => omega
              case m5 => exact Nat.le_trans HD2.out.a.kn.bel.size (zkeep HB4.out _).size
              intro v' w6 hown hgrow hnil hat
              have H6 := hid (HD2.out.pushG (zkeep HB4.out (.cells #[ptr g] 42)) HG4.out (HW4.out.below (below_alloc _ _)) hown hgrow (hat.imp id (fun h => h.trans (by simp))))
              have b0 := (HB0.out.below H6.out.a.kn.bel).c0
              have b1 := (HB0.out.below H6.out.a.kn.bel).c1
              simp only [] at b0 b1
              have HN := hid (us_new w6 ⟨(za : Int), (zs : Int), true, 0, 0, 0, false, false⟩)
              clear hown hgrow hnil hat hi hz0 hz1 hz2 HB4 HW4 HG4 HD2
              obtain ⟨i47, hi, hz0, hz1, hz2⟩ := info47
              go_wp2_with (at_builtin; (refine wpList_append_own_at _ rfl _ _ 46 rfl W0.heap.size 47 i47 (.pointer none) 1 8 Try.underlying46 hi hz0 hz1 hz2 hzz (by decide) _ (vn + k) (ptrs (vn + k) GU2) rfl ?r0 ⟨w6.heap.size + 1, 0, none⟩ 1 _ [ptr w6.heap.size] rfl ?s0 ?s1 ?s2 ?s3 ?s4 ?s5 ?_))
              case r0 => exact (H6.out.fu.below HN.out.2).own
              (try case s0 => rfl)
              case s1 => exact one_cell2 w6 w6.heap.size 47 49 _
              case s2 => exact one_plain _
              case s3 => unfold maxLen; omega
              case s4 => omega
              case s5 => exact Nat.le_trans H6.out.a.kn.bel.size HN.out.2.size
              intro v8 w8 hown hgrow hnil hat
              have H8 := hid (H6.out.pushU HN.out.2 (Nat.le_refl _) HN.out.1 hown hgrow (hat.imp id (fun h => h.trans (by simp))))
              have HPu8 := hid (HPu2.out.pushG (Lk.newG (za : Int) (zs : Int)) (newG_ok HQ.out) rfl)
              clear hown hgrow hnil hat hi hz0 hz1 hz2 hzz H6 HN HPu2 b0 b1
              go_wp2
              go_roundw
              case rel => exact ⟨k + 1, _, _, _, _, by omega, by go_num, H8.out, HPu8.out⟩
              case measure => simp [intOf]; omega
            · have hkl2 : (ng : Int) ≤ (k : Int) := by omega
              obtain rfl : ng = k := by omega
              obtain ⟨vGq, vGc, rfl⟩ := HD2.out.a.fg.len
              obtain ⟨nu, hnu⟩ : ∃ nu : Nat, vn + ng = nu := ⟨_, rfl⟩
              have hD3 := HD2.out
              rw [hnu] at hD3
              have HD3 := hid hD3
              have HNU := hid hnu
              have hnub : nu < 24 := by omega
              clear hD3 hnu HD2
              obtain ⟨vUq, vUc, rfl⟩ := HD3.out.fu.len
              clear c0 c1
              go_wp2
              clear htm b3
              go_loopw [14] (fun i wr => ∃ (j : Nat) (s2 : St) (fP fG : Nat → Pr) (fU : Nat → Us), j ≤ pn ∧ i = .int .i64 j ∧ Tw W0 p q r za zs p' b' vn GP (.slice vPq vn vPc) ng GG (.slice vGq ng vGc) nu GU2 (.slice vUq nu vUc) s2 s2 fP fG fU wr ∧ Pu L vn ng s2 fP fG fU ∧ Cnt s2 (1000 + j)) (fun i _ => pn - (intOf i).toNat)
              case atStart => exact ⟨0, _, _, _, _, by omega, rfl, HD3.out, HPu2.out, HCN.out⟩
              case round =>
                rename World => wm
                obtain ⟨j, s2, fP3, fG3, fU3, hj, rfl, hO, hPI, hCn⟩ := hrel
                have HO := hid hO
                have HPI := hid hPI
                have HCn := hid hCn
                have b4 := (HB0.out.below hO.a.kn.bel).c4
                simp only [] at b4
                clear hO hPI hCn HD3 HPu2
                by_cases hgo : j < pn ∧ 0 < nu
                · have hjl : (j : Int) < (pn : Int) := by omega
                  have hall : (0 : Int) < (nu : Int) := by omega
                  obtain ⟨pb, po, hpq, hpb, hpc⟩ := HC.out.pl.2.2 (by simp only []; omega)
                  simp only [] at hpq hpc
                  subst hpq
                  have pc1 : wm.cell? ⟨pb, po + j, none⟩ = some (.int .u8 (z j : Int)) := (HO.out.a.kn.bel.cell (p := ⟨pb, po + j, none⟩) hpb).trans (hpc j hgo.1)
                  have hz256 := HC.out.pl.2.1 j
                  clear hpc
                  generalize z j = zj at pc1 hz256
                  obtain ⟨i, hi⟩ : ∃ i, zj % nu = i := ⟨_, rfl⟩
                  have hik : i < nu := by rw [← hi]; exact Nat.mod_lt _ (by omega)
                  have hi0 : (0 : Int) ≤ (i : Int) := Int.natCast_nonneg i
                  have hik2 : (i : Int) < (nu : Int) := Int.ofNat_lt.2 hik
                  have hz0 : (0 : Int) ≤ (zj : Int) := Int.natCast_nonneg zj
                  have hz1 : (zj : Int) < 256 := by omega
                  have hkz : ((nu : Int) == 0) = false := beq_eq_false_iff_ne.2 (by omega)
                  have htm : (zj : Int).tmod (nu : Int) = (i : Int) := by rw [Int.tmod_eq_emod_of_nonneg hz0, ← hi]; simp
                  clear hi
                  obtain ⟨yq, hyq, hyc, hyc2, hyl⟩ := HO.out.fu.at (by omega)
                  subst hyq
                  have yi := hyl i hik
                  clear hyl
                  unfold maxLen at hyc
                  go_upto_if 178 with fail
                  clear htm
                  go_cut [] from 150 to 292 (fun wx => ∃ (s2 : St) (fP fG : Nat → Pr) (fU : Nat → Us), Tw W0 p q r za zs p' b' vn GP (.slice vPq vn vPc) ng GG (.slice vGq ng vGc) nu GU2 (.slice (some ⟨yq, 0, none⟩) nu vUc) s2 s2 fP fG fU wx ∧ Pu L vn ng s2 fP fG fU ∧ Cnt s2 (1000 + j + 1))
                  case first =>
                    by_cases hip : i < vn
                    · have hip2 : (i : Int) < (vn : Int) := by omega
                      obtain ⟨sq, hsq, hscm, hsc, hsl⟩ := HO.out.a.fp.at (by omega)
                      subst hsq
                      have si := hsl i hip
                      clear hsl
                      unfold maxLen at hscm
                      obtain ⟨T0, T1, T2, ac, wh, dn, hT0, hL, hR, hE⟩ := round_P HO.out HPI.out HCn.out (by unfold bnd; omega) hip hik
                      have HL := hid hL
                      have HR := hid hR
                      have HE := hid hE
                      clear hL hR hE HO HPI HCn
                      generalize GP i = g at *
                      generalize GU2 i = g' at *
                      obtain ⟨ak, aad, aa, ab⟩ := ac
                      have q1 : (ak == ak) = true := by simp
                      have q2 : (aad == aad) = true := by simp
                      have q3 : (aa == aa) = true := by simp
                      have q4 : (ab == ab) = true := by simp
                      have q5 : (ak != ak) = false := by simp
                      have q6 : (aad != aad) = false := by simp
                      have q7 : (aa != aa) = false := by simp
                      have q8 : (ab != ab) = false := by simp
                      have q9 : (dn != dn) = false := by simp
                      have q10 : (wh != wh) = false := by simp
                      go_wp2_with fail
                      refine (HL.out.n1 hT0).mono ?_
                      rintro e w3 ⟨rfl, hT3⟩
                      clear si pc1 b4 yi
                      go_wp2_with fail
                      refine (HL.out.n2 hT3).mono ?_
                      rintro e w4 ⟨rfl, hT4⟩
                      go_wp2_with fail
                      refine (HL.out.s1 hT4).mono ?_
                      rintro e w5 ⟨rfl, hT5⟩
                      go_wp2_with fail
                      refine (HL.out.s2 hT5).mono ?_
                      rintro e w6 ⟨rfl, hT6⟩
                      go_wp2_with fail
                      refine (HR.out.re hT6).mono ?_
                      rintro e w7 ⟨rfl, hT7⟩
                      have d7 := HR.out.c7 hT7
                      have d6 := HR.out.c6 hT7
                      have H7 := hid (HE.out w7 hT7)
                      clear hT0 hT3 hT4 hT5 hT6 hT7 HL HR HE
                      go_wp2
                      go_meet
                      case rel => exact H7.out
                    · have hip2 : (vn : Int) ≤ (i : Int) := by omega
                      obtain ⟨ig, hig⟩ : ∃ ig : Nat, i = vn + ig := ⟨i - vn, by omega⟩
                      have higl : ig < ng := by have := HNU.out; omega
                      obtain ⟨sq, hsq, hscm, hsc, hsl⟩ := HO.out.a.fg.at (by omega)
                      subst hsq
                      have si := hsl ig higl
                      clear hsl
                      unfold maxLen at hscm
                      have hsub0 : (i : Int) - (vn : Int) = (ig : Int) := by omega
                      have hig0 : (0 : Int) ≤ (ig : Int) := by omega
                      have hig1 : (ig : Int) < (ng : Int) := by omega
                      have hRG := round_G HO.out HPI.out HCn.out (by unfold bnd; omega) higl (by omega)
                      rw [← hig] at hRG
                      obtain ⟨T0, T1, T2, ac, gv, uv, wh, dn, dn', hT0, hL, hR, hE⟩ := hRG
                      have HL := hid hL
                      have HR := hid hR
                      have HE := hid hE
                      clear hL hR hE HO HPI HCn hig
                      generalize GG ig = g at *
                      generalize GU2 i = g' at *
                      obtain ⟨ak, aad, aa, ab⟩ := ac
                      have q1 : (ak == ak) = true := by simp
                      have q2 : (aad == aad) = true := by simp
                      have q3 : (aa == aa) = true := by simp
                      have q4 : (ab == ab) = true := by simp
                      have q5 : (ak != ak) = false := by simp
                      have q6 : (aad != aad) = false := by simp
                      have q7 : (aa != aa) = false := by simp
                      have q8 : (ab != ab) = false := by simp
                      have q9 : (dn != dn) = false := by simp
                      have q11 : (dn' != dn') = false := by simp
                      go_wp2_with fail
                      refine (HL.out.n1 hT0).mono ?_
                      rintro e w3 ⟨rfl, hT3⟩
                      clear si pc1 b4 yi
                      go_wp2_with fail
                      refine (HL.out.n2 hT3).mono ?_
                      rintro e w4 ⟨rfl, hT4⟩
                      go_wp2_with fail
                      refine (HL.out.s1 hT4).mono ?_
                      rintro e w5 ⟨rfl, hT5⟩
                      go_wp2_with fail
                      refine (HL.out.s2 hT5).mono ?_
                      rintro e w6 ⟨rfl, hT6⟩
                      go_wp2_with fail
                      refine (HR.out.re hT6).mono ?_
                      rintro e w7 ⟨rfl, hT7⟩
                      have d7 := HR.out.c7 hT7
                      have d6 := HR.out.c6 hT7
                      have d3 := HR.out.c3 hT7
                      have H7 := hid (HE.out w7 hT7)
                      have he1 := HR.out.e1
                      have he0 := HR.out.e0
                      clear hT0 hT3 hT4 hT5 hT6 hT7 HL HR HE
                      cases wh with
                      | true =>
                        rw [he1 rfl] at d3
                        clear he1 he0
                        have q12 : (gv != gv) = false := by simp
                        go_wp2
                        go_meet
                        case rel => exact H7.out
                      | false =>
                        rw [he0 rfl]
                        clear he1 he0 d3
                        go_wp2
                        go_meet
                        case rel => exact H7.out
                  case rest =>
                    obtain ⟨s9, fP9, fG9, fU9, h9, hP9, hC9⟩ := hcut
                    obtain ⟨T2, T3, hT2, hA, hE⟩ := round_A h9 hP9 hC9 hL0 hL1
                    have HA := hid hA
                    have HE := hid hE
                    have hS6 := hA.cf (hA.dr hT2)
                    have hT6d := hA.dr hT2
                    have hpl : p' < wc.heap.size := World.block_lt_of_cell? wc ⟨p', 0, none⟩ (hA.cf hT2)
                    clear hA hE h9 hP9 hC9 HO HPI HCn pc1 b4 yi hT2
                    go_wp2_with fail
                    go_region_held3 (fun w' => w'.cell? ⟨p', 0, none⟩ = some (.slice (some ⟨b', 0, none⟩) L L)) (first | with_reducible exact hS6 | with_reducible assumption)
                      (first
                        | (go_at_call 26; refine (HA.out.w1 ?_).mono ?_; with_reducible exact hT6d; rintro e7 w7 ⟨u, rfl, hT7, hS7⟩)
                        | (go_at_call 25; refine (HA.out.w2 ?_).mono ?_; with_reducible assumption; rintro e8 w8 ⟨rfl, hT8, hS8⟩))
                    obtain ⟨s10, fP10, fG10, fU10, h10, hP10, hC10⟩ := HE.out w8 hT8
                    have H10 := hid h10
                    have HP10 := hid hP10
                    have HC10 := hid hC10
                    clear hT6d hT7 hS7 hS6 hT8 hS8 h10 hP10 hC10 HA HE hpl
                    (try clear hHeld)
                    go_wp2
                    go_roundw
                    case rel => exact ⟨j + 1, _, _, _, _, by omega, by go_num, H10.out, HP10.out, HC10.out⟩
                    case measure => simp [intOf]; omega
                · have HB := hid HO.out.a.kn.bel
                  by_cases hj2 : j < pn
                  · have hjl : (j : Int) < (pn : Int) := by omega
                    have hall : (nu : Int) ≤ 0 := by omega
                    go_wp2_with fail
                    refine (known_yes _).mono ?_
                    rintro e w9 ⟨rfl, K⟩
                    have HF := hid (bel_q0 HW0.out HQ0.out (bel_trans HB.out K))
                    clear K
                    go_wp2
                    go_ret
                    exact ⟨rfl, HF.out⟩
                  · have hjl : (pn : Int) ≤ (j : Int) := by omega
                    go_wp2_with fail
                    refine (known_yes _).mono ?_
                    rintro e w9 ⟨rfl, K⟩
                    have HF := hid (bel_q0 HW0.out HQ0.out (bel_trans HB.out K))
                    clear K
                    go_wp2
                    go_ret
                    exact ⟨rfl, HF.out⟩
    · have hf : canB (za : Int) (zs : Int) = false := by simpa using hcan
      rw [hf]
      have c0 := HT.out.a.kn.c0
      have c1 := HT.out.a.kn.c1
      clear hcan
      go_wp2_with fail
      refine (push_no _ 1 hf).mono ?_
      rintro e w7 ⟨rfl, K⟩
      have HT7 := hid (HT.out.below K)
      clear K c0 c1 HT
      have c0 := HT7.out.a.kn.c0
      have c1 := HT7.out.a.kn.c1
      go_wp2_with fail
      refine (pop_no _ hf).mono ?_
      rintro e w8 ⟨rfl, K⟩
      have HT8 := hid (HT7.out.below K)
      clear K c0 c1 HT7
      go_wp2_with fail
      refine (known_yes _).mono ?_
      rintro e w9 ⟨rfl, K⟩
      have HF := hid (bel_q0 HW0.out HQ0.out (bel_trans HT8.out.a.kn.bel K))
      clear K HT8
      go_wp2
      go_ret
      exact ⟨rfl, HF.out⟩
end Go.Proofs.Ytfnfbceblpaggaa
