/- The walk of RingOnce: for every case the call returns true; nothing that lay before is changed. Condition: the case's lists read as such. -/
import Derived.Test.YtfnfbceblpaggaaY4
import Derived.Deep.CutRange
namespace Go.Proofs.Ytfnfbceblpaggaa
open Go.RowKit

/-- The case's own block. -/
structure Bx (W : World) (q : Nat) (c : Cs) : Prop where
  c0 : W.cell? ⟨q, 0, none⟩ = some (.int .u8 c.za)
  c1 : W.cell? ⟨q, 1, none⟩ = some (.int .u8 c.zs)
  c2 : W.cell? ⟨q, 2, none⟩ = some (.slice c.vq c.vn c.vc)
  c3 : W.cell? ⟨q, 3, none⟩ = some (.int .u8 c.zp)
  c4 : W.cell? ⟨q, 4, none⟩ = some (.slice c.pq c.pn c.pc)
  c5 : W.cell? ⟨q, 5, none⟩ = some (.int .u8 c.zw)
  lt : q < W.heap.size
theorem Bx.new (w : World) (c : Cs) : Bx (w.alloc (.cells (csC c) 25)) w.heap.size c := by
  have h := heap_alloc_new w (.cells (csC c) 25 (0, 0))
  exact ⟨cell_of h rfl, cell_of h rfl, cell_of h rfl, cell_of h rfl, cell_of h rfl, cell_of h rfl, lt_of_block h⟩
theorem Bx.below {W W' : World} {q : Nat} {c : Cs} (h : Bx W q c) (k : Below W.heap.size W W') : Bx W' q c :=
  ⟨(k.cell (p := ⟨q, 0, none⟩) h.lt).trans h.c0, (k.cell (p := ⟨q, 1, none⟩) h.lt).trans h.c1, (k.cell (p := ⟨q, 2, none⟩) h.lt).trans h.c2, (k.cell (p := ⟨q, 3, none⟩) h.lt).trans h.c3, (k.cell (p := ⟨q, 4, none⟩) h.lt).trans h.c4, (k.cell (p := ⟨q, 5, none⟩) h.lt).trans h.c5, Nat.lt_of_lt_of_le h.lt k.size⟩
theorem CsOk.below {W W' : World} {c : Cs} {f : Nat → Int} {z : Nat → Nat} (h : CsOk W c f z) (k : Below W.heap.size W W') : CsOk W' c f z := by
  refine { h with nl := ⟨h.nl.1, h.nl.2.1, fun hn => ?_⟩, pl := ⟨h.pl.1, h.pl.2.1, fun hn => ?_⟩ }
  · obtain ⟨b, off, e, h1, h2⟩ := h.nl.2.2 hn
    exact ⟨b, off, e, Nat.lt_of_lt_of_le h1 k.size, fun i hi => (k.cell (p := ⟨b, off + i, none⟩) h1).trans (h2 i hi)⟩
  · obtain ⟨b, off, e, h1, h2⟩ := h.pl.2.2 hn
    exact ⟨b, off, e, Nat.lt_of_lt_of_le h1 k.size, fun i hi => (k.cell (p := ⟨b, off + i, none⟩) h1).trans (h2 i hi)⟩

theorem nat_beq5 (k : Nat) : ((k : Int) == 5) = (k == 5) := by
  by_cases q : k = 5
  · subst q; rfl
  · rw [beq_eq_false_iff_ne.2 q, beq_eq_false_iff_ne.2 (by omega)]
theorem bel_q0 {q : Nat} {w W w' : World} (h : Below q w W) (e : w.heap.size = q) (k : Below W.heap.size W w') : Below w.heap.size w w' := by
  subst e
  exact bel_trans h k

set_option maxRecDepth 100000 in
set_option maxHeartbeats 4000000 in
theorem once_walk (c : Cs) (f : Nat → Int) (z : Nat → Nat) (w : World) (hC : CsOk w c f z) :
    Calls Try.prog 4 #[.agg (csC c)] w fun e w' => e = .returned (.bool true) ∧ Below w.heap.size w w' := by
  have HB0 := hid (Bx.new w c)
  have HC := hid (hC.below (below_alloc w (.cells (csC c) 25)))
  have hvm := hC.nl.1
  have hpm := hC.pl.1
  unfold maxLen at hvm hpm
  have hbs := hC.bs
  have hbp := hC.bp
  clear hC
  obtain ⟨za, zs, vq, vn, vc, zp, pq, pn, pc, zw⟩ := c
  simp only [] at hvm hpm hbs hbp
  obtain ⟨c4, hc4⟩ : ∃ c : Nat, zs % 4 = c := ⟨_, rfl⟩
  obtain ⟨ng, hng⟩ : ∃ c : Nat, zp % 12 = c := ⟨_, rfl⟩
  have hcb : c4 < 4 := by omega
  have hngb : ng < 12 := by omega
  have hs0 : (0 : Int) ≤ (zs : Int) := by omega
  have hs1 : (zs : Int) < 256 := by omega
  have hp0 : (0 : Int) ≤ (zp : Int) := by omega
  have hp1 : (zp : Int) < 256 := by omega
  have htm : (zs : Int).tmod 4 = (c4 : Int) := by rw [Int.tmod_eq_emod_of_nonneg (by omega)]; omega
  have HM : Hid ((zp : Int).tmod 12 = (ng : Int)) := hid (by rw [Int.tmod_eq_emod_of_nonneg (by omega)]; omega)
  clear hc4 hng
  by_cases hbig : 12 < vn ∨ 400 < pn
  · by_cases hl1 : 12 < vn
    · have hd : decide ((12 : Int) < (vn : Int)) = true := by simp; omega
      clear hbig htm
      go_enter Try.func4, Try.ntmps4
      go_wp2_with fail
      refine (known_yes _).mono ?_
      rintro e w9 ⟨rfl, K⟩
      have HF := hid (bel_trans (below_alloc _ _) K)
      clear K
      go_wp2
      go_ret
      exact ⟨rfl, HF.out⟩
    · have hd : decide ((12 : Int) < (vn : Int)) = false := by simp; omega
      have hd2 : decide ((400 : Int) < (pn : Int)) = true := by simp; omega
      clear hbig htm
      go_enter Try.func4, Try.ntmps4
      go_wp2_with fail
      refine (known_yes _).mono ?_
      rintro e w9 ⟨rfl, K⟩
      have HF := hid (bel_trans (below_alloc _ _) K)
      clear K
      go_wp2
      go_ret
      exact ⟨rfl, HF.out⟩
  · have hd : decide ((12 : Int) < (vn : Int)) = false := by simp; omega
    have hd2 : decide ((400 : Int) < (pn : Int)) = false := by simp; omega
    have hvn : vn ≤ 12 := by omega
    have hpn : pn ≤ 400 := by omega
    clear hbig
    go_enter Try.func4, Try.ntmps4
    go_wp2_with fail
    clear htm hd hd2
    have HW0 := hid (below_alloc w (.cells (csC ⟨za, zs, vq, vn, vc, zp, pq, pn, pc, zw⟩) 25))
    generalize w.alloc (.cells #[.int .u8 (za : Int), .int .u8 (zs : Int), .slice vq vn vc, .int .u8 (zp : Int), .slice pq pn pc, .int .u8 (zw : Int)] 25) = W0 at *
    generalize hq0 : w.heap.size = q0 at *
    have HQ0 := hid hq0
    clear hq0
    obtain ⟨n, hn⟩ : ∃ n : Nat, (n : Int) = 2 + (c4 : Int) := ⟨2 + c4, by simp⟩
    have hn0 : 2 ≤ n := by omega
    have hn1 : n ≤ 5 := by omega
    rw [← hn]
    clear hn hcb
    refine (new_yes 40 _ (by decide) (by decide)).mono ?_
    rintro e w1 ⟨rfl, hM1, hB1⟩
    have K0 := hid (Kn.first (s := ⟨List.replicate 40 0, 0, 0⟩) 2 n hM1 hB1)
    clear hM1 hB1
    have c0 := K0.out.c0
    have c1 := K0.out.c1
    generalize W0.heap.size + 1 = p at *
    obtain ⟨q, hq⟩ : ∃ q, W0.heap.size = q := ⟨_, rfl⟩
    rw [hq] at K0
    clear hq
    go_wp2_with fail
    refine (init_at (c := 0) K0.out.mem (cnt_of (by kernel_rfl)) (by decide) n ((2 : Nat) : Int) (qok_of (by omega) hn0 (by omega))).mono ?_
    rintro e wa ⟨rfl, T⟩
    rw [(initR_fit (emp n) ⟨List.replicate 40 0, 0, 0⟩ 2 (by rw [empK_length]; simp; omega)).1]
    have J0 := hid (K0.out.turn T)
    have hrp := rep_init (L := 40) (ad := 2) (n := n) (by omega)
    have hso := sok_init (L := 40) (ad := 2) (n := n) (by omega) (by omega)
    have hcn : Cnt (initR ⟨List.replicate 40 0, 0, 0⟩ ((2 : Nat) : Int) (emp n)).1 1000 := (initR_cnt (emp n) ⟨List.replicate 40 0, 0, 0⟩ ((2 : Nat) : Int) 0 ⟨by simp, by simp, by simp, by simp⟩).mono (by rw [empK_length]; omega)
    clear T K0 c0 c1
    generalize (initR ⟨List.replicate 40 0, 0, 0⟩ ((2 : Nat) : Int) (emp n)).1 = s0 at *
    have HR := hid hrp
    have HS := hid hso
    have HCN := hid hcn
    clear hrp hso hcn
    go_wp2
    generalize w1.heap.size = r at *
    have D0 := hid (Wd.first2 J0.out (fun _ => 0) (fun _ => 0) (fun k => toPr 2 n (some ((100 + k : Nat) : Int)) ap0) (fun _ => toPr 2 n none ap0))
    clear J0
    go_loopw [7, 9] (fun v i wr => ∃ (k : Nat) (GP : Nat → Nat), k ≤ vn ∧ i = .int .i64 k ∧ Wd W0 p q r 2 n wr s0 k GP (fun k => toPr 2 n (some ((100 + k : Nat) : Int)) ap0) v 0 (fun _ => 0) (fun _ => toPr 2 n none ap0) (.slice none 0 0)) (fun _ i _ => vn - (intOf i).toNat)
    case atStart => exact ⟨0, _, by omega, rfl, D0.out⟩
    case round =>
      obtain ⟨k, GP, hk, rfl, hD⟩ := hrel
      have HD := hid hD
      have b2 := (HB0.out.below hD.kn.bel).c2
      have c0 := hD.kn.c0
      have c1 := hD.kn.c1
      simp only [] at b2
      clear hD D0
      by_cases hlt : k < vn
      · have hkl : (k : Int) < (vn : Int) := by omega
        go_wp2_with fail
        refine (push_at _ (100 + (k : Int)) (ad := 2) (sz := n) (qok_of (ad := 2) (by omega) hn0 (by omega))).mono ?_
        rintro e w4 ⟨g, rfl, hW4, hg4, hB4⟩
        have HB4 := hid hB4
        have HW4 := hid hW4
        have HG4 := hid hg4
        obtain ⟨i39, hi, hz0, hz1, hz2⟩ := info39
        have hzz : (Value.pointer none).cells.size = 1 := rfl
        obtain ⟨sq, sc, rfl⟩ := HD.out.fp.len
        clear hW4 hB4 hg4 b2 c0 c1
        go_wp2_with (at_builtin; (refine wpList_append_own_at _ rfl _ _ 44 rfl W0.heap.size 39 i39 (.pointer none) 1 8 Try.underlying44 hi hz0 hz1 hz2 hzz (by decide) _ k (ptrs k GP) rfl ?o0 ⟨w4.heap.size, 0, none⟩ 1 _ [ptr g] rfl ?k0 ?k1 ?k2 ?k3 ?k4 ?k5 ?_))
        case o0 => exact (HD.out.fp.below (zkeep HB4.out _)).own
        case k0 => rfl
        case k1 => exact one_cell w4 g 39
        case k2 => exact one_plain g
        case k3 => unfold maxLen; omega
        case k4 => omega
        case k5 => exact Nat.le_trans HD.out.kn.bel.size (zkeep HB4.out _).size
        intro v' w6 hown hgrow hnil hat
        have h6 := HD.out.pushP (zkeep HB4.out (.cells #[ptr g] 39)) HG4.out (HW4.out.below (below_alloc _ _)) hown hgrow (hat.imp id (fun h => h.trans (by simp)))
        rw [show (⟨2, (n : Int), some (100 + (k : Int)), 0, 0, 0, false⟩ : Pr) = (fun k : Nat => toPr 2 n (some ((100 + k : Nat) : Int)) ap0) k by simp [toPr], put_self] at h6
        have H6 := hid h6
        clear h6 hown hgrow hnil hat hi hz0 hz1 hz2 hzz HB4 HW4 HG4 HD
        go_wp2
        go_roundw
        case rel => exact ⟨k + 1, _, by omega, by go_num, H6.out⟩
        case measure => simp [intOf]; omega
      · have hkl : (vn : Int) ≤ (k : Int) := by omega
        obtain rfl : vn = k := by omega
        obtain ⟨vPq, vPc, rfl⟩ := HD.out.fp.len
        clear c0 c1
        go_wp2
        clear b2
        go_loopw [8, 10] (fun v i wr => ∃ (k : Nat) (GG : Nat → Nat), k ≤ ng ∧ i = .int .i64 k ∧ Wd W0 p q r 2 n wr s0 vn GP (fun k => toPr 2 n (some ((100 + k : Nat) : Int)) ap0) (.slice vPq vn vPc) k GG (fun _ => toPr 2 n none ap0) v) (fun _ i _ => ng - (intOf i).toNat)
        case atStart => exact ⟨0, _, by omega, rfl, HD.out⟩
        case round =>
          rename World => wo
          obtain ⟨k, GG, hk, rfl, hD2⟩ := hrel
          have HD2 := hid hD2
          have b3 := (HB0.out.below hD2.kn.bel).c3
          have c0 := hD2.kn.c0
          have c1 := hD2.kn.c1
          simp only [] at b3
          clear hD2 HD
          have htm := HM.out
          by_cases hlt : k < ng
          · have hkl2 : (k : Int) < (ng : Int) := by omega
            go_wp2_with fail
            clear htm
            refine (pop_at _ (ad := 2) (sz := n) (qok_of (ad := 2) (by omega) hn0 (by omega))).mono ?_
            rintro e w4 ⟨g, rfl, hW4, hg4, hB4⟩
            have HB4 := hid hB4
            have HW4 := hid hW4
            have HG4 := hid hg4
            obtain ⟨i42, hi, hz0, hz1, hz2⟩ := info42
            have hzz : (Value.pointer none).cells.size = 1 := rfl
            obtain ⟨sq, sc, rfl⟩ := HD2.out.fg.len
            clear hW4 hB4 hg4 b3 c0 c1
            go_wp2_with (at_builtin; (refine wpList_append_own_at _ rfl _ _ 45 rfl W0.heap.size 42 i42 (.pointer none) 1 8 Try.underlying45 hi hz0 hz1 hz2 hzz (by decide) _ k (ptrs k GG) rfl ?q0 ⟨w4.heap.size, 0, none⟩ 1 _ [ptr g] rfl ?m0 ?m1 ?m2 ?m3 ?m4 ?m5 ?_))
            case q0 => exact (HD2.out.fg.below (zkeep HB4.out _)).own
            case m0 => rfl
            case m1 => exact one_cell w4 g 42
            case m2 => exact one_plain g
            case m3 => unfold maxLen; omega
            case m4 => omega
            case m5 => exact Nat.le_trans HD2.out.kn.bel.size (zkeep HB4.out _).size
            intro v' w6 hown hgrow hnil hat
            have h6 := HD2.out.pushG (zkeep HB4.out (.cells #[ptr g] 42)) HG4.out (HW4.out.below (below_alloc _ _)) hown hgrow (hat.imp id (fun h => h.trans (by simp)))
            rw [show (⟨2, (n : Int), none, 0, 0, 0, false⟩ : Pr) = (fun _ : Nat => toPr 2 n none ap0) k by simp [toPr], put_self] at h6
            have H6 := hid h6
            clear h6 hown hgrow hnil hat hi hz0 hz1 hz2 hzz HB4 HW4 HG4 HD2
            go_wp2
            go_roundw
            case rel => exact ⟨k + 1, _, by omega, by go_num, H6.out⟩
            case measure => simp [intOf]; omega
          · have hkl2 : (ng : Int) ≤ (k : Int) := by omega
            obtain rfl : ng = k := by omega
            obtain ⟨vGq, vGc, rfl⟩ := HD2.out.fg.len
            clear c0 c1
            have HO0 := hid (Oe.first (by omega) HD2.out HR.out HS.out HCN.out)
            go_wp2
            clear htm b3 HD2
            go_loopw [12] (fun i wr => ∃ (j : Nat) (s1 : St) (R1 : Rg) (P1 G1 : Nat → Ap) (D1 E1 : Nat → Bool) (val1 : Nat → Nat), j ≤ pn ∧ i = .int .i64 j ∧ Oe W0 p q r n vn GP (.slice vPq vn vPc) ng GG (.slice vGq ng vGc) (3 * j) wr s1 R1 P1 G1 D1 E1 val1) (fun i _ => pn - (intOf i).toNat)
            case atStart => exact ⟨0, _, _, _, _, _, _, _, by omega, rfl, HO0.out⟩
            case round =>
              rename World => wm
              obtain ⟨j, s1, R1, P1, G1, D1, E1, val1, hj, rfl, hO⟩ := hrel
              have HO := hid hO
              have b4 := (HB0.out.below hO.wd.kn.bel).c4
              simp only [] at b4
              clear hO HO0
              by_cases hgo : j < pn ∧ 0 < vn + ng
              · have hjl : (j : Int) < (pn : Int) := by omega
                have hall : (0 : Int) < (vn : Int) + (ng : Int) := by omega
                obtain ⟨pb, po, hpq, hpb, hpc⟩ := HC.out.pl.2.2 (by simp only []; omega)
                simp only [] at hpq hpc
                subst hpq
                have pc1 : wm.cell? ⟨pb, po + j, none⟩ = some (.int .u8 (z j : Int)) := (HO.out.wd.kn.bel.cell (p := ⟨pb, po + j, none⟩) hpb).trans (hpc j hgo.1)
                have hz256 := HC.out.pl.2.1 j
                clear hpc
                generalize z j = zj at pc1 hz256
                obtain ⟨i, hi⟩ : ∃ i, zj % (vn + ng) = i := ⟨_, rfl⟩
                have hik : i < vn + ng := by rw [← hi]; exact Nat.mod_lt _ (by omega)
                have hi0 : (0 : Int) ≤ (i : Int) := Int.natCast_nonneg i
                have hz0 : (0 : Int) ≤ (zj : Int) := Int.natCast_nonneg zj
                have hz1 : (zj : Int) < 256 := by omega
                have hkz : (((vn : Int) + (ng : Int)) == 0) = false := beq_eq_false_iff_ne.2 (by omega)
                have htm : (zj : Int).tmod ((vn : Int) + (ng : Int)) = (i : Int) := by rw [Int.tmod_eq_emod_of_nonneg hz0, ← hi]; simp
                clear hi
                go_upto_if 115 with fail
                clear htm
                go_cut [] from 93 to 224 (fun wx => ∃ (s2 : St) (R2 : Rg) (P2 G2 : Nat → Ap) (D2 E2 : Nat → Bool) (val2 : Nat → Nat), Oe W0 p q r n vn GP (.slice vPq vn vPc) ng GG (.slice vGq ng vGc) (3 * j + 1) wx s2 R2 P2 G2 D2 E2 val2)
                case first =>
                  by_cases hip : i < vn
                  · have hip2 : (i : Int) < (vn : Int) := by omega
                    obtain ⟨sq, hsq, hscm, hsc, hsl⟩ := HO.out.wd.fp.at (by omega)
                    subst hsq
                    have si := hsl i hip
                    clear hsl
                    unfold maxLen at hscm
                    have HST := hid (stepP (HO.out.wd.hsP hip) (HO.out.yP hn0 (by omega) (by omega) (by omega) hip).xo HO.out.co (by unfold bnd; omega))
                    go_wp2_with fail
                    refine HST.out.mono ?_
                    rintro e w3 ⟨rfl, T⟩
                    obtain ⟨s2, R2, P2, D2, val2, h1⟩ := HO.out.stepP hn0 (by omega) (by omega) (by omega) hip T
                    have H1 := hid h1
                    clear h1 T HST HO si pc1 b4
                    generalize ((pX s1 (toPr 2 n (some ((100 + i : Nat) : Int)) (P1 i))).tn == 5) = sd
                    go_wp2
                    go_meet
                    case rel => exact ⟨_, _, _, _, _, _, _, H1.out⟩
                  · have hip2 : (vn : Int) ≤ (i : Int) := by omega
                    obtain ⟨ig, hig⟩ : ∃ ig : Nat, i = vn + ig := ⟨i - vn, by omega⟩
                    have higl : ig < ng := by omega
                    obtain ⟨sq, hsq, hscm, hsc, hsl⟩ := HO.out.wd.fg.at (by omega)
                    subst hsq
                    have si := hsl ig higl
                    clear hsl
                    unfold maxLen at hscm
                    have hsub0 : (i : Int) - (vn : Int) = (ig : Int) := by omega
                    have hig0 : (0 : Int) ≤ (ig : Int) := by omega
                    have hig1 : (ig : Int) < (ng : Int) := by omega
                    have HST := hid (stepG (HO.out.wd.hsG higl) (HO.out.yG hn0 (by omega) (by omega) higl).xo HO.out.co (by unfold bnd; omega))
                    clear hig
                    go_wp2_with fail
                    refine HST.out.mono ?_
                    rintro e w3 ⟨rfl, T⟩
                    obtain ⟨s2, R2, G2, E2, h1⟩ := HO.out.stepG hn0 (by omega) (by omega) higl T
                    have H1 := hid h1
                    clear h1 T HST HO si pc1 b4
                    generalize ((pX s1 (toPr 2 n none (G1 ig))).tn == 5) = sd
                    go_wp2
                    go_meet
                    case rel => exact ⟨_, _, _, _, _, _, _, H1.out⟩
                case rest =>
                  obtain ⟨s2, R2, P2, G2, D2, E2, val2, h1⟩ := hcut
                  have H1 := hid h1
                  clear h1 HO pc1 b4
                  have hl2 : 2 < s2.xs.length := by have := H1.out.rep.len; omega
                  have hl3 : 3 < s2.xs.length := by have := H1.out.rep.len; omega
                  have e2 : loadV s2 2 = (R2.i : Int) := (loadV_nat (A := 2) hl2).trans H1.out.rep.hi
                  have e2e : errV s2 2 = 0 := errV_nat (A := 2) hl2
                  have hx2 : (loadT s2 2).xs = s2.xs := loadT_nat (A := 2) hl2
                  have e3 : loadV (loadT s2 2) 3 = (R2.o : Int) := by
                    rw [show loadV (loadT s2 2) 3 = (loadT s2 2).xs.getD 3 0 from loadV_nat (A := 3) (by rw [hx2]; exact hl3), hx2]
                    exact H1.out.rep.ho
                  have e3e : errV (loadT s2 2) 3 = 0 := errV_nat (A := 3) (by rw [hx2]; exact hl3)
                  have HL3 : Hid (3 < (loadT s2 2).xs.length) := hid (by rw [hx2]; exact hl3)
                  have HL2 := hid hl2
                  clear hl2 hl3 hx2
                  go_wp2_with fail
                  refine (load_any H1.out.wd.kn.mem H1.out.co (by unfold bnd; omega) 2).mono ?_
                  rintro e w4 ⟨rfl, T⟩
                  rw [e2, e2e]
                  have H2 : Hid (Oe W0 p q r n vn GP _ ng GG _ (3 * j + 1 + 1) w4 (loadT s2 2) R2 P2 G2 D2 E2 val2) := hid (H1.out.load 2 HL2.out T)
                  clear T e2 e2e
                  go_wp2_with fail
                  refine (load_any H2.out.wd.kn.mem H2.out.co (by unfold bnd; omega) 3).mono ?_
                  rintro e w5 ⟨rfl, T⟩
                  rw [e3, e3e]
                  have H3 : Hid (Oe W0 p q r n vn GP _ ng GG _ (3 * j + 1 + 1 + 1) w5 (loadT (loadT s2 2) 3) R2 P2 G2 D2 E2 val2) := hid (H2.out.load 3 HL3.out T)
                  clear T e3 e3e H2 H1 HL2 HL3
                  have hle : (R2.o : Int) ≤ (R2.i : Int) := by have := H3.out.oi.le; omega
                  have hroom : (R2.i : Int) ≤ (R2.o : Int) + (n : Int) := by have := H3.out.oi.room; omega
                  have hrib : (R2.i : Int) ≤ 100000 := by have := H3.out.ri; omega
                  have hro0 : (0 : Int) ≤ (R2.o : Int) := by omega
                  generalize loadT (loadT s2 2) 3 = s3 at H3
                  have HOI := hid H3.out.oi
                  have hmk := run_make_row' (P := Try.prog) 66 3 (.int .i64 0) 8 Try.underlying66 info3 rfl .i64 .i64 vn (by omega) (by omega)
                  generalize (R2.i : Int) = ri at hle hroom hrib ⊢
                  generalize (R2.o : Int) = ro at hle hroom hro0 ⊢
                  have hsub : 0 ≤ ri - ro := by omega
                  have hsub2 : ri - ro ≤ (n : Int) := by omega
                  go_wp2
                  clear hmk hsub hsub2 hle hroom hrib hro0
                  have I0 : Hid (IsIn (w5.alloc (.cells (madeCells #[(.int .i64 0 : Value)] vn) 3)) w5.heap.size (hadL G2 val2 vn 0)) := hid (by rw [hadL_zero]; exact isIn_new _ _)
                  have B0 := hid (below_alloc w5 (.cells (madeCells #[(.int .i64 0 : Value)] vn) 3))
                  generalize w5.alloc (.cells (madeCells #[(.int .i64 0 : Value)] vn) 3) = w6 at *
                  generalize hhb : w5.heap.size = hb at *
                  have HHB := hid hhb
                  clear hhb
                  go_loopw [19] (fun i wr => ∃ k : Nat, k ≤ ng ∧ i = .int .i64 k ∧ Below hb w5 wr ∧ IsIn wr hb (hadL G2 val2 vn k)) (fun i _ => ng - (intOf i).toNat)
                  case atStart => exact ⟨0, by omega, rfl, B0.out, I0.out⟩
                  case round =>
                    rename World => wq
                    obtain ⟨k, hk, rfl, hB6, hI6⟩ := hrel
                    have HB6 := hid hB6
                    have HI6 := hid hI6
                    clear hB6 hI6 I0 B0
                    by_cases hkn : k < ng
                    · have hkl3 : (k : Int) < (ng : Int) := by omega
                      obtain ⟨gq, hgq, hgm, _, hgl⟩ := H3.out.wd.fg.at (by omega)
                      first | subst hgq | (simp only [Option.some.injEq, Addr.mk.injEq, and_true] at hgq; subst hgq)
                      have hglt := World.block_lt_of_cell? w5 ⟨_, k, none⟩ (hgl k hkn)
                      simp only [] at hglt
                      rw [HHB.out] at hglt
                      have gi := (HB6.out.cell (p := ⟨_, k, none⟩) hglt).trans (hgl k hkn)
                      have gpr : IsPr 90 wq (GG k) (toPr 2 n none (G2 k)) := (HB6.out.block _ (by have := lt_of_block (H3.out.wd.fg.pr k hkn); rw [HHB.out] at this; exact this)).trans (H3.out.wd.fg.pr k hkn)
                      have HST := hid (resG gpr)
                      clear gpr hgl hglt
                      unfold maxLen at hgm
                      go_wp2_with fail
                      refine HST.out.mono ?_
                      rintro e w7 ⟨rfl, hw7⟩
                      rw [hw7]
                      clear hw7 w7 HST
                      by_cases hwh : (G2 k).wh = true
                      · obtain ⟨hmv, hvb⟩ := HOI.out.got hkn hwh
                        rw [show gotV (toPr 2 n none (G2 k)) = 100 + ((val2 (G2 k).ps : Nat) : Int) by simp only [gotV, hwh, if_true, hmv]; omega, hwh]
                        generalize gotD (toPr 2 n none (G2 k)) = gd
                        have hyes := hadL_yes G2 val2 vn k hwh
                        have hcell := HI6.out.cell (val2 (G2 k).ps) (by rw [hadL_len]; exact hvb)
                        rw [hadL_get _ _ hvb] at hcell
                        have hfr := HI6.out.free (val2 (G2 k).ps)
                        have hone := HOI.out.had_one (k := val2 (G2 k).ps) (j := k) (by omega)
                        have HYES := hid hyes
                        clear hyes hmv hwh
                        generalize val2 (G2 k).ps = kk at *
                        generalize hadN G2 val2 k kk = hv at *
                        have hv0 : (0 : Int) ≤ (hv : Int) := by omega
                        have hv1 : (hv : Int) ≤ 1 := by omega
                        have hk0 : (0 : Int) ≤ (kk : Int) := by omega
                        have hk1 : (kk : Int) < (vn : Int) := by omega
                        have hsb : 100 + (kk : Int) - 100 = (kk : Int) := by omega
                        go_wp2
                        go_roundw
                        case rel => exact ⟨k + 1, by omega, by go_num, below_set HB6.out hb _ _ (Nat.le_refl _), by rw [HYES.out]; exact HI6.out.set _ _⟩
                        case measure => simp [intOf]; omega
                      · have hwf : (G2 k).wh = false := by simpa using hwh
                        rw [show gotV (toPr 2 n none (G2 k)) = 0 by simp only [gotV, hwf, Bool.false_eq_true, if_false], hwf]
                        generalize gotD (toPr 2 n none (G2 k)) = gd
                        have HNO := hid (hadL_no G2 val2 vn k hwf)
                        clear hwh hwf
                        go_wp2
                        go_roundw
                        case rel => exact ⟨k + 1, by omega, by go_num, HB6.out, by rw [HNO.out]; exact HI6.out⟩
                        case measure => simp [intOf]; omega
                    · have hkl3 : (ng : Int) ≤ (k : Int) := by omega
                      obtain rfl : ng = k := by omega
                      go_wp2
                      go_loopw [23] (fun i wr => ∃ k : Nat, k ≤ vn ∧ i = .int .i64 k ∧ Below wq.heap.size wq wr) (fun i _ => vn - (intOf i).toNat)
                      case atStart => exact ⟨0, by omega, rfl, Below.refl _ _⟩
                      case round =>
                        rename World => wz
                        obtain ⟨k, hk2, rfl, hB7⟩ := hrel
                        have HB7 := hid (bel_hb HB6.out HHB.out hB7)
                        have HI7 := hid (HI6.out.below hB7)
                        have HB8 := hid hB7
                        clear hB7
                        by_cases hkv : k < vn
                        · have hkl4 : (k : Int) < (vn : Int) := by omega
                          obtain ⟨gq2, hgq2, hgm2, _, hgl2⟩ := H3.out.wd.fp.at (by omega)
                          first | subst hgq2 | (simp only [Option.some.injEq, Addr.mk.injEq, and_true] at hgq2; subst hgq2)
                          have hglt2 := World.block_lt_of_cell? w5 ⟨_, k, none⟩ (hgl2 k hkv)
                          simp only [] at hglt2
                          rw [HHB.out] at hglt2
                          have gi2 := (HB7.out.cell (p := ⟨_, k, none⟩) hglt2).trans (hgl2 k hkv)
                          have gpr2 : IsPr 87 wz (GP k) (toPr 2 n (some ((100 + k : Nat) : Int)) (P2 k)) := (HB7.out.block _ (by have := lt_of_block (H3.out.wd.fp.pr k hkv); rw [HHB.out] at this; exact this)).trans (H3.out.wd.fp.pr k hkv)
                          have HST2 := hid (resP gpr2)
                          clear gpr2 hgl2 hglt2
                          unfold maxLen at hgm2
                          have hcell := HI7.out.cell k (by rw [hadL_len]; exact hkv)
                          rw [hadL_get _ _ hkv] at hcell
                          have hone := HOI.out.had_one (k := k) (j := ng) (by omega)
                          have hwho := fun h => HOI.out.whose (k := k) h
                          have hcl := lt_of_block HI7.out
                          go_wp2_with fail
                          refine HST2.out.mono ?_
                          rintro e w7 ⟨rfl, mm, hmm⟩
                          have hBm : Below wz.heap.size wz w7 := by rw [hmm]; exact below_drewN (Below.refl _ _) mm
                          have hc7 := (hBm.cell (p := ⟨hb, k, none⟩) hcl).trans hcell
                          have HB9 := hid (bel_trans HB8.out hBm)
                          clear hmm hBm hcell HST2 hcl
                          rw [show (((P2 k).tn : Int) == 5) = ((P2 k).tn == 5) from nat_beq5 _]
                          generalize (P2 k).wh = pw at *
                          generalize (P2 k).tn = pt at *
                          obtain h0 | h0 : hadN G2 val2 ng k = 0 ∨ hadN G2 val2 ng k = 1 := by omega
                          · rw [h0] at hc7
                            clear hwho h0 hone
                            generalize (pt == 5) = pd
                            go_wp2
                            go_roundw
                            case rel => exact ⟨k + 1, by omega, by go_num, HB9.out⟩
                            case measure => simp [intOf]; omega
                          · rw [h0] at hc7
                            by_cases hpt : pt = 5
                            · have hpw : pw = true := hwho (by omega) hpt
                              rw [hpw, show (pt == 5) = true by simp [hpt]]
                              clear hwho h0 hone hpw
                              go_wp2
                              go_roundw
                              case rel => exact ⟨k + 1, by omega, by go_num, HB9.out⟩
                              case measure => simp [intOf]; omega
                            · rw [show (pt == 5) = false by simp [hpt]]
                              clear hwho h0 hone
                              go_wp2
                              go_roundw
                              case rel => exact ⟨k + 1, by omega, by go_num, HB9.out⟩
                              case measure => simp [intOf]; omega
                        · have hkl4 : (vn : Int) ≤ (k : Int) := by omega
                          have HE := hid (H3.out.below (by have := HB7.out; rw [← HHB.out] at this; exact this))
                          go_wp2
                          go_roundw
                          case rel => exact ⟨j + 1, _, _, _, _, _, _, _, by omega, by go_num, HE.out⟩
                          case measure => simp [intOf]; omega
              · have HB := hid HO.out.wd.kn.bel
                by_cases hj2 : j < pn
                · have hjl : (j : Int) < (pn : Int) := by omega
                  have hall : ((vn : Int) + (ng : Int)) ≤ 0 := by omega
                  go_wp2_with fail
                  refine (known_yes _).mono ?_
                  rintro e w9 ⟨rfl, K⟩
                  have HF := hid (bel_q0 HW0.out HQ0.out (bel_trans HB.out K))
                  clear K
                  go_wp2
                  go_ret
                  exact ⟨rfl, HF.out⟩
                · have hjl : (pn : Int) ≤ (j : Int) := by omega
                  go_wp2_with fail
                  refine (known_yes _).mono ?_
                  rintro e w9 ⟨rfl, K⟩
                  have HF := hid (bel_q0 HW0.out HQ0.out (bel_trans HB.out K))
                  clear K
                  go_wp2
                  go_ret
                  exact ⟨rfl, HF.out⟩
end Go.Proofs.Ytfnfbceblpaggaa
