/- What Unmap returns and leave. Conditions: the words and frames lie in memory; the tables are live; few calls have been counted. -/
import Derived.Test.YtpfmmlbakbhklaaGreatDoorN14
namespace Go.Proofs.YtpfmmlbakbhklaaGreatDoor
open Go.RowKit
section
variable {u : Si} {w : World} {t : Nat} {o root : Int} {s : Sm} {k : Nat}
set_option maxHeartbeats 2000000 in
theorem unmap_at (hT : IsT u w t 1 o root) (h : Wo u w s k) (hk : k + 200 ≤ bnd) (pg : Int) :
    Calls Tryz.prog 23 #[.pointer (some ⟨t, 0, none⟩), .int .i64 pg] w fun r w' => r = .returned (.tuple #[.int .i64 (unF s o root pg), .int .i64 (unE s o root pg)]) ∧ Wo u w' (unS s o root pg) (k + 100) ∧ Ch u w w' := by
  have HW := hid h
  have HT := hid hT
  have HK := hid hk
  have HF := hid (find_at hT h pg)
  by_cases hq : qE s root pg = 0
  · have HA := hid (fun (W : World) (b : Below w.heap.size w W) => alone_at (hT.below b) (h.below b) (by omega) pg hq)
    have hue : unE s o root pg = alE s o root pg := if_pos hq
    have HCH := hid (fun (W W' : World) (b : Below w.heap.size w W) (c : Ch u W W') => (hT.below b).ch (h.below b) c)
    rw [hq, sqC_lit hq] at HF
    rw [sqC_lit hq] at HA
    by_cases ha : alE s o root pg = 0
    · have hu0 : unE s o root pg = 0 := hue.trans ha
      have hf : unF s o root pg = (fdE (alS s o root pg) root pg).f := if_pos hu0
      have hs : unS s o root pg = thinS pg (wayF (unA s o root pg).xs pg 0 3 root).reverse (unA s o root pg) := if_pos hu0
      have HUA := hid (show unA s o root pg = lay (alS s o root pg) (P.at' (fd (alS s o root pg) root pg).1 pg (fd (alS s o root pg) root pg).2) P.zd from rfl)
      rw [ha, alC_lit ha] at HA
      rw [hu0, hf, hs]
      have HLA := hid (fun (W : World) (k' : Nat) (hT : IsT u W t 1 o root) (h : Wo u W (alS s o root pg) k') (hk : k' ≤ bnd) => lay_at' hT h hk (P.at' (fd (alS s o root pg) root pg).1 pg (fd (alS s o root pg) root pg).2) P.zd)
      rw [← HUA.out] at HLA
      generalize unA s o root pg = sa at *
      generalize alS s o root pg = s1 at *
      generalize P.at' (fd s1 root pg).1 pg (fd s1 root pg).2 = a1 at *
      generalize P.at' (fd s root pg).1 pg (fd s root pg).2 = a0 at *
      generalize (fd s1 root pg).1 = f1 at *
      generalize (fd s1 root pg).2 = v1 at *
      generalize (fd s root pg).1 = f0 at *
      generalize (fd s root pg).2 = v0 at *
      generalize (fdE s1 root pg) = e1 at *
      generalize (fdE s root pg) = e0 at *
      obtain ⟨xp, xr, xl, xf⟩ := e1
      obtain ⟨yp, yr, yl, yf⟩ := e0
      simp only at HF HA ⊢
      have HZ : Hid (P.eV P.zd = .agg #[.bool false, .int .i64 0, .bool false, .int .i64 0]) := rfl
      rw [HZ.out] at HLA
      clear hT h hk hq hue ha hu0 hf hs HUA
      go_enter Tryz.func23, Tryz.ntmps23
      go_wp2_with fail
      refine HF.out.mono ?_
      rintro r w1 ⟨rfl, hB1⟩
      have hB1a := hB1.alloc hB1.size (.cells #[.int .i64 f0, .int .i64 (v0 : Nat), .int .i64 a0, .bool yp, .int .i64 yr, .bool yl, .int .i64 yf] 97)
      have HB1 := hid hB1a
      have hn := heap_alloc_new w1 (.cells #[.int .i64 f0, .int .i64 (v0 : Nat), .int .i64 a0, .bool yp, .int .i64 yr, .bool yl, .int .i64 yf] 97)
      have HN := hid hn
      have HA1 := hid (HA.out _ hB1a)
      obtain ⟨g0, g1, g2, g3, g4, g5, g6⟩ := seven hn
      have HZ1 := hid hB1.size
      clear hB1 hB1a hn
      go_wp2_with fail
      refine HA1.out.mono ?_
      rintro r w2 ⟨rfl, hW2, hC2⟩
      have hN2 := (HW.out.below HB1.out).keep hC2 HN.out (by decide) (by decide) (by decide)
      have HN2 := hid hN2
      obtain ⟨x0, x1, x2, x3, x4, x5, x6⟩ := seven hN2
      obtain ⟨y0, y1, y2, y3, y4, y5, y6⟩ := free7 hN2
      have HW2 := hid hW2
      have HT2 := hid (HCH.out _ _ HB1.out hC2)
      have HC2 := hid ((Ch.of_below HB1.out).trans hC2)
      clear hW2 hC2 hN2 g0 g1 g2 g3 g4 g5 g6 HA HA1 HF
      have hb3 := bput7 (Below.refl w.heap.size w2) HZ1.out (.int .i64 f1) (.int .i64 (v1 : Nat)) (.int .i64 a1) (.bool xp) (.int .i64 xr) (.bool xl) (.int .i64 xf)
      have hN3 := put7 HN2.out (.int .i64 f1) (.int .i64 (v1 : Nat)) (.int .i64 a1) (.bool xp) (.int .i64 xr) (.bool xl) (.int .i64 xf)
      have HB3 := hid hb3
      have HN3 := hid hN3
      obtain ⟨z0, z1, z2, z3, z4, z5, z6⟩ := seven hN3
      have HW3 := hid (HW2.out.belowN hb3 HW.out.lt.1 HW.out.lt.2)
      have HT3 := hid (show IsT u _ t 1 o root from (hb3.block _ HT.out.lt).trans HT2.out)
      have HC3 := hid (HC2.out.below2 hb3)
      clear hb3 hN3
      go_wp2_with fail
      refine (HLA.out _ _ HT3.out HW3.out (by have := HK.out; omega)).mono ?_
      rintro r w4 ⟨rfl, hW4, hC4⟩
      have HN4 := hid (HW3.out.keep hC4 HN3.out (by decide) (by decide) (by decide))
      have HT4 := hid (HT3.out.ch HW3.out hC4)
      have HC4 := hid (HC3.out.trans hC4)
      have HW4 := hid hW4
      clear hW4 hC4 z0 z1 z2 z3 z4 z5 z6 x0 x1 x2 x3 x4 x5 x6 y0 y1 y2 y3 y4 y5 y6
      go_wp2_with fail
      refine (thin_at HT4.out HW4.out (by have := HK.out; omega) pg).mono ?_
      rintro r w5 ⟨rfl, hW5, hC5⟩
      have HN5 := hid (HW4.out.keep hC5 HN4.out (by decide) (by decide) (by decide))
      obtain ⟨z0, z1, z2, z3, z4, z5, z6⟩ := seven HN5.out
      have HW5 := hid hW5
      have HC5 := hid (HC4.out.trans hC5)
      clear hW5 hC5
      go_wp2
      go_ret2
      exact ⟨rfl, HW5.out.mono (by omega), HC5.out⟩
    · have hu0 : unE s o root pg ≠ 0 := by rw [hue]; exact ha
      have hf : unF s o root pg = 0 := if_neg hu0
      have hs : unS s o root pg = s := if_neg hu0
      have hz : alC s o root pg = zeC := if_neg ha
      have hss : alS s o root pg = s := by
        have hn : alE s o root pg = if (fdE s root pg).l = true then newE s o else 0 := rfl
        rw [hn] at ha
        unfold alS
        split at ha
        · rename_i hl
          rw [if_pos hl]
          exact if_neg ha
        · exact absurd rfl ha
      rw [hss, hz] at HA
      rw [hf, hs, hue]
      have hb : (alE s o root pg != 0) = true := by simpa using ha
      generalize alE s o root pg = ae at *
      generalize P.at' (fd s root pg).1 pg (fd s root pg).2 = a0 at *
      generalize (fd s root pg).1 = f0 at *
      generalize (fd s root pg).2 = v0 at *
      generalize (fdE s root pg) = e0 at *
      obtain ⟨yp, yr, yl, yf⟩ := e0
      simp only at HF HA
      clear hT h hk hq hue ha hu0 hf hs hz hss
      go_enter Tryz.func23, Tryz.ntmps23
      go_wp2_with fail
      refine HF.out.mono ?_
      rintro r w1 ⟨rfl, hB1⟩
      have hB1a := hB1.alloc hB1.size (.cells #[.int .i64 f0, .int .i64 (v0 : Nat), .int .i64 a0, .bool yp, .int .i64 yr, .bool yl, .int .i64 yf] 97)
      have HB1 := hid hB1a
      have hn := heap_alloc_new w1 (.cells #[.int .i64 f0, .int .i64 (v0 : Nat), .int .i64 a0, .bool yp, .int .i64 yr, .bool yl, .int .i64 yf] 97)
      have HN := hid hn
      have HA1 := hid (HA.out _ hB1a)
      obtain ⟨g0, g1, g2, g3, g4, g5, g6⟩ := seven hn
      have HZ1 := hid hB1.size
      clear hB1 hB1a hn
      go_wp2_with fail
      refine HA1.out.mono ?_
      rintro r w2 ⟨rfl, hW2, hC2⟩
      have hN2 := (HW.out.below HB1.out).keep hC2 HN.out (by decide) (by decide) (by decide)
      have HN2 := hid hN2
      obtain ⟨x0, x1, x2, x3, x4, x5, x6⟩ := seven hN2
      obtain ⟨y0, y1, y2, y3, y4, y5, y6⟩ := free7 hN2
      have HW2 := hid hW2
      have HC2 := hid ((Ch.of_below HB1.out).trans hC2)
      clear hW2 hC2 hN2 g0 g1 g2 g3 g4 g5 g6 HA HA1 HF
      go_wp2
      go_ret2
      exact ⟨rfl, (HW2.out.belowN (bput7 (Below.refl w.heap.size w2) HZ1.out _ _ _ _ _ _ _) HW.out.lt.1 HW.out.lt.2).mono (by omega), HC2.out.below2 (bput7 (Below.refl w.heap.size w2) HZ1.out _ _ _ _ _ _ _)⟩
  · have hue : unE s o root pg = qE s root pg := if_neg hq
    have hu0 : unE s o root pg ≠ 0 := by rw [hue]; exact hq
    have hf : unF s o root pg = 0 := if_neg hu0
    have hs : unS s o root pg = s := if_neg hu0
    have hz : sqC s root pg = zeC := if_neg hq
    rw [hz] at HF
    rw [hf, hs, hue]
    have hb : (qE s root pg != 0) = true := by simpa using hq
    generalize qE s root pg = qe at *
    clear hT h hk hq hue hu0 hf hs hz
    go_enter Tryz.func23, Tryz.ntmps23
    go_wp2_with fail
    refine HF.out.mono ?_
    rintro r w1 ⟨rfl, hB1⟩
    have HB1 := hid (hB1.alloc hB1.size (.cells zeC 97))
    clear hB1
    go_wp2
    go_ret2
    exact ⟨rfl, (HW.out.below HB1.out).mono (by omega), .of_below HB1.out⟩
end
end Go.Proofs.YtpfmmlbakbhklaaGreatDoor
