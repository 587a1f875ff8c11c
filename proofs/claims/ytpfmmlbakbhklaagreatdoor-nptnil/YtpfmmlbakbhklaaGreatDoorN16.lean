/- What Protect returns and leaves. Conditions: the words and frames lie in memory; the tables are live; few calls have been counted. -/
import Derived.Test.YtpfmmlbakbhklaaGreatDoorN15
namespace Go.Proofs.YtpfmmlbakbhklaaGreatDoor
open Go.RowKit
section
variable {u : Si} {w : World} {t : Nat} {o root : Int} {s : Sm} {k : Nat}
theorem alS_no {pg : Int} (ha : alE s o root pg ≠ 0) : alS s o root pg = s := by
  have hn : alE s o root pg = if (fdE s root pg).l = true then newE s o else 0 := rfl
  rw [hn] at ha
  unfold alS
  split at ha
  · rename_i hl
    rw [if_pos hl]
    exact if_neg ha
  · exact absurd rfl ha
set_option maxHeartbeats 2000000 in
theorem protect_at (hT : IsT u w t 1 o root) (h : Wo u w s k) (hk : k + 200 ≤ bnd) (pg rr : Int) :
    Calls Tryz.prog 24 #[.pointer (some ⟨t, 0, none⟩), .int .i64 pg, .int .i64 rr] w fun r w' => r = .returned (.int .i64 (prE s o root pg rr)) ∧ Wo u w' (prS s o root pg rr) (k + 100) ∧ Ch u w w' := by
  have HW := hid h
  have HT := hid hT
  have HK := hid hk
  have HF := hid (find_at hT h pg)
  have HFT := hid (fault_at hT pg)
  rw [ftE_live] at HFT
  have HR := hid (rights_at rr w)
  have hpd : prE s o root pg rr = if P.btw pg 0 65535 = false then 2 else if P.btw rr 1 7 = false then 7 else if qE s root pg = 0 then (if (fdE s root pg).r = rr then 0 else alE s o root pg) else qE s root pg := rfl
  have hsd : prS s o root pg rr = if prE s o root pg rr = 0 then (if (fdE s root pg).r = rr then s else prA s o root pg rr) else s := rfl
  cases hb : P.btw pg 0 65535
  · have he : prE s o root pg rr = 2 := by rw [hpd, if_pos hb]
    rw [he, if_neg (by decide)] at hsd
    rw [he, hsd]
    rw [hb, if_neg (by decide)] at HFT
    clear hT h hk hb he hsd hpd HF HR
    go_enter Tryz.func24, Tryz.ntmps24
    go_wp2_with fail
    refine HFT.out.mono ?_
    rintro r w1 ⟨rfl, hw1⟩
    rw [hw1]
    clear hw1 w1
    go_wp2
    go_ret
    exact ⟨rfl, HW.out.mono (by omega), .refl _ _⟩
  rw [hb, if_neg (by decide)] at hpd
  rw [hb, if_pos rfl] at HFT
  cases hr : P.btw rr 1 7
  · rw [hr, if_pos rfl] at hpd
    rw [hpd, if_neg (by decide)] at hsd
    rw [hpd, hsd]
    rw [hr] at HR
    clear hT h hk hb hr hsd hpd HF
    go_enter Tryz.func24, Tryz.ntmps24
    go_wp2_with fail
    refine HFT.out.mono ?_
    rintro r w1 ⟨rfl, hw1⟩
    rw [hw1]
    clear hw1 w1
    go_wp2_with fail
    refine HR.out.mono ?_
    rintro r w1 ⟨rfl, hw1⟩
    rw [hw1]
    clear hw1 w1
    go_wp2
    go_ret
    exact ⟨rfl, HW.out.mono (by omega), .refl _ _⟩
  rw [hr, if_neg (by decide)] at hpd
  rw [hr] at HR
  by_cases hq : qE s root pg = 0
  · rw [if_pos hq] at hpd
    have HA := hid (fun (W : World) (b : Below w.heap.size w W) => alone_at (hT.below b) (h.below b) (by omega) pg hq)
    have HCH := hid (fun (W W' : World) (b : Below w.heap.size w W) (c : Ch u W W') => (hT.below b).ch (h.below b) c)
    rw [hq, sqC_lit hq] at HF
    rw [sqC_lit hq] at HA
    by_cases hre : (fdE s root pg).r = rr
    · rw [if_pos hre] at hpd
      rw [hpd, if_pos rfl, if_pos hre] at hsd
      rw [hpd, hsd]
      have hreq : ((fdE s root pg).r == rr) = true := by simpa using hre
      generalize P.at' (fd s root pg).1 pg (fd s root pg).2 = a0 at *
      generalize (fd s root pg).1 = f0 at *
      generalize (fd s root pg).2 = v0 at *
      generalize (fdE s root pg) = e0 at *
      obtain ⟨yp, yr, yl, yf⟩ := e0
      simp only at HF hreq
      clear hT h hk hb hr hq hsd hpd hre HA HCH
      go_enter Tryz.func24, Tryz.ntmps24
      go_wp2_with fail
      refine HFT.out.mono ?_
      rintro r w1 ⟨rfl, hw1⟩
      rw [hw1]
      clear hw1 w1
      go_wp2_with fail
      refine HR.out.mono ?_
      rintro r w1 ⟨rfl, hw1⟩
      rw [hw1]
      clear hw1 w1
      go_wp2_with fail
      refine HF.out.mono ?_
      rintro r w1 ⟨rfl, hB1⟩
      have HB1 := hid (hB1.alloc hB1.size (.cells #[.int .i64 f0, .int .i64 (v0 : Nat), .int .i64 a0, .bool yp, .int .i64 yr, .bool yl, .int .i64 yf] 97))
      have hn := heap_alloc_new w1 (.cells #[.int .i64 f0, .int .i64 (v0 : Nat), .int .i64 a0, .bool yp, .int .i64 yr, .bool yl, .int .i64 yf] 97)
      obtain ⟨g0, g1, g2, g3, g4, g5, g6⟩ := seven hn
      clear hB1 hn
      go_wp2
      go_ret
      exact ⟨rfl, (HW.out.below HB1.out).mono (by omega), .of_below HB1.out⟩
    · rw [if_neg hre] at hpd
      have hreq : ((fdE s root pg).r == rr) = false := by simpa using hre
      by_cases ha : alE s o root pg = 0
      · rw [ha] at hpd
        rw [hpd, if_pos rfl, if_neg hre] at hsd
        rw [hpd, hsd]
        have HUA := hid (show prA s o root pg rr = lay (alS s o root pg) (P.at' (fd (alS s o root pg) root pg).1 pg (fd (alS s o root pg) root pg).2) { fdE (alS s o root pg) root pg with r := rr } from rfl)
        rw [ha, alC_lit ha] at HA
        have HLA := hid (fun (W : World) (k' : Nat) (hT : IsT u W t 1 o root) (h : Wo u W (alS s o root pg) k') (hk : k' ≤ bnd) => lay_at' hT h hk (P.at' (fd (alS s o root pg) root pg).1 pg (fd (alS s o root pg) root pg).2) { fdE (alS s o root pg) root pg with r := rr })
        rw [← HUA.out] at HLA
        generalize prA s o root pg rr = sa at *
        generalize alS s o root pg = s1 at *
        generalize P.at' (fd s1 root pg).1 pg (fd s1 root pg).2 = a1 at *
        generalize P.at' (fd s root pg).1 pg (fd s root pg).2 = a0 at *
        generalize (fd s1 root pg).1 = f1 at *
        generalize (fd s1 root pg).2 = v1 at *
        generalize (fd s root pg).1 = f0 at *
        generalize (fd s root pg).2 = v0 at *
        generalize (fdE s1 root pg) = e1 at *
        generalize (fdE s root pg) = e0 at *
        obtain ⟨xp, xr, xl, xf⟩ := e1
        obtain ⟨yp, yr, yl, yf⟩ := e0
        simp only at HF HA HLA hreq
        have HZ : Hid (P.eV ⟨xp, rr, xl, xf⟩ = .agg #[.bool xp, .int .i64 rr, .bool xl, .int .i64 xf]) := rfl
        rw [HZ.out] at HLA
        clear hT h hk hb hr hq hre ha hpd hsd HUA
        go_enter Tryz.func24, Tryz.ntmps24
        go_wp2_with fail
        refine HFT.out.mono ?_
        rintro r w1 ⟨rfl, hw1⟩
        rw [hw1]
        clear hw1 w1
        go_wp2_with fail
        refine HR.out.mono ?_
        rintro r w1 ⟨rfl, hw1⟩
        rw [hw1]
        clear hw1 w1
        go_wp2_with fail
        refine HF.out.mono ?_
        rintro r w1 ⟨rfl, hB1⟩
        have hB1a := hB1.alloc hB1.size (.cells #[.int .i64 f0, .int .i64 (v0 : Nat), .int .i64 a0, .bool yp, .int .i64 yr, .bool yl, .int .i64 yf] 97)
        have HB1 := hid hB1a
        have hn := heap_alloc_new w1 (.cells #[.int .i64 f0, .int .i64 (v0 : Nat), .int .i64 a0, .bool yp, .int .i64 yr, .bool yl, .int .i64 yf] 97)
        have HN := hid hn
        have HA1 := hid (HA.out _ hB1a)
        obtain ⟨g0, g1, g2, g3, g4, g5, g6⟩ := seven hn
        have HZ1 := hid hB1.size
        clear hB1 hB1a hn
        go_wp2_with fail
        refine HA1.out.mono ?_
        rintro r w2 ⟨rfl, hW2, hC2⟩
        have hN2 := (HW.out.below HB1.out).keep hC2 HN.out (by decide) (by decide) (by decide)
        have HN2 := hid hN2
        obtain ⟨x0, x1, x2, x3, x4, x5, x6⟩ := seven hN2
        obtain ⟨y0, y1, y2, y3, y4, y5, y6⟩ := free7 hN2
        have HW2 := hid hW2
        have HT2 := hid (HCH.out _ _ HB1.out hC2)
        have HC2 := hid ((Ch.of_below HB1.out).trans hC2)
        clear hW2 hC2 hN2 g0 g1 g2 g3 g4 g5 g6 HA HA1 HF
        have hb3 := bput7 (Below.refl w.heap.size w2) HZ1.out (.int .i64 f1) (.int .i64 (v1 : Nat)) (.int .i64 a1) (.bool xp) (.int .i64 xr) (.bool xl) (.int .i64 xf)
        have hN3 := put7 HN2.out (.int .i64 f1) (.int .i64 (v1 : Nat)) (.int .i64 a1) (.bool xp) (.int .i64 xr) (.bool xl) (.int .i64 xf)
        have HB3 := hid hb3
        have HN3 := hid hN3
        obtain ⟨z0, z1, z2, z3, z4, z5, z6⟩ := seven hN3
        clear hb3 hN3
        go_wp2_with fail
        have hb4 := HB3.out.setCell (p := ⟨w1.heap.size, 4, none⟩) HZ1.out (.int .i64 rr)
        have HW4 := hid (HW2.out.belowN hb4 HW.out.lt.1 HW.out.lt.2)
        have HT4 := hid (show IsT u _ t 1 o root from (hb4.block _ HT.out.lt).trans HT2.out)
        have HC4 := hid (HC2.out.below2 hb4)
        clear hb4 z0 z1 z2 z3 z4 z5 z6 x0 x1 x2 x3 x4 x5 x6 y0 y1 y2 y3 y4 y5 y6
        refine (HLA.out _ _ HT4.out HW4.out (by have := HK.out; omega)).mono ?_
        rintro r w5 ⟨rfl, hW5, hC5⟩
        have HW5 := hid hW5
        have HC5 := hid (HC4.out.trans hC5)
        clear hW5 hC5 HLA
        go_wp2
        go_ret
        exact ⟨rfl, HW5.out.mono (by omega), HC5.out⟩
      · have hz : alC s o root pg = zeC := if_neg ha
        rw [alS_no ha, hz] at HA
        rw [hpd, if_neg ha] at hsd
        rw [hpd, hsd]
        have hb' : (alE s o root pg != 0) = true := by simpa using ha
        generalize alE s o root pg = ae at *
        generalize P.at' (fd s root pg).1 pg (fd s root pg).2 = a0 at *
        generalize (fd s root pg).1 = f0 at *
        generalize (fd s root pg).2 = v0 at *
        generalize (fdE s root pg) = e0 at *
        obtain ⟨yp, yr, yl, yf⟩ := e0
        simp only at HF HA hreq
        clear hT h hk hb hr hq hre ha hpd hsd hz HCH
        go_enter Tryz.func24, Tryz.ntmps24
        go_wp2_with fail
        refine HFT.out.mono ?_
        rintro r w1 ⟨rfl, hw1⟩
        rw [hw1]
        clear hw1 w1
        go_wp2_with fail
        refine HR.out.mono ?_
        rintro r w1 ⟨rfl, hw1⟩
        rw [hw1]
        clear hw1 w1
        go_wp2_with fail
        refine HF.out.mono ?_
        rintro r w1 ⟨rfl, hB1⟩
        have hB1a := hB1.alloc hB1.size (.cells #[.int .i64 f0, .int .i64 (v0 : Nat), .int .i64 a0, .bool yp, .int .i64 yr, .bool yl, .int .i64 yf] 97)
        have HB1 := hid hB1a
        have hn := heap_alloc_new w1 (.cells #[.int .i64 f0, .int .i64 (v0 : Nat), .int .i64 a0, .bool yp, .int .i64 yr, .bool yl, .int .i64 yf] 97)
        have HN := hid hn
        have HA1 := hid (HA.out _ hB1a)
        obtain ⟨g0, g1, g2, g3, g4, g5, g6⟩ := seven hn
        have HZ1 := hid hB1.size
        clear hB1 hB1a hn
        go_wp2_with fail
        refine HA1.out.mono ?_
        rintro r w2 ⟨rfl, hW2, hC2⟩
        have hN2 := (HW.out.below HB1.out).keep hC2 HN.out (by decide) (by decide) (by decide)
        have HN2 := hid hN2
        obtain ⟨x0, x1, x2, x3, x4, x5, x6⟩ := seven hN2
        obtain ⟨y0, y1, y2, y3, y4, y5, y6⟩ := free7 hN2
        have HW2 := hid hW2
        have HC2 := hid ((Ch.of_below HB1.out).trans hC2)
        clear hW2 hC2 hN2 g0 g1 g2 g3 g4 g5 g6 HA HA1 HF
        go_wp2
        go_ret
        exact ⟨rfl, (HW2.out.belowN (bput7 (Below.refl w.heap.size w2) HZ1.out _ _ _ _ _ _ _) HW.out.lt.1 HW.out.lt.2).mono (by omega), HC2.out.below2 (bput7 (Below.refl w.heap.size w2) HZ1.out _ _ _ _ _ _ _)⟩
  · rw [if_neg hq] at hpd
    rw [hpd, if_neg hq] at hsd
    rw [hpd, hsd]
    have hz : sqC s root pg = zeC := if_neg hq
    rw [hz] at HF
    have hb' : (qE s root pg != 0) = true := by simpa using hq
    generalize qE s root pg = qe at *
    clear hT h hk hb hr hq hpd hsd hz
    go_enter Tryz.func24, Tryz.ntmps24
    go_wp2_with fail
    refine HFT.out.mono ?_
    rintro r w1 ⟨rfl, hw1⟩
    rw [hw1]
    clear hw1 w1
    go_wp2_with fail
    refine HR.out.mono ?_
    rintro r w1 ⟨rfl, hw1⟩
    rw [hw1]
    clear hw1 w1
    go_wp2_with fail
    refine HF.out.mono ?_
    rintro r w1 ⟨rfl, hB1⟩
    have HB1 := hid (hB1.alloc hB1.size (.cells zeC 97))
    have hn := heap_alloc_new w1 (.cells zeC 97)
    obtain ⟨g0, g1, g2, g3, g4, g5, g6⟩ := seven hn
    clear hB1 hn
    go_wp2
    go_ret
    exact ⟨rfl, (HW.out.below HB1.out).mono (by omega), .of_below HB1.out⟩
end
end Go.Proofs.YtpfmmlbakbhklaaGreatDoor
