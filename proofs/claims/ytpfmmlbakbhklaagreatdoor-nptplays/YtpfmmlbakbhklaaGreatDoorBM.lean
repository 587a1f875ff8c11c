/- What Unmap returns and leave. Conditions: the words and frames lie in memory; the tables are live; few calls have been counted. What Protect returns and leaves. Conditions: the words and frames lie in memory; the tables are live; few calls have been counted. The iterator below: what it hands on, as long as each round leaves the words, the frames and the tables. Conditions: the words and frames lie in memory. What gather returns: a table, and all that lie below it. Conditions: the words and frames lie in memory; the tables are live. -/
import Derived.Test.YtpfmmlbakbhklaaGreatDoorBL
import Derived.Test.YtpfmmlbakbhklaaGreatDoorBI
import Derived.Maps.OwnIn
namespace Go.Proofs.YtpfmmlbakbhklaaGreatDoor
open Go.RowKit
section
variable {u : Si} {w : World} {t : Nat} {o root : Int} {s : Sm} {k : Nat}
set_option maxHeartbeats 2000000 in
theorem unmap_at (hT : IsT u w t 1 o root) (h : Wo u w s k) (hk : k + 200 ≤ bnd) (pg : Int) :
    Calls Tryz.prog 23 #[.pointer (some ⟨t, 0, none⟩), .int .i64 pg] w fun r w' => r = .returned (.tuple #[.int .i64 (unF s o root pg), .int .i64 (unE s o root pg)]) ∧ Wo u w' (unS s o root pg) (k + 100) ∧ Ch u w w' := by
  have HW := hid h
  have HT := hid hT
  have HK := hid hk
  have HF := hid (find_at hT h pg)
  by_cases hq : qE s root pg = 0
  · have HA := hid (fun (W : World) (b : Below w.heap.size w W) => alone_at (hT.below b) (h.below b) (by omega) pg hq)
    have hue : unE s o root pg = alE s o root pg := if_pos hq
    have HCH := hid (fun (W W' : World) (b : Below w.heap.size w W) (c : Ch u W W') => (hT.below b).ch (h.below b) c)
    rw [hq, sqC_lit hq] at HF
    rw [sqC_lit hq] at HA
    by_cases ha : alE s o root pg = 0
    · have hu0 : unE s o root pg = 0 := hue.trans ha
      have hf : unF s o root pg = (fdE (alS s o root pg) root pg).f := if_pos hu0
      have hs : unS s o root pg = thinS pg (wayF (unA s o root pg).xs pg 0 3 root).reverse (unA s o root pg) := if_pos hu0
      have HUA := hid (show unA s o root pg = lay (alS s o root pg) (P.at' (fd (alS s o root pg) root pg).1 pg (fd (alS s o root pg) root pg).2) P.zd from rfl)
      rw [ha, alC_lit ha] at HA
      rw [hu0, hf, hs]
      have HLA := hid (fun (W : World) (k' : Nat) (hT : IsT u W t 1 o root) (h : Wo u W (alS s o root pg) k') (hk : k' ≤ bnd) => lay_at' hT h hk (P.at' (fd (alS s o root pg) root pg).1 pg (fd (alS s o root pg) root pg).2) P.zd)
      rw [← HUA.out] at HLA
      generalize unA s o root pg = sa at *
      generalize alS s o root pg = s1 at *
      generalize P.at' (fd s1 root pg).1 pg (fd s1 root pg).2 = a1 at *
      generalize P.at' (fd s root pg).1 pg (fd s root pg).2 = a0 at *
      generalize (fd s1 root pg).1 = f1 at *
      generalize (fd s1 root pg).2 = v1 at *
      generalize (fd s root pg).1 = f0 at *
      generalize (fd s root pg).2 = v0 at *
      generalize (fdE s1 root pg) = e1 at *
      generalize (fdE s root pg) = e0 at *
      obtain ⟨xp, xr, xl, xf⟩ := e1
      obtain ⟨yp, yr, yl, yf⟩ := e0
      simp only at HF HA ⊢
      have HZ : Hid (P.eV P.zd = .agg #[.bool false, .int .i64 0, .bool false, .int .i64 0]) := rfl
      rw [HZ.out] at HLA
      clear hT h hk hq hue ha hu0 hf hs HUA
      go_enter Tryz.func23, Tryz.ntmps23
      go_wp2_with fail
      refine HF.out.mono ?_
      rintro r w1 ⟨rfl, hB1⟩
      have hB1a := hB1.alloc hB1.size (.cells #[.int .i64 f0, .int .i64 (v0 : Nat), .int .i64 a0, .bool yp, .int .i64 yr, .bool yl, .int .i64 yf] 97)
      have HB1 := hid hB1a
      have hn := heap_alloc_new w1 (.cells #[.int .i64 f0, .int .i64 (v0 : Nat), .int .i64 a0, .bool yp, .int .i64 yr, .bool yl, .int .i64 yf] 97)
      have HN := hid hn
      have HA1 := hid (HA.out _ hB1a)
      obtain ⟨g0, g1, g2, g3, g4, g5, g6⟩ := seven hn
      have HZ1 := hid hB1.size
      clear hB1 hB1a hn
      go_wp2_with fail
      refine HA1.out.mono ?_
      rintro r w2 ⟨rfl, hW2, hC2⟩
      have hN2 := (HW.out.below HB1.out).keep hC2 HN.out (by decide) (by decide) (by decide)
      have HN2 := hid hN2
      obtain ⟨x0, x1, x2, x3, x4, x5, x6⟩ := seven hN2
      obtain ⟨y0, y1, y2, y3, y4, y5, y6⟩ := free7 hN2
      have HW2 := hid hW2
      have HT2 := hid (HCH.out _ _ HB1.out hC2)
      have HC2 := hid ((Ch.of_below HB1.out).trans hC2)
      clear hW2 hC2 hN2 g0 g1 g2 g3 g4 g5 g6 HA HA1 HF
      have hb3 := bput7 (Below.refl w.heap.size w2) HZ1.out (.int .i64 f1) (.int .i64 (v1 : Nat)) (.int .i64 a1) (.bool xp) (.int .i64 xr) (.bool xl) (.int .i64 xf)
      have hN3 := put7 HN2.out (.int .i64 f1) (.int .i64 (v1 : Nat)) (.int .i64 a1) (.bool xp) (.int .i64 xr) (.bool xl) (.int .i64 xf)
      have HB3 := hid hb3
      have HN3 := hid hN3
      obtain ⟨z0, z1, z2, z3, z4, z5, z6⟩ := seven hN3
      have HW3 := hid (HW2.out.belowN hb3 HW.out.lt.1 HW.out.lt.2)
      have HT3 := hid (show IsT u _ t 1 o root from (hb3.block _ HT.out.lt).trans HT2.out)
      have HC3 := hid (HC2.out.below2 hb3)
      clear hb3 hN3
      go_wp2_with fail
      refine (HLA.out _ _ HT3.out HW3.out (by have := HK.out; omega)).mono ?_
      rintro r w4 ⟨rfl, hW4, hC4⟩
      have HN4 := hid (HW3.out.keep hC4 HN3.out (by decide) (by decide) (by decide))
      have HT4 := hid (HT3.out.ch HW3.out hC4)
      have HC4 := hid (HC3.out.trans hC4)
      have HW4 := hid hW4
      clear hW4 hC4 z0 z1 z2 z3 z4 z5 z6 x0 x1 x2 x3 x4 x5 x6 y0 y1 y2 y3 y4 y5 y6
      go_wp2_with fail
      refine (thin_at HT4.out HW4.out (by have := HK.out; omega) pg).mono ?_
      rintro r w5 ⟨rfl, hW5, hC5⟩
      have HN5 := hid (HW4.out.keep hC5 HN4.out (by decide) (by decide) (by decide))
      obtain ⟨z0, z1, z2, z3, z4, z5, z6⟩ := seven HN5.out
      have HW5 := hid hW5
      have HC5 := hid (HC4.out.trans hC5)
      clear hW5 hC5
      go_wp2
      go_ret2
      exact ⟨rfl, HW5.out.mono (by omega), HC5.out⟩
    · have hu0 : unE s o root pg ≠ 0 := by rw [hue]; exact ha
      have hf : unF s o root pg = 0 := if_neg hu0
      have hs : unS s o root pg = s := if_neg hu0
      have hz : alC s o root pg = zeC := if_neg ha
      have hss : alS s o root pg = s := by
        have hn : alE s o root pg = if (fdE s root pg).l = true then newE s o else 0 := rfl
        rw [hn] at ha
        unfold alS
        split at ha
        · rename_i hl
          rw [if_pos hl]
          exact if_neg ha
        · exact absurd rfl ha
      rw [hss, hz] at HA
      rw [hf, hs, hue]
      have hb : (alE s o root pg != 0) = true := by simpa using ha
      generalize alE s o root pg = ae at *
      generalize P.at' (fd s root pg).1 pg (fd s root pg).2 = a0 at *
      generalize (fd s root pg).1 = f0 at *
      generalize (fd s root pg).2 = v0 at *
      generalize (fdE s root pg) = e0 at *
      obtain ⟨yp, yr, yl, yf⟩ := e0
      simp only at HF HA
      clear hT h hk hq hue ha hu0 hf hs hz hss
      go_enter Tryz.func23, Tryz.ntmps23
      go_wp2_with fail
      refine HF.out.mono ?_
      rintro r w1 ⟨rfl, hB1⟩
      have hB1a := hB1.alloc hB1.size (.cells #[.int .i64 f0, .int .i64 (v0 : Nat), .int .i64 a0, .bool yp, .int .i64 yr, .bool yl, .int .i64 yf] 97)
      have HB1 := hid hB1a
      have hn := heap_alloc_new w1 (.cells #[.int .i64 f0, .int .i64 (v0 : Nat), .int .i64 a0, .bool yp, .int .i64 yr, .bool yl, .int .i64 yf] 97)
      have HN := hid hn
      have HA1 := hid (HA.out _ hB1a)
      obtain ⟨g0, g1, g2, g3, g4, g5, g6⟩ := seven hn
      have HZ1 := hid hB1.size
      clear hB1 hB1a hn
      go_wp2_with fail
      refine HA1.out.mono ?_
      rintro r w2 ⟨rfl, hW2, hC2⟩
      have hN2 := (HW.out.below HB1.out).keep hC2 HN.out (by decide) (by decide) (by decide)
      have HN2 := hid hN2
      obtain ⟨x0, x1, x2, x3, x4, x5, x6⟩ := seven hN2
      obtain ⟨y0, y1, y2, y3, y4, y5, y6⟩ := free7 hN2
      have HW2 := hid hW2
      have HC2 := hid ((Ch.of_below HB1.out).trans hC2)
      clear hW2 hC2 hN2 g0 g1 g2 g3 g4 g5 g6 HA HA1 HF
      go_wp2
      go_ret2
      exact ⟨rfl, (HW2.out.belowN (bput7 (Below.refl w.heap.size w2) HZ1.out _ _ _ _ _ _ _) HW.out.lt.1 HW.out.lt.2).mono (by omega), HC2.out.below2 (bput7 (Below.refl w.heap.size w2) HZ1.out _ _ _ _ _ _ _)⟩
  · have hue : unE s o root pg = qE s root pg := if_neg hq
    have hu0 : unE s o root pg ≠ 0 := by rw [hue]; exact hq
    have hf : unF s o root pg = 0 := if_neg hu0
    have hs : unS s o root pg = s := if_neg hu0
    have hz : sqC s root pg = zeC := if_neg hq
    rw [hz] at HF
    rw [hf, hs, hue]
    have hb : (qE s root pg != 0) = true := by simpa using hq
    generalize qE s root pg = qe at *
    clear hT h hk hq hue hu0 hf hs hz
    go_enter Tryz.func23, Tryz.ntmps23
    go_wp2_with fail
    refine HF.out.mono ?_
    rintro r w1 ⟨rfl, hB1⟩
    have HB1 := hid (hB1.alloc hB1.size (.cells zeC 97))
    clear hB1
    go_wp2
    go_ret2
    exact ⟨rfl, (HW.out.below HB1.out).mono (by omega), .of_below HB1.out⟩
end
end Go.Proofs.YtpfmmlbakbhklaaGreatDoor
namespace Go.Proofs.YtpfmmlbakbhklaaGreatDoor
open Go.RowKit
section
variable {u : Si} {w : World} {t : Nat} {o root : Int} {s : Sm} {k : Nat}
theorem alS_no {pg : Int} (ha : alE s o root pg ≠ 0) : alS s o root pg = s := by
  have hn : alE s o root pg = if (fdE s root pg).l = true then newE s o else 0 := rfl
  rw [hn] at ha
  unfold alS
  split at ha
  · rename_i hl
    rw [if_pos hl]
    exact if_neg ha
  · exact absurd rfl ha
set_option maxHeartbeats 2000000 in
theorem protect_at (hT : IsT u w t 1 o root) (h : Wo u w s k) (hk : k + 200 ≤ bnd) (pg rr : Int) :
    Calls Tryz.prog 24 #[.pointer (some ⟨t, 0, none⟩), .int .i64 pg, .int .i64 rr] w fun r w' => r = .returned (.int .i64 (prE s o root pg rr)) ∧ Wo u w' (prS s o root pg rr) (k + 100) ∧ Ch u w w' := by
  have HW := hid h
  have HT := hid hT
  have HK := hid hk
  have HF := hid (find_at hT h pg)
  have HFT := hid (fault_at hT pg)
  rw [ftE_live] at HFT
  have HR := hid (rights_at rr w)
  have hpd : prE s o root pg rr = if P.btw pg 0 65535 = false then 2 else if P.btw rr 1 7 = false then 7 else if qE s root pg = 0 then (if (fdE s root pg).r = rr then 0 else alE s o root pg) else qE s root pg := rfl
  have hsd : prS s o root pg rr = if prE s o root pg rr = 0 then (if (fdE s root pg).r = rr then s else prA s o root pg rr) else s := rfl
  cases hb : P.btw pg 0 65535
  · have he : prE s o root pg rr = 2 := by rw [hpd, if_pos hb]
    rw [he, if_neg (by decide)] at hsd
    rw [he, hsd]
    rw [hb, if_neg (by decide)] at HFT
    clear hT h hk hb he hsd hpd HF HR
    go_enter Tryz.func24, Tryz.ntmps24
    go_wp2_with fail
    refine HFT.out.mono ?_
    rintro r w1 ⟨rfl, hw1⟩
    rw [hw1]
    clear hw1 w1
    go_wp2
    go_ret
    exact ⟨rfl, HW.out.mono (by omega), .refl _ _⟩
  rw [hb, if_neg (by decide)] at hpd
  rw [hb, if_pos rfl] at HFT
  cases hr : P.btw rr 1 7
  · rw [hr, if_pos rfl] at hpd
    rw [hpd, if_neg (by decide)] at hsd
    rw [hpd, hsd]
    rw [hr] at HR
    clear hT h hk hb hr hsd hpd HF
    go_enter Tryz.func24, Tryz.ntmps24
    go_wp2_with fail
    refine HFT.out.mono ?_
    rintro r w1 ⟨rfl, hw1⟩
    rw [hw1]
    clear hw1 w1
    go_wp2_with fail
    refine HR.out.mono ?_
    rintro r w1 ⟨rfl, hw1⟩
    rw [hw1]
    clear hw1 w1
    go_wp2
    go_ret
    exact ⟨rfl, HW.out.mono (by omega), .refl _ _⟩
  rw [hr, if_neg (by decide)] at hpd
  rw [hr] at HR
  by_cases hq : qE s root pg = 0
  · rw [if_pos hq] at hpd
    have HA := hid (fun (W : World) (b : Below w.heap.size w W) => alone_at (hT.below b) (h.below b) (by omega) pg hq)
    have HCH := hid (fun (W W' : World) (b : Below w.heap.size w W) (c : Ch u W W') => (hT.below b).ch (h.below b) c)
    rw [hq, sqC_lit hq] at HF
    rw [sqC_lit hq] at HA
    by_cases hre : (fdE s root pg).r = rr
    · rw [if_pos hre] at hpd
      rw [hpd, if_pos rfl, if_pos hre] at hsd
      rw [hpd, hsd]
      have hreq : ((fdE s root pg).r == rr) = true := by simpa using hre
      generalize P.at' (fd s root pg).1 pg (fd s root pg).2 = a0 at *
      generalize (fd s root pg).1 = f0 at *
      generalize (fd s root pg).2 = v0 at *
      generalize (fdE s root pg) = e0 at *
      obtain ⟨yp, yr, yl, yf⟩ := e0
      simp only at HF hreq
      clear hT h hk hb hr hq hsd hpd hre HA HCH
      go_enter Tryz.func24, Tryz.ntmps24
      go_wp2_with fail
      refine HFT.out.mono ?_
      rintro r w1 ⟨rfl, hw1⟩
      rw [hw1]
      clear hw1 w1
      go_wp2_with fail
      refine HR.out.mono ?_
      rintro r w1 ⟨rfl, hw1⟩
      rw [hw1]
      clear hw1 w1
      go_wp2_with fail
      refine HF.out.mono ?_
      rintro r w1 ⟨rfl, hB1⟩
      have HB1 := hid (hB1.alloc hB1.size (.cells #[.int .i64 f0, .int .i64 (v0 : Nat), .int .i64 a0, .bool yp, .int .i64 yr, .bool yl, .int .i64 yf] 97))
      have hn := heap_alloc_new w1 (.cells #[.int .i64 f0, .int .i64 (v0 : Nat), .int .i64 a0, .bool yp, .int .i64 yr, .bool yl, .int .i64 yf] 97)
      obtain ⟨g0, g1, g2, g3, g4, g5, g6⟩ := seven hn
      clear hB1 hn
      go_wp2
      go_ret
      exact ⟨rfl, (HW.out.below HB1.out).mono (by omega), .of_below HB1.out⟩
    · rw [if_neg hre] at hpd
      have hreq : ((fdE s root pg).r == rr) = false := by simpa using hre
      by_cases ha : alE s o root pg = 0
      · rw [ha] at hpd
        rw [hpd, if_pos rfl, if_neg hre] at hsd
        rw [hpd, hsd]
        have HUA := hid (show prA s o root pg rr = lay (alS s o root pg) (P.at' (fd (alS s o root pg) root pg).1 pg (fd (alS s o root pg) root pg).2) { fdE (alS s o root pg) root pg with r := rr } from rfl)
        rw [ha, alC_lit ha] at HA
        have HLA := hid (fun (W : World) (k' : Nat) (hT : IsT u W t 1 o root) (h : Wo u W (alS s o root pg) k') (hk : k' ≤ bnd) => lay_at' hT h hk (P.at' (fd (alS s o root pg) root pg).1 pg (fd (alS s o root pg) root pg).2) { fdE (alS s o root pg) root pg with r := rr })
        rw [← HUA.out] at HLA
        generalize prA s o root pg rr = sa at *
        generalize alS s o root pg = s1 at *
        generalize P.at' (fd s1 root pg).1 pg (fd s1 root pg).2 = a1 at *
        generalize P.at' (fd s root pg).1 pg (fd s root pg).2 = a0 at *
        generalize (fd s1 root pg).1 = f1 at *
        generalize (fd s1 root pg).2 = v1 at *
        generalize (fd s root pg).1 = f0 at *
        generalize (fd s root pg).2 = v0 at *
        generalize (fdE s1 root pg) = e1 at *
        generalize (fdE s root pg) = e0 at *
        obtain ⟨xp, xr, xl, xf⟩ := e1
        obtain ⟨yp, yr, yl, yf⟩ := e0
        simp only at HF HA HLA hreq
        have HZ : Hid (P.eV ⟨xp, rr, xl, xf⟩ = .agg #[.bool xp, .int .i64 rr, .bool xl, .int .i64 xf]) := rfl
        rw [HZ.out] at HLA
        clear hT h hk hb hr hq hre ha hpd hsd HUA
        go_enter Tryz.func24, Tryz.ntmps24
        go_wp2_with fail
        refine HFT.out.mono ?_
        rintro r w1 ⟨rfl, hw1⟩
        rw [hw1]
        clear hw1 w1
        go_wp2_with fail
        refine HR.out.mono ?_
        rintro r w1 ⟨rfl, hw1⟩
        rw [hw1]
        clear hw1 w1
        go_wp2_with fail
        refine HF.out.mono ?_
        rintro r w1 ⟨rfl, hB1⟩
        have hB1a := hB1.alloc hB1.size (.cells #[.int .i64 f0, .int .i64 (v0 : Nat), .int .i64 a0, .bool yp, .int .i64 yr, .bool yl, .int .i64 yf] 97)
        have HB1 := hid hB1a
        have hn := heap_alloc_new w1 (.cells #[.int .i64 f0, .int .i64 (v0 : Nat), .int .i64 a0, .bool yp, .int .i64 yr, .bool yl, .int .i64 yf] 97)
        have HN := hid hn
        have HA1 := hid (HA.out _ hB1a)
        obtain ⟨g0, g1, g2, g3, g4, g5, g6⟩ := seven hn
        have HZ1 := hid hB1.size
        clear hB1 hB1a hn
        go_wp2_with fail
        refine HA1.out.mono ?_
        rintro r w2 ⟨rfl, hW2, hC2⟩
        have hN2 := (HW.out.below HB1.out).keep hC2 HN.out (by decide) (by decide) (by decide)
        have HN2 := hid hN2
        obtain ⟨x0, x1, x2, x3, x4, x5, x6⟩ := seven hN2
        obtain ⟨y0, y1, y2, y3, y4, y5, y6⟩ := free7 hN2
        have HW2 := hid hW2
        have HT2 := hid (HCH.out _ _ HB1.out hC2)
        have HC2 := hid ((Ch.of_below HB1.out).trans hC2)
        clear hW2 hC2 hN2 g0 g1 g2 g3 g4 g5 g6 HA HA1 HF
        have hb3 := bput7 (Below.refl w.heap.size w2) HZ1.out (.int .i64 f1) (.int .i64 (v1 : Nat)) (.int .i64 a1) (.bool xp) (.int .i64 xr) (.bool xl) (.int .i64 xf)
        have hN3 := put7 HN2.out (.int .i64 f1) (.int .i64 (v1 : Nat)) (.int .i64 a1) (.bool xp) (.int .i64 xr) (.bool xl) (.int .i64 xf)
        have HB3 := hid hb3
        have HN3 := hid hN3
        obtain ⟨z0, z1, z2, z3, z4, z5, z6⟩ := seven hN3
        clear hb3 hN3
        go_wp2_with fail
        have hb4 := HB3.out.setCell (p := ⟨w1.heap.size, 4, none⟩) HZ1.out (.int .i64 rr)
        have HW4 := hid (HW2.out.belowN hb4 HW.out.lt.1 HW.out.lt.2)
        have HT4 := hid (show IsT u _ t 1 o root from (hb4.block _ HT.out.lt).trans HT2.out)
        have HC4 := hid (HC2.out.below2 hb4)
        clear hb4 z0 z1 z2 z3 z4 z5 z6 x0 x1 x2 x3 x4 x5 x6 y0 y1 y2 y3 y4 y5 y6
        refine (HLA.out _ _ HT4.out HW4.out (by have := HK.out; omega)).mono ?_
        rintro r w5 ⟨rfl, hW5, hC5⟩
        have HW5 := hid hW5
        have HC5 := hid (HC4.out.trans hC5)
        clear hW5 hC5 HLA
        go_wp2
        go_ret
        exact ⟨rfl, HW5.out.mono (by omega), HC5.out⟩
      · have hz : alC s o root pg = zeC := if_neg ha
        rw [alS_no ha, hz] at HA
        rw [hpd, if_neg ha] at hsd
        rw [hpd, hsd]
        have hb' : (alE s o root pg != 0) = true := by simpa using ha
        generalize alE s o root pg = ae at *
        generalize P.at' (fd s root pg).1 pg (fd s root pg).2 = a0 at *
        generalize (fd s root pg).1 = f0 at *
        generalize (fd s root pg).2 = v0 at *
        generalize (fdE s root pg) = e0 at *
        obtain ⟨yp, yr, yl, yf⟩ := e0
        simp only at HF HA hreq
        clear hT h hk hb hr hq hre ha hpd hsd hz HCH
        go_enter Tryz.func24, Tryz.ntmps24
        go_wp2_with fail
        refine HFT.out.mono ?_
        rintro r w1 ⟨rfl, hw1⟩
        rw [hw1]
        clear hw1 w1
        go_wp2_with fail
        refine HR.out.mono ?_
        rintro r w1 ⟨rfl, hw1⟩
        rw [hw1]
        clear hw1 w1
        go_wp2_with fail
        refine HF.out.mono ?_
        rintro r w1 ⟨rfl, hB1⟩
        have hB1a := hB1.alloc hB1.size (.cells #[.int .i64 f0, .int .i64 (v0 : Nat), .int .i64 a0, .bool yp, .int .i64 yr, .bool yl, .int .i64 yf] 97)
        have HB1 := hid hB1a
        have hn := heap_alloc_new w1 (.cells #[.int .i64 f0, .int .i64 (v0 : Nat), .int .i64 a0, .bool yp, .int .i64 yr, .bool yl, .int .i64 yf] 97)
        have HN := hid hn
        have HA1 := hid (HA.out _ hB1a)
        obtain ⟨g0, g1, g2, g3, g4, g5, g6⟩ := seven hn
        have HZ1 := hid hB1.size
        clear hB1 hB1a hn
        go_wp2_with fail
        refine HA1.out.mono ?_
        rintro r w2 ⟨rfl, hW2, hC2⟩
        have hN2 := (HW.out.below HB1.out).keep hC2 HN.out (by decide) (by decide) (by decide)
        have HN2 := hid hN2
        obtain ⟨x0, x1, x2, x3, x4, x5, x6⟩ := seven hN2
        obtain ⟨y0, y1, y2, y3, y4, y5, y6⟩ := free7 hN2
        have HW2 := hid hW2
        have HC2 := hid ((Ch.of_below HB1.out).trans hC2)
        clear hW2 hC2 hN2 g0 g1 g2 g3 g4 g5 g6 HA HA1 HF
        go_wp2
        go_ret
        exact ⟨rfl, (HW2.out.belowN (bput7 (Below.refl w.heap.size w2) HZ1.out _ _ _ _ _ _ _) HW.out.lt.1 HW.out.lt.2).mono (by omega), HC2.out.below2 (bput7 (Below.refl w.heap.size w2) HZ1.out _ _ _ _ _ _ _)⟩
  · rw [if_neg hq] at hpd
    rw [hpd, if_neg hq] at hsd
    rw [hpd, hsd]
    have hz : sqC s root pg = zeC := if_neg hq
    rw [hz] at HF
    have hb' : (qE s root pg != 0) = true := by simpa using hq
    generalize qE s root pg = qe at *
    clear hT h hk hb hr hq hpd hsd hz
    go_enter Tryz.func24, Tryz.ntmps24
    go_wp2_with fail
    refine HFT.out.mono ?_
    rintro r w1 ⟨rfl, hw1⟩
    rw [hw1]
    clear hw1 w1
    go_wp2_with fail
    refine HR.out.mono ?_
    rintro r w1 ⟨rfl, hw1⟩
    rw [hw1]
    clear hw1 w1
    go_wp2_with fail
    refine HF.out.mono ?_
    rintro r w1 ⟨rfl, hB1⟩
    have HB1 := hid (hB1.alloc hB1.size (.cells zeC 97))
    have hn := heap_alloc_new w1 (.cells zeC 97)
    obtain ⟨g0, g1, g2, g3, g4, g5, g6⟩ := seven hn
    clear hB1 hn
    go_wp2
    go_ret
    exact ⟨rfl, (HW.out.below HB1.out).mono (by omega), .of_below HB1.out⟩
end
end Go.Proofs.YtpfmmlbakbhklaaGreatDoor
namespace Go.Proofs.YtpfmmlbakbhklaaGreatDoor
open Go.RowKit Go.Shelf

/-- A slice of a row of words of its own type. -/
def LieR (w : World) (v : Value) (xs : List Int) : Prop :=
  xs.length ≤ 65536 ∧ ∃ q c, v = .slice q xs.length c ∧ (xs ≠ [] → ∃ b, q = some ⟨b, 0, none⟩ ∧ IsRow w b xs)
theorem words_rt {w : World} {p b : Nat} {s : St} (h : Mem 124 w p b s) (a m : Int) (hm : m ≤ 9223372036854775807) :
    Calls Tryz.prog 29 #[.pointer (some ⟨p, 0, none⟩), .int .i64 a, .int .i64 m] w fun e w' => ∃ v, e = .returned v ∧ LieR w' v (wordsV s a m) ∧ Below w.heap.size w w' := by
  cases hA : allB s.xs.length a m
  · refine (words_no h a m hm hA).mono ?_
    rintro e w' ⟨rfl, hw⟩
    rw [hw]
    simp only [wordsV, hA]
    exact ⟨_, rfl, ⟨by simp, none, 0, rfl, fun h => absurd rfl h⟩, Below.refl _ _⟩
  · have ⟨h1, h2, h3⟩ := allB_yes.1 hA
    obtain ⟨i, rfl⟩ := Int.eq_ofNat_of_zero_le h2
    obtain ⟨j, rfl⟩ := Int.eq_ofNat_of_zero_le (show 0 ≤ m by omega)
    have ht := h.top
    refine (words_yes h i j (by omega) (by omega)).mono ?_
    rintro e w' ⟨rfl, hR, hB⟩
    simp only [wordsV, hA]
    have hl : (cut s.xs ((i : Int).toNat) ((j : Int).toNat)).length = j := cut_length (by omega)
    refine ⟨_, rfl, ⟨?_, some ⟨w.heap.size, 0, none⟩, j, ?_, fun _ => ⟨_, rfl, hR⟩⟩, hB⟩
    · rw [if_pos trivial, hl]; omega
    · rw [if_pos trivial, hl]
theorem IsRow.below' {w w' : World} {g : Nat} {xs : List Int} (h : IsRow w g xs) (hb : Below w.heap.size w w') : IsRow w' g xs := (hb.block _ h.lt).trans h
section
variable {u : Si} {w : World} {t : Nat} {st o root : Int} {s : Sm} {k : Nat}
set_option maxHeartbeats 1000000 in
theorem words_row (hT : IsT u w t st o root) (h : Wo u w s k) (fr v : Int) :
    Calls Tryz.prog 88 #[.pointer (some ⟨t, 0, none⟩), .agg #[.int .i64 fr, .int .i64 v]] w fun r w' => ∃ x, r = .returned x ∧ LieR w' x (cutW s.xs (P.at' fr 0 0) 16) ∧ Below w.heap.size w w' := by
  have hB0 : Below w.heap.size w (w.alloc (.cells #[.int .i64 fr, .int .i64 v] 93)).drew := (below_alloc w _).drew
  have c0 : (w.alloc (.cells #[.int .i64 fr, .int .i64 v] 93)).drew.cell? ⟨w.heap.size, 0, none⟩ = some (.int .i64 fr) := cell_new w #[.int .i64 fr, .int .i64 v] 93 0 rfl
  obtain ⟨d, l, hm, -⟩ := h.mem
  obtain ⟨-, c1, -⟩ := (hT.below hB0).cells
  have HB := hid hB0
  have HA := hid (fun w => P.place_at fr 0 0 w)
  have HC := hid (words_rt (s := ⟨s.xs, d, l⟩) (hm.below hB0) (P.at' fr 0 0) 16 (by decide))
  have hS : ∀ w2, Below (w.alloc (.cells #[.int .i64 fr, .int .i64 v] 93)).drew.heap.size (w.alloc (.cells #[.int .i64 fr, .int .i64 v] 93)).drew w2 → w2.cell? ⟨t, 1, none⟩ = some (.pointer (some ⟨u.mp, 0, none⟩)) ∧ w2.cell? ⟨w.heap.size, 0, none⟩ = some (.int .i64 fr) := fun w2 b => ⟨(b.cell (p := ⟨t, 1, none⟩) (hT.below hB0).lt).trans c1, (b.cell (p := ⟨w.heap.size, 0, none⟩) (by simp)).trans c0⟩
  have HS := hid hS
  show Calls Tryz.prog 88 #[.pointer (some ⟨t, 0, none⟩), .agg #[.int .i64 fr, .int .i64 v]] w fun r w' => ∃ x, r = .returned x ∧ LieR w' x (wordsV ⟨s.xs, d, l⟩ (P.at' fr 0 0) 16) ∧ Below w.heap.size w w'
  generalize wordsV ⟨s.xs, d, l⟩ (P.at' fr 0 0) 16 = L at *
  generalize P.at' fr 0 0 = a at *
  clear h hT hm hB0 hS
  go_enter Tryz.func88, Tryz.ntmps88
  go_wp2
  go_region_held3 (fun w' => w'.cell? ⟨t, 1, none⟩ = some (.pointer (some ⟨u.mp, 0, none⟩)) ∧ w'.cell? ⟨w.heap.size, 0, none⟩ = some (.int .i64 fr)) (first | exact ⟨c1, c0⟩ | assumption)
    (first
      | (go_at_call 103; refine (HA.out _).mono ?_; rintro e w' ⟨rfl, hw'⟩; rw [hw']; clear hw' w')
      | (go_at_call 29; refine HC.out.mono ?_; rintro e w2 ⟨x, rfl, hL, hB⟩; have hL2 := hid hL; have hS2 := HS.out _ hB; have hB2 := hid hB; clear hL hB))
  all_goals go_wp2
  all_goals go_ret
  all_goals exact ⟨_, rfl, hL2.out, P.bgo HB.out hB2.out⟩
end

/-- The tables to which words lead. -/
def kd (ws : List Int) (v : Nat) : List (Int × Nat) := (ws.filter fun x => decide (0 < v) && P.tb (P.prD x.toNat)).map fun x => ((P.prD x.toNat).f, v - 1)
theorem kids_kd (xs : List Int) (fr : Int) (v : Nat) : kids xs (fr, v) = kd (cutW xs (P.at' fr 0 0) 16) v := rfl
theorem kd_app (a b : List Int) (v : Nat) : kd (a ++ b) v = kd a v ++ kd b v := by simp [kd]
theorem kd_one (x : Int) (v : Nat) : kd [x] v = if (decide (0 < v) && P.tb (P.prD x.toNat)) = true then [((P.prD x.toNat).f, v - 1)] else [] := by
  unfold kd
  cases h : (decide (0 < v) && P.tb (P.prD x.toNat))
  · simp [List.filter, h]
  · simp [List.filter, h]
theorem take_at {ws : List Int} {i : Nat} (h : i < ws.length) : ws.take (i + 1) = ws.take i ++ [ws.getD i 0] := by
  rw [List.take_add_one, List.getElem?_eq_getElem h]
  simp [List.getD, h]
theorem kd_take {ws : List Int} {i : Nat} (h : i < ws.length) (v : Nat) : kd (ws.take (i + 1)) v = kd (ws.take i) v ++ kd [ws.getD i 0] v := by rw [take_at h, kd_app]
theorem kd_split {ws : List Int} {i : Nat} (h : i < ws.length) (v : Nat) : kd ws v = kd (ws.take i) v ++ (kd [ws.getD i 0] v ++ kd (ws.drop (i + 1)) v) := by
  rw [← List.append_assoc, ← kd_take h, ← kd_app, List.take_append_drop]
theorem cutW_u64 {xs : List Int} (h : U64 xs) (a m : Int) (i : Nat) : ∃ x : Nat, (cutW xs a m).getD i 0 = x ∧ x < 18446744073709551616 := by
  unfold cutW
  split
  · by_cases hj : i < m.toNat
    · have e : (cut xs a.toNat m.toNat).getD i 0 = xs.getD (a.toNat + i) 0 := by
        rw [List.getD_eq_getElem?_getD, cut_get hj, ← List.getD_eq_getElem?_getD]
      rw [e]
      have := h (a.toNat + i)
      exact ⟨(xs.getD (a.toNat + i) 0).toNat, by omega, by omega⟩
    · have : (cut xs a.toNat m.toNat).getD i 0 = 0 := by
        rw [List.getD_eq_getElem?_getD, List.getElem?_eq_none (by simp [cut]; omega)]
        rfl
      exact ⟨0, this, by decide⟩
  · exact ⟨0, rfl, by decide⟩

/-- What below reads. -/
structure BR (u : Si) (t p0 p1 : Nat) (o root fr : Int) (v : Nat) (s : Sm) (A : World) : Prop where
  b0 : A.heap[p0]? = some (.cells #[.pointer (some ⟨t, 0, none⟩)] 30 (0, 0))
  b1 : A.heap[p1]? = some (.cells #[.int .i64 fr, .int .i64 v] 93 (0, 0))
  tb : IsT u A t 1 o root
  wo : ∃ k, Wo u A s k
/-- What a round keeps: all but slices of tables, and tables' rows; but the table itself. -/
def RkG (p1 : Nat) (A B : World) : Prop := ∀ (k : Nat) (c : Array Value) (T : TypeId), A.heap[k]? = some (.cells c T (0, 0)) → T ≠ 105 → (T = 93 → k = p1) → B.heap[k]? = some (.cells c T (0, 0))
theorem RkG.trans {p1 : Nat} (A B C : World) (h : RkG p1 A B) (k : RkG p1 B C) : RkG p1 A C := fun i c T a b d => k i c T (h i c T a b d) b d
theorem RkG.of_below {p1 : Nat} {A B : World} (h : Below A.heap.size A B) : RkG p1 A B := fun k _ _ ho _ _ => (h.block k (Array.getElem?_eq_some_iff.1 ho).1).trans ho
theorem RkG.tw {p1 : Nat} (A B : World) (l : Nat) (o : Obj) (h : Tw l A B) (hl : A.heap[l]? = some o) (ho : o.isCells = false) : RkG p1 A B := fun _ _ _ hk _ _ => h.cells hl ho hk
def OkK (s : Sm) (fr : Int) (v : Nat) (z : List (Int × Nat)) (x : Int × Nat) : Prop := ∃ r, kids s.xs (fr, v) = z ++ x :: r
attribute [local go_sem] Oper.semAt_some
set_option maxRecDepth 100000 in
set_option maxHeartbeats 4000000 in
theorem below_in (n : Nat) (hn : 1 ≤ n) (u : Si) (t p0 p1 : Nat) (o root fr : Int) (v : Nat) (hv : v ≤ 3) (s : Sm) (I : List (Int × Nat) → World → Prop)
    (hI : ∀ z A, I z A → BR u t p0 p1 o root fr v s A)
    (l : Nat) (J : List (Int × Nat) → World → Prop) (W : World) (hJ : ∀ z A B, J z A → Below A.heap.size A B → J z B) (hJI : ∀ z A, J z A → I z A)
    (hY : ∀ z x A, J z A → OkK s fr v z x → YieldAt Fence.wide (n - 1) Tryz.prog l #[.agg #[.int .i64 x.1, .int .i64 (x.2 : Nat)]] A fun e B => e = .returned (.bool true) ∧ J (z ++ [x]) B ∧ RkG p1 A B)
    (h0 : J [] W) :
    CallsIn Fence.wide n Tryz.prog 87 #[.func (.yield l) #[] #[], .pointer (some ⟨p0, 0, none⟩), .pointer (some ⟨p1, 0, none⟩)] W fun e B => (∃ v, e = .returned v) ∧ ∃ z, z = kids s.xs (fr, v) ∧ J z B := by
  have HY := hid hY
  have HJ := hid hJ
  have HJI := hid hJI
  have HI := hid hI
  have HV := hid hv
  have HJ0 := hid h0
  have HR0 := hid (hI _ _ (hJI _ _ h0))
  obtain ⟨k0, hw0⟩ := HR0.out.wo
  have HWD := hid (words_row HR0.out.tb hw0 fr v)
  have q0 := P.cell_of (i := 0) HR0.out.b0 rfl
  have q1 := P.cell_of (i := 0) HR0.out.b1 rfl
  have q2 := P.cell_of (i := 1) HR0.out.b1 rfl
  have hU := fun i => cutW_u64 hw0.u64 (P.at' fr 0 0) 16 i
  have HK := hid (kids_kd s.xs fr v)
  generalize hws : cutW s.xs (P.at' fr 0 0) 16 = ws at *
  have HU := hid hU
  clear hY hJ hJI hI h0 hw0 hv hws hU
  refine callsIn_of_wp Tryz.func87 rfl trivial ?_ rfl
  simp only [Tryz.ntmps87, List.size_toArray, List.length_cons, List.length_nil, Nat.reduceAdd, Nat.reduceSub, Array.replicate_succ, Array.replicate_zero, List.push_toArray, List.append_toArray, List.nil_append, List.cons_append]
  gi_wp2_with fail
  refine ⟨trivial, (callsIn_wide.2 HWD.out).mono ?_⟩
  rintro e w1 ⟨X, rfl, ⟨hle, q, c, rfl, hq⟩, hB1⟩
  have HJ1 := hid (HJ.out _ _ _ HJ0.out hB1)
  have HQ := hid hq
  have HLE := hid hle
  clear hB1 q0 q1 q2 hq hle
  gi_wp2
  gi_loopw [14] (fun p wr => ∃ i : Nat, p = .int .i64 i ∧ i ≤ ws.length ∧ J (kd (ws.take i) v) wr ∧ (ws ≠ [] → ∃ b, q = some ⟨b, 0, none⟩ ∧ IsRow wr b ws)) (fun p _ => ws.length - (intOf p).toNat)
  case atStart => exact ⟨0, rfl, Nat.zero_le _, HJ1.out, HQ.out⟩
  case round =>
    obtain ⟨i, rfl, hi, hJr, hqr⟩ := hrel
    have HJr := hid hJr
    have HQr := hid hqr
    clear hJr hqr
    by_cases hlt : i < ws.length
    · have hlt' : (i : Int) < ws.length := by omega
      obtain ⟨b, rfl, hrow⟩ := HQr.out (by intro e; subst e; simp at hlt)
      have c0 := hrow.cell i hlt
      obtain ⟨x, hx, hx2⟩ := HU.out i
      have HT := hid (kd_take hlt v)
      have HS := hid (kd_split hlt v)
      rw [hx] at c0 HT HS
      have HPA := hid (P.parse_at x hx2 wr)
      have HB := hid hrow
      have HR := hid (HI.out _ _ (HJI.out _ _ HJr.out))
      have HO1 := hid (kd_one (x : Int) v)
      rw [Int.toNat_natCast] at HO1
      obtain ⟨nf, nv, nb, hNX, hnb, hnf, -⟩ := next_some fr v (P.prD x) HV.out
      rw [nxB_nat] at hnb
      have HNX := hid hNX
      rw [← hnb] at HO1
      have HO2 : Hid (kd [(x : Int)] v = if nb = true then [(nf, nv)] else []) := by
        rw [HO1.out]
        show (if _ then _ else _) = (if _ then _ else _)
        cases hb : nb
        · rfl
        · obtain ⟨f1, f2⟩ := hnf hb
          rw [f1, f2]
      generalize P.prY x = py at HPA
      generalize P.prD x = e at *
      obtain ⟨ep, er, el, ef⟩ := e
      unfold P.ptwo P.eV at HPA
      unfold P.eV at HNX
      simp only at HPA HNX
      have hwr : wrap64 ((i : Int) + 1) = ((i + 1 : Nat) : Int) := by have := HLE.out; unfold wrap64; omega
      clear hx hx2 hrow HO1 hnb hnf hNX HQr
      gi_wp2_with fail
      refine ⟨trivial, (callsIn_wide.2 HPA.out).mono ?_⟩
      rintro e w2 ⟨rfl, hB2⟩
      have hB2a := hB2.alloc hB2.size (.cells #[.bool ep, .int .i64 er, .bool el, .int .i64 ef] 95)
      have HB2 := hid hB2a
      have q0 := P.cell_of (i := 0) (P.stay hB2a HR.out.b1) rfl
      have q1 := P.cell_of (i := 1) (P.stay hB2a HR.out.b1) rfl
      clear hB2 hB2a c0
      gi_wp2_with fail
      refine ⟨trivial, (callsIn_wide.2 (HNX.out _)).mono ?_⟩
      rintro e w3 ⟨rfl, hB3⟩
      have hB3a := (P.bgo HB2.out hB3).alloc (P.bgo HB2.out hB3).size (.cells #[.int .i64 nf, .int .i64 nv] 93)
      have HJ3 := hid (HJ.out _ _ _ HJr.out hB3a)
      have HB3 := hid (HB.out.below' hB3a)
      have HN := hid (heap_alloc_new w3 (.cells #[.int .i64 nf, .int .i64 nv] 93))
      have c0 := P.cell_of (i := 0) HN.out rfl
      have c1 := P.cell_of (i := 1) HN.out rfl
      clear hB3 hB3a q0 q1 HB2 HPA HNX
      cases nb
      · have HE := hid (show kd [(x : Int)] v = [] from HO2.out)
        gi_wp2
        refine ⟨fun f h => (by cases h), ?_⟩
        gi_wp2
        all_goals
          refine ⟨⟨i + 1, by rw [hwr], by omega, ?_, fun _ => ⟨b, rfl, HB3.out⟩⟩, by rw [hwr]; simp [intOf]; omega⟩
          rw [HT.out, HE.out, List.append_nil]
          exact HJ3.out
      · have HE := hid (show kd [(x : Int)] v = [(nf, nv)] from HO2.out)
        have HY1 := hid (HY.out (kd (ws.take i) v) (nf, nv) _ HJ3.out ⟨kd (ws.drop (i + 1)) v, by rw [HK.out, HS.out, HE.out]; rfl⟩)
        simp only at HY1
        obtain ⟨fn, tmps, assign, body, hy, hR⟩ := HY1.out
        gi_wp2
        refine hR.mono ?_
        rintro e W3 ⟨rfl, hJ3, hK3⟩
        have HJ4 := hid hJ3
        have HB4 := hid (show IsRow W3 b ws from hK3 _ _ _ HB3.out (by decide) (fun e => absurd e (by decide)))
        clear hJ3 hK3 hy HY1
        gi_wp2
        refine ⟨⟨i + 1, by rw [hwr], by omega, ?_, fun _ => ⟨b, rfl, HB4.out⟩⟩, by rw [hwr]; simp [intOf]; omega⟩
        rw [HT.out, HE.out]
        exact HJ4.out
    · have hlt' : ¬ (i : Int) < ws.length := by omega
      have he : i = ws.length := by omega
      subst he
      gi_wp2
      go_end0
      rw [HK.out]
      have := HJr.out
      rw [List.take_length] at this
      exact ⟨⟨_, rfl⟩, this⟩
end Go.Proofs.YtpfmmlbakbhklaaGreatDoor
namespace Go.Proofs.YtpfmmlbakbhklaaGreatDoor
open Go.RowKit Go.Shelf
attribute [local go_sem] Oper.semAt_some

set_option maxHeartbeats 1000000 in
theorem below_fn (n : Nat) (t : Nat) (fr : Int) (v : Nat) (w : World) :
    CallsIn Fence.wide n Tryz.prog 52 #[.pointer (some ⟨t, 0, none⟩), .agg #[.int .i64 fr, .int .i64 v]] w fun e w' =>
      e = .returned (.func (.func 87) #[] #[.pointer (some ⟨w.heap.size, 0, none⟩), .pointer (some ⟨w.heap.size + 1, 0, none⟩)]) ∧
      w' = (w.alloc (.cells #[.pointer (some ⟨t, 0, none⟩)] 30)).alloc (.cells #[.int .i64 fr, .int .i64 v] 93) := by
  refine callsIn_of_wp Tryz.func52 rfl trivial ?_ rfl
  simp only [Tryz.ntmps52, List.size_toArray, List.length_cons, List.length_nil, Nat.reduceAdd, Nat.reduceSub, Array.replicate_succ, Array.replicate_zero, List.push_toArray, List.append_toArray, List.nil_append, List.cons_append]
  gi_wp2
  go_ret
  exact ⟨rfl, rfl⟩

/-- The marks of loops over functions are taken away, one after the other. -/
theorem leaves_marks {F : Fence} {n : Nat} {P : Program} {fn : Func} {tmps : Array Value} {R : Ending → World → Prop} {base : Nat} (G : World → Prop)
    (hG : ∀ (A B : World) (l : Nat) (o : Obj), G A → Tw l A B → A.heap[l]? = some o → o.isCells = false → base ≤ l → G B)
    (hR : ∀ A, G A → LeavesIn F n P fn tmps R [] .returning A) : ∀ (rs : List Nat) (A : World), rs.Nodup → (∀ r, r ∈ rs → base ≤ r ∧ A.heap[r]? = some (.deferred (some []))) → G A →
      LeavesInM F n P fn tmps R (rs.map fun r => { target := .collected r, args := #[] }) .returning A
  | [], A, _, _, h => hR A h
  | r :: rs, A, hn, hr, h => by
    obtain ⟨h1, h2⟩ := hr r (List.mem_cons_self ..)
    refine ⟨by simp, .inl ⟨r, _, rfl, run_takeDeferred h2, ?_⟩⟩
    refine leaves_marks G hG hR rs _ (List.nodup_cons.1 hn).2 (fun q hq => ?_) (hG _ _ _ _ h (Tw.put _ _ _) h2 rfl h1)
    obtain ⟨a, b⟩ := hr q (List.mem_cons_of_mem _ hq)
    exact ⟨a, ((Tw.put A r _).block q (fun e => (List.nodup_cons.1 hn).1 (e ▸ hq))).trans b⟩

/-- The tables' cells, one behind the other. -/
def tbL (l : List (Int × Nat)) : List Value := l.flatMap fun p => [.int .i64 p.1, .int .i64 (p.2 : Nat)]
theorem tbL_app (a b : List (Int × Nat)) : tbL (a ++ b) = tbL a ++ tbL b := by simp [tbL]
theorem tbL_at : ∀ (l : List (Int × Nat)) (i : Nat), i < l.length → (tbL l)[i * 2]? = some (.int .i64 (l.getD i (0, 0)).1) ∧ (tbL l)[i * 2 + 1]? = some (.int .i64 ((l.getD i (0, 0)).2 : Nat))
  | [], i, h => by simp at h
  | p :: l, 0, _ => ⟨rfl, rfl⟩
  | p :: l, i + 1, h => by
    have ih := tbL_at l i (by simpa using h)
    rw [show (i + 1) * 2 = i * 2 + 1 + 1 by omega]
    exact ih
theorem info93 : (Tryz.prog.info? 93).map (fun i => (i.zero, i.size, i.bytes)) = some (some (.agg #[.int .i64 0, .int .i64 0]), 2, 16) := by kernel_rfl
theorem cells2_new (w : World) (a b : Value) (t : TypeId) : ∀ j u, [a, b][j]? = some u → (w.alloc (.cells #[a, b] t)).cell? ((⟨w.heap.size, 0, none⟩ : Addr).add j) = some u := fun j u hj => by
  rw [Addr.add_lit, Nat.zero_add]
  exact P.cell_of (heap_alloc_new w _) (by simpa using hj)
/-- A row of tables in a box. -/
structure TR (w : World) (n B : Nat) (q : Nat) (l : List (Int × Nat)) (W : World) : Prop where
  bw : Below n w W
  row : ∃ v, Boxed W B 105 v ∧ W.ownsRow n 93 2 v l.length (tbL l) ∧ v.ownBlock ≠ some q
theorem TR.keep {w : World} {n B q : Nat} {l : List (Int × Nat)} {X Y : World} (h : TR w n B q l X) (b : Below n X Y) (hk : ∀ (g : Nat) (c : Array Value) (T : TypeId), X.heap[g]? = some (.cells c T (0, 0)) → Y.heap[g]? = some (.cells c T (0, 0))) : TR w n B q l Y := by
  obtain ⟨v, a, c, d⟩ := h.row
  exact ⟨h.bw.trans b, v, hk _ _ _ a, own_ab (n := 0) c (fun g cs hg => hk _ _ _ hg) rfl, d⟩
/-- Ahead of a round's loop: i tables have been gone over. -/
structure GI (w : World) (xs : List Int) (root : Int) (i : Nat) (rs : List Nat) (W : World) : Prop where
  tr : TR w (w.heap.size) (w.heap.size + 1 + 1) W.heap.size (gatI xs root i) W
  le : i ≤ (gatI xs root i).length
  nd : rs.Nodup
  ms : ∀ r, r ∈ rs → w.heap.size ≤ r ∧ r < W.heap.size ∧ W.heap[r]? = some (.deferred (some []))
/-- Within it: z have been told. -/
structure GR (w : World) (t : Nat) (L : List (Int × Nat)) (x : Int × Nat) (p0 : Nat) (rs : List Nat) (z : List (Int × Nat)) (W : World) : Prop where
  tr : TR w (w.heap.size) (w.heap.size + 1 + 1) (p0 + 1) (L ++ z) W
  b0 : W.heap[p0]? = some (.cells #[.pointer (some ⟨t, 0, none⟩)] 30 (0, 0))
  b1 : W.heap[p0 + 1]? = some (.cells #[.int .i64 x.1, .int .i64 (x.2 : Nat)] 93 (0, 0))
  ms : ∀ r, r ∈ rs → r < p0 ∧ W.heap[r]? = some (.deferred (some []))
theorem own_lt {W : World} {n e size k : Nat} {v : Value} {xs : List Value} (h : W.ownsRow n e size v k xs) {g : Nat} (hg : v.ownBlock = some g) : g < W.heap.size := by
  rcases h.2 with ⟨h, -⟩ | ⟨g', cap', cur', hgg, -, hgh, -⟩
  · rw [h] at hg; simp [Value.ownBlock] at hg
  · rw [hgg] at hg
    simp [Value.ownBlock] at hg
    have := lt_of_block hgh
    omega
theorem TR.free {w : World} {n B q : Nat} {l : List (Int × Nat)} {X : World} (h : TR w n B q l X) : TR w n B X.heap.size l X := by
  obtain ⟨v, a, c, -⟩ := h.row
  exact ⟨h.bw, v, a, c, fun e => by have := own_lt c e; omega⟩
/-- Behind an append onto a row of tables in a box. -/
theorem app_tab {W w1 : World} {n B q : Nat} {v v' : Value} {k m : Nat} {xs ys : List Value} {tmp : Obj}
    (hv : Boxed W B 105 v) (hrow : W.ownsRow n 93 2 v k xs) (hq : q < W.heap.size) (hqv : v.ownBlock ≠ some q)
    (hown' : w1.ownsRow n 93 2 v' m ys) (hgrow : (W.alloc tmp).grownBy w1 v.ownBlock) (hat : v'.ownBlock = v.ownBlock ∨ v'.ownBlock = some (W.alloc tmp).heap.size) :
    RkG q W (w1.setCell ⟨B, 0, none⟩ v') ∧ v'.ownBlock ≠ some q := by
  obtain ⟨hv1, hv2, hr2, hsz, hk2, hb2⟩ := app_all hv (by decide) hrow hown' hgrow
  refine ⟨fun j c T hj h1 h2 => ?_, ?_⟩
  · by_cases hT : T = 93
    · have hjq := h2 hT
      subst hjq hT
      have hjB : j ≠ B := fun e => by subst e; rw [show W.heap[j]? = _ from hv] at hj; injection hj with hj; injection hj with _ hj _; cases hj
      refine (Below.heap_setCell w1 ⟨B, 0, none⟩ v' j hjB).trans ((hgrow.block j (by simp; omega) fun e => hqv e.symm).trans (P.hkeep hj tmp))
    · exact hk2 j _ hj (fun c e => by injection e with _ e; exact h1 e) (fun c e => by injection e with _ e; exact hT e)
  · rcases hat with e | e
    · rw [e]; exact hqv
    · rw [e]; simp; omega
section
variable {u : Si} {w : World} {t : Nat} {o root : Int} {s : Sm} {k : Nat}
set_option maxRecDepth 100000 in
set_option maxHeartbeats 4000000 in
theorem gather_in (hT : IsT u w t 1 o root) (h : Wo u w s k) :
    CallsIn Fence.wide 3 Tryz.prog 50 #[.agg #[.int .i64 root, .int .i64 (3 : Nat)], .func (.func 52) #[.pointer (some ⟨t, 0, none⟩)] #[]] w fun r w' => (∃ v, r = .returned v ∧ w'.ownsRow w.heap.size 93 2 v (gat s.xs root).length (tbL (gat s.xs root))) ∧ Below w.heap.size w w' := by
  have HW := hid h
  have HT := hid hT
  obtain ⟨i0, hi, hz0, hz1, hz2⟩ := info_parts info93
  have HINF := hid (And.intro hi (And.intro hz0 (And.intro hz1 hz2)))
  clear hT h hi hz0 hz1 hz2
  refine callsIn_of_wp_marks Tryz.func50 rfl trivial ?_ rfl
  simp only [Tryz.ntmps50, List.size_toArray, List.length_cons, List.length_nil, Nat.reduceAdd, Nat.reduceSub, Array.replicate_succ, Array.replicate_zero, List.push_toArray, List.append_toArray, List.nil_append, List.cons_append]
  gi_wp2
  refine wpIn_loop (fun a W => ∃ (i : Nat) (rs : List Nat) (u7 u10 u11 u12 u13 u14 u15 u16 u17 u18 u19 u20 u21 u22 u23 u24 u25 u26 : Value), a = ⟨#[Value.agg #[Value.int .i64 root, Value.int .i64 (3 : Nat)], Value.func (.func 52) #[.pointer (some ⟨t, 0, none⟩)] #[], .pointer (some ⟨w.heap.size, 0, none⟩), undef, .slice none 0 0, .pointer (some ⟨w.heap.size + 1 + 1, 0, none⟩), .int .i64 (i : Nat), u7, Value.agg #[Value.int .i64 root, Value.int .i64 (3 : Nat)], .slice (some ⟨w.heap.size + 1, 0, none⟩) 1 1, u10, u11, u12, u13, u14, u15, u16, u17, u18, u19, u20, u21, u22, u23, u24, u25, u26, undef], rs.map fun r => { target := .collected r, args := #[] }⟩ ∧ GI w s.xs root i rs W)
    (fun a _ => 5000 - (intOf (a.tmps.getD 6 undef)).toNat) ?_ ?_
  · refine ⟨0, [], _, _, _, _, _, _, _, _, _, _, _, _, _, _, _, _, _, _, rfl, ⟨⟨((below_alloc w _).alloc (by simp) _).alloc (by simp; omega) _, .slice (some ⟨w.heap.size + 1, 0, none⟩) 1 1, ?_, ?_, by simp [Value.ownBlock]⟩, by simp [gatI], List.nodup_nil, fun r hr => by simp at hr⟩⟩
    · exact (new3 w _ _ _).2.2
    · exact ⟨rfl, .inr ⟨w.heap.size + 1, 1, _, rfl, by omega, (new3 w _ _ _).2.1, by simp [gatI], by decide, rfl, rfl⟩⟩
  · rintro a W ⟨i, rs, u7, u10, u11, u12, u13, u14, u15, u16, u17, u18, u19, u20, u21, u22, u23, u24, u25, u26, rfl, hg⟩
    have HG := hid hg
    obtain ⟨vs, hbx, hrow, hqv⟩ := hg.tr.row
    have hlen := gatI_len s.xs root i
    have hle := hg.le
    have hbw := hg.tr.bw
    have hc := hbx.cell
    have hms := hg.ms
    have hnd := hg.nd
    have hl1 : 1 ≤ (gatI s.xs root i).length := by simp [gatI]
    by_cases hlt : i < (gatI s.xs root i).length
    · obtain ⟨a1, a2, a3⟩ := gatI_at hlt
      have hxm := gat_lev s.xs root ((gat s.xs root).getD i (0, 0)) (by rw [List.getD_eq_getElem?_getD, List.getElem?_eq_getElem a1]; exact List.getElem_mem _)
      have hat := tbL_at (gatI s.xs root i) i hlt
      rw [a2] at hat
      have HA3 := hid a3
      have hlen2 := gatI_len s.xs root (i + 1)
      have HL2 := hid hlen2
      clear a1 a2 a3 hlen2 hg
      generalize (gat s.xs root).getD i (0, 0) = x at *
      generalize hgi : gatI s.xs root (i + 1) = L2 at *
      have HGI := hid hgi
      clear hgi
      generalize gatI s.xs root i = L at *
      obtain ⟨m, hm⟩ : ∃ m, L.length = m + 1 := ⟨L.length - 1, by omega⟩
      have HM := hid hm
      have HROW := hid hrow
      rw [hm] at hrow
      obtain ⟨g, cap, rfl⟩ := ownsRow_succ hrow
      have hg0 : ∃ cur, W.heap[g]? = some (.cells cur 93 (0, 0)) ∧ cur.toList.take ((m + 1) * 2) = tbL L ∧ m + 1 ≤ cap := by
        rcases hrow.2 with ⟨h, -⟩ | ⟨g', cap', cur, hgg, -, hgh, hcm, -, -, htk⟩
        · cases h
        · injection hgg with a b c
          injection a with a
          injection a with a
          subst a
          exact ⟨cur, hgh, htk, by omega⟩
      obtain ⟨cur, hgh, htk, hcap⟩ := hg0
      have hcell : ∀ j y, (tbL L)[j]? = some y → j < (m + 1) * 2 → cur[j]? = some y := fun j y hj hl => by
        rw [← htk] at hj
        rw [List.getElem?_take_of_lt hl] at hj
        simpa using hj
      have c0 := P.cell_of hgh (hcell _ _ hat.1 (by omega))
      have c1 := P.cell_of hgh (hcell _ _ hat.2 (by omega))
      obtain ⟨xf, xv⟩ := x
      simp only at c0 c1 hxm
      have hwr : wrap64 ((i : Int) + 1) = ((i + 1 : Nat) : Int) := by unfold wrap64; omega
      have hlt' : (i : Int) < (m : Int) + 1 := by omega
      have HMS := hid hms
      have HND := hid hnd
      have HBW := hid hbw
      have HBX := hid hbx
      have HXM := hid hxm
      have HLE := hid hlen
      clear hgh htk hcell hat hms hnd hbw hbx hxm hrow hm hle hlt
      gi_wp2_with fail
      refine ⟨trivial, (below_fn _ t xf xv _).mono ?_⟩
      rintro e w' ⟨rfl, hw'⟩
      rw [hw']
      clear hw' w' c0 c1
      gi_wp2
      have hn0 := P.two_new W (.cells #[.pointer (some ⟨t, 0, none⟩)] 30) (.cells #[.int .i64 xf, .int .i64 (xv : Nat)] 93)
      have hB01 := P.btwo W (.cells #[.pointer (some ⟨t, 0, none⟩)] 30) (.cells #[.int .i64 xf, .int .i64 (xv : Nat)] 93)
      have hs1 : ((W.alloc (.cells #[.pointer (some ⟨t, 0, none⟩)] 30)).alloc (.cells #[.int .i64 xf, .int .i64 (xv : Nat)] 93)).heap.size = W.heap.size + 2 := by simp
      have hms1 : ∀ r, r ∈ rs → r < W.heap.size ∧ ((W.alloc (.cells #[.pointer (some ⟨t, 0, none⟩)] 30)).alloc (.cells #[.int .i64 xf, .int .i64 (xv : Nat)] 93)).heap[r]? = some (.deferred (some [])) := fun r hr => ⟨(HMS.out r hr).2.1, P.hkeep (P.hkeep (HMS.out r hr).2.2 _) _⟩
      have htr1 : TR w (w.heap.size) (w.heap.size + 1 + 1) (W.heap.size + 1) (L ++ []) ((W.alloc (.cells #[.pointer (some ⟨t, 0, none⟩)] 30)).alloc (.cells #[.int .i64 xf, .int .i64 (xv : Nat)] 93)) := by
        have h0 : TR w (w.heap.size) (w.heap.size + 1 + 1) (W.heap.size + 1) L W := ⟨HBW.out, _, HBX.out, HROW.out, fun e => by
          have := own_lt HROW.out e
          omega⟩
        rw [List.append_nil]
        exact h0.keep (hB01.mono HBW.out.size) (fun g c T hg => P.hkeep (P.hkeep hg _) _)
      generalize hW1 : ((W.alloc (.cells #[.pointer (some ⟨t, 0, none⟩)] 30)).alloc (.cells #[.int .i64 xf, .int .i64 (xv : Nat)] 93)) = W1 at *
      have HS1 := hid hs1
      have HI0 : Hid (GR w t L (xf, xv) W.heap.size rs [] W1) := ⟨htr1, hn0.1, hn0.2, hms1⟩
      have HB01 := hid hB01
      clear hW1 hs1 hn0 hB01 hms1 htr1 hqv hc
      refine range_told (F := Fence.wide) (n := 3) rfl (by decide) (gf := 87) (lb := #[.pointer (some ⟨W.heap.size, 0, none⟩), .pointer (some ⟨W.heap.size + 1, 0, none⟩)]) rfl trivial (enters_of Tryz.func87 (by kernel_rfl) rfl)
        (fun x : Int × Nat => #[.agg #[.int .i64 x.1, .int .i64 (x.2 : Nat)]]) (fun _ => rfl) (fun A B => Below A.heap.size A B) (RkG (W.heap.size + 1)) (fun _ _ h => h) (fun A B k o h ho _ => (h.block k (Array.getElem?_eq_some_iff.1 ho).1).trans ho) RkG.trans RkG.tw
        (GR w t L (xf, xv) W.heap.size rs) (OkK s xf xv) (fun z x => z ++ [x]) (fun z => z = kids s.xs (xf, xv)) [] ?hI ?hIp HI0.out ?hit ?hround ?hdone
      case hI => exact fun z A B hz hb => ⟨hz.tr.keep (hb.mono hz.tr.bw.size) (fun g c T hg => P.stay hb hg), P.stay hb hz.b0, P.stay hb hz.b1, fun r hr => ⟨(hz.ms r hr).1, P.stay hb (hz.ms r hr).2⟩⟩
      case hIp => exact fun z A B l ob hz hb hl ho hw => ⟨hz.tr.keep (hb.below (by have := HS1.out; have := HBW.out.size; omega)) (fun g c T hg => hb.cells hl ho hg), hb.cells hl ho hz.b0, hb.cells hl ho hz.b1, fun r hr => ⟨(hz.ms r hr).1, (hb.block r (by have := (hz.ms r hr).1; have := HS1.out; omega)).trans (hz.ms r hr).2⟩⟩
      case hit =>
        intro l J X hBX hJ hJI hY h0
        exact below_in 2 (by decide) u t W.heap.size (W.heap.size + 1) o root xf xv HXM.out s _ (fun z A hz => ⟨hz.b0, hz.b1, HT.out.below hz.tr.bw, k, HW.out.below hz.tr.bw⟩) l J X hJ hJI hY h0
      case hround =>
        rintro l z x X hz hok ⟨ob, hob, hoc⟩
        have HZ := hid hz
        have HO : Hid (W1.heap.size + 1 < X.heap.size) := (Array.getElem?_eq_some_iff.1 hob).1
        have HLZ : Hid ((L ++ z).length ≤ 5000) := by
          obtain ⟨r, hr⟩ := hok
          have h1 := kids_len s.xs (xf, xv)
          have h2 := HLE.out
          rw [hr] at h1
          show _ ≤ _
          simp only [List.length_append, List.length_cons] at *
          omega
        clear hz hok
        obtain ⟨yf, yv⟩ := x
        simp only
        have HG2 := hid (heap_alloc_new X (.cells #[.int .i64 yf, .int .i64 (yv : Nat)] 93))
        gi_wp2
        refine ⟨Ko.of_below (below_alloc X _), RkG.of_below (below_alloc X _), fun W2 hT2 => ?_⟩
        have hlo' := HO.out
        have hl1 : (X.alloc (.cells #[.int .i64 yf, .int .i64 (yv : Nat)] 93)).heap[W1.heap.size + 1]? = some ob := P.hkeep hob _
        have hz2 : GR w t L (xf, xv) W.heap.size rs z W2 := ⟨HZ.out.tr.keep (((below_alloc X _).mono (HZ.out.tr.bw.size)).trans (hT2.below (by have := HS1.out; have := HBW.out.size; omega))) (fun g c T hg => hT2.cells hl1 hoc (P.hkeep hg _)), hT2.cells hl1 hoc (P.hkeep HZ.out.b0 _), hT2.cells hl1 hoc (P.hkeep HZ.out.b1 _), fun r hr => ⟨(HZ.out.ms r hr).1, (hT2.block r (by have := (HZ.out.ms r hr).1; have := HS1.out; omega)).trans (P.hkeep (HZ.out.ms r hr).2 _)⟩⟩
        have hg2 := (hT2.block X.heap.size (by omega)).trans HG2.out
        have HZ2 := hid hz2
        obtain ⟨v, hbx, hrow, hqv⟩ := hz2.tr.row
        have hll := HLZ.out
        have hc := hbx.cell
        obtain ⟨LZ, hLZ⟩ : ∃ LZ, L ++ z = LZ := ⟨_, rfl⟩
        rw [hLZ] at hrow hll
        have HAS : Hid (L ++ (z ++ [(yf, yv)]) = LZ ++ [(yf, yv)]) := by
          show _ = _
          rw [← hLZ, List.append_assoc]
        clear hLZ HLZ
        have g0 := P.cell_of (i := 0) hg2 rfl
        have g1 := P.cell_of (i := 1) hg2 rfl
        have HBX2 := hid hbx
        have HROW2 := hid hrow
        have HQV := hid hqv
        have HP1 := hid (lt_of_block hz2.b1)
        obtain ⟨hi, hz0, hz1, hz2'⟩ := HINF.out
        have hw2 : w.heap.size ≤ W2.heap.size := hz2.tr.bw.size
        clear hT2 hl1 hz2 hg2 hob hoc hqv
        gi_wp2_with (gi_at_builtin; refine wpListIn_append_own_at _ rfl _ _ 105 rfl w.heap.size 93 i0 (.agg #[.int .i64 0, .int .i64 0]) 2 16 Tryz.underlying105 hi hz0 hz1 hz2' rfl (by decide) _ _ _ rfl (HROW2.out.alloc _) ⟨W2.heap.size, 0, none⟩ 1 1 [.int .i64 yf, .int .i64 (yv : Nat)] rfl rfl (cells2_new _ _ _ _) (by simp [Value.oneCell']) (by unfold maxLen; omega) (by omega) (by simp; omega) ?_; intro v' w1 hown' hgrow hnil hat; obtain ⟨g', cap', rfl⟩ := ownsRow_succ hown'; obtain ⟨hv1, hv2, hr2, hsz, hk2, hb2⟩ := app_all HBX2.out (by decide) HROW2.out hown' hgrow; obtain ⟨hrk, hq2⟩ := app_tab HBX2.out HROW2.out HP1.out HQV.out hown' hgrow hat; have hc1 := hv1.cell; have hf1 := hv1.frozen; have HQ2 := hid hq2; have HRK := hid hrk; have HK2 := hid hk2; clear hq2 hrk hk2 hat hnil)
        obtain ⟨z1, z2, z3, z4⟩ := hsz
        have hbw : Below w.heap.size W2 (w1.setCell ⟨w.heap.size + 1 + 1, 0, none⟩ (.slice (some ⟨g', 0, none⟩) (LZ.length + 1) cap')) :=
          ⟨z1.symm, z2.symm, z3.symm, by simpa [World.setCell] using z4, fun q hq => hb2 q (by omega) (by omega) (by omega)⟩
        refine ⟨⟨⟨HZ2.out.tr.bw.trans hbw, _, hv2, ?_, HQ2.out⟩, HRK.out _ _ _ HZ2.out.b0 (by decide) (fun e => absurd e (by decide)), HRK.out _ _ _ HZ2.out.b1 (by decide) (fun _ => rfl), fun r hr => ⟨(HZ2.out.ms r hr).1, HK2.out _ _ (HZ2.out.ms r hr).2 (fun c e => by cases e) (fun c e => by cases e)⟩⟩, ?_, HRK.out⟩
        · rw [HAS.out, List.length_append, List.length_singleton, tbL_app]
          exact hr2
        · intro q ob _ hq ho
          exact HK2.out q ob hq (fun c e => by subst e; cases ho) (fun c e => by subst e; cases ho)
      case hdone =>
        rintro z X rfl hz hK
        have HZ := hid hz
        have HK := hid hK
        have HL3 := hid (HA3.out)
        clear hz hK
        gi_wp2
        rw [hwr]
        refine ⟨⟨i + 1, W1.heap.size :: rs, _, _, _, _, _, _, _, _, _, _, _, _, _, _, _, _, _, _, rfl, ?_⟩, by simp [intOf]; have := HM.out; have := HLE.out; omega⟩
        have hL3 := HL3.out
        have hm := HM.out
        refine ⟨?_, by rw [HGI.out, hL3, List.length_append]; omega, List.nodup_cons.2 ⟨fun hr => ?_, HND.out⟩, fun r hr => ?_⟩
        · rw [HGI.out, hL3]
          exact HZ.out.tr.free
        · have := (HMS.out _ hr).2.1
          have := HS1.out
          omega
        · rcases List.mem_cons.1 hr with rfl | hr
          · exact ⟨by have := HBW.out.size; have := HS1.out; omega, lt_of_block HK.out, HK.out⟩
          · exact ⟨(HMS.out _ hr).1, lt_of_block (HZ.out.ms _ hr).2, (HZ.out.ms _ hr).2⟩
    · have hi' : ¬ (i : Int) < ((gatI s.xs root i).length : Int) := by omega
      have he := gatI_end (by omega) hle
      rw [he] at hrow hi'
      have HROW := hid hrow
      have HBW := hid hbw
      have HMS := hid hms
      have HND := hid hnd
      have HBX := hid hbx
      obtain ⟨n, hn⟩ : ∃ n, (gat s.xs root).length = n + 1 := ⟨(gat s.xs root).length - 1, by rw [he] at hl1; omega⟩
      have HNN := hid hn
      rw [hn] at hrow hi'
      obtain ⟨g, cap, rfl⟩ := ownsRow_succ hrow
      have hi2 : ¬ (i : Int) < (n : Int) + 1 := by omega
      clear hg hqv hrow hbx hbw hms hnd hlen hle hl1 hlt he hi' hn
      gi_wp2
      refine leaves_marks (base := w.heap.size) (fun A => A.ownsRow w.heap.size 93 2 (.slice (some ⟨g, 0, none⟩) (n + 1) cap) (gat s.xs root).length (tbL (gat s.xs root)) ∧ Below w.heap.size w A) (fun A B l ob hA hb hl ho hbl => ⟨own_ab (n := 0) hA.1 (fun g c hg => hb.cells hl ho hg) rfl, hA.2.trans (hb.below hbl)⟩) (fun A hA => ?_) rs W HND.out (fun r hr => ⟨(HMS.out r hr).1, (HMS.out r hr).2.2⟩) ⟨HROW.out, HBW.out⟩
      exact ⟨_, results_tmp rfl _ _ _, ⟨.slice (some ⟨g, 0, none⟩) (n + 1) cap, rfl, hA.1⟩, hA.2⟩
theorem gather_at (hT : IsT u w t 1 o root) (h : Wo u w s k) :
    Calls Tryz.prog 50 #[.agg #[.int .i64 root, .int .i64 3], .func (.func 52) #[.pointer (some ⟨t, 0, none⟩)] #[]] w fun r w' => (∃ v, r = .returned v ∧ w'.ownsRow w.heap.size 93 2 v (gat s.xs root).length (tbL (gat s.xs root))) ∧ Below w.heap.size w w' := callsIn_wide.1 (gather_in hT h)
end
end Go.Proofs.YtpfmmlbakbhklaaGreatDoor
