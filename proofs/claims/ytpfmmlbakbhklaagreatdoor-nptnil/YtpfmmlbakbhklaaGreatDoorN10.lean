/- What Query and alone return and leave. Conditions: the words and frames lie in memory; the tables are live; few calls have been counted. -/
import Derived.Test.YtpfmmlbakbhklaaGreatDoorN9
namespace Go.Proofs.YtpfmmlbakbhklaaGreatDoor
open Go.RowKit
theorem prD_rt (x : Nat) : P.rt (P.prD x) = true := by
  unfold P.prD
  split
  · rename_i h
    exact prY_rt h
  · rfl
theorem fdE_in (s : Sm) (root pg : Int) : 0 ≤ (fdE s root pg).r ∧ (fdE s root pg).r ≤ 7 ∧ 0 ≤ (fdE s root pg).f ∧ (fdE s root pg).f ≤ 4095 := P.rt_in (prD_rt _)
theorem endF_le (xs : List Int) (pg : Int) (lo : Nat) : ∀ (v : Nat) (fr : Int), (endF xs pg lo v fr).2 ≤ v
  | 0, fr => Nat.le_refl _
  | v + 1, fr => by
    unfold endF
    split
    · exact Nat.le_trans (endF_le xs pg lo v _) (Nat.le_succ v)
    · exact Nat.le_refl _
theorem qE_in {s : Sm} {root pg : Int} (h : qE s root pg = 0) : 0 ≤ pg ∧ pg ≤ 65535 ∧ (fdE s root pg).p = true := by
  unfold qE at h
  split at h
  · omega
  · rename_i h1
    split at h
    · omega
    · rename_i h2
      have := P.btw_yes.1 (by simpa using h1 : P.btw pg 0 65535 = true)
      exact ⟨this.1, this.2, by simpa using h2⟩
section
variable {u : Si} {w : World} {t : Nat} {st o root : Int} {s : Sm} {k : Nat}
set_option maxHeartbeats 2000000 in
theorem query_at (hT : IsT u w t 1 o root) (h : Wo u w s k) (pg : Int) :
    Calls Tryz.prog 13 #[.pointer (some ⟨t, 0, none⟩), .int .i64 pg] w fun r w' => r = .returned (.tuple #[.int .i64 (qF s root pg), .int .i64 (qR s root pg), .int .i64 (qE s root pg)]) ∧ Below w.heap.size w w' := by
  have HF := hid (find_at hT h pg)
  by_cases hq : qE s root pg = 0
  · have hf : qF s root pg = (fdE s root pg).f + pg % P.sp (fd s root pg).2 := if_pos hq
    have hr : qR s root pg = (fdE s root pg).r := if_pos hq
    obtain ⟨p0, p1, -⟩ := qE_in hq
    obtain ⟨-, -, f0, f1⟩ := fdE_in s root pg
    have hv := endF_le s.xs pg 0 3 root
    have HL := hid (fun (a : Int) (W : World) => leads_at (fd s root pg).1 a pg (fd s root pg).2 (fdE s root pg) W f0 f1 p0 p1 (by omega) (by have : (fd s root pg).2 ≤ 3 := hv; omega))
    rw [hq, sqC_lit hq] at HF
    rw [hq, hf, hr]
    unfold stC at HL
    generalize P.at' (fd s root pg).1 pg (fd s root pg).2 = aa at *
    have HL1 := hid (HL.out aa)
    generalize (fdE s root pg).f + pg % P.sp (fd s root pg).2 = lt at *
    generalize (fd s root pg).1 = fr at *
    generalize (fd s root pg).2 = v at *
    generalize (fdE s root pg) = e at *
    obtain ⟨ep, er, el, ef⟩ := e
    simp only at HF HL1 ⊢
    clear hT h hq hf hr f0 f1 p0 p1 hv HL
    go_enter Tryz.func13, Tryz.ntmps13
    go_wp2_with fail
    refine HF.out.mono ?_
    rintro r w1 ⟨rfl, hB1⟩
    have HB1 := hid hB1
    have hn := heap_alloc_new w1 (.cells #[.int .i64 fr, .int .i64 (v : Nat), .int .i64 aa, .bool ep, .int .i64 er, .bool el, .int .i64 ef] 97)
    have hS : ∀ w', Below (w1.alloc (.cells #[.int .i64 fr, .int .i64 (v : Nat), .int .i64 aa, .bool ep, .int .i64 er, .bool el, .int .i64 ef] 97)).drew.heap.size (w1.alloc (.cells #[.int .i64 fr, .int .i64 (v : Nat), .int .i64 aa, .bool ep, .int .i64 er, .bool el, .int .i64 ef] 97)).drew w' → w'.cell? ⟨w1.heap.size, 0, none⟩ = some (.int .i64 fr) ∧ w'.cell? ⟨w1.heap.size, 1, none⟩ = some (.int .i64 (v : Nat)) ∧ w'.cell? ⟨w1.heap.size, 2, none⟩ = some (.int .i64 aa) ∧ w'.cell? ⟨w1.heap.size, 3, none⟩ = some (.bool ep) ∧ w'.cell? ⟨w1.heap.size, 4, none⟩ = some (.int .i64 er) ∧ w'.cell? ⟨w1.heap.size, 5, none⟩ = some (.bool el) ∧ w'.cell? ⟨w1.heap.size, 6, none⟩ = some (.int .i64 ef) := fun w' b => seven (P.stay b (show (w1.alloc (.cells #[.int .i64 fr, .int .i64 (v : Nat), .int .i64 aa, .bool ep, .int .i64 er, .bool el, .int .i64 ef] 97)).drew.heap[w1.heap.size]? = _ from hn))
    have hS0 := hS _ (Below.refl _ _)
    have HS := hid hS
    have HB2 := hid (HB1.out.alloc HB1.out.size (.cells #[.int .i64 fr, .int .i64 (v : Nat), .int .i64 aa, .bool ep, .int .i64 er, .bool el, .int .i64 ef] 97)).drew
    clear hB1 hn hS
    go_wp2
    go_region_held3 (fun w' => w'.cell? ⟨w1.heap.size, 0, none⟩ = some (.int .i64 fr) ∧ w'.cell? ⟨w1.heap.size, 1, none⟩ = some (.int .i64 (v : Nat)) ∧ w'.cell? ⟨w1.heap.size, 2, none⟩ = some (.int .i64 aa) ∧ w'.cell? ⟨w1.heap.size, 3, none⟩ = some (.bool ep) ∧ w'.cell? ⟨w1.heap.size, 4, none⟩ = some (.int .i64 er) ∧ w'.cell? ⟨w1.heap.size, 5, none⟩ = some (.bool el) ∧ w'.cell? ⟨w1.heap.size, 6, none⟩ = some (.int .i64 ef)) (first | exact hS0 | assumption)
      (first | (go_at_call 47; refine (HL1.out _).mono ?_; rintro r w3 ⟨rfl, hB3⟩; have hS3 := HS.out _ hB3; have HB3 := hid hB3; clear hB3))
    all_goals
      go_wp2
      go_ret3
      exact ⟨rfl, HB2.out.trans (HB3.out.mono HB2.out.size)⟩
  · have hf : qF s root pg = 0 := if_neg hq
    have hr : qR s root pg = 0 := if_neg hq
    have hs : sqC s root pg = zeC := if_neg hq
    rw [hf, hr]
    rw [hs] at HF
    have hq' : (qE s root pg != 0) = true := by simpa using hq
    generalize qE s root pg = e at *
    clear hT h hq hf hr hs
    go_enter Tryz.func13, Tryz.ntmps13
    go_wp2_with fail
    refine HF.out.mono ?_
    rintro r w1 ⟨rfl, hB1⟩
    have HB1 := hid (hB1.alloc hB1.size (.cells zeC 97))
    clear hB1
    go_wp2
    go_ret3
    exact ⟨rfl, HB1.out⟩

/-- What alone tells of the entry's place. -/
def alC (s : Sm) (o root pg : Int) : Array Value := if alE s o root pg = 0 then atC (alS s o root pg).xs pg (fd (alS s o root pg) root pg) else zeC
theorem alC_lit {s : Sm} {o root pg : Int} (h : alE s o root pg = 0) : alC s o root pg = #[.int .i64 (fd (alS s o root pg) root pg).1, .int .i64 ((fd (alS s o root pg) root pg).2 : Nat), .int .i64 (P.at' (fd (alS s o root pg) root pg).1 pg (fd (alS s o root pg) root pg).2), .bool (fdE (alS s o root pg) root pg).p, .int .i64 (fdE (alS s o root pg) root pg).r, .bool (fdE (alS s o root pg) root pg).l, .int .i64 (fdE (alS s o root pg) root pg).f] := if_pos h
set_option maxHeartbeats 2000000 in
theorem alone_at (hT : IsT u w t 1 o root) (h : Wo u w s k) (hk : k + 20 ≤ bnd) (pg : Int) (hq : qE s root pg = 0) :
    Calls Tryz.prog 56 #[.pointer (some ⟨t, 0, none⟩), .int .i64 pg, .agg (sqC s root pg)] w fun r w' => r = .returned (.tuple #[.agg (alC s o root pg), .int .i64 (alE s o root pg)]) ∧ Wo u w' (alS s o root pg) (k + 17) ∧ Ch u w w' := by
  rw [sqC_lit hq]
  obtain ⟨-, -, f0, f1⟩ := fdE_in s root pg
  have HW := hid h
  have HT := hid hT
  cases hl : (fdE s root pg).l
  · have ha : alE s o root pg = 0 := if_neg (by rw [hl]; decide)
    have hs : alS s o root pg = s := if_neg (by rw [hl]; decide)
    have hc := alC_lit ha
    rw [hs] at hc
    rw [ha, hc, hs, hl]
    generalize P.at' (fd s root pg).1 pg (fd s root pg).2 = aa at *
    generalize (fd s root pg).1 = fr at *
    generalize (fd s root pg).2 = v at *
    generalize (fdE s root pg).p = ep at *
    generalize (fdE s root pg).r = er at *
    generalize (fdE s root pg).f = ef at *
    obtain ⟨n0, n1⟩ := P.two_new w (.cells #[.int .i64 fr, .int .i64 (v : Nat), .int .i64 aa, .bool ep, .int .i64 er, .bool false, .int .i64 ef] 97) (.cells zeC 97)
    have HB := hid (P.btwo w (.cells #[.int .i64 fr, .int .i64 (v : Nat), .int .i64 aa, .bool ep, .int .i64 er, .bool false, .int .i64 ef] 97) (.cells zeC 97))
    obtain ⟨x0, x1, x2, x3, x4, x5, x6⟩ := seven n0
    have HN := hid n1
    obtain ⟨y0, y1, y2, y3, y4, y5, y6⟩ := free7 n1
    obtain ⟨z0, z1, z2, z3, z4, z5, z6⟩ := seven n1
    clear hT h hq ha hs hc hl n0 n1 f0 f1 hk
    go_enter Tryz.func56, Tryz.ntmps56
    go_wp2
    refine bodyPost_ret (P.results_row_tmp rfl _ _ (w.heap.size + 1) _ rfl (run_loadVar_row _ _ 97 97 _ (0, 0) _ (P.two_new w _ _).2 Tryz.underlying97 rfl size97)) rfl ?_
    exact ⟨rfl, (HW.out.below (P.btwo w _ _)).mono (by omega), .of_below (P.btwo w _ _)⟩
  · have ha : alE s o root pg = newE s o := if_pos hl
    have hs : alS s o root pg = hangS s o (P.at' (fd s root pg).1 pg (fd s root pg).2) (part (fdE s root pg)) := if_pos hl
    have HH := hid (fun (W : World) (hT : IsT u W t 1 o root) (h : Wo u W s k) => hang_part hT h hk (P.at' (fd s root pg).1 pg (fd s root pg).2) (fd s root pg).1 ((fd s root pg).2 : Nat) (P.at' (fd s root pg).1 pg (fd s root pg).2) (fdE s root pg).p (fdE s root pg).r (fdE s root pg).l (fdE s root pg).f f0 f1)
    have hpe : part ⟨(fdE s root pg).p, (fdE s root pg).r, (fdE s root pg).l, (fdE s root pg).f⟩ = part (fdE s root pg) := rfl
    rw [hpe, ← hs, hl] at HH
    have HE := hid (fun (g : newE s o = 0) => alC_lit (ha.trans g))
    have HZ := hid (fun (g : newE s o ≠ 0) => (show alC s o root pg = zeC from if_neg (by rw [ha]; exact g)))
    have HEND := hid (fun (W : World) (k' : Nat) (hT : IsT u W t 1 o root) (h : Wo u W (alS s o root pg) k') => tend_lit hT h pg)
    rw [ha]
    generalize alC s o root pg = ac at *
    generalize newE s o = ee at *
    generalize alS s o root pg = s2 at *
    generalize P.at' (fd s root pg).1 pg (fd s root pg).2 = aa at *
    generalize (fd s root pg).1 = fr at *
    generalize (fd s root pg).2 = v at *
    generalize (fdE s root pg).p = ep at *
    generalize (fdE s root pg).r = er at *
    generalize (fdE s root pg).f = ef at *
    generalize P.at' (fd s2 root pg).1 pg (fd s2 root pg).2 = aa2 at *
    generalize (fd s2 root pg).1 = fr2 at *
    generalize (fd s2 root pg).2 = v2 at *
    generalize (fdE s2 root pg) = e2 at *
    obtain ⟨ep2, er2, el2, ef2⟩ := e2
    simp only at HEND HE
    obtain ⟨n0, n1⟩ := P.two_new w (.cells #[.int .i64 fr, .int .i64 (v : Nat), .int .i64 aa, .bool ep, .int .i64 er, .bool true, .int .i64 ef] 97) (.cells zeC 97)
    have HB := hid (P.btwo w (.cells #[.int .i64 fr, .int .i64 (v : Nat), .int .i64 aa, .bool ep, .int .i64 er, .bool true, .int .i64 ef] 97) (.cells zeC 97))
    obtain ⟨x0, x1, x2, x3, x4, x5, x6⟩ := seven n0
    have HN := hid n1
    have HH1 := hid (HH.out _ (HT.out.below HB.out) (HW.out.below HB.out))
    have HKP := hid (fun (w2 : World) (c : Ch u ((w.alloc (.cells #[.int .i64 fr, .int .i64 (v : Nat), .int .i64 aa, .bool ep, .int .i64 er, .bool true, .int .i64 ef] 97)).alloc (.cells zeC 97)) w2) => (HW.out.below HB.out).keep c HN.out (by decide) (by decide) (by decide))
    have HT1 := hid (fun (w2 : World) (c : Ch u ((w.alloc (.cells #[.int .i64 fr, .int .i64 (v : Nat), .int .i64 aa, .bool ep, .int .i64 er, .bool true, .int .i64 ef] 97)).alloc (.cells zeC 97)) w2) => (HT.out.below HB.out).ch (HW.out.below HB.out) c)
    clear hT h hq ha hs hl n0 n1 f0 f1 hk HH hpe
    by_cases hee : ee = 0
    · subst hee
      have hc := HE.out rfl
      rw [hc]
      clear HE HZ hc
      go_enter Tryz.func56, Tryz.ntmps56
      go_wp2_with fail
      refine HH1.out.mono ?_
      rintro r w2 ⟨rfl, hW2, hC2⟩
      have HM2 := hid (HKP.out w2 hC2)
      have HC2 := hid hC2
      have HE2 := hid (HEND.out w2 _ (HT1.out w2 hC2) hW2)
      have HW2 := hid hW2
      clear hW2 hC2 x0 x1 x2 x3 x4 x5 x6
      go_wp2_with fail
      refine HE2.out.mono ?_
      rintro r w3 ⟨rfl, hB3⟩
      have HM3 := hid (P.stay hB3 HM2.out)
      obtain ⟨z0, z1, z2, z3, z4, z5, z6⟩ := seven HM3.out
      obtain ⟨y0, y1, y2, y3, y4, y5, y6⟩ := free7 HM3.out
      have HW3 := hid (HW2.out.below hB3)
      have HC3 := hid (((Ch.of_below HB.out).trans HC2.out).trans (.of_below hB3))
      clear hB3
      go_wp2
      refine bodyPost_ret (P.results_row_tmp rfl _ _ (w.heap.size + 1) _ rfl (run_loadVar_row _ _ 97 97 _ (0, 0) _ (put7 HM3.out _ _ _ _ _ _ _) Tryz.underlying97 rfl size97)) rfl ?_
      exact ⟨rfl, HW3.out.belowN (bput7 (Below.refl w.heap.size _) (by omega) _ _ _ _ _ _ _) HW.out.lt.1 HW.out.lt.2, HC3.out.below2 (bput7 (Below.refl w.heap.size _) (by omega) _ _ _ _ _ _ _)⟩
    · have hee' : (ee != 0) = true := by simpa using hee
      have hz := HZ.out hee
      rw [hz]
      clear HE HZ hz hee
      go_enter Tryz.func56, Tryz.ntmps56
      go_wp2_with fail
      refine HH1.out.mono ?_
      rintro r w2 ⟨rfl, hW2, hC2⟩
      have HM2 := hid (HKP.out w2 hC2)
      obtain ⟨z0, z1, z2, z3, z4, z5, z6⟩ := seven HM2.out
      obtain ⟨y0, y1, y2, y3, y4, y5, y6⟩ := free7 HM2.out
      have HC2 := hid hC2
      have HW2 := hid hW2
      clear hW2 hC2 x0 x1 x2 x3 x4 x5 x6
      go_wp2
      refine bodyPost_ret (P.results_row_tmp rfl _ _ (w.heap.size + 1) _ rfl (run_loadVar_row _ _ 97 97 _ (0, 0) _ (put7 HM2.out _ _ _ _ _ _ _) Tryz.underlying97 rfl size97)) rfl ?_
      exact ⟨rfl, HW2.out.belowN (bput7 (Below.refl w.heap.size _) (by omega) _ _ _ _ _ _ _) HW.out.lt.1 HW.out.lt.2, ((Ch.of_below HB.out).trans HC2.out).below2 (bput7 (Below.refl w.heap.size _) (by omega) _ _ _ _ _ _ _)⟩
end
end Go.Proofs.YtpfmmlbakbhklaaGreatDoor
