/- What Query and alone return and leave. Conditions: the words and frames lie in memory; the tables are live; few calls have been counted. What putFault returns, for every page, level and entry. Conditions: the words and frames lie in memory; the tables are live. What put, Map and Large return and leave. Conditions: the words and frames lie in memory; the tables are live; few calls have been counted. What slices.Collect of a way returns: its stops, in a row of its own. Conditions: the words and frames lie in memory; the tables are live. What thin leaves. Conditions: the words and frames lie in memory; the tables are live; few calls have been counted. -/
import Derived.Test.YtpfmmlbakbhklaaGreatDoorBK
import Derived.Maps.AppendAt
namespace Go.Proofs.YtpfmmlbakbhklaaGreatDoor
open Go.RowKit
theorem prD_rt (x : Nat) : P.rt (P.prD x) = true := by
  unfold P.prD
  split
  · rename_i h
    exact prY_rt h
  · rfl
theorem fdE_in (s : Sm) (root pg : Int) : 0 ≤ (fdE s root pg).r ∧ (fdE s root pg).r ≤ 7 ∧ 0 ≤ (fdE s root pg).f ∧ (fdE s root pg).f ≤ 4095 := P.rt_in (prD_rt _)
theorem endF_le (xs : List Int) (pg : Int) (lo : Nat) : ∀ (v : Nat) (fr : Int), (endF xs pg lo v fr).2 ≤ v
  | 0, fr => Nat.le_refl _
  | v + 1, fr => by
    unfold endF
    split
    · exact Nat.le_trans (endF_le xs pg lo v _) (Nat.le_succ v)
    · exact Nat.le_refl _
theorem qE_in {s : Sm} {root pg : Int} (h : qE s root pg = 0) : 0 ≤ pg ∧ pg ≤ 65535 ∧ (fdE s root pg).p = true := by
  unfold qE at h
  split at h
  · omega
  · rename_i h1
    split at h
    · omega
    · rename_i h2
      have := P.btw_yes.1 (by simpa using h1 : P.btw pg 0 65535 = true)
      exact ⟨this.1, this.2, by simpa using h2⟩
section
variable {u : Si} {w : World} {t : Nat} {st o root : Int} {s : Sm} {k : Nat}
set_option maxHeartbeats 2000000 in
theorem query_at (hT : IsT u w t 1 o root) (h : Wo u w s k) (pg : Int) :
    Calls Tryz.prog 13 #[.pointer (some ⟨t, 0, none⟩), .int .i64 pg] w fun r w' => r = .returned (.tuple #[.int .i64 (qF s root pg), .int .i64 (qR s root pg), .int .i64 (qE s root pg)]) ∧ Below w.heap.size w w' := by
  have HF := hid (find_at hT h pg)
  by_cases hq : qE s root pg = 0
  · have hf : qF s root pg = (fdE s root pg).f + pg % P.sp (fd s root pg).2 := if_pos hq
    have hr : qR s root pg = (fdE s root pg).r := if_pos hq
    obtain ⟨p0, p1, -⟩ := qE_in hq
    obtain ⟨-, -, f0, f1⟩ := fdE_in s root pg
    have hv := endF_le s.xs pg 0 3 root
    have HL := hid (fun (a : Int) (W : World) => leads_at (fd s root pg).1 a pg (fd s root pg).2 (fdE s root pg) W f0 f1 p0 p1 (by omega) (by have : (fd s root pg).2 ≤ 3 := hv; omega))
    rw [hq, sqC_lit hq] at HF
    rw [hq, hf, hr]
    unfold stC at HL
    generalize P.at' (fd s root pg).1 pg (fd s root pg).2 = aa at *
    have HL1 := hid (HL.out aa)
    generalize (fdE s root pg).f + pg % P.sp (fd s root pg).2 = lt at *
    generalize (fd s root pg).1 = fr at *
    generalize (fd s root pg).2 = v at *
    generalize (fdE s root pg) = e at *
    obtain ⟨ep, er, el, ef⟩ := e
    simp only at HF HL1 ⊢
    clear hT h hq hf hr f0 f1 p0 p1 hv HL
    go_enter Tryz.func13, Tryz.ntmps13
    go_wp2_with fail
    refine HF.out.mono ?_
    rintro r w1 ⟨rfl, hB1⟩
    have HB1 := hid hB1
    have hn := heap_alloc_new w1 (.cells #[.int .i64 fr, .int .i64 (v : Nat), .int .i64 aa, .bool ep, .int .i64 er, .bool el, .int .i64 ef] 97)
    have hS : ∀ w', Below (w1.alloc (.cells #[.int .i64 fr, .int .i64 (v : Nat), .int .i64 aa, .bool ep, .int .i64 er, .bool el, .int .i64 ef] 97)).drew.heap.size (w1.alloc (.cells #[.int .i64 fr, .int .i64 (v : Nat), .int .i64 aa, .bool ep, .int .i64 er, .bool el, .int .i64 ef] 97)).drew w' → w'.cell? ⟨w1.heap.size, 0, none⟩ = some (.int .i64 fr) ∧ w'.cell? ⟨w1.heap.size, 1, none⟩ = some (.int .i64 (v : Nat)) ∧ w'.cell? ⟨w1.heap.size, 2, none⟩ = some (.int .i64 aa) ∧ w'.cell? ⟨w1.heap.size, 3, none⟩ = some (.bool ep) ∧ w'.cell? ⟨w1.heap.size, 4, none⟩ = some (.int .i64 er) ∧ w'.cell? ⟨w1.heap.size, 5, none⟩ = some (.bool el) ∧ w'.cell? ⟨w1.heap.size, 6, none⟩ = some (.int .i64 ef) := fun w' b => seven (P.stay b (show (w1.alloc (.cells #[.int .i64 fr, .int .i64 (v : Nat), .int .i64 aa, .bool ep, .int .i64 er, .bool el, .int .i64 ef] 97)).drew.heap[w1.heap.size]? = _ from hn))
    have hS0 := hS _ (Below.refl _ _)
    have HS := hid hS
    have HB2 := hid (HB1.out.alloc HB1.out.size (.cells #[.int .i64 fr, .int .i64 (v : Nat), .int .i64 aa, .bool ep, .int .i64 er, .bool el, .int .i64 ef] 97)).drew
    clear hB1 hn hS
    go_wp2
    go_region_held3 (fun w' => w'.cell? ⟨w1.heap.size, 0, none⟩ = some (.int .i64 fr) ∧ w'.cell? ⟨w1.heap.size, 1, none⟩ = some (.int .i64 (v : Nat)) ∧ w'.cell? ⟨w1.heap.size, 2, none⟩ = some (.int .i64 aa) ∧ w'.cell? ⟨w1.heap.size, 3, none⟩ = some (.bool ep) ∧ w'.cell? ⟨w1.heap.size, 4, none⟩ = some (.int .i64 er) ∧ w'.cell? ⟨w1.heap.size, 5, none⟩ = some (.bool el) ∧ w'.cell? ⟨w1.heap.size, 6, none⟩ = some (.int .i64 ef)) (first | exact hS0 | assumption)
      (first | (go_at_call 47; refine (HL1.out _).mono ?_; rintro r w3 ⟨rfl, hB3⟩; have hS3 := HS.out _ hB3; have HB3 := hid hB3; clear hB3))
    all_goals
      go_wp2
      go_ret3
      exact ⟨rfl, HB2.out.trans (HB3.out.mono HB2.out.size)⟩
  · have hf : qF s root pg = 0 := if_neg hq
    have hr : qR s root pg = 0 := if_neg hq
    have hs : sqC s root pg = zeC := if_neg hq
    rw [hf, hr]
    rw [hs] at HF
    have hq' : (qE s root pg != 0) = true := by simpa using hq
    generalize qE s root pg = e at *
    clear hT h hq hf hr hs
    go_enter Tryz.func13, Tryz.ntmps13
    go_wp2_with fail
    refine HF.out.mono ?_
    rintro r w1 ⟨rfl, hB1⟩
    have HB1 := hid (hB1.alloc hB1.size (.cells zeC 97))
    clear hB1
    go_wp2
    go_ret3
    exact ⟨rfl, HB1.out⟩

/-- What alone tells of the entry's place. -/
def alC (s : Sm) (o root pg : Int) : Array Value := if alE s o root pg = 0 then atC (alS s o root pg).xs pg (fd (alS s o root pg) root pg) else zeC
theorem alC_lit {s : Sm} {o root pg : Int} (h : alE s o root pg = 0) : alC s o root pg = #[.int .i64 (fd (alS s o root pg) root pg).1, .int .i64 ((fd (alS s o root pg) root pg).2 : Nat), .int .i64 (P.at' (fd (alS s o root pg) root pg).1 pg (fd (alS s o root pg) root pg).2), .bool (fdE (alS s o root pg) root pg).p, .int .i64 (fdE (alS s o root pg) root pg).r, .bool (fdE (alS s o root pg) root pg).l, .int .i64 (fdE (alS s o root pg) root pg).f] := if_pos h
set_option maxHeartbeats 2000000 in
theorem alone_at (hT : IsT u w t 1 o root) (h : Wo u w s k) (hk : k + 20 ≤ bnd) (pg : Int) (hq : qE s root pg = 0) :
    Calls Tryz.prog 56 #[.pointer (some ⟨t, 0, none⟩), .int .i64 pg, .agg (sqC s root pg)] w fun r w' => r = .returned (.tuple #[.agg (alC s o root pg), .int .i64 (alE s o root pg)]) ∧ Wo u w' (alS s o root pg) (k + 17) ∧ Ch u w w' := by
  rw [sqC_lit hq]
  obtain ⟨-, -, f0, f1⟩ := fdE_in s root pg
  have HW := hid h
  have HT := hid hT
  cases hl : (fdE s root pg).l
  · have ha : alE s o root pg = 0 := if_neg (by rw [hl]; decide)
    have hs : alS s o root pg = s := if_neg (by rw [hl]; decide)
    have hc := alC_lit ha
    rw [hs] at hc
    rw [ha, hc, hs, hl]
    generalize P.at' (fd s root pg).1 pg (fd s root pg).2 = aa at *
    generalize (fd s root pg).1 = fr at *
    generalize (fd s root pg).2 = v at *
    generalize (fdE s root pg).p = ep at *
    generalize (fdE s root pg).r = er at *
    generalize (fdE s root pg).f = ef at *
    obtain ⟨n0, n1⟩ := P.two_new w (.cells #[.int .i64 fr, .int .i64 (v : Nat), .int .i64 aa, .bool ep, .int .i64 er, .bool false, .int .i64 ef] 97) (.cells zeC 97)
    have HB := hid (P.btwo w (.cells #[.int .i64 fr, .int .i64 (v : Nat), .int .i64 aa, .bool ep, .int .i64 er, .bool false, .int .i64 ef] 97) (.cells zeC 97))
    obtain ⟨x0, x1, x2, x3, x4, x5, x6⟩ := seven n0
    have HN := hid n1
    obtain ⟨y0, y1, y2, y3, y4, y5, y6⟩ := free7 n1
    obtain ⟨z0, z1, z2, z3, z4, z5, z6⟩ := seven n1
    clear hT h hq ha hs hc hl n0 n1 f0 f1 hk
    go_enter Tryz.func56, Tryz.ntmps56
    go_wp2
    refine bodyPost_ret (P.results_row_tmp rfl _ _ (w.heap.size + 1) _ rfl (run_loadVar_row _ _ 97 97 _ (0, 0) _ (P.two_new w _ _).2 Tryz.underlying97 rfl size97)) rfl ?_
    exact ⟨rfl, (HW.out.below (P.btwo w _ _)).mono (by omega), .of_below (P.btwo w _ _)⟩
  · have ha : alE s o root pg = newE s o := if_pos hl
    have hs : alS s o root pg = hangS s o (P.at' (fd s root pg).1 pg (fd s root pg).2) (part (fdE s root pg)) := if_pos hl
    have HH := hid (fun (W : World) (hT : IsT u W t 1 o root) (h : Wo u W s k) => hang_part hT h hk (P.at' (fd s root pg).1 pg (fd s root pg).2) (fd s root pg).1 ((fd s root pg).2 : Nat) (P.at' (fd s root pg).1 pg (fd s root pg).2) (fdE s root pg).p (fdE s root pg).r (fdE s root pg).l (fdE s root pg).f f0 f1)
    have hpe : part ⟨(fdE s root pg).p, (fdE s root pg).r, (fdE s root pg).l, (fdE s root pg).f⟩ = part (fdE s root pg) := rfl
    rw [hpe, ← hs, hl] at HH
    have HE := hid (fun (g : newE s o = 0) => alC_lit (ha.trans g))
    have HZ := hid (fun (g : newE s o ≠ 0) => (show alC s o root pg = zeC from if_neg (by rw [ha]; exact g)))
    have HEND := hid (fun (W : World) (k' : Nat) (hT : IsT u W t 1 o root) (h : Wo u W (alS s o root pg) k') => tend_lit hT h pg)
    rw [ha]
    generalize alC s o root pg = ac at *
    generalize newE s o = ee at *
    generalize alS s o root pg = s2 at *
    generalize P.at' (fd s root pg).1 pg (fd s root pg).2 = aa at *
    generalize (fd s root pg).1 = fr at *
    generalize (fd s root pg).2 = v at *
    generalize (fdE s root pg).p = ep at *
    generalize (fdE s root pg).r = er at *
    generalize (fdE s root pg).f = ef at *
    generalize P.at' (fd s2 root pg).1 pg (fd s2 root pg).2 = aa2 at *
    generalize (fd s2 root pg).1 = fr2 at *
    generalize (fd s2 root pg).2 = v2 at *
    generalize (fdE s2 root pg) = e2 at *
    obtain ⟨ep2, er2, el2, ef2⟩ := e2
    simp only at HEND HE
    obtain ⟨n0, n1⟩ := P.two_new w (.cells #[.int .i64 fr, .int .i64 (v : Nat), .int .i64 aa, .bool ep, .int .i64 er, .bool true, .int .i64 ef] 97) (.cells zeC 97)
    have HB := hid (P.btwo w (.cells #[.int .i64 fr, .int .i64 (v : Nat), .int .i64 aa, .bool ep, .int .i64 er, .bool true, .int .i64 ef] 97) (.cells zeC 97))
    obtain ⟨x0, x1, x2, x3, x4, x5, x6⟩ := seven n0
    have HN := hid n1
    have HH1 := hid (HH.out _ (HT.out.below HB.out) (HW.out.below HB.out))
    have HKP := hid (fun (w2 : World) (c : Ch u ((w.alloc (.cells #[.int .i64 fr, .int .i64 (v : Nat), .int .i64 aa, .bool ep, .int .i64 er, .bool true, .int .i64 ef] 97)).alloc (.cells zeC 97)) w2) => (HW.out.below HB.out).keep c HN.out (by decide) (by decide) (by decide))
    have HT1 := hid (fun (w2 : World) (c : Ch u ((w.alloc (.cells #[.int .i64 fr, .int .i64 (v : Nat), .int .i64 aa, .bool ep, .int .i64 er, .bool true, .int .i64 ef] 97)).alloc (.cells zeC 97)) w2) => (HT.out.below HB.out).ch (HW.out.below HB.out) c)
    clear hT h hq ha hs hl n0 n1 f0 f1 hk HH hpe
    by_cases hee : ee = 0
    · subst hee
      have hc := HE.out rfl
      rw [hc]
      clear HE HZ hc
      go_enter Tryz.func56, Tryz.ntmps56
      go_wp2_with fail
      refine HH1.out.mono ?_
      rintro r w2 ⟨rfl, hW2, hC2⟩
      have HM2 := hid (HKP.out w2 hC2)
      have HC2 := hid hC2
      have HE2 := hid (HEND.out w2 _ (HT1.out w2 hC2) hW2)
      have HW2 := hid hW2
      clear hW2 hC2 x0 x1 x2 x3 x4 x5 x6
      go_wp2_with fail
      refine HE2.out.mono ?_
      rintro r w3 ⟨rfl, hB3⟩
      have HM3 := hid (P.stay hB3 HM2.out)
      obtain ⟨z0, z1, z2, z3, z4, z5, z6⟩ := seven HM3.out
      obtain ⟨y0, y1, y2, y3, y4, y5, y6⟩ := free7 HM3.out
      have HW3 := hid (HW2.out.below hB3)
      have HC3 := hid (((Ch.of_below HB.out).trans HC2.out).trans (.of_below hB3))
      clear hB3
      go_wp2
      refine bodyPost_ret (P.results_row_tmp rfl _ _ (w.heap.size + 1) _ rfl (run_loadVar_row _ _ 97 97 _ (0, 0) _ (put7 HM3.out _ _ _ _ _ _ _) Tryz.underlying97 rfl size97)) rfl ?_
      exact ⟨rfl, HW3.out.belowN (bput7 (Below.refl w.heap.size _) (by omega) _ _ _ _ _ _ _) HW.out.lt.1 HW.out.lt.2, HC3.out.below2 (bput7 (Below.refl w.heap.size _) (by omega) _ _ _ _ _ _ _)⟩
    · have hee' : (ee != 0) = true := by simpa using hee
      have hz := HZ.out hee
      rw [hz]
      clear HE HZ hz hee
      go_enter Tryz.func56, Tryz.ntmps56
      go_wp2_with fail
      refine HH1.out.mono ?_
      rintro r w2 ⟨rfl, hW2, hC2⟩
      have HM2 := hid (HKP.out w2 hC2)
      obtain ⟨z0, z1, z2, z3, z4, z5, z6⟩ := seven HM2.out
      obtain ⟨y0, y1, y2, y3, y4, y5, y6⟩ := free7 HM2.out
      have HC2 := hid hC2
      have HW2 := hid hW2
      clear hW2 hC2 x0 x1 x2 x3 x4 x5 x6
      go_wp2
      refine bodyPost_ret (P.results_row_tmp rfl _ _ (w.heap.size + 1) _ rfl (run_loadVar_row _ _ 97 97 _ (0, 0) _ (put7 HM2.out _ _ _ _ _ _ _) Tryz.underlying97 rfl size97)) rfl ?_
      exact ⟨rfl, HW2.out.belowN (bput7 (Below.refl w.heap.size _) (by omega) _ _ _ _ _ _ _) HW.out.lt.1 HW.out.lt.2, ((Ch.of_below HB.out).trans HC2.out).below2 (bput7 (Below.refl w.heap.size _) (by omega) _ _ _ _ _ _ _)⟩
end
end Go.Proofs.YtpfmmlbakbhklaaGreatDoor
namespace Go.Proofs.YtpfmmlbakbhklaaGreatDoor
open Go.RowKit
theorem count_nn (L : List O.Ds) (k : Int) : 0 ≤ ((O.cK L k : Nat) : Int) := by omega
section
variable {u : Si} {w : World} {t : Nat} {o root : Int} {s : Sm} {k : Nat}
def fdl (s : Sm) (root pg : Int) (lo : Nat) : P.En := en s.xs pg (endF s.xs pg lo 3 root).1 (endF s.xs pg lo 3 root).2
theorem tend_lo (hT : IsT u w t 1 o root) (h : Wo u w s k) (pg : Int) (lo : Nat) (hlo : lo ≤ 3) :
    Calls Tryz.prog 84 #[.pointer (some ⟨t, 0, none⟩), .int .i64 pg, .int .i64 lo] w fun e w' => e = .returned (.agg #[.int .i64 (endF s.xs pg lo 3 root).1, .int .i64 ((endF s.xs pg lo 3 root).2 : Nat), .int .i64 (P.at' (endF s.xs pg lo 3 root).1 pg (endF s.xs pg lo 3 root).2), .bool (fdl s root pg lo).p, .int .i64 (fdl s root pg lo).r, .bool (fdl s root pg lo).l, .int .i64 (fdl s root pg lo).f]) ∧ Below w.heap.size w w' :=
  tend_at hT h pg lo hlo
set_option maxHeartbeats 2000000 in
theorem pf0 (hT : IsT u w t 1 o root) (pg : Int) (lo : Nat) (xp : Bool) (xr : Int) (xl : Bool) (xf : Int) (h0 : P.btw pg 0 65535 = false) :
    Calls Tryz.prog 95 #[.pointer (some ⟨t, 0, none⟩), .int .i64 pg, .int .i64 lo, .agg #[.bool xp, .int .i64 xr, .bool xl, .int .i64 xf]] w fun r w' => r = .returned (.int .i64 2) ∧ Below w.heap.size w w' := by
  have hB := below_alloc w (.cells #[.bool xp, .int .i64 xr, .bool xl, .int .i64 xf] 95)
  have hN := heap_alloc_new w (.cells #[.bool xp, .int .i64 xr, .bool xl, .int .i64 xf] 95)
  have HF := hid (fault_at (hT.below hB) pg)
  have HB := hid hB
  have HN := hid hN
  rw [ftE_live, h0] at HF
  rw [if_neg (by decide)] at HF
  clear hT h0 hB hN
  go_enter Tryz.func95, Tryz.ntmps95
  go_wp2_with fail
  refine HF.out.mono ?_
  rintro r w1 ⟨rfl, rfl⟩
  go_wp2
  go_ret
  exact ⟨rfl, HB.out⟩
set_option maxHeartbeats 2000000 in
theorem pf1 (hT : IsT u w t 1 o root) (h : Wo u w s k) (pg : Int) (lo : Nat) (hlo : lo ≤ 3) (xp : Bool) (xr : Int) (xl : Bool) (xf : Int) (h0 : P.btw pg 0 65535 = true) (h1 : P.btw xf 0 4095 = false) :
    Calls Tryz.prog 95 #[.pointer (some ⟨t, 0, none⟩), .int .i64 pg, .int .i64 lo, .agg #[.bool xp, .int .i64 xr, .bool xl, .int .i64 xf]] w fun r w' => r = .returned (.int .i64 2) ∧ Below w.heap.size w w' := by
  have hB := below_alloc w (.cells #[.bool xp, .int .i64 xr, .bool xl, .int .i64 xf] 95)
  have hN := heap_alloc_new w (.cells #[.bool xp, .int .i64 xr, .bool xl, .int .i64 xf] 95)
  have HF := hid (fault_at (hT.below hB) pg)
  have HB := hid hB
  have HN := hid hN
  rw [ftE_live, h0] at HF
  rw [if_pos rfl] at HF
  have HE := hid (tend_lo (hT.below hB) (h.below hB) pg lo hlo)
  have HSP := hid (fun W => P.span_at lo W)
  have HFR := hid (fun W => frame_at xf W)
  rw [h1] at HFR
  have hs1 : 1 ≤ P.sp lo ∧ P.sp lo ≤ 4096 := by
    obtain h | h | h | h : (lo : Int) = 0 ∨ (lo : Int) = 1 ∨ (lo : Int) = 2 ∨ (lo : Int) = 3 := by omega
    all_goals (rw [h]; decide)
  obtain ⟨p0, p1⟩ := P.btw_yes.1 h0
  obtain ⟨sp1, sp2⟩ := hs1
  generalize P.sp lo = sv at *
  generalize P.at' (endF s.xs pg lo 3 root).1 pg (endF s.xs pg lo 3 root).2 = aa at *
  generalize (endF s.xs pg lo 3 root).1 = fr at *
  generalize (endF s.xs pg lo 3 root).2 = v at *
  generalize fdl s root pg lo = e at *
  obtain ⟨ep, er, el, ef⟩ := e
  simp only at HE
  clear hT h h0 h1 hB hN hlo
  go_enter Tryz.func95, Tryz.ntmps95
  go_wp2_with fail
  refine HF.out.mono ?_
  rintro r w1 ⟨rfl, rfl⟩
  go_wp2_with fail
  refine HE.out.mono ?_
  rintro r w2 ⟨rfl, hB2⟩
  have HB2 := hid (HB.out.trans (hB2.mono HB.out.size))
  have HN2 := hid (P.stay hB2 HN.out)
  clear hB2
  go_wp2_with fail
  refine (HSP.out _).mono ?_
  rintro r w3 ⟨rfl, hw3⟩
  rw [hw3]
  clear hw3 w3
  have HB3 := hid (HB2.out.alloc HB2.out.size (.cells #[.int .i64 fr, .int .i64 (v : Nat), .int .i64 aa, .bool ep, .int .i64 er, .bool el, .int .i64 ef] 97))
  obtain ⟨c0, c1, c2, c3⟩ := P.four (P.hkeep HN2.out (.cells #[.int .i64 fr, .int .i64 (v : Nat), .int .i64 aa, .bool ep, .int .i64 er, .bool el, .int .i64 ef] 97))
  go_wp2_with fail
  refine (HFR.out _).mono ?_
  rintro r w3 ⟨rfl, hw3⟩
  rw [hw3]
  clear hw3 w3
  go_wp2
  go_ret
  exact ⟨rfl, HB3.out⟩
set_option maxHeartbeats 2000000 in
theorem pf2 (hT : IsT u w t 1 o root) (h : Wo u w s k) (pg : Int) (lo : Nat) (hlo : lo ≤ 3) (xp : Bool) (xr : Int) (xl : Bool) (xf : Int) (h0 : P.btw pg 0 65535 = true) (h1 : P.btw xf 0 4095 = true) (h2 : P.btw xr 1 7 = false) :
    Calls Tryz.prog 95 #[.pointer (some ⟨t, 0, none⟩), .int .i64 pg, .int .i64 lo, .agg #[.bool xp, .int .i64 xr, .bool xl, .int .i64 xf]] w fun r w' => r = .returned (.int .i64 7) ∧ Below w.heap.size w w' := by
  have hB := below_alloc w (.cells #[.bool xp, .int .i64 xr, .bool xl, .int .i64 xf] 95)
  have hN := heap_alloc_new w (.cells #[.bool xp, .int .i64 xr, .bool xl, .int .i64 xf] 95)
  have HF := hid (fault_at (hT.below hB) pg)
  have HB := hid hB
  have HN := hid hN
  rw [ftE_live, h0] at HF
  rw [if_pos rfl] at HF
  have HE := hid (tend_lo (hT.below hB) (h.below hB) pg lo hlo)
  have HSP := hid (fun W => P.span_at lo W)
  have HFR := hid (fun W => frame_at xf W)
  have HRI := hid (fun W => rights_at xr W)
  rw [h1] at HFR
  rw [h2] at HRI
  have hs1 : 1 ≤ P.sp lo ∧ P.sp lo ≤ 4096 := by
    obtain h | h | h | h : (lo : Int) = 0 ∨ (lo : Int) = 1 ∨ (lo : Int) = 2 ∨ (lo : Int) = 3 := by omega
    all_goals (rw [h]; decide)
  obtain ⟨p0, p1⟩ := P.btw_yes.1 h0
  obtain ⟨f0, f1⟩ := P.btw_yes.1 h1
  obtain ⟨sp1, sp2⟩ := hs1
  generalize P.sp lo = sv at *
  generalize P.at' (endF s.xs pg lo 3 root).1 pg (endF s.xs pg lo 3 root).2 = aa at *
  generalize (endF s.xs pg lo 3 root).1 = fr at *
  generalize (endF s.xs pg lo 3 root).2 = v at *
  generalize fdl s root pg lo = e at *
  obtain ⟨ep, er, el, ef⟩ := e
  simp only at HE
  clear hT h h0 h1 h2 hB hN hlo
  go_enter Tryz.func95, Tryz.ntmps95
  go_wp2_with fail
  refine HF.out.mono ?_
  rintro r w1 ⟨rfl, rfl⟩
  go_wp2_with fail
  refine HE.out.mono ?_
  rintro r w2 ⟨rfl, hB2⟩
  have HB2 := hid (HB.out.trans (hB2.mono HB.out.size))
  have HN2 := hid (P.stay hB2 HN.out)
  clear hB2
  go_wp2_with fail
  refine (HSP.out _).mono ?_
  rintro r w3 ⟨rfl, hw3⟩
  rw [hw3]
  clear hw3 w3
  have HB3 := hid (HB2.out.alloc HB2.out.size (.cells #[.int .i64 fr, .int .i64 (v : Nat), .int .i64 aa, .bool ep, .int .i64 er, .bool el, .int .i64 ef] 97))
  obtain ⟨c0, c1, c2, c3⟩ := P.four (P.hkeep HN2.out (.cells #[.int .i64 fr, .int .i64 (v : Nat), .int .i64 aa, .bool ep, .int .i64 er, .bool el, .int .i64 ef] 97))
  go_wp2_with fail
  refine (HFR.out _).mono ?_
  rintro r w3 ⟨rfl, hw3⟩
  rw [hw3]
  clear hw3 w3
  go_wp2_with fail
  refine (HRI.out _).mono ?_
  rintro r w3 ⟨rfl, hw3⟩
  rw [hw3]
  clear hw3 w3
  go_wp2
  go_ret
  exact ⟨rfl, HB3.out⟩
set_option maxHeartbeats 2000000 in
theorem pf3 (hT : IsT u w t 1 o root) (h : Wo u w s k) (pg : Int) (lo : Nat) (hlo : lo ≤ 3) (xp : Bool) (xr : Int) (xl : Bool) (xf : Int) (h0 : P.btw pg 0 65535 = true) (h1 : P.btw xf 0 4095 = true) (h2 : P.btw xr 1 7 = true) (h3 : (pg % P.sp lo != 0 || xf % P.sp lo != 0) = true) :
    Calls Tryz.prog 95 #[.pointer (some ⟨t, 0, none⟩), .int .i64 pg, .int .i64 lo, .agg #[.bool xp, .int .i64 xr, .bool xl, .int .i64 xf]] w fun r w' => r = .returned (.int .i64 8) ∧ Below w.heap.size w w' := by
  have hB := below_alloc w (.cells #[.bool xp, .int .i64 xr, .bool xl, .int .i64 xf] 95)
  have hN := heap_alloc_new w (.cells #[.bool xp, .int .i64 xr, .bool xl, .int .i64 xf] 95)
  have HF := hid (fault_at (hT.below hB) pg)
  have HB := hid hB
  have HN := hid hN
  rw [ftE_live, h0] at HF
  rw [if_pos rfl] at HF
  have HE := hid (tend_lo (hT.below hB) (h.below hB) pg lo hlo)
  have HSP := hid (fun W => P.span_at lo W)
  have HFR := hid (fun W => frame_at xf W)
  have HRI := hid (fun W => rights_at xr W)
  rw [h1] at HFR
  rw [h2] at HRI
  have hs1 : 1 ≤ P.sp lo ∧ P.sp lo ≤ 4096 := by
    obtain h | h | h | h : (lo : Int) = 0 ∨ (lo : Int) = 1 ∨ (lo : Int) = 2 ∨ (lo : Int) = 3 := by omega
    all_goals (rw [h]; decide)
  obtain ⟨p0, p1⟩ := P.btw_yes.1 h0
  obtain ⟨f0, f1⟩ := P.btw_yes.1 h1
  obtain ⟨sp1, sp2⟩ := hs1
  generalize P.sp lo = sv at *
  have g3 : pg % sv ≠ 0 ∨ xf % sv ≠ 0 := by simpa using h3
  generalize P.at' (endF s.xs pg lo 3 root).1 pg (endF s.xs pg lo 3 root).2 = aa at *
  generalize (endF s.xs pg lo 3 root).1 = fr at *
  generalize (endF s.xs pg lo 3 root).2 = v at *
  generalize fdl s root pg lo = e at *
  obtain ⟨ep, er, el, ef⟩ := e
  simp only at HE
  clear hT h h0 h1 h2 h3 hB hN hlo
  go_enter Tryz.func95, Tryz.ntmps95
  go_wp2_with fail
  refine HF.out.mono ?_
  rintro r w1 ⟨rfl, rfl⟩
  go_wp2_with fail
  refine HE.out.mono ?_
  rintro r w2 ⟨rfl, hB2⟩
  have HB2 := hid (HB.out.trans (hB2.mono HB.out.size))
  have HN2 := hid (P.stay hB2 HN.out)
  clear hB2
  go_wp2_with fail
  refine (HSP.out _).mono ?_
  rintro r w3 ⟨rfl, hw3⟩
  rw [hw3]
  clear hw3 w3
  have HB3 := hid (HB2.out.alloc HB2.out.size (.cells #[.int .i64 fr, .int .i64 (v : Nat), .int .i64 aa, .bool ep, .int .i64 er, .bool el, .int .i64 ef] 97))
  obtain ⟨c0, c1, c2, c3⟩ := P.four (P.hkeep HN2.out (.cells #[.int .i64 fr, .int .i64 (v : Nat), .int .i64 aa, .bool ep, .int .i64 er, .bool el, .int .i64 ef] 97))
  go_wp2_with fail
  refine (HFR.out _).mono ?_
  rintro r w3 ⟨rfl, hw3⟩
  rw [hw3]
  clear hw3 w3
  go_wp2_with fail
  refine (HRI.out _).mono ?_
  rintro r w3 ⟨rfl, hw3⟩
  rw [hw3]
  clear hw3 w3
  by_cases g4 : pg % sv = 0
  · have g5 : (xf % sv == 0) = false := by
      rcases g3 with g | g
      · exact absurd g4 g
      · simpa using g
    clear g3
    go_wp2
    go_ret
    exact ⟨rfl, HB3.out⟩
  · have g5 : (pg % sv == 0) = false := by simpa using g4
    clear g3 g4
    go_wp2
    go_ret
    exact ⟨rfl, HB3.out⟩
set_option maxHeartbeats 2000000 in
theorem pf4 (hT : IsT u w t 1 o root) (h : Wo u w s k) (pg : Int) (lo : Nat) (hlo : lo ≤ 3) (xp : Bool) (xr : Int) (xl : Bool) (xf : Int) (h0 : P.btw pg 0 65535 = true) (h1 : P.btw xf 0 4095 = true) (h2 : P.btw xr 1 7 = true) (h3 : (pg % P.sp lo != 0 || xf % P.sp lo != 0) = false) (h4 : (fdl s root pg lo).p = true) :
    Calls Tryz.prog 95 #[.pointer (some ⟨t, 0, none⟩), .int .i64 pg, .int .i64 lo, .agg #[.bool xp, .int .i64 xr, .bool xl, .int .i64 xf]] w fun r w' => r = .returned (.int .i64 5) ∧ Below w.heap.size w w' := by
  have hB := below_alloc w (.cells #[.bool xp, .int .i64 xr, .bool xl, .int .i64 xf] 95)
  have hN := heap_alloc_new w (.cells #[.bool xp, .int .i64 xr, .bool xl, .int .i64 xf] 95)
  have HF := hid (fault_at (hT.below hB) pg)
  have HB := hid hB
  have HN := hid hN
  rw [ftE_live, h0] at HF
  rw [if_pos rfl] at HF
  have HE := hid (tend_lo (hT.below hB) (h.below hB) pg lo hlo)
  have HSP := hid (fun W => P.span_at lo W)
  have HFR := hid (fun W => frame_at xf W)
  have HRI := hid (fun W => rights_at xr W)
  rw [h1] at HFR
  rw [h2] at HRI
  have hs1 : 1 ≤ P.sp lo ∧ P.sp lo ≤ 4096 := by
    obtain h | h | h | h : (lo : Int) = 0 ∨ (lo : Int) = 1 ∨ (lo : Int) = 2 ∨ (lo : Int) = 3 := by omega
    all_goals (rw [h]; decide)
  obtain ⟨p0, p1⟩ := P.btw_yes.1 h0
  obtain ⟨f0, f1⟩ := P.btw_yes.1 h1
  have hp4 : (fdl s root pg lo).p = true := h4
  obtain ⟨sp1, sp2⟩ := hs1
  generalize P.sp lo = sv at *
  have g3 : pg % sv = 0 ∧ xf % sv = 0 := by simpa using h3
  obtain ⟨g30, g31⟩ := g3
  generalize P.at' (endF s.xs pg lo 3 root).1 pg (endF s.xs pg lo 3 root).2 = aa at *
  generalize (endF s.xs pg lo 3 root).1 = fr at *
  generalize (endF s.xs pg lo 3 root).2 = v at *
  generalize fdl s root pg lo = e at *
  obtain ⟨ep, er, el, ef⟩ := e
  simp only at HE hp4
  subst hp4
  clear hT h h0 h1 h2 h3 h4 hB hN hlo
  go_enter Tryz.func95, Tryz.ntmps95
  go_wp2_with fail
  refine HF.out.mono ?_
  rintro r w1 ⟨rfl, rfl⟩
  go_wp2_with fail
  refine HE.out.mono ?_
  rintro r w2 ⟨rfl, hB2⟩
  have HB2 := hid (HB.out.trans (hB2.mono HB.out.size))
  have HN2 := hid (P.stay hB2 HN.out)
  clear hB2
  go_wp2_with fail
  refine (HSP.out _).mono ?_
  rintro r w3 ⟨rfl, hw3⟩
  rw [hw3]
  clear hw3 w3
  have HB3 := hid (HB2.out.alloc HB2.out.size (.cells #[.int .i64 fr, .int .i64 (v : Nat), .int .i64 aa, .bool true, .int .i64 er, .bool el, .int .i64 ef] 97))
  obtain ⟨c0, c1, c2, c3⟩ := P.four (P.hkeep HN2.out (.cells #[.int .i64 fr, .int .i64 (v : Nat), .int .i64 aa, .bool true, .int .i64 er, .bool el, .int .i64 ef] 97))
  go_wp2_with fail
  refine (HFR.out _).mono ?_
  rintro r w3 ⟨rfl, hw3⟩
  rw [hw3]
  clear hw3 w3
  go_wp2_with fail
  refine (HRI.out _).mono ?_
  rintro r w3 ⟨rfl, hw3⟩
  rw [hw3]
  clear hw3 w3
  go_wp2
  go_ret
  exact ⟨rfl, HB3.out⟩
set_option maxHeartbeats 2000000 in
theorem pf5 (hT : IsT u w t 1 o root) (h : Wo u w s k) (pg : Int) (lo : Nat) (hlo : lo ≤ 3) (xp : Bool) (xr : Int) (xl : Bool) (xf : Int) (h0 : P.btw pg 0 65535 = true) (h1 : P.btw xf 0 4095 = true) (h2 : P.btw xr 1 7 = true) (h3 : (pg % P.sp lo != 0 || xf % P.sp lo != 0) = false) (h4 : (fdl s root pg lo).p = false) (h5 : decide ((O.cK s.ds 0 : Int) < (endF s.xs pg lo 3 root).2 - lo) = true) :
    Calls Tryz.prog 95 #[.pointer (some ⟨t, 0, none⟩), .int .i64 pg, .int .i64 lo, .agg #[.bool xp, .int .i64 xr, .bool xl, .int .i64 xf]] w fun r w' => r = .returned (.int .i64 12) ∧ Below w.heap.size w w' := by
  have hB := below_alloc w (.cells #[.bool xp, .int .i64 xr, .bool xl, .int .i64 xf] 95)
  have hN := heap_alloc_new w (.cells #[.bool xp, .int .i64 xr, .bool xl, .int .i64 xf] 95)
  have HF := hid (fault_at (hT.below hB) pg)
  have HB := hid hB
  have HN := hid hN
  rw [ftE_live, h0] at HF
  rw [if_pos rfl] at HF
  have HE := hid (tend_lo (hT.below hB) (h.below hB) pg lo hlo)
  have HSP := hid (fun W => P.span_at lo W)
  have HFR := hid (fun W => frame_at xf W)
  have HRI := hid (fun W => rights_at xr W)
  rw [h1] at HFR
  rw [h2] at HRI
  have hs1 : 1 ≤ P.sp lo ∧ P.sp lo ≤ 4096 := by
    obtain h | h | h | h : (lo : Int) = 0 ∨ (lo : Int) = 1 ∨ (lo : Int) = 2 ∨ (lo : Int) = 3 := by omega
    all_goals (rw [h]; decide)
  obtain ⟨p0, p1⟩ := P.btw_yes.1 h0
  obtain ⟨f0, f1⟩ := P.btw_yes.1 h1
  have hve := endF_le s.xs pg lo 3 root
  have HTT := hid (hT.below hB)
  have HWW := hid (h.below hB)
  have hp4 : (fdl s root pg lo).p = false := h4
  obtain ⟨sp1, sp2⟩ := hs1
  generalize P.sp lo = sv at *
  have g3 : pg % sv = 0 ∧ xf % sv = 0 := by simpa using h3
  obtain ⟨g30, g31⟩ := g3
  generalize P.at' (endF s.xs pg lo 3 root).1 pg (endF s.xs pg lo 3 root).2 = aa at *
  have HCN := hid (fun (W : World) (b : Below (w.alloc (.cells #[.bool xp, .int .i64 xr, .bool xl, .int .i64 xf] 95)).heap.size (w.alloc (.cells #[.bool xp, .int .i64 xr, .bool xl, .int .i64 xf] 95)) W) => O.count_at (HWW.out.below b).pool 0)
  have HTC := hid (fun (W : World) (b : Below (w.alloc (.cells #[.bool xp, .int .i64 xr, .bool xl, .int .i64 xf] 95)).heap.size (w.alloc (.cells #[.bool xp, .int .i64 xr, .bool xl, .int .i64 xf] 95)) W) => (HTT.out.below b).cells.2.2.1)
  generalize hcn : O.cK s.ds 0 = cn at *
  generalize (endF s.xs pg lo 3 root).1 = fr at *
  generalize (endF s.xs pg lo 3 root).2 = v at *
  generalize fdl s root pg lo = e at *
  obtain ⟨ep, er, el, ef⟩ := e
  simp only at HE hp4
  subst hp4
  have g5 : (cn : Int) < (v : Int) - lo := of_decide_eq_true h5
  have hv3 : (0 : Int) ≤ (v : Int) ∧ (v : Int) ≤ 3 := by have : v ≤ 3 := hve; omega
  have hl3 : (0 : Int) ≤ (lo : Int) ∧ (lo : Int) ≤ 3 := by omega
  clear hve hlo
  generalize ((v : Nat) : Int) = vi at *
  generalize ((lo : Nat) : Int) = li at *
  generalize ((cn : Nat) : Int) = ci at *
  obtain ⟨v0, v3⟩ := hv3
  obtain ⟨l0, l3⟩ := hl3
  have hwr : IntKind.i64.wrap (vi - li) = vi - li := by rw [IntKind.wrap_i64]; omega
  clear hT h h0 h1 h2 h3 h4 h5 hB hN
  go_enter Tryz.func95, Tryz.ntmps95
  go_wp2_with fail
  refine HF.out.mono ?_
  rintro r w1 ⟨rfl, rfl⟩
  go_wp2_with fail
  refine HE.out.mono ?_
  rintro r w2 ⟨rfl, hB2⟩
  have HB2 := hid (HB.out.trans (hB2.mono HB.out.size))
  have HN2 := hid (P.stay hB2 HN.out)
  have HD2 := hid hB2
  clear hB2
  go_wp2_with fail
  refine (HSP.out _).mono ?_
  rintro r w3 ⟨rfl, hw3⟩
  rw [hw3]
  clear hw3 w3
  have HB3 := hid (HB2.out.alloc HB2.out.size (.cells #[.int .i64 fr, .int .i64 vi, .int .i64 aa, .bool false, .int .i64 er, .bool el, .int .i64 ef] 97))
  obtain ⟨c0, c1, c2, c3⟩ := P.four (P.hkeep HN2.out (.cells #[.int .i64 fr, .int .i64 vi, .int .i64 aa, .bool false, .int .i64 er, .bool el, .int .i64 ef] 97))
  go_wp2_with fail
  refine (HFR.out _).mono ?_
  rintro r w3 ⟨rfl, hw3⟩
  rw [hw3]
  clear hw3 w3
  go_wp2_with fail
  refine (HRI.out _).mono ?_
  rintro r w3 ⟨rfl, hw3⟩
  rw [hw3]
  clear hw3 w3
  have hd : Below (w.alloc (.cells #[.bool xp, .int .i64 xr, .bool xl, .int .i64 xf] 95)).heap.size (w.alloc (.cells #[.bool xp, .int .i64 xr, .bool xl, .int .i64 xf] 95)) (w2.alloc (.cells #[.int .i64 fr, .int .i64 vi, .int .i64 aa, .bool false, .int .i64 er, .bool el, .int .i64 ef] 97)).drew := (HD2.out.alloc HD2.out.size _).drew
  have tc := HTC.out _ hd
  have HCT := hid (HCN.out _ hd)
  have hn := heap_alloc_new w2 (.cells #[.int .i64 fr, .int .i64 vi, .int .i64 aa, .bool false, .int .i64 er, .bool el, .int .i64 ef] 97)
  have vc : (w2.alloc (.cells #[.int .i64 fr, .int .i64 vi, .int .i64 aa, .bool false, .int .i64 er, .bool el, .int .i64 ef] 97)).drew.cell? ⟨w2.heap.size, 1, none⟩ = some (.int .i64 vi) := P.cell_of hn rfl
  have HS := hid (fun (W : World) (b : Below (w2.alloc (.cells #[.int .i64 fr, .int .i64 vi, .int .i64 aa, .bool false, .int .i64 er, .bool el, .int .i64 ef] 97)).drew.heap.size (w2.alloc (.cells #[.int .i64 fr, .int .i64 vi, .int .i64 aa, .bool false, .int .i64 er, .bool el, .int .i64 ef] 97)).drew W) => (show W.cell? ⟨w2.heap.size, 1, none⟩ = some (.int .i64 vi) ∧ W.cell? ⟨t, 2, none⟩ = some (.pointer (some ⟨u.pp, 0, none⟩)) from ⟨(b.cell (p := ⟨w2.heap.size, 1, none⟩) (by simp)).trans vc, (b.cell (p := ⟨t, 2, none⟩) (World.block_lt_of_cell? _ ⟨t, 2, none⟩ tc)).trans tc⟩))
  clear hd hn
  go_wp2
  go_region_held3 (fun W => W.cell? ⟨w2.heap.size, 1, none⟩ = some (.int .i64 vi) ∧ W.cell? ⟨t, 2, none⟩ = some (.pointer (some ⟨u.pp, 0, none⟩))) (first | exact ⟨vc, tc⟩ | assumption)
    (first | (go_at_call 31; refine HCT.out.mono ?_; rintro r w5 ⟨rfl, hB5⟩; have hS5 := HS.out _ hB5; have HB5 := hid hB5; clear hB5))
  all_goals go_wp2
  all_goals go_ret
  all_goals first | exact ⟨rfl, HB3.out.drew.trans (HB5.out.mono HB3.out.drew.size)⟩ | (exfalso; omega)
set_option maxHeartbeats 2000000 in
theorem pf6 (hT : IsT u w t 1 o root) (h : Wo u w s k) (pg : Int) (lo : Nat) (hlo : lo ≤ 3) (xp : Bool) (xr : Int) (xl : Bool) (xf : Int) (h0 : P.btw pg 0 65535 = true) (h1 : P.btw xf 0 4095 = true) (h2 : P.btw xr 1 7 = true) (h3 : (pg % P.sp lo != 0 || xf % P.sp lo != 0) = false) (h4 : (fdl s root pg lo).p = false) (h5 : decide ((O.cK s.ds 0 : Int) < (endF s.xs pg lo 3 root).2 - lo) = false) :
    Calls Tryz.prog 95 #[.pointer (some ⟨t, 0, none⟩), .int .i64 pg, .int .i64 lo, .agg #[.bool xp, .int .i64 xr, .bool xl, .int .i64 xf]] w fun r w' => r = .returned (.int .i64 0) ∧ Below w.heap.size w w' := by
  have hB := below_alloc w (.cells #[.bool xp, .int .i64 xr, .bool xl, .int .i64 xf] 95)
  have hN := heap_alloc_new w (.cells #[.bool xp, .int .i64 xr, .bool xl, .int .i64 xf] 95)
  have HF := hid (fault_at (hT.below hB) pg)
  have HB := hid hB
  have HN := hid hN
  rw [ftE_live, h0] at HF
  rw [if_pos rfl] at HF
  have HE := hid (tend_lo (hT.below hB) (h.below hB) pg lo hlo)
  have HSP := hid (fun W => P.span_at lo W)
  have HFR := hid (fun W => frame_at xf W)
  have HRI := hid (fun W => rights_at xr W)
  rw [h1] at HFR
  rw [h2] at HRI
  have hs1 : 1 ≤ P.sp lo ∧ P.sp lo ≤ 4096 := by
    obtain h | h | h | h : (lo : Int) = 0 ∨ (lo : Int) = 1 ∨ (lo : Int) = 2 ∨ (lo : Int) = 3 := by omega
    all_goals (rw [h]; decide)
  obtain ⟨p0, p1⟩ := P.btw_yes.1 h0
  obtain ⟨f0, f1⟩ := P.btw_yes.1 h1
  have hve := endF_le s.xs pg lo 3 root
  have HTT := hid (hT.below hB)
  have HWW := hid (h.below hB)
  have hp4 : (fdl s root pg lo).p = false := h4
  obtain ⟨sp1, sp2⟩ := hs1
  generalize P.sp lo = sv at *
  have g3 : pg % sv = 0 ∧ xf % sv = 0 := by simpa using h3
  obtain ⟨g30, g31⟩ := g3
  generalize P.at' (endF s.xs pg lo 3 root).1 pg (endF s.xs pg lo 3 root).2 = aa at *
  have HCN := hid (fun (W : World) (b : Below (w.alloc (.cells #[.bool xp, .int .i64 xr, .bool xl, .int .i64 xf] 95)).heap.size (w.alloc (.cells #[.bool xp, .int .i64 xr, .bool xl, .int .i64 xf] 95)) W) => O.count_at (HWW.out.below b).pool 0)
  have HTC := hid (fun (W : World) (b : Below (w.alloc (.cells #[.bool xp, .int .i64 xr, .bool xl, .int .i64 xf] 95)).heap.size (w.alloc (.cells #[.bool xp, .int .i64 xr, .bool xl, .int .i64 xf] 95)) W) => (HTT.out.below b).cells.2.2.1)
  generalize hcn : O.cK s.ds 0 = cn at *
  generalize (endF s.xs pg lo 3 root).1 = fr at *
  generalize (endF s.xs pg lo 3 root).2 = v at *
  generalize fdl s root pg lo = e at *
  obtain ⟨ep, er, el, ef⟩ := e
  simp only at HE hp4
  subst hp4
  have g5 : ¬ (cn : Int) < (v : Int) - lo := of_decide_eq_false h5
  have hv3 : (0 : Int) ≤ (v : Int) ∧ (v : Int) ≤ 3 := by have : v ≤ 3 := hve; omega
  have hl3 : (0 : Int) ≤ (lo : Int) ∧ (lo : Int) ≤ 3 := by omega
  clear hve hlo
  generalize ((v : Nat) : Int) = vi at *
  generalize ((lo : Nat) : Int) = li at *
  generalize ((cn : Nat) : Int) = ci at *
  obtain ⟨v0, v3⟩ := hv3
  obtain ⟨l0, l3⟩ := hl3
  have hwr : IntKind.i64.wrap (vi - li) = vi - li := by rw [IntKind.wrap_i64]; omega
  clear hT h h0 h1 h2 h3 h4 h5 hB hN
  go_enter Tryz.func95, Tryz.ntmps95
  go_wp2_with fail
  refine HF.out.mono ?_
  rintro r w1 ⟨rfl, rfl⟩
  go_wp2_with fail
  refine HE.out.mono ?_
  rintro r w2 ⟨rfl, hB2⟩
  have HB2 := hid (HB.out.trans (hB2.mono HB.out.size))
  have HN2 := hid (P.stay hB2 HN.out)
  have HD2 := hid hB2
  clear hB2
  go_wp2_with fail
  refine (HSP.out _).mono ?_
  rintro r w3 ⟨rfl, hw3⟩
  rw [hw3]
  clear hw3 w3
  have HB3 := hid (HB2.out.alloc HB2.out.size (.cells #[.int .i64 fr, .int .i64 vi, .int .i64 aa, .bool false, .int .i64 er, .bool el, .int .i64 ef] 97))
  obtain ⟨c0, c1, c2, c3⟩ := P.four (P.hkeep HN2.out (.cells #[.int .i64 fr, .int .i64 vi, .int .i64 aa, .bool false, .int .i64 er, .bool el, .int .i64 ef] 97))
  go_wp2_with fail
  refine (HFR.out _).mono ?_
  rintro r w3 ⟨rfl, hw3⟩
  rw [hw3]
  clear hw3 w3
  go_wp2_with fail
  refine (HRI.out _).mono ?_
  rintro r w3 ⟨rfl, hw3⟩
  rw [hw3]
  clear hw3 w3
  have hd : Below (w.alloc (.cells #[.bool xp, .int .i64 xr, .bool xl, .int .i64 xf] 95)).heap.size (w.alloc (.cells #[.bool xp, .int .i64 xr, .bool xl, .int .i64 xf] 95)) (w2.alloc (.cells #[.int .i64 fr, .int .i64 vi, .int .i64 aa, .bool false, .int .i64 er, .bool el, .int .i64 ef] 97)).drew := (HD2.out.alloc HD2.out.size _).drew
  have tc := HTC.out _ hd
  have HCT := hid (HCN.out _ hd)
  have hn := heap_alloc_new w2 (.cells #[.int .i64 fr, .int .i64 vi, .int .i64 aa, .bool false, .int .i64 er, .bool el, .int .i64 ef] 97)
  have vc : (w2.alloc (.cells #[.int .i64 fr, .int .i64 vi, .int .i64 aa, .bool false, .int .i64 er, .bool el, .int .i64 ef] 97)).drew.cell? ⟨w2.heap.size, 1, none⟩ = some (.int .i64 vi) := P.cell_of hn rfl
  have HS := hid (fun (W : World) (b : Below (w2.alloc (.cells #[.int .i64 fr, .int .i64 vi, .int .i64 aa, .bool false, .int .i64 er, .bool el, .int .i64 ef] 97)).drew.heap.size (w2.alloc (.cells #[.int .i64 fr, .int .i64 vi, .int .i64 aa, .bool false, .int .i64 er, .bool el, .int .i64 ef] 97)).drew W) => (show W.cell? ⟨w2.heap.size, 1, none⟩ = some (.int .i64 vi) ∧ W.cell? ⟨t, 2, none⟩ = some (.pointer (some ⟨u.pp, 0, none⟩)) from ⟨(b.cell (p := ⟨w2.heap.size, 1, none⟩) (by simp)).trans vc, (b.cell (p := ⟨t, 2, none⟩) (World.block_lt_of_cell? _ ⟨t, 2, none⟩ tc)).trans tc⟩))
  clear hd hn
  go_wp2
  go_region_held3 (fun W => W.cell? ⟨w2.heap.size, 1, none⟩ = some (.int .i64 vi) ∧ W.cell? ⟨t, 2, none⟩ = some (.pointer (some ⟨u.pp, 0, none⟩))) (first | exact ⟨vc, tc⟩ | assumption)
    (first | (go_at_call 31; refine HCT.out.mono ?_; rintro r w5 ⟨rfl, hB5⟩; have hS5 := HS.out _ hB5; have HB5 := hid hB5; clear hB5))
  all_goals go_wp2
  all_goals go_ret
  all_goals first | exact ⟨rfl, HB3.out.drew.trans (HB5.out.mono HB3.out.drew.size)⟩ | (exfalso; omega)
theorem putFault_at (hT : IsT u w t 1 o root) (h : Wo u w s k) (pg : Int) (lo : Nat) (hlo : lo ≤ 3) (e : P.En) :
    Calls Tryz.prog 95 #[.pointer (some ⟨t, 0, none⟩), .int .i64 pg, .int .i64 lo, P.eV e] w fun r w' => r = .returned (.int .i64 (putE s root pg lo e)) ∧ Below w.heap.size w w' := by
  obtain ⟨xp, xr, xl, xf⟩ := e
  unfold putE
  show Calls Tryz.prog 95 #[.pointer (some ⟨t, 0, none⟩), .int .i64 pg, .int .i64 lo, .agg #[.bool xp, .int .i64 xr, .bool xl, .int .i64 xf]] w _
  cases h0 : P.btw pg 0 65535
  · exact pf0 hT pg lo xp xr xl xf h0
  · rw [if_neg (by decide)]
    cases h1 : P.btw xf 0 4095
    · rw [if_pos rfl]; exact pf1 hT h pg lo hlo xp xr xl xf h0 h1
    · rw [if_neg (by decide)]
      cases h2 : P.btw xr 1 7
      · rw [if_pos rfl]; exact pf2 hT h pg lo hlo xp xr xl xf h0 h1 h2
      · rw [if_neg (by decide)]
        cases h3 : (pg % P.sp lo != 0 || xf % P.sp lo != 0)
        · rw [if_neg (by decide)]
          show Calls Tryz.prog 95 _ w fun r w' => r = .returned (.int .i64 (if (fdl s root pg lo).p = true then 5 else if (O.cK s.ds 0 : Int) < (endF s.xs pg lo 3 root).2 - lo then 12 else 0)) ∧ Below w.heap.size w w'
          cases h4 : (fdl s root pg lo).p
          · rw [if_neg (by decide)]
            cases h5 : decide ((O.cK s.ds 0 : Int) < (endF s.xs pg lo 3 root).2 - lo)
            · rw [if_neg (of_decide_eq_false h5)]; exact pf6 hT h pg lo hlo xp xr xl xf h0 h1 h2 h3 h4 h5
            · rw [if_pos (of_decide_eq_true h5)]; exact pf5 hT h pg lo hlo xp xr xl xf h0 h1 h2 h3 h4 h5
          · rw [if_pos rfl]; exact pf4 hT h pg lo hlo xp xr xl xf h0 h1 h2 h3 h4
        · rw [if_pos rfl]; exact pf3 hT h pg lo hlo xp xr xl xf h0 h1 h2 h3
end
end Go.Proofs.YtpfmmlbakbhklaaGreatDoor
namespace Go.Proofs.YtpfmmlbakbhklaaGreatDoor
open Go.RowKit Go.Shelf
attribute [local go_sem] Oper.semAt_some

/-- What a round of put does. -/
def bodyS (o pg : Int) (lo : Nat) (e : P.En) (p : Int × Nat) (s : Sm) : Sm := if lo = p.2 then lay s (P.at' p.1 pg p.2) e else mkS s o pg p.1 p.2
def putC (o root pg : Int) (lo : Nat) (e : P.En) (l : Option (Int × Nat)) (s : Sm) : Sm :=
  match l with
  | none => putS o pg lo e 3 root s
  | some q => if goOn s.xs pg lo q = true then putS o pg lo e (q.2 - 1) (en s.xs pg q.1 q.2).f s else s
theorem putS_step (o pg : Int) (lo : Nat) (e : P.En) (v : Nat) (fr : Int) (s : Sm) (hlo : lo ≤ v) :
    putS o pg lo e v fr s = if goOn (bodyS o pg lo e (fr, v) s).xs pg lo (fr, v) = true then putS o pg lo e (v - 1) (en (bodyS o pg lo e (fr, v) s).xs pg fr v).f (bodyS o pg lo e (fr, v) s) else bodyS o pg lo e (fr, v) s := by
  cases v with
  | zero =>
    obtain rfl : lo = 0 := by omega
    rw [if_neg (by unfold goOn; simp)]
    rfl
  | succ v =>
    by_cases h : lo = v + 1
    · rw [if_neg (by unfold goOn; simp [h])]
      conv => lhs; unfold putS
      rw [if_pos h]
      unfold bodyS
      rw [if_pos h]
    · conv => lhs; unfold putS
      rw [if_neg h]
      have hb : bodyS o pg lo e (fr, v + 1) s = mkS s o pg fr (v + 1) := if_neg h
      rw [hb]
      rfl
theorem putC_next {o root pg : Int} {lo : Nat} {e : P.En} {s : Wy} {p : Int × Nat} (h : Nxt root pg lo s p) (hlo : lo ≤ 3) : putC o root pg lo e s.last s.sm = putC o root pg lo e (some p) (bodyS o pg lo e p s.sm) := by
  unfold Nxt at h
  cases hl : s.last with
  | none =>
    rw [hl] at h
    simp only at h
    subst h
    exact putS_step _ _ _ _ _ _ _ hlo
  | some q =>
    rw [hl] at h
    simp only at h
    obtain ⟨h1, rfl⟩ := h
    show (if _ then _ else _) = _
    rw [if_pos h1]
    have : lo < q.2 := by
      unfold goOn at h1
      simp only [Bool.and_eq_true, decide_eq_true_eq] at h1
      exact h1.1
    exact putS_step _ _ _ _ _ _ _ (by omega)
def cntO (k : Nat) : Option (Int × Nat) → Nat
  | none => k
  | some q => k + 20 * (4 - q.2)
theorem cntO_next {root pg : Int} {lo k : Nat} {s : Wy} {p : Int × Nat} (h : Nxt root pg lo s p) (h3 : ∀ q, s.last = some q → q.2 ≤ 3) : p.2 ≤ 3 ∧ cntO k s.last + 20 ≤ cntO k (some p) ∧ cntO k (some p) ≤ k + 80 := by
  unfold Nxt at h
  cases hl : s.last with
  | none =>
    rw [hl] at h
    simp only at h
    subst h
    exact ⟨Nat.le_refl _, Nat.le_refl _, by show k + 20 ≤ k + 80; omega⟩
  | some q =>
    have h3 := h3 q hl
    rw [hl] at h
    simp only at h
    obtain ⟨h1, rfl⟩ := h
    have h2 : lo < q.2 := by
      unfold goOn at h1
      simp only [Bool.and_eq_true, decide_eq_true_eq] at h1
      exact h1.1
    refine ⟨by show q.2 - 1 ≤ 3; omega, ?_, ?_⟩
    · show k + 20 * (4 - q.2) + 20 ≤ k + 20 * (4 - (q.2 - 1)); omega
    · show k + 20 * (4 - (q.2 - 1)) ≤ k + 80; omega

/-- What holds between two rounds. -/
structure PutI (u : Si) (w : World) (t b0 b1 : Nat) (o root pg : Int) (lo : Nat) (e : P.En) (k : Nat) (R : Sm) (s : Wy) (W : World) : Prop where
  x0 : W.heap[b0]? = some (.cells #[.pointer (some ⟨t, 0, none⟩)] 30 (0, 0))
  x1 : W.heap[b0 + 1]? = some (.cells #[.int .i64 lo] 3 (0, 0))
  x2 : W.heap[b0 + 2]? = some (.cells #[.bool e.p, .int .i64 e.r, .bool e.l, .int .i64 e.f] 95 (0, 0))
  y0 : W.heap[b1]? = some (.cells #[.pointer (some ⟨t, 0, none⟩)] 30 (0, 0))
  y1 : W.heap[b1 + 1]? = some (.cells #[.int .i64 pg] 3 (0, 0))
  y2 : W.heap[b1 + 2]? = some (.cells #[.int .i64 lo] 3 (0, 0))
  tb : IsT u W t 1 o root
  wo : Wo u W s.sm (cntO k s.last)
  le : ∀ q, s.last = some q → q.2 ≤ 3
  ch : Ch u w W
  co : putC o root pg lo e s.last s.sm = R
theorem PutI.keep {u : Si} {w : World} {t b0 b1 : Nat} {o root pg : Int} {lo : Nat} {e : P.En} {k : Nat} {R : Sm} {s : Wy} {A B : World} (h : PutI u w t b0 b1 o root pg lo e k R s A) {n : Nat} (b : Below n A B)
    (hn : (u.mp < n ∧ u.wb < n) ∧ (u.pp < n ∧ u.pb < n) ∧ t < n ∧ b0 + 2 < n ∧ b1 + 2 < n ∧ w.heap.size ≤ n) : PutI u w t b0 b1 o root pg lo e k R s B := by
  obtain ⟨n1, n2, n3, n4, n5, n6⟩ := hn
  exact ⟨(b.block _ (by omega)).trans h.x0, (b.block _ (by omega)).trans h.x1, (b.block _ n4).trans h.x2, (b.block _ (by omega)).trans h.y0, (b.block _ (by omega)).trans h.y1, (b.block _ n5).trans h.y2, (b.block _ n3).trans h.tb, h.wo.belowN b n1 n2, h.le, h.ch.below2 (b.mono n6), h.co⟩
theorem PutI.rd {u : Si} {w : World} {t b0 b1 : Nat} {o root pg : Int} {lo : Nat} {e : P.En} {k : Nat} {R : Sm} {s : Wy} {A : World} (h : PutI u w t b0 b1 o root pg lo e k R s A) : Rd u t b1 (b1 + 2) (b1 + 1) o root pg lo A s.sm :=
  ⟨P.cell_of h.y0 rfl, P.cell_of h.y2 rfl, P.cell_of h.y1 rfl, h.tb, _, h.wo⟩
theorem PutI.next {u : Si} {w : World} {t b0 b1 : Nat} {o root pg : Int} {lo : Nat} {e : P.En} {k : Nat} {R : Sm} {s : Wy} {A B : World} (h : PutI u w t b0 b1 o root pg lo e k R s A) (c : Ch u A B) {p : Int × Nat} {s' : Sm}
    (hW : Wo u B s' (cntO k (some p))) (hp : p.2 ≤ 3) (hco : putC o root pg lo e (some p) s' = R) : PutI u w t b0 b1 o root pg lo e k R ⟨some p, s'⟩ B :=
  ⟨h.wo.keep c h.x0 (by decide) (by decide) (by decide), h.wo.keep c h.x1 (by decide) (by decide) (by decide), h.wo.keep c h.x2 (by decide) (by decide) (by decide), h.wo.keep c h.y0 (by decide) (by decide) (by decide), h.wo.keep c h.y1 (by decide) (by decide) (by decide), h.wo.keep c h.y2 (by decide) (by decide) (by decide),
    h.tb.ch h.wo c, hW, fun q hq => by cases hq; exact hp, h.ch.trans c, hco⟩
section
variable {u : Si} {w : World} {t : Nat} {o root : Int} {s : Sm} {k : Nat}
theorem Wg.rk (h : Wo u w s k) {w' : World} (c : Ch u w w') : RkT 93 w w' := fun _ _ hq => h.keep c hq (by decide) (by decide) (by decide)
theorem Wg.ko (h : Wo u w s k) {w' : World} (c : Ch u w w') (n : Nat) : Ko n w w' := fun q ob _ hq ho => by
  obtain ⟨d, l, hm, -⟩ := h.mem
  obtain ⟨r, hr⟩ := h.pool.row
  refine (c.block q (Array.getElem?_eq_some_iff.1 hq).1 (fun e => ?_) (fun e => ?_) (fun e => ?_)).trans hq
  · rw [e, hm.head] at hq; injection hq with hq; subst hq; cases ho
  · rw [e, show w.heap[u.wb]? = _ from hm.row] at hq; injection hq with hq; subst hq; cases ho
  · rw [e, hr] at hq; injection hq with hq; subst hq; cases ho

set_option maxRecDepth 100000 in
set_option maxHeartbeats 4000000 in
theorem put_in (hT : IsT u w t 1 o root) (h : Wo u w s k) (hk : k + 200 ≤ bnd) (pg : Int) (lo : Nat) (hlo : lo ≤ 3) (ep : Bool) (er : Int) (el : Bool) (ef : Int) :
    CallsIn Fence.wide 3 Tryz.prog 55 #[.pointer (some ⟨t, 0, none⟩), .int .i64 pg, .int .i64 lo, .agg #[.bool ep, .int .i64 er, .bool el, .int .i64 ef]] w fun r w' => r = .returned (.int .i64 (putE s root pg lo ⟨ep, er, el, ef⟩)) ∧ Wo u w' (putT s o root pg lo ⟨ep, er, el, ef⟩) (k + 100) ∧ Ch u w w' := by
  have HW := hid h
  have HT := hid hT
  have HK := hid hk
  have HLO := hid hlo
  obtain ⟨n0, n1, n2⟩ := new3 w (.cells #[.pointer (some ⟨t, 0, none⟩)] 30) (.cells #[.int .i64 lo] 3) (.cells #[.bool ep, .int .i64 er, .bool el, .int .i64 ef] 95)
  have B3 : Below w.heap.size w (((w.alloc (.cells #[.pointer (some ⟨t, 0, none⟩)] 30)).alloc (.cells #[.int .i64 lo] 3)).alloc (.cells #[.bool ep, .int .i64 er, .bool el, .int .i64 ef] 95)) := ((below_alloc _ _).alloc (by simp) _).alloc (by simp; omega) _
  have HF := hid (putFault_at (hT.below B3) (h.below B3) pg lo hlo ⟨ep, er, el, ef⟩)
  have HB3 := hid B3
  have HN0 := hid n0
  have HN1 := hid n1
  have HN2 := hid n2
  have HY := hid (fun (g : putE s root pg lo ⟨ep, er, el, ef⟩ = 0) => (show putT s o root pg lo ⟨ep, er, el, ef⟩ = putS o pg lo ⟨ep, er, el, ef⟩ 3 root s from if_pos g))
  have HN := hid (fun (g : putE s root pg lo ⟨ep, er, el, ef⟩ ≠ 0) => (show putT s o root pg lo ⟨ep, er, el, ef⟩ = s from if_neg g))
  generalize putT s o root pg lo ⟨ep, er, el, ef⟩ = sp at *
  generalize putE s root pg lo ⟨ep, er, el, ef⟩ = ee at *
  unfold P.eV at HF
  simp only at HF
  clear hT h hk hlo B3 n0 n1 n2
  refine callsIn_of_wp_marks Tryz.func55 rfl trivial ?_ rfl
  simp only [Tryz.ntmps55, List.size_toArray, List.length_cons, List.length_nil, Nat.reduceAdd, Nat.reduceSub, Array.replicate_succ, Array.replicate_zero, List.push_toArray, List.append_toArray, List.nil_append, List.cons_append]
  gi_wp2_with fail
  refine ⟨trivial, (callsIn_wide.2 HF.out).mono ?_⟩
  rintro r w1 ⟨rfl, hB1⟩
  have HB1 := hid hB1
  have HX0 := hid (P.stay hB1 HN0.out)
  have HX1 := hid (P.stay hB1 HN1.out)
  have HX2 := hid (P.stay hB1 HN2.out)
  clear hB1
  by_cases hee : ee = 0
  · subst hee
    have HY' := hid (HY.out rfl)
    have c0 := P.cell_of (i := 0) HX0.out rfl
    have c1 := P.cell_of (i := 0) HX1.out rfl
    clear HY HN
    gi_wp2_with fail
    refine ⟨trivial, (way_in _ _ _ _ _).mono ?_⟩
    rintro r w' ⟨rfl, rfl⟩
    clear c0 c1
    gi_wp2
    have HZ3 : Hid ((((w1.alloc (.cells #[.pointer (some ⟨t, 0, none⟩)] 30)).alloc (.cells #[.int .i64 pg] 3)).alloc (.cells #[.int .i64 lo] 3)).heap.size = w1.heap.size + 3) := by simp [Hid]
    obtain ⟨m0, m1, m2⟩ := new3 w1 (.cells #[.pointer (some ⟨t, 0, none⟩)] 30) (.cells #[.int .i64 pg] 3) (.cells #[.int .i64 lo] 3)
    have C3 : Below w1.heap.size w1 (((w1.alloc (.cells #[.pointer (some ⟨t, 0, none⟩)] 30)).alloc (.cells #[.int .i64 pg] 3)).alloc (.cells #[.int .i64 lo] 3)) := ((below_alloc _ _).alloc (by simp) _).alloc (by simp; omega) _
    generalize hw0 : (((w1.alloc (.cells #[.pointer (some ⟨t, 0, none⟩)] 30)).alloc (.cells #[.int .i64 pg] 3)).alloc (.cells #[.int .i64 lo] 3)) = W0 at *
    clear hw0
    have hz3 := HZ3.out
    have hB01 : Below w.heap.size w w1 := HB3.out.trans (HB1.out.mono HB3.out.size)
    have hB0 : Below w.heap.size w W0 := hB01.trans (C3.mono hB01.size)
    have hl0 := lt_of_block HX2.out
    have hlt := HW.out.lt
    have hltt := HT.out.lt
    have hsz := hB0.size
    have hbd : (u.mp < W0.heap.size ∧ u.wb < W0.heap.size) ∧ (u.pp < W0.heap.size ∧ u.pb < W0.heap.size) ∧ t < W0.heap.size ∧ w.heap.size + 2 < W0.heap.size ∧ w1.heap.size + 2 < W0.heap.size ∧ w.heap.size ≤ W0.heap.size := by
      have : w1.heap.size ≤ W0.heap.size := C3.size
      have hl0' : w.heap.size + 1 + 1 < w1.heap.size := hl0
      omega
    have HBD := hid hbd
    have HI0 : Hid (PutI u w t w.heap.size w1.heap.size o root pg lo ⟨ep, er, el, ef⟩ k (putS o pg lo ⟨ep, er, el, ef⟩ 3 root s) ⟨none, s⟩ W0) :=
      ⟨P.stay C3 HX0.out, P.stay C3 HX1.out, P.stay C3 HX2.out, m0, m1, m2, HT.out.below hB0, HW.out.below hB0, fun q hq => (by cases hq), .of_below hB0, rfl⟩
    rw [← HY'.out] at HI0
    refine range_told (F := Fence.wide) (n := 3) rfl (by decide) (gf := 135) (lb := #[.pointer (some ⟨w1.heap.size, 0, none⟩), .pointer (some ⟨w1.heap.size + 2, 0, none⟩), .pointer (some ⟨w1.heap.size + 1, 0, none⟩)]) rfl trivial (enters_of Tryz.func135 (by kernel_rfl) rfl)
      (fun x : Xs => #[.agg (stX pg x)]) (fun _ => rfl) (AbT W0.heap.size 93) (RkT 93) (fun _ _ => .of_below) (fun _ _ _ _ h => h.other _ _) RkT.trans RkT.tw
      (PutI u w t w.heap.size w1.heap.size o root pg lo ⟨ep, er, el, ef⟩ k sp)
      (OkW root pg lo) (fun z x => ⟨some x.1, bodyS o pg lo ⟨ep, er, el, ef⟩ x.1 z.sm⟩) (FinW pg lo) ⟨none, s⟩ ?hI ?hIp HI0.out ?hit ?hround ?hdone
    case hI => exact fun z A B hz hb => hz.keep (n := W0.heap.size) (hb.below (Nat.le_refl _) (by have := hz.ch.size; have := hz.wo.lt; have := lt_of_block hz.y2; omega)) HBD.out
    case hIp => exact fun z A B l ob hz hb hl ho hw => hz.keep (hb.below hw) HBD.out
    case hit =>
      intro l J W hBW hJ hJI hY h0
      exact way1_in 2 (by decide) u t w1.heap.size (w1.heap.size + 2) (w1.heap.size + 1) o root pg lo HLO.out _ (bodyS o pg lo ⟨ep, er, el, ef⟩) ⟨none, s⟩ rfl (fun z A hz => hz.rd) l J W W0.heap.size hBW.size hJ hJI hY h0
    case hround =>
      rintro l z x W hz hok ⟨ob, hob, hoc⟩
      have hn := cntO_next (k := k) hok.1 hz.le
      have hco := (putC_next (e := ⟨ep, er, el, ef⟩) (o := o) hok.1 HLO.out).symm.trans hz.co
      have he := hok.2
      obtain ⟨p, e0⟩ := x
      obtain ⟨fr, v⟩ := p
      simp only at he hn hco
      have HE := hid he
      have HN3 := hid hn
      have HCO := hid hco
      have HZ := hid hz
      have HO : Hid (W0.heap.size + 1 < W.heap.size) := (Array.getElem?_eq_some_iff.1 hob).1
      obtain ⟨xp, xr, xl, xf⟩ := e0
      have HG := hid (heap_alloc_new W (.cells (stX pg ((fr, v), ⟨xp, xr, xl, xf⟩)) 97))
      have HBS := hid (fun (g : lo = v) => (show bodyS o pg lo ⟨ep, er, el, ef⟩ (fr, v) z.sm = lay z.sm (P.at' fr pg v) ⟨ep, er, el, ef⟩ from if_pos g))
      have HBM := hid (fun (g : ¬ lo = v) (g2 : xp = true) => (show bodyS o pg lo ⟨ep, er, el, ef⟩ (fr, v) z.sm = z.sm from (if_neg g).trans (if_pos (by rw [← he]; exact g2))))
      have HBH := hid (fun (g : ¬ lo = v) (g2 : ¬ xp = true) => (show bodyS o pg lo ⟨ep, er, el, ef⟩ (fr, v) z.sm = hangS z.sm o (P.at' fr pg v) none16 from (if_neg g).trans (if_neg (by rw [← he]; exact g2))))
      clear hn hco he hz hok hob hoc
      unfold stX at HG ⊢
      simp only at HG ⊢
      generalize bodyS o pg lo ⟨ep, er, el, ef⟩ (fr, v) z.sm = s' at *
      generalize P.at' fr pg v = a at *
      gi_wp2
      refine ⟨Ko.of_below (below_alloc W _), RkT.of_below (below_alloc W _), fun W2 hT2 => ?_⟩
      have hb2 : Below W0.heap.size W W2 := ((below_alloc W _).mono (by have := HO.out; omega)).trans (hT2.below (by omega))
      have hz2 := HZ.out.keep hb2 HBD.out
      have HZ2 := hid hz2
      have hg2 := (hT2.block W.heap.size (by have := HO.out; omega)).trans HG.out
      have HG2 := hid hg2
      have HLT := hid (And.intro hT2.size HO.out)
      obtain ⟨g0, g1, g2, g3, g4, g5, g6⟩ := seven hg2
      have k1 := P.cell_of (i := 0) hz2.x1 rfl
      have k0 := P.cell_of (i := 0) hz2.x0 rfl
      obtain ⟨e0, e1, e2, e3⟩ := P.four hz2.x2
      clear hT2 hb2 hz2 hg2
      by_cases hlv : lo = v
      · subst hlv
        have HS' := hid (HBS.out rfl)
        have HLA := hid (lay_at' HZ2.out.tb HZ2.out.wo (by have := HN3.out.2; have := HK.out; omega) a ⟨ep, er, el, ef⟩)
        unfold P.eV at HLA
        simp only at HLA
        rw [← HS'.out] at HLA
        clear HBS HBM HBH
        gi_wp2_with fail
        refine ⟨trivial, (CallsIn.inRound l (callsIn_wide.2 HLA.out)).mono ?_⟩
        rintro r w5 ⟨rfl, hW5, hC5⟩
        have HR5 : Hid (PutI u w t w.heap.size w1.heap.size o root pg lo ⟨ep, er, el, ef⟩ k sp ⟨some (fr, lo), s'⟩ w5) := HZ2.out.next hC5 (hW5.mono (by have := HN3.out.2.1; omega)) HN3.out.1 HCO.out
        have HX5 := hid (And.intro (HZ2.out.wo.ko hC5 W0.heap.size) (HZ2.out.wo.rk hC5))
        clear hW5 hC5
        gi_wp2
        exact ⟨HR5.out, HX5.out⟩
      · have hlv' : ((v : Int) == (lo : Int)) = false := by rw [beq_eq_false_iff_ne]; omega
        cases xp
        · have HS' := hid (HBH.out hlv (by decide))
          have HHA := hid (hang_none HZ2.out.tb HZ2.out.wo (by have := HN3.out.2; have := HK.out; omega) a)
          rw [← HS'.out] at HHA
          clear HBS HBM HBH hlv
          gi_wp2_with fail
          refine ⟨trivial, (CallsIn.inRound l (callsIn_wide.2 HHA.out)).mono ?_⟩
          rintro r w5 ⟨rfl, hW5, hC5⟩
          have HR5 : Hid (PutI u w t w.heap.size w1.heap.size o root pg lo ⟨ep, er, el, ef⟩ k sp ⟨some (fr, v), s'⟩ w5) := HZ2.out.next hC5 (hW5.mono (by have := HN3.out.2.1; omega)) HN3.out.1 HCO.out
          have HX5 := hid (And.intro (HZ2.out.wo.ko hC5 W0.heap.size) (HZ2.out.wo.rk hC5))
          clear hW5 hC5
          gi_wp2
          exact ⟨HR5.out, HX5.out⟩
        · have HS' := hid (HBM.out hlv rfl)
          have HR5 : Hid (PutI u w t w.heap.size w1.heap.size o root pg lo ⟨ep, er, el, ef⟩ k sp ⟨some (fr, v), s'⟩ W2) := HZ2.out.next (Ch.refl _ _) (by rw [HS'.out]; exact HZ2.out.wo.mono (by have := HN3.out.2.1; omega)) HN3.out.1 HCO.out
          clear HBS HBM HBH hlv
          gi_wp2
          exact ⟨HR5.out, Ko.refl _ _, RkT.refl _ _⟩
    case hdone =>
      rintro z W hfin hz hK
      obtain ⟨p, hp, hg⟩ := hfin
      have hsm : z.sm = sp := by
        have := hz.co
        rw [hp] at this
        rw [← this]
        show _ = (if _ then _ else _)
        rw [hg, if_neg (by decide)]
      have hcn : cntO k z.last ≤ k + 100 := by rw [hp]; show k + 20 * (4 - p.2) ≤ k + 100; omega
      have HW' : Hid (Wo u W sp (k + 100)) := by
        have := hz.wo.mono hcn
        rw [hsm] at this
        exact this
      have HCH := hid hz.ch
      have HKK := hid hK
      have HLL := hid (show w.heap.size ≤ W0.heap.size ∧ u.mp < W0.heap.size ∧ u.wb < W0.heap.size ∧ u.pp < W0.heap.size ∧ u.pb < W0.heap.size by have := HBD.out; omega)
      clear hK hsm hcn hz hp hg
      gi_wp2
      refine ⟨by simp, .inl ⟨_, _, rfl, run_takeDeferred HKK.out, ?_⟩⟩
      exact ⟨_, results_tmp rfl _ _ _, rfl, HW'.out.belowN ((Tw.put _ _ _).below (Nat.le_refl _)) ⟨HLL.out.2.1, HLL.out.2.2.1⟩ ⟨HLL.out.2.2.2.1, HLL.out.2.2.2.2⟩, HCH.out.below2 ((Tw.put _ _ _).below HLL.out.1)⟩
  · have hee' : (ee != 0) = true := by simpa using hee
    have HN' := hid (HN.out hee)
    clear HY HN hee
    gi_wp2
    exact ⟨_, results_tmp rfl _ _ _, rfl, by rw [HN'.out]; exact (HW.out.below (HB3.out.trans (HB1.out.mono HB3.out.size))).mono (by omega), .of_below (HB3.out.trans (HB1.out.mono HB3.out.size))⟩
set_option maxHeartbeats 400000 in
theorem map_at (hT : IsT u w t 1 o root) (h : Wo u w s k) (hk : k + 200 ≤ bnd) (pg f r : Int) :
    Calls Tryz.prog 21 #[.pointer (some ⟨t, 0, none⟩), .int .i64 pg, .int .i64 f, .int .i64 r] w fun x w' => x = .returned (.int .i64 (putE s root pg 0 ⟨true, r, false, f⟩)) ∧ Wo u w' (putT s o root pg 0 ⟨true, r, false, f⟩) (k + 100) ∧ Ch u w w' := by
  have HP := hid (callsIn_wide.1 (put_in hT h hk pg 0 (by decide) true r false f))
  generalize putE s root pg 0 ⟨true, r, false, f⟩ = e at *
  generalize putT s o root pg 0 ⟨true, r, false, f⟩ = s' at *
  clear hT h hk
  go_enter Tryz.func21, Tryz.ntmps21
  go_wp2_with fail
  refine HP.out.mono ?_
  rintro x w1 ⟨rfl, hW, hC⟩
  have HX := hid (And.intro hW hC)
  clear hW hC
  go_wp2
  go_ret
  exact ⟨rfl, HX.out⟩
set_option maxHeartbeats 400000 in
theorem large_at (hT : IsT u w t 1 o root) (h : Wo u w s k) (hk : k + 200 ≤ bnd) (pg f r : Int) :
    Calls Tryz.prog 22 #[.pointer (some ⟨t, 0, none⟩), .int .i64 pg, .int .i64 f, .int .i64 r] w fun x w' => x = .returned (.int .i64 (putE s root pg 1 ⟨true, r, true, f⟩)) ∧ Wo u w' (putT s o root pg 1 ⟨true, r, true, f⟩) (k + 100) ∧ Ch u w w' := by
  have HP := hid (callsIn_wide.1 (put_in hT h hk pg 1 (by decide) true r true f))
  generalize putE s root pg 1 ⟨true, r, true, f⟩ = e at *
  generalize putT s o root pg 1 ⟨true, r, true, f⟩ = s' at *
  clear hT h hk
  go_enter Tryz.func22, Tryz.ntmps22
  go_wp2_with fail
  refine HP.out.mono ?_
  rintro x w1 ⟨rfl, hW, hC⟩
  have HX := hid (And.intro hW hC)
  clear hW hC
  go_wp2
  go_ret
  exact ⟨rfl, HX.out⟩
end
end Go.Proofs.YtpfmmlbakbhklaaGreatDoor
namespace Go.Proofs.YtpfmmlbakbhklaaGreatDoor
open Go.RowKit Go.Shelf
attribute [local go_sem] Oper.semAt_some

/-- What is to come of a way. -/
def wayC (xs : List Int) (root pg : Int) (lo : Nat) (l : Option (Int × Nat)) : List (Int × Nat) :=
  match l with
  | none => wayF xs pg lo 3 root
  | some q => if goOn xs pg lo q = true then wayF xs pg lo (q.2 - 1) (en xs pg q.1 q.2).f else []
theorem wayF_step (xs : List Int) (pg : Int) (lo : Nat) (v : Nat) (fr : Int) : wayF xs pg lo v fr = (fr, v) :: (if goOn xs pg lo (fr, v) = true then wayF xs pg lo (v - 1) (en xs pg fr v).f else []) := by
  cases v with
  | zero => unfold goOn wayF; simp
  | succ v => conv => lhs; unfold wayF
              rfl
theorem wayC_next {xs : List Int} {root pg : Int} {lo : Nat} {s : Wy} (hs : s.sm.xs = xs) {p : Int × Nat} (h : Nxt root pg lo s p) : wayC xs root pg lo s.last = p :: wayC xs root pg lo (some p) := by
  subst hs
  unfold Nxt at h
  cases hl : s.last with
  | none =>
    rw [hl] at h
    simp only at h
    subst h
    exact wayF_step _ _ _ _ _
  | some q =>
    rw [hl] at h
    simp only at h
    obtain ⟨h1, rfl⟩ := h
    show (if _ then _ else _) = _
    rw [if_pos h1]
    exact wayF_step _ _ _ _ _
theorem wayF_le (xs : List Int) (pg : Int) (lo : Nat) : ∀ (v : Nat) (fr : Int), (wayF xs pg lo v fr).length ≤ v + 1
  | 0, fr => Nat.le_refl _
  | v + 1, fr => by
    unfold wayF
    split
    · have := wayF_le xs pg lo v (en xs pg fr (v + 1)).f
      simp only [List.length_cons]; omega
    · simp
/-- The stops' cells, one behind the other. -/
def stL (xs : List Int) (pg : Int) (l : List (Int × Nat)) : List Value := l.flatMap fun p => (atC xs pg p).toList
theorem stL_app (xs : List Int) (pg : Int) (l : List (Int × Nat)) (p : Int × Nat) : stL xs pg (l ++ [p]) = stL xs pg l ++ (atC xs pg p).toList := by simp [stL]
theorem stL_at (xs : List Int) (pg : Int) : ∀ (l : List (Int × Nat)) (i : Nat), i < l.length → (stL xs pg l)[i * 7]? = some (.int .i64 (l.getD i (0, 0)).1) ∧ (stL xs pg l)[i * 7 + 1]? = some (.int .i64 ((l.getD i (0, 0)).2 : Nat)) ∧ (stL xs pg l)[i * 7 + 2]? = some (.int .i64 (P.at' (l.getD i (0, 0)).1 pg (l.getD i (0, 0)).2))
  | [], i, h => by simp at h
  | p :: l, 0, _ => ⟨rfl, rfl, rfl⟩
  | p :: l, i + 1, h => by
    have ih := stL_at xs pg l i (by simpa using h)
    have e : stL xs pg (p :: l) = (atC xs pg p).toList ++ stL xs pg l := rfl
    have h7 : (atC xs pg p).toList.length = 7 := rfl
    rw [e, show (i + 1) * 7 = 7 + i * 7 by omega]
    refine ⟨?_, ?_, ?_⟩
    · rw [List.getElem?_append_right (by omega), h7, show 7 + i * 7 - 7 = i * 7 by omega]; exact ih.1
    · rw [List.getElem?_append_right (by omega), h7, show 7 + i * 7 + 1 - 7 = i * 7 + 1 by omega]; exact ih.2.1
    · rw [List.getElem?_append_right (by omega), h7, show 7 + i * 7 + 2 - 7 = i * 7 + 2 by omega]; exact ih.2.2
theorem info97 : (Tryz.prog.info? 97).map (fun i => (i.zero, i.size, i.bytes)) = some (some (.agg zeC), 7, 56) := by kernel_rfl
theorem own_ab {A B : World} {base n e : Nat} {size : Nat} {v : Value} {k : Nat} {xs : List Value} (h : A.ownsRow base e size v k xs) (hb : ∀ (g : Nat) (c : Array Value), A.heap[g]? = some (.cells c e (0, 0)) → B.heap[g]? = some (.cells c e (0, 0))) (_ : n = n) : B.ownsRow base e size v k xs :=
  ⟨h.1, h.2.imp id fun ⟨g, cap, cur, a, b, c, d⟩ => ⟨g, cap, cur, a, b, hb g cur c, d⟩⟩
theorem cells7_new (w : World) (a b c d e f h : Value) (t : TypeId) : ∀ j u, [a, b, c, d, e, f, h][j]? = some u → (w.alloc (.cells #[a, b, c, d, e, f, h] t)).cell? ((⟨w.heap.size, 0, none⟩ : Addr).add j) = some u := fun j u hj => by
  rw [Addr.add_lit, Nat.zero_add]
  exact P.cell_of (heap_alloc_new w _) (by simpa using hj)

/-- Behind an append onto a row of one's own in a box. -/
theorem app_all {W w1 : World} {n B : Nat} {tb e : TypeId} {size : Nat} {v v' : Value} {k m : Nat} {xs ys : List Value} {tmp : Obj}
    (hv : Boxed W B tb v) (hte : tb ≠ e) (hrow : W.ownsRow n e size v k xs)
    (hown' : w1.ownsRow n e size v' m ys) (hgrow : (W.alloc tmp).grownBy w1 v.ownBlock) :
    Boxed w1 B tb v ∧ Boxed (w1.setCell ⟨B, 0, none⟩ v') B tb v' ∧ (w1.setCell ⟨B, 0, none⟩ v').ownsRow n e size v' m ys ∧
      (W.os = w1.os ∧ W.tape = w1.tape ∧ W.output = w1.output ∧ W.heap.size ≤ w1.heap.size) ∧
      (∀ (q : Nat) (ob : Obj), W.heap[q]? = some ob → (∀ c, ob ≠ .cells c tb (0, 0)) → (∀ c, ob ≠ .cells c e (0, 0)) → (w1.setCell ⟨B, 0, none⟩ v').heap[q]? = some ob) ∧
      (∀ q, q < W.heap.size → q ≠ B → q < n → (w1.setCell ⟨B, 0, none⟩ v').heap[q]? = W.heap[q]?) := by
  have hv1 : Boxed w1 B tb v := (hv.alloc tmp).kept hgrow (hv.not_row hte hrow)
  have hsz := hgrow.size
  simp at hsz
  have hrb : ∀ q, some q = v.ownBlock → n ≤ q ∧ ∃ c, W.heap[q]? = some (.cells c e (0, 0)) := fun q hq => by
    rcases hrow.2 with ⟨rfl, _⟩ | ⟨g, cap, cur, rfl, hb, hg, _⟩
    · simp [Value.ownBlock] at hq
    · obtain rfl : q = g := by simpa [Value.ownBlock] using hq
      exact ⟨hb, cur, hg⟩
  refine ⟨hv1, hv1.set v', hown'.kept (grownBy_setCell' w1 B v') (.inr (hv1.not_row hte hown').symm), ⟨hgrow.os.symm, hgrow.tape.symm, hgrow.output.symm, by omega⟩, fun q ob hq h1 h2 => ?_, fun q hq hB hn => ?_⟩
  · have hqB : q ≠ B := fun e' => by subst e'; rw [show W.heap[q]? = _ from hv] at hq; injection hq with hq; exact h1 _ hq.symm
    refine (Below.heap_setCell w1 ⟨B, 0, none⟩ v' q hqB).trans ((hgrow.block q ?_ fun e' => ?_).trans (P.hkeep hq tmp))
    · have := (Array.getElem?_eq_some_iff.1 hq).1; simp; omega
    · obtain ⟨-, c, hc⟩ := hrb q e'
      rw [hq] at hc; injection hc with hc; exact h2 c hc
  · refine (Below.heap_setCell w1 ⟨B, 0, none⟩ v' q hB).trans ((hgrow.block q (by simp; omega) fun e' => ?_).trans (Below.heap_alloc W tmp q hq))
    have := (hrb q e').1
    omega

/-- What holds between two rounds. -/
structure ColI (u : Si) (w : World) (t B b1 : Nat) (o root pg : Int) (lo : Nat) (s : Sm) (k n₀ : Nat) (z : Wy) (W : World) : Prop where
  y0 : W.heap[b1]? = some (.cells #[.pointer (some ⟨t, 0, none⟩)] 30 (0, 0))
  y1 : W.heap[b1 + 1]? = some (.cells #[.int .i64 pg] 3 (0, 0))
  y2 : W.heap[b1 + 2]? = some (.cells #[.int .i64 lo] 3 (0, 0))
  tb : IsT u W t 1 o root
  wo : Wo u W s k
  bw : Below w.heap.size w W
  sm : z.sm = s
  row : ∃ l v, Boxed W B 165 v ∧ W.ownsRow n₀ 97 7 v l.length (stL s.xs pg l) ∧ l ++ wayC s.xs root pg lo z.last = wayF s.xs pg lo 3 root
theorem ColI.keep {u : Si} {w : World} {t B b1 : Nat} {o root pg : Int} {lo : Nat} {s : Sm} {k n₀ : Nat} {z : Wy} {X Y : World} (h : ColI u w t B b1 o root pg lo s k n₀ z X) {n : Nat} (b : Below n X Y) (hr : ∀ (g : Nat) (c : Array Value), X.heap[g]? = some (.cells c 97 (0, 0)) → Y.heap[g]? = some (.cells c 97 (0, 0)))
    (hn : (u.mp < n ∧ u.wb < n) ∧ (u.pp < n ∧ u.pb < n) ∧ t < n ∧ B < n ∧ b1 + 2 < n ∧ w.heap.size ≤ n) : ColI u w t B b1 o root pg lo s k n₀ z Y := by
  obtain ⟨n1, n2, n3, n4, n5, n6⟩ := hn
  obtain ⟨l, v, a, c, d⟩ := h.row
  exact ⟨(b.block _ (by omega)).trans h.y0, (b.block _ (by omega)).trans h.y1, (b.block _ n5).trans h.y2, (b.block _ n3).trans h.tb, h.wo.belowN b n1 n2, h.bw.trans (b.mono n6), h.sm, l, v, (b.block _ n4).trans a, own_ab (n := 0) c hr rfl, d⟩
theorem ColI.rd {u : Si} {w : World} {t B b1 : Nat} {o root pg : Int} {lo : Nat} {s : Sm} {k n₀ : Nat} {z : Wy} {X : World} (h : ColI u w t B b1 o root pg lo s k n₀ z X) : Rd u t b1 (b1 + 2) (b1 + 1) o root pg lo X z.sm :=
  ⟨P.cell_of h.y0 rfl, P.cell_of h.y2 rfl, P.cell_of h.y1 rfl, h.tb, k, by rw [h.sm]; exact h.wo⟩

section
variable {u : Si} {w : World} {t : Nat} {o root : Int} {s : Sm} {k : Nat}
set_option maxRecDepth 100000 in
set_option maxHeartbeats 4000000 in
theorem collect_in (hT : IsT u w t 1 o root) (h : Wo u w s k) (pg : Int) (lo b1 : Nat) (hlo : lo ≤ 3) (hy0 : w.heap[b1]? = some (.cells #[.pointer (some ⟨t, 0, none⟩)] 30 (0, 0))) (hy1 : w.heap[b1 + 1]? = some (.cells #[.int .i64 pg] 3 (0, 0))) (hy2 : w.heap[b1 + 2]? = some (.cells #[.int .i64 lo] 3 (0, 0))) :
    CallsIn Fence.wide 3 Tryz.prog 142 #[.slice none 0 0, .func (.func 135) #[] #[.pointer (some ⟨b1, 0, none⟩), .pointer (some ⟨b1 + 2, 0, none⟩), .pointer (some ⟨b1 + 1, 0, none⟩)]] w fun r w' => (∃ v, r = .returned v ∧ w'.ownsRow w.heap.size 97 7 v (wayF s.xs pg lo 3 root).length (stL s.xs pg (wayF s.xs pg lo 3 root))) ∧ Below w.heap.size w w' := by
  have HW := hid h
  have HT := hid hT
  have HLO := hid hlo
  have hB := below_alloc w (.cells #[.slice none 0 0] 165)
  have HB := hid hB
  have hlt := h.lt
  have hbl := lt_of_block hy2
  have htt := hT.lt
  have HBD : Hid ((u.mp < w.heap.size + 1 ∧ u.wb < w.heap.size + 1) ∧ (u.pp < w.heap.size + 1 ∧ u.pb < w.heap.size + 1) ∧ t < w.heap.size + 1 ∧ w.heap.size < w.heap.size + 1 ∧ b1 + 2 < w.heap.size + 1 ∧ w.heap.size ≤ w.heap.size + 1) := by
    show _ ∧ _
    omega
  have HI0 : Hid (ColI u w t w.heap.size b1 o root pg lo s k (w.heap.size + 1) ⟨none, s⟩ (w.alloc (.cells #[.slice none 0 0] 165))) :=
    ⟨P.stay hB hy0, P.stay hB hy1, P.stay hB hy2, hT.below hB, h.below hB, hB, rfl, [], _, heap_alloc_new w _, World.ownsRow_nil _ _ _ _, rfl⟩
  have hwl := wayF_le s.xs pg lo 3 root
  have HWL := hid hwl
  obtain ⟨i0, hi, hz0, hz1, hz2⟩ := info_parts info97
  clear hT h hlo hy0 hy1 hy2 hB hlt hbl htt hwl
  refine callsIn_of_wp_marks Tryz.func142 rfl trivial ?_ rfl
  simp only [Tryz.ntmps142, List.size_toArray, List.length_cons, List.length_nil, Nat.reduceAdd, Nat.reduceSub, Array.replicate_succ, Array.replicate_zero, List.push_toArray, List.append_toArray, List.nil_append, List.cons_append]
  gi_wp2
  have hz1' : (w.alloc (.cells #[.slice none 0 0] 165)).heap.size = w.heap.size + 1 := by simp
  generalize hw0 : (w.alloc (.cells #[.slice none 0 0] 165)) = W0 at *
  clear hw0
  rw [← hz1'] at HBD HI0
  have HS0 := hid hz1'
  clear hz1'
  refine range_told (F := Fence.wide) (n := 3) rfl (by decide) (gf := 135) (lb := #[.pointer (some ⟨b1, 0, none⟩), .pointer (some ⟨b1 + 2, 0, none⟩), .pointer (some ⟨b1 + 1, 0, none⟩)]) rfl trivial (enters_of Tryz.func135 (by kernel_rfl) rfl)
    (fun x : Xs => #[.agg (stX pg x)]) (fun _ => rfl) (AbT W0.heap.size 93) (RkT 93) (fun _ _ => .of_below) (fun _ _ _ _ h => h.other _ _) RkT.trans RkT.tw
    (ColI u w t w.heap.size b1 o root pg lo s k W0.heap.size)
    (OkW root pg lo) (fun z x => ⟨some x.1, z.sm⟩) (FinW pg lo) ⟨none, s⟩ ?hI ?hIp HI0.out ?hit ?hround ?hdone
  case hI => exact fun z A B hz hb => hz.keep (n := W0.heap.size) (hb.below (Nat.le_refl _) (by have := hz.bw.size; have := hz.wo.lt; obtain ⟨l, v, a, -⟩ := hz.row; have := a.lt; have := HS0.out; omega)) (fun g c hg => hb.cells hg (by decide)) HBD.out
  case hIp => exact fun z A B l ob hz hb hl ho hw => hz.keep (hb.below hw) (fun g c hg => hb.cells hl ho hg) HBD.out
  case hit =>
    intro l J W hBW hJ hJI hY h0
    exact way1_in 2 (by decide) u t b1 (b1 + 2) (b1 + 1) o root pg lo HLO.out _ (fun _ m => m) ⟨none, s⟩ rfl (fun z A hz => hz.rd) l J W W0.heap.size hBW.size hJ hJI hY h0
  case hround =>
    rintro l z x W hz hok ⟨ob, hob, hoc⟩
    have hnx := wayC_next (xs := s.xs) (by rw [hz.sm]) hok.1
    have HX : Hid (atC s.xs pg x.1 = stX pg x) := by
      obtain ⟨p, e⟩ := x
      have := hok.2
      rw [hz.sm] at this
      simp only at this
      subst this
      rfl
    have HNX := hid hnx
    have HZ := hid hz
    have HO : Hid (W0.heap.size + 1 < W.heap.size) := (Array.getElem?_eq_some_iff.1 hob).1
    clear hnx hz hok
    obtain ⟨p, e⟩ := x
    obtain ⟨ep, er, el, ef⟩ := e
    simp only at HNX HX
    have HG := hid (heap_alloc_new W (.cells (stX pg (p, ⟨ep, er, el, ef⟩)) 97))
    unfold stX at HG HX ⊢
    simp only at HG HX ⊢
    generalize P.at' p.1 pg p.2 = a at *
    gi_wp2
    refine ⟨Ko.of_below (below_alloc W _), RkT.of_below (below_alloc W _), fun W2 hT2 => ?_⟩
    have hlo' := HO.out
    have hb2 : Below W0.heap.size W W2 := ((below_alloc W _).mono (by omega)).trans (hT2.below (by omega))
    have hl1 : (W.alloc (.cells #[.int .i64 p.1, .int .i64 (p.2 : Nat), .int .i64 a, .bool ep, .int .i64 er, .bool el, .int .i64 ef] 97)).heap[W0.heap.size + 1]? = some ob := P.hkeep hob _
    have hz2 : ColI u w t w.heap.size b1 o root pg lo s k W0.heap.size z W2 := HZ.out.keep hb2 (fun g c hg => hT2.cells hl1 hoc (P.hkeep hg _)) HBD.out
    have hg2 := (hT2.block W.heap.size (by omega)).trans HG.out
    have HZ2 := hid hz2
    obtain ⟨ls, v, hbx, hrow, hls⟩ := hz2.row
    have hll : ls.length ≤ 4 := by
      have := congrArg List.length hls
      have := HWL.out
      simp only [List.length_append] at *
      omega
    have hc := hbx.cell
    obtain ⟨g0, g1, g2, g3, g4, g5, g6⟩ := seven hg2
    have HBX := hid hbx
    have HROW := hid hrow
    have HLS := hid hls
    have hw2 : W0.heap.size ≤ W2.heap.size := Nat.le_trans (by omega) hb2.size
    clear hT2 hb2 hl1 hz2 hg2 hob hoc hls
    gi_wp2_with (gi_at_builtin; refine wpListIn_append_own _ rfl _ _ 165 rfl W0.heap.size 97 i0 (.agg zeC) 7 56 Tryz.underlying165 hi hz0 hz1 hz2 rfl (by decide) _ _ _ rfl (HROW.out.alloc _) ⟨W2.heap.size, 0, none⟩ 1 1 [.int .i64 p.1, .int .i64 (p.2 : Nat), .int .i64 a, .bool ep, .int .i64 er, .bool el, .int .i64 ef] rfl rfl (cells7_new _ _ _ _ _ _ _ _ _) (by simp [Value.oneCell']) (by unfold maxLen; omega) (by omega) (by simp; omega) ?_; intro v' w1 hown' hgrow _; obtain ⟨g', cap', rfl⟩ := ownsRow_succ hown'; obtain ⟨hv1, hv2, hr2, hsz, hk2, hb2⟩ := app_all HBX.out (by decide) HROW.out hown' hgrow; have hc1 := hv1.cell; have hf1 := hv1.frozen)
    obtain ⟨z1, z2, z3, z4⟩ := hsz
    have hs2 := HS0.out
    have hbw : Below w.heap.size W2 (w1.setCell ⟨w.heap.size, 0, none⟩ (.slice (some ⟨g', 0, none⟩) (ls.length + 1) cap')) :=
      ⟨z1.symm, z2.symm, z3.symm, by simpa [World.setCell] using z4, fun q hq => hb2 q (by omega) (by omega) (by omega)⟩
    have hlt := HW.out.lt
    refine ⟨⟨hk2 _ _ HZ2.out.y0 (fun c e => by injection e with _ e; cases e) (fun c e => by injection e with _ e; cases e), hk2 _ _ HZ2.out.y1 (fun c e => by injection e with _ e; cases e) (fun c e => by injection e with _ e; cases e), hk2 _ _ HZ2.out.y2 (fun c e => by injection e with _ e; cases e) (fun c e => by injection e with _ e; cases e),
      (hbw.block _ HT.out.lt).trans HZ2.out.tb, HZ2.out.wo.belowN hbw hlt.1 hlt.2, HZ2.out.bw.trans hbw, HZ2.out.sm, ls ++ [p], _, hv2, ?_, ?_⟩, ?_, ?_⟩
    · rw [List.length_append, List.length_singleton, stL_app, HX.out]
      exact hr2
    · rw [List.append_assoc, List.singleton_append, ← HNX.out]
      exact HLS.out
    · intro q ob _ hq ho
      exact hk2 q ob hq (fun c e => by subst e; cases ho) (fun c e => by subst e; cases ho)
    · intro q c hq
      exact hk2 q _ hq (fun c e => by injection e with _ e; cases e) (fun c e => by injection e with _ e; cases e)
  case hdone =>
    rintro z W hfin hz hK
    obtain ⟨p, hp, hg⟩ := hfin
    obtain ⟨ls, v, hbx, hrow, hls⟩ := hz.row
    rw [hp] at hls
    have hl2 : ls = wayF s.xs pg lo 3 root := by
      rw [← hls]
      rw [hz.sm] at hg
      show ls = ls ++ (if _ then _ else _)
      rw [hg, if_neg (by decide), List.append_nil]
    subst hl2
    have hc := hbx.cell
    have HBX := hid hbx
    have HROW := hid hrow
    have HBW := hid hz.bw
    have HK := hid hK
    have hs2 := hid HS0.out
    clear hls hg hp hz hbx hrow hK
    gi_wp2
    refine ⟨by simp, .inl ⟨_, _, rfl, run_takeDeferred HK.out, ?_⟩⟩
    exact ⟨_, results_tmp rfl _ _ _, ⟨v, rfl, O.ownsRow_base (ownsRow_putObj HROW.out _ HK.out rfl) (by have := hs2.out; omega)⟩, HBW.out.trans ((Tw.put _ _ _).below (by have := hs2.out; omega))⟩
set_option maxHeartbeats 400000 in
theorem collect_at (hT : IsT u w t 1 o root) (h : Wo u w s k) (pg : Int) (lo b1 : Nat) (hlo : lo ≤ 3) (hy0 : w.heap[b1]? = some (.cells #[.pointer (some ⟨t, 0, none⟩)] 30 (0, 0))) (hy1 : w.heap[b1 + 1]? = some (.cells #[.int .i64 pg] 3 (0, 0))) (hy2 : w.heap[b1 + 2]? = some (.cells #[.int .i64 lo] 3 (0, 0))) :
    Calls Tryz.prog 101 #[.func (.func 135) #[] #[.pointer (some ⟨b1, 0, none⟩), .pointer (some ⟨b1 + 2, 0, none⟩), .pointer (some ⟨b1 + 1, 0, none⟩)]] w fun r w' => (∃ v, r = .returned v ∧ w'.ownsRow w.heap.size 97 7 v (wayF s.xs pg lo 3 root).length (stL s.xs pg (wayF s.xs pg lo 3 root))) ∧ Below w.heap.size w w' := by
  have HC := hid (callsIn_wide.1 (collect_in hT h pg lo b1 hlo hy0 hy1 hy2))
  clear hT h hy0 hy1 hy2 hlo
  go_enter Tryz.func101, Tryz.ntmps101
  go_wp2_with fail
  refine HC.out.mono ?_
  rintro r w1 ⟨⟨v, rfl, hrow⟩, hB⟩
  have HX := hid (And.intro hrow hB)
  clear hrow hB
  go_wp2
  go_ret
  exact ⟨⟨v, rfl, HX.out.1⟩, HX.out.2⟩
end
end Go.Proofs.YtpfmmlbakbhklaaGreatDoor
namespace Go.Proofs.YtpfmmlbakbhklaaGreatDoor
open Go.RowKit

theorem way_at (t : Nat) (pg : Int) (lo : Nat) (w : World) :
    Calls Tryz.prog 96 #[.pointer (some ⟨t, 0, none⟩), .int .i64 pg, .int .i64 lo] w fun e w' =>
      e = .returned (.func (.func 135) #[] #[.pointer (some ⟨w.heap.size, 0, none⟩), .pointer (some ⟨w.heap.size + 2, 0, none⟩), .pointer (some ⟨w.heap.size + 1, 0, none⟩)]) ∧
      w' = ((w.alloc (.cells #[.pointer (some ⟨t, 0, none⟩)] 30)).alloc (.cells #[.int .i64 pg] 3)).alloc (.cells #[.int .i64 lo] 3) := callsIn_wide.1 (way_in 0 t pg lo w)
theorem tL_five (ds : List O.Ds) (f o : Int) : O.tL ds f 5 o = O.tL ds f 5 0 := by
  have hd : ∀ d : O.Ds, O.nxD d 5 o = O.nxD d 5 0 := fun d => rfl
  have he : ∀ d : O.Ds, O.nxE d 5 o = O.nxE d 5 0 := fun d => rfl
  unfold O.tL O.tE
  rw [hd, he]
theorem take_rev {L : List (Int × Nat)} {i : Nat} (h : i < L.length) : (L.take (i + 1)).reverse = L.getD i (0, 0) :: (L.take i).reverse := by
  rw [List.take_add_one, List.getElem?_eq_getElem h]
  simp [List.getD, h]
theorem pk_zd : P.pk P.zd = 0 := by decide +kernel
theorem wayF_pos (xs : List Int) (pg : Int) (lo v : Nat) (fr : Int) : 1 ≤ (wayF xs pg lo v fr).length := by
  rw [wayF_step]; simp
section
variable {u : Si} {w : World} {t : Nat} {o root : Int} {s : Sm} {k : Nat}
set_option maxRecDepth 100000 in
set_option maxHeartbeats 2000000 in
theorem thin_at (hT : IsT u w t 1 o root) (h : Wo u w s k) (hk : k + 50 ≤ bnd) (pg : Int) :
    Calls Tryz.prog 58 #[.pointer (some ⟨t, 0, none⟩), .int .i64 pg] w fun r w' => r = .returned (.tuple #[]) ∧ Wo u w' (thinS pg (wayF s.xs pg 0 3 root).reverse s) (k + 10) ∧ Ch u w w' := by
  have HW := hid h
  have HT := hid hT
  have HK := hid hk
  obtain ⟨m0, m1, m2⟩ := new3 w (.cells #[.pointer (some ⟨t, 0, none⟩)] 30) (.cells #[.int .i64 pg] 3) (.cells #[.int .i64 ((0 : Nat) : Int)] 3)
  have C3 : Below w.heap.size w (((w.alloc (.cells #[.pointer (some ⟨t, 0, none⟩)] 30)).alloc (.cells #[.int .i64 pg] 3)).alloc (.cells #[.int .i64 ((0 : Nat) : Int)] 3)) := ((below_alloc _ _).alloc (by simp) _).alloc (by simp; omega) _
  have HC3 := hid C3
  have HWA := hid (way_at t pg 0 w)
  have HCO := hid (collect_at (hT.below C3) (h.below C3) pg 0 w.heap.size (by decide) m0 m1 m2)
  have hl4 := wayF_le s.xs pg 0 3 root
  have hl1 := wayF_pos s.xs pg 0 3 root
  generalize hL : wayF s.xs pg 0 3 root = L at *
  have hR0 : thinS pg ((L.take (L.length - 1 + 1)).reverse) s = thinS pg L.reverse s := by rw [show L.length - 1 + 1 = L.length by omega, List.take_length]
  generalize hR : thinS pg L.reverse s = R at *
  obtain ⟨n, hn⟩ : ∃ n, L.length = n + 1 := ⟨L.length - 1, by omega⟩
  rw [hn] at HCO hR0 hl4
  have HLN := hid hn
  have HR0 := hid hR0
  have hst := fun (i : Nat) (hi : i < n + 1) => stL_at s.xs pg L i (by omega)
  have HST := hid hst
  have hn3 : n ≤ 3 := by omega
  generalize stL s.xs pg L = cs at *
  clear hT h hk m0 m1 m2 C3 hl1 hL hR hn hR0 hst hl4
  go_enter Tryz.func58, Tryz.ntmps58
  go_wp2_with fail
  refine HWA.out.mono ?_
  rintro r w1 ⟨rfl, hw1⟩
  rw [hw1]
  clear hw1 w1
  go_wp2_with fail
  refine HCO.out.mono ?_
  rintro r w2 ⟨⟨v, rfl, hrow⟩, hB2⟩
  obtain ⟨g, cap, rfl⟩ := ownsRow_succ hrow
  obtain ⟨-, hrw⟩ := hrow
  obtain ⟨g', cap', cur, hgg, hbg, hgh, -, -, hcs, htk⟩ : ∃ g' cap' cur, Value.slice (some ⟨g, 0, none⟩) (n + 1) cap = Value.slice (some ⟨g', 0, none⟩) (n + 1) cap' ∧ (((w.alloc (.cells #[.pointer (some ⟨t, 0, none⟩)] 30)).alloc (.cells #[.int .i64 pg] 3)).alloc (.cells #[.int .i64 ((0 : Nat) : Int)] 3)).heap.size ≤ g' ∧ w2.heap[g']? = some (.cells cur 97 (0, 0)) ∧ n + 1 ≤ cap' ∧ cap' ≤ maxLen ∧ cur.size = cap' * 7 ∧ cur.toList.take ((n + 1) * 7) = cs := by
    rcases hrw with ⟨h, -⟩ | h
    · cases h
    · exact h
  obtain ⟨rfl, -⟩ : g = g' ∧ cap = cap' := by
    injection hgg with a b c
    injection a with a
    injection a with a
    exact ⟨a, c⟩
  have hcell : ∀ j x, cs[j]? = some x → cur[j]? = some x := fun j x hj => by
    rw [← htk] at hj
    have := List.getElem?_take_of_lt (l := cur.toList) (show j < (n + 1) * 7 from by
      have := (List.getElem?_eq_some_iff.1 hj).1
      simp at this; omega)
    rw [this] at hj
    simpa using hj
  have HB2 := hid (HC3.out.trans (hB2.mono HC3.out.size))
  have HGH := hid hgh
  have HCL := hid hcell
  have HW2 := hid (HW.out.below HB2.out)
  clear hB2 hgg hbg hgh hcs htk hrw hcell HCO HWA
  go_wp2
  go_loopw [5] (fun p wr => ∃ (i : Nat) (s' : Sm) (k' : Nat), p = .int .i64 i ∧ i ≤ n ∧ Wo u wr s' k' ∧ k' + i ≤ k + n ∧ Ch u w wr ∧ wr.heap[g]? = some (.cells cur 97 (0, 0)) ∧ thinS pg ((L.take (i + 1)).reverse) s' = R) (fun p _ => (intOf p).toNat)
  case atStart =>
    refine ⟨n, s, k, rfl, Nat.le_refl _, HW2.out, Nat.le_refl _, .of_below HB2.out, HGH.out, ?_⟩
    exact HR0.out
  case round =>
    obtain ⟨i, s', k', rfl, hi, hWr, hkr, hCr, hgr, hRr⟩ := hrel
    have HWr := hid hWr
    have HCr := hid hCr
    have HGr := hid hgr
    have HKr := hid hkr
    have HTr := hid (HT.out.ch HW.out hCr)
    have HRr := hid hRr
    clear hWr hCr hkr hRr
    cases i with
    | zero =>
      have HE := hid (show R = s' from by
        rw [← HRr.out, take_rev (by have := HLN.out; omega)]
        rfl)
      clear hgr
      go_wp2
      go_end0
      exact ⟨rfl, by rw [HE.out]; exact HWr.out.mono (by have := HKr.out; omega), HCr.out⟩
    | succ j =>
      obtain ⟨d0, d1, -⟩ := HST.out (j + 1) (by omega)
      obtain ⟨-, -, d2⟩ := HST.out j (by omega)
      have c0 := P.cell_of hgr (HCL.out _ _ d0)
      have c1 := P.cell_of hgr (HCL.out _ _ d1)
      have c2 := P.cell_of hgr (HCL.out _ _ d2)
      have HTK := hid (show thinS pg (L.getD (j + 1) (0, 0) :: L.getD j (0, 0) :: (L.take j).reverse) s' = R from by
        rw [← HRr.out, take_rev (by have := HLN.out; omega), take_rev (i := j) (by have := HLN.out; omega)])
      have HTJ := hid (take_rev (L := L) (i := j) (by have := HLN.out; omega))
      generalize L.getD (j + 1) (0, 0) = x at *
      generalize L.getD j (0, 0) = y at *
      obtain ⟨xf, xv⟩ := x
      obtain ⟨yf, yv⟩ := y
      simp only at c0 c1 c2
      have HEM := hid (empty_at HTr.out HWr.out xf xv)
      have HSY := hid (fun (g : empW s'.xs xf = true) => (show thinS pg ((L.take (j + 1)).reverse) ⟨setW s'.xs (P.at' yf pg yv) 0, O.tL s'.ds xf 5 0⟩ = R from by
        rw [← HTK.out, HTJ.out]
        show _ = (if _ then _ else _)
        rw [if_pos g]))
      have HSN := hid (fun (g : ¬ empW s'.xs xf = true) => (show R = s' from by
        rw [← HTK.out]
        show (if _ then _ else _) = _
        rw [if_neg g]))
      generalize P.at' yf pg yv = ya at *
      generalize empW s'.xs xf = b at *
      have hj1 : ((j + 1 : Nat) : Int) = (j : Int) + 1 := by omega
      have hjn : (j : Int) + 1 < (n : Int) + 1 := by omega
      clear hgr d1
      go_wp2_with fail
      refine HEM.out.mono ?_
      rintro r w3 ⟨rfl, hB3⟩
      have HT3 := hid (HTr.out.below hB3)
      have HW3 := hid (HWr.out.below hB3)
      have HG3 := hid (P.stay hB3 HGr.out)
      have HC3' := hid (HCr.out.trans (.of_below hB3))
      clear hB3 c0 c1 c2
      have b2 := P.cell_of HG3.out (HCL.out _ _ d2)
      have HD0 := hid d0
      cases b
      · have HE := hid (HSN.out (by decide))
        clear HSY HSN b2 d2 d0
        go_wp2
        go_end0
        exact ⟨rfl, by rw [HE.out]; exact HW3.out.mono (by have := HKr.out; omega), HC3'.out⟩
      · have HE := hid (HSY.out rfl)
        have HLA := hid (lay_at' HT3.out HW3.out (by have := HKr.out; have := HK.out; omega) ya P.zd)
        have hzd : lay s' ya P.zd = ⟨setW s'.xs ya 0, s'.ds⟩ := by unfold lay; rw [pk_zd]
        rw [hzd] at HLA
        have HZ : Hid (P.eV P.zd = .agg #[.bool false, .int .i64 0, .bool false, .int .i64 0]) := rfl
        rw [HZ.out] at HLA
        clear HSY HSN d2 d0 hzd
        go_wp2_with fail
        refine HLA.out.mono ?_
        rintro r w4 ⟨rfl, hW4, hC4⟩
        have HG4 := hid (HW3.out.keep hC4 HG3.out (by decide) (by decide) (by decide))
        have HW4 := hid hW4
        have HT4 := hid (HT3.out.ch HW3.out hC4)
        have HC4 := hid (HC3'.out.trans hC4)
        have e0 := P.cell_of HG4.out (HCL.out _ _ HD0.out)
        clear hW4 hC4 b2
        go_wp2_with fail
        refine (retire_at HT4.out HW4.out xf).mono ?_
        rintro r w5 ⟨rfl, hW5, hC5⟩
        rw [tL_five] at hW5
        have HG5 := hid (HW4.out.keep hC5 HG4.out (by decide) (by decide) (by decide))
        have HW5 := hid hW5
        have HC5 := hid (HC4.out.trans hC5)
        clear hW5 hC5 e0
        go_wp2
        refine ⟨⟨j, _, k' + 1, rfl, by omega, HW5.out, by have := HKr.out; omega, HC5.out, HG5.out, HE.out⟩, ?_⟩
        simp [intOf]
end
end Go.Proofs.YtpfmmlbakbhklaaGreatDoor
