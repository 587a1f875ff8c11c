/- What find, Query and alone return and leave. Conditions: the words and frames lie in memory; the tables are live; few calls have been counted. -/
import Derived.Test.YtpfmmlbakbhklaaGreatDoorN8
namespace Go.Proofs.YtpfmmlbakbhklaaGreatDoor
open Go.RowKit
section
variable {u : Si} {w : World} {t : Nat} {st o root : Int} {s : Sm} {k : Nat}
def sqC (s : Sm) (root pg : Int) : Array Value := if qE s root pg = 0 then atC s.xs pg (fd s root pg) else zeC
theorem ftE_live (pg : Int) : ftE 1 pg = if P.btw pg 0 65535 = true then 0 else 2 := rfl
/-- What end tells, written out. -/
theorem tend_lit (hT : IsT u w t 1 o root) (h : Wo u w s k) (pg : Int) :
    Calls Tryz.prog 84 #[.pointer (some ⟨t, 0, none⟩), .int .i64 pg, .int .i64 0] w fun e w' => e = .returned (.agg #[.int .i64 (fd s root pg).1, .int .i64 ((fd s root pg).2 : Nat), .int .i64 (P.at' (fd s root pg).1 pg (fd s root pg).2), .bool (fdE s root pg).p, .int .i64 (fdE s root pg).r, .bool (fdE s root pg).l, .int .i64 (fdE s root pg).f]) ∧ Below w.heap.size w w' :=
  tend_at hT h pg 0 (by decide)
theorem sqC_lit {s : Sm} {root pg : Int} (h : qE s root pg = 0) : sqC s root pg = #[.int .i64 (fd s root pg).1, .int .i64 ((fd s root pg).2 : Nat), .int .i64 (P.at' (fd s root pg).1 pg (fd s root pg).2), .bool (fdE s root pg).p, .int .i64 (fdE s root pg).r, .bool (fdE s root pg).l, .int .i64 (fdE s root pg).f] := if_pos h

set_option maxHeartbeats 2000000 in
theorem find_at (hT : IsT u w t 1 o root) (h : Wo u w s k) (pg : Int) :
    Calls Tryz.prog 46 #[.pointer (some ⟨t, 0, none⟩), .int .i64 pg] w fun r w' => r = .returned (.tuple #[.agg (sqC s root pg), .int .i64 (qE s root pg)]) ∧ Below w.heap.size w w' := by
  have hB := below_alloc w (.cells zeC 97)
  have hN := heap_alloc_new w (.cells zeC 97)
  have HF := hid (fault_at (hT.below hB) pg)
  have HB := hid hB
  have HN := hid hN
  rw [ftE_live] at HF
  cases hb : P.btw pg 0 65535
  · have hq : qE s root pg = 2 := by unfold qE; rw [hb, if_pos rfl]
    have hfd : sqC s root pg = zeC := by unfold sqC; rw [hq, if_neg (by decide)]
    rw [hq, hfd]
    rw [hb, if_neg (by decide)] at HF
    obtain ⟨x0, x1, x2, x3, x4, x5, x6⟩ := seven hN
    obtain ⟨y0, y1, y2, y3, y4, y5, y6⟩ := free7 hN
    clear hT h hb hq hfd hB hN
    go_enter Tryz.func46, Tryz.ntmps46
    go_wp2_with fail
    refine HF.out.mono ?_
    rintro r w1 ⟨rfl, rfl⟩
    go_wp2
    refine bodyPost_ret (P.results_row_tmp rfl _ _ w.heap.size _ rfl (run_loadVar_row _ _ 97 97 _ (0, 0) _ HN.out Tryz.underlying97 rfl size97)) rfl ?_
    exact ⟨rfl, HB.out⟩
  · rw [hb, if_pos rfl] at HF
    have HE := hid (tend_lit (hT.below hB) (h.below hB) pg)
    have HP := hid (fun g : (fdE s root pg).p = false => (show qE s root pg = 4 by unfold qE; rw [hb, if_neg (by decide), if_pos g]))
    have HQ := hid (fun g : (fdE s root pg).p = true => (show qE s root pg = 0 by unfold qE; rw [hb, if_neg (by decide), if_neg (by rw [g]; decide)]))
    have HZ := hid (fun g : qE s root pg = 4 => (show sqC s root pg = zeC by unfold sqC; rw [g, if_neg (by decide)]))
    have HL := hid (fun g : qE s root pg = 0 => sqC_lit g)
    generalize sqC s root pg = fc at *
    generalize P.at' (fd s root pg).1 pg (fd s root pg).2 = aa at *
    generalize (fd s root pg).1 = fr at *
    generalize (fd s root pg).2 = v at *
    generalize (fdE s root pg) = e at *
    obtain ⟨ep, er, el, ef⟩ := e
    simp only at HE HP HQ HL
    clear hT h hb hB hN
    cases ep
    · have hq := HP.out rfl
      have hf := HZ.out hq
      rw [hq, hf]
      clear hq hf
      go_enter Tryz.func46, Tryz.ntmps46
      go_wp2_with fail
      refine HF.out.mono ?_
      rintro r w1 ⟨rfl, rfl⟩
      go_wp2_with fail
      refine HE.out.mono ?_
      rintro r w2 ⟨rfl, hB2⟩
      have HN2 := hid (P.stay hB2 HN.out)
      have HB2 := hid (P.bgo HB.out hB2)
      obtain ⟨x0, x1, x2, x3, x4, x5, x6⟩ := seven (P.hkeep HN2.out (.cells #[.int .i64 fr, .int .i64 (v : Nat), .int .i64 aa, .bool false, .int .i64 er, .bool el, .int .i64 ef] 97))
      obtain ⟨y0, y1, y2, y3, y4, y5, y6⟩ := free7 (P.hkeep HN2.out (.cells #[.int .i64 fr, .int .i64 (v : Nat), .int .i64 aa, .bool false, .int .i64 er, .bool el, .int .i64 ef] 97))
      have HM := hid (P.hkeep HN2.out (.cells #[.int .i64 fr, .int .i64 (v : Nat), .int .i64 aa, .bool false, .int .i64 er, .bool el, .int .i64 ef] 97))
      have HB3 := hid (HB2.out.alloc HB2.out.size (.cells #[.int .i64 fr, .int .i64 (v : Nat), .int .i64 aa, .bool false, .int .i64 er, .bool el, .int .i64 ef] 97))
      clear hB2
      go_wp2
      refine bodyPost_ret (P.results_row_tmp rfl _ _ w.heap.size _ rfl (run_loadVar_row _ _ 97 97 _ (0, 0) _ (put7 HM.out _ _ _ _ _ _ _) Tryz.underlying97 rfl size97)) rfl ?_
      exact ⟨rfl, bput7 HB3.out (Nat.le_refl _) _ _ _ _ _ _ _⟩
    · have hq := HQ.out rfl
      have hf := HL.out hq
      rw [hq, hf]
      clear hq hf
      go_enter Tryz.func46, Tryz.ntmps46
      go_wp2_with fail
      refine HF.out.mono ?_
      rintro r w1 ⟨rfl, rfl⟩
      go_wp2_with fail
      refine HE.out.mono ?_
      rintro r w2 ⟨rfl, hB2⟩
      have HN2 := hid (P.stay hB2 HN.out)
      have HB2 := hid (P.bgo HB.out hB2)
      obtain ⟨x0, x1, x2, x3, x4, x5, x6⟩ := seven (P.hkeep HN2.out (.cells #[.int .i64 fr, .int .i64 (v : Nat), .int .i64 aa, .bool true, .int .i64 er, .bool el, .int .i64 ef] 97))
      obtain ⟨y0, y1, y2, y3, y4, y5, y6⟩ := free7 (P.hkeep HN2.out (.cells #[.int .i64 fr, .int .i64 (v : Nat), .int .i64 aa, .bool true, .int .i64 er, .bool el, .int .i64 ef] 97))
      have HM := hid (P.hkeep HN2.out (.cells #[.int .i64 fr, .int .i64 (v : Nat), .int .i64 aa, .bool true, .int .i64 er, .bool el, .int .i64 ef] 97))
      have HB3 := hid (HB2.out.alloc HB2.out.size (.cells #[.int .i64 fr, .int .i64 (v : Nat), .int .i64 aa, .bool true, .int .i64 er, .bool el, .int .i64 ef] 97))
      clear hB2
      go_wp2
      refine bodyPost_ret (P.results_row_tmp rfl _ _ w.heap.size _ rfl (run_loadVar_row _ _ 97 97 _ (0, 0) _ (put7 HM.out _ _ _ _ _ _ _) Tryz.underlying97 rfl size97)) rfl ?_
      exact ⟨rfl, bput7 HB3.out (Nat.le_refl _) _ _ _ _ _ _ _⟩
end
end Go.Proofs.YtpfmmlbakbhklaaGreatDoor
