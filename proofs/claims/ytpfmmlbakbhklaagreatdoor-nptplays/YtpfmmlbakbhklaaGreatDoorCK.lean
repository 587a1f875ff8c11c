/- What the document's put, Map and Large return and leave: the same as the program's. Conditions: the tables are trees in words and frames; few calls have been counted. What the document's Unmap returns and leaves: the same as the program's. Conditions: the tables are trees in words and frames; few calls have been counted. What the document's Protect returns and leaves: the same as the program's. Conditions: the tables are trees in words and frames; few calls have been counted. What the document's Protect returns and leaves: the same as the program's. Conditions: the tables are trees in words and frames; few calls have been counted. -/
import Derived.Test.YtpfmmlbakbhklaaGreatDoorCJ
import Derived.Test.YtpfmmlbakbhklaaGreatDoorCG
import Derived.Test.YtpfmmlbakbhklaaGreatDoorBM
namespace Go.Proofs.YtpfmmlbakbhklaaGreatDoor
open Go.RowKit
section
variable {u : Si} {w w' : World} {t : Nat} {o root : Int} {dr : Bool} {s : Sm} {k : Nat} {ty : Int → Option Kd}
set_option maxRecDepth 100000 in
set_option maxHeartbeats 1000000 in
theorem rput_twice (hI : Inv s ty (-1)) (hr : ty root = some ⟨o, 3, 0⟩) (hT : IsU u w t o root false) (h : Wr u w s k) (pg : Int) (lo : Nat) (el : Bool) (er ef : Int)
    (h1 : P.btw pg 0 65535 = true) (h2 : P.btw ef 0 4095 = true) (h3 : P.btw er 1 7 = true) (h4 : el = true → (pg % 16 != 0) = false ∧ (ef % 16 != 0) = false)
    (hp : (fdE s root pg).p = true ∨ ((fdE s root pg).p = false ∧ (fd s root pg).2 < lo)) :
    Calls Tryz.prog 76 #[.pointer (some ⟨t, 0, none⟩), .int .i64 pg, .int .i64 (lo : Nat), .agg #[.bool true, .int .i64 er, .bool el, .int .i64 ef]] w fun r w' =>
      r = .returned (.int .i64 5) ∧ Below w.heap.size w w' := by
  have hb := below_alloc w (.cells #[.bool true, .int .i64 er, .bool el, .int .i64 ef] 102)
  have HB := hid hb
  have HT := hid (hT.below hb)
  have HW := hid (h.below hb)
  have HL := hid (rlast_at (hT.below hb) (h.below hb) pg (hI.way_ok hr h1))
  have hcw := endF_le s.xs pg 0 3 root
  obtain ⟨c1, -, -, c4⟩ := (hT.below hb).cells.2
  obtain ⟨p0, p1⟩ := P.btw_yes.1 h1
  obtain ⟨f0, f1⟩ := P.btw_yes.1 h2
  obtain ⟨r0, r1⟩ := P.btw_yes.1 h3
  have a1 : ¬ pg < 0 := by omega
  have a2 : ¬ 65535 < pg := by omega
  have a3 : ¬ ef < 0 := by omega
  have a4 : ¬ 4095 < ef := by omega
  have a5 : ¬ er < 1 := by omega
  have a6 : ¬ 7 < er := by omega
  have hv3 : (fd s root pg).2 ≤ 3 := hcw
  generalize hcc : O.cK s.ds 0 = ck at *
  generalize hq : fdE s root pg = q at *
  obtain ⟨qp, qr, ql, qf⟩ := q
  obtain ⟨v, hvv⟩ : ∃ v, (fd s root pg).2 = v := ⟨_, rfl⟩
  rw [hvv] at HL hv3 hp
  simp only at hp
  unfold P.eV at HL
  simp only at HL
  rcases hp with rfl | ⟨rfl, hvl⟩
  · clear c1
    cases el
    all_goals
      try obtain ⟨a7, a8⟩ := h4 rfl
      clear hI hr hT h h1 h2 h3 h4 hb p0 p1 f0 f1 r0 r1 hcw hcc hq hvv hv3
      go_enter Tryz.func76, Tryz.ntmps76
      go_wp2_with fail
      refine HL.out.mono ?_
      rintro r w1 ⟨rfl, hB1⟩
      have hBa := hB1.alloc hB1.size (.cells #[.bool true, .int .i64 qr, .bool ql, .int .i64 qf] 102)
      have HBa := hid (HB.out.trans (hBa.mono HB.out.size))
      clear hB1 hBa c4 HL HB HT HW
      go_wp2
      go_ret
      exact ⟨rfl, HBa.out⟩
  · have hvl' : (((v : Nat) : Int) < (lo : Int)) := by omega
    clear c1 hvl
    cases el
    all_goals
      try obtain ⟨a7, a8⟩ := h4 rfl
      clear hI hr hT h h1 h2 h3 h4 hb p0 p1 f0 f1 r0 r1 hcw hcc hq hvv hv3
      go_enter Tryz.func76, Tryz.ntmps76
      go_wp2_with fail
      refine HL.out.mono ?_
      rintro r w1 ⟨rfl, hB1⟩
      have hBa := hB1.alloc hB1.size (.cells #[.bool false, .int .i64 qr, .bool ql, .int .i64 qf] 102)
      have HBa := hid (HB.out.trans (hBa.mono HB.out.size))
      clear hB1 hBa c4 HL HB HT HW
      go_wp2
      go_ret
      exact ⟨rfl, HBa.out⟩
set_option maxRecDepth 100000 in
set_option maxHeartbeats 1000000 in
theorem rput_few (hI : Inv s ty (-1)) (hr : ty root = some ⟨o, 3, 0⟩) (hT : IsU u w t o root false) (h : Wr u w s k) (pg : Int) (lo : Nat) (el : Bool) (er ef : Int)
    (h1 : P.btw pg 0 65535 = true) (h2 : P.btw ef 0 4095 = true) (h3 : P.btw er 1 7 = true) (h4 : el = true → (pg % 16 != 0) = false ∧ (ef % 16 != 0) = false)
    (hp : (fdE s root pg).p = false ∧ lo ≤ (fd s root pg).2 ∧ ((O.cK s.ds 0 : Nat) : Int) < ((fd s root pg).2 : Nat) - (lo : Int)) :
    Calls Tryz.prog 76 #[.pointer (some ⟨t, 0, none⟩), .int .i64 pg, .int .i64 (lo : Nat), .agg #[.bool true, .int .i64 er, .bool el, .int .i64 ef]] w fun r w' =>
      r = .returned (.int .i64 12) ∧ Below w.heap.size w w' := by
  have hb := below_alloc w (.cells #[.bool true, .int .i64 er, .bool el, .int .i64 ef] 102)
  have HB := hid hb
  have HT := hid (hT.below hb)
  have HW := hid (h.below hb)
  have HL := hid (rlast_at (hT.below hb) (h.below hb) pg (hI.way_ok hr h1))
  have hcw := endF_le s.xs pg 0 3 root
  have HCN := hid (fun W (a : Wr u W s k) => O.rcount_at a.pool 0)
  obtain ⟨c1, -, -, c4⟩ := (hT.below hb).cells.2
  obtain ⟨p0, p1⟩ := P.btw_yes.1 h1
  obtain ⟨f0, f1⟩ := P.btw_yes.1 h2
  obtain ⟨r0, r1⟩ := P.btw_yes.1 h3
  have a1 : ¬ pg < 0 := by omega
  have a2 : ¬ 65535 < pg := by omega
  have a3 : ¬ ef < 0 := by omega
  have a4 : ¬ 4095 < ef := by omega
  have a5 : ¬ er < 1 := by omega
  have a6 : ¬ 7 < er := by omega
  have hv3 : (fd s root pg).2 ≤ 3 := hcw
  generalize hcc : O.cK s.ds 0 = ck at *
  generalize hq : fdE s root pg = q at *
  obtain ⟨qp, qr, ql, qf⟩ := q
  obtain ⟨v, hvv⟩ : ∃ v, (fd s root pg).2 = v := ⟨_, rfl⟩
  rw [hvv] at HL hv3 hp
  simp only at hp
  unfold P.eV at HL
  simp only at HL
  obtain ⟨rfl, hvl, hcn⟩ := hp
  have hvl' : ¬ (((v : Nat) : Int) < (lo : Int)) := by omega
  have ewr : wrap64 (((v : Nat) : Int) - (lo : Int)) = (v : Nat) - (lo : Int) := by unfold wrap64; omega
  cases el
  all_goals
    try obtain ⟨a7, a8⟩ := h4 rfl
    clear hI hr hT h h1 h2 h3 h4 hb p0 p1 f0 f1 r0 r1 hcw hcc hq hvv hv3 hvl
    go_enter Tryz.func76, Tryz.ntmps76
    go_wp2_with fail
    refine HL.out.mono ?_
    rintro r w1 ⟨rfl, hB1⟩
    have hBa := hB1.alloc hB1.size (.cells #[.bool false, .int .i64 qr, .bool ql, .int .i64 qf] 102)
    have HTa := hid (HT.out.below hBa)
    have HWa := hid (HW.out.below hBa)
    have c1a := HTa.out.cells.2.1
    have HBa := hid (HB.out.trans (hBa.mono HB.out.size))
    clear hB1 hBa c1 c4 HL HB HT HW
    go_wp2_with fail
    refine (HCN.out _ HWa.out).mono ?_
    rintro r w2 ⟨rfl, hw2⟩
    rw [hw2]
    clear hw2 w2 HCN
    go_wp2
    go_ret
    exact ⟨rfl, HBa.out⟩
/-- All of put. -/
theorem rput_at (hI : Inv s ty (-1)) (hr : ty root = some ⟨o, 3, 0⟩) (ho : 1 ≤ o ∧ o ≤ 16) (hT : IsU u w t o root false) (h : Wr u w s k) (hk : k + 200 ≤ bnd) (pg : Int) (lo : Nat) (el : Bool) (er ef : Int) (hle : (lo = 0 ∧ el = false) ∨ (lo = 1 ∧ el = true)) :
    Calls Tryz.prog 76 #[.pointer (some ⟨t, 0, none⟩), .int .i64 pg, .int .i64 (lo : Nat), .agg #[.bool true, .int .i64 er, .bool el, .int .i64 ef]] w fun r w' =>
      r = .returned (.int .i64 (putE s root pg lo ⟨true, er, el, ef⟩)) ∧ Wr u w' (putT s o root pg lo ⟨true, er, el, ef⟩) (k + 100) ∧ Ch u w w' := by
  have err : ∀ c : Int, c ≠ 0 → putE s root pg lo ⟨true, er, el, ef⟩ = c → (Calls Tryz.prog 76 #[.pointer (some ⟨t, 0, none⟩), .int .i64 pg, .int .i64 (lo : Nat), .agg #[.bool true, .int .i64 er, .bool el, .int .i64 ef]] w fun r w' => r = .returned (.int .i64 c) ∧ Below w.heap.size w w') → Calls Tryz.prog 76 #[.pointer (some ⟨t, 0, none⟩), .int .i64 pg, .int .i64 (lo : Nat), .agg #[.bool true, .int .i64 er, .bool el, .int .i64 ef]] w fun r w' =>
      r = .returned (.int .i64 (putE s root pg lo ⟨true, er, el, ef⟩)) ∧ Wr u w' (putT s o root pg lo ⟨true, er, el, ef⟩) (k + 100) ∧ Ch u w w' := fun c hc he hC => by
    have hS : putT s o root pg lo ⟨true, er, el, ef⟩ = s := by unfold putT; rw [he, if_neg hc]
    rw [he, hS]
    refine hC.mono ?_
    rintro r w' ⟨rfl, hB⟩
    exact ⟨rfl, (h.below hB).mono (by omega), .of_below hB⟩
  have hsp : ((pg % (P.sp lo) != 0 || ef % (P.sp lo) != 0) = true) ↔ (el = true ∧ (pg % 16 != 0 || ef % 16 != 0) = true) := by
    rcases hle with ⟨rfl, rfl⟩ | ⟨rfl, rfl⟩
    · rw [sp_0]
      simp
    · rw [sp_1]
      simp
  by_cases h1 : P.btw pg 0 65535 = true
  · by_cases h2 : P.btw ef 0 4095 = true
    · by_cases h3 : P.btw er 1 7 = true
      · by_cases h4 : (pg % (P.sp lo) != 0 || ef % (P.sp lo) != 0) = true
        · obtain ⟨rfl, h5⟩ := hsp.1 h4
          exact err 8 (by decide) (by unfold putE; simp only [h1, h2, h3, Bool.true_eq_false, if_false, h4, if_true]) (rput_align hT pg lo true er ef h1 h2 h3 h5)
        · have h4' : el = true → (pg % 16 != 0) = false ∧ (ef % 16 != 0) = false := fun he => by
            have : ¬ (pg % 16 != 0 || ef % 16 != 0) = true := fun hh => h4 (hsp.2 ⟨he, hh⟩)
            simpa using this
          have hlo : lo ≤ 3 := by omega
          by_cases h5 : (en s.xs pg (endF s.xs pg lo 3 root).1 (endF s.xs pg lo 3 root).2).p = true
          · refine err 5 (by decide) (by unfold putE; simp only [h1, h2, h3, Bool.true_eq_false, Bool.false_eq_true, if_false, h4, h5, if_true]) (rput_twice hI hr hT h pg lo el er ef h1 h2 h3 h4' ?_)
            rcases (putE_end hlo).2 h5 with a | a
            · exact .inl a
            · cases hp : (fdE s root pg).p
              · exact .inr ⟨rfl, a⟩
              · exact .inl rfl
          · have hp : (fdE s root pg).p = false := by
              cases hp : (fdE s root pg).p
              · rfl
              · exact absurd ((putE_end hlo).1 (.inl hp)) h5
            have hv : lo ≤ (fd s root pg).2 := by
              by_cases hv : (fd s root pg).2 < lo
              · exact absurd ((putE_end hlo).1 (.inr hv)) h5
              · omega
            have hE := putE_lev hlo hv
            by_cases h6 : (O.cK s.ds 0 : Int) < (endF s.xs pg lo 3 root).2 - lo
            · refine err 12 (by decide) (by unfold putE; simp only [h1, h2, h3, Bool.true_eq_false, Bool.false_eq_true, if_false, h4, h5, h6, if_true]) (rput_few hI hr hT h pg lo el er ef h1 h2 h3 h4' ⟨hp, hv, ?_⟩)
              rw [hE] at h6
              exact h6
            · have he : putE s root pg lo ⟨true, er, el, ef⟩ = 0 := by unfold putE; simp only [h1, h2, h3, Bool.true_eq_false, Bool.false_eq_true, if_false, h4, h5, h6]
              have hS : putT s o root pg lo ⟨true, er, el, ef⟩ = putS o pg lo ⟨true, er, el, ef⟩ 3 root s := by unfold putT; rw [he, if_pos rfl]
              rw [he, hS]
              rw [hE] at h6
              exact rput_go hI hr ho hT h hk pg lo el er ef h1 h2 h3 h4' hp hv (by omega)
      · have h3' : P.btw er 1 7 = false := by simpa using h3
        exact err 7 (by decide) (by unfold putE; simp only [h1, h2, h3', Bool.true_eq_false, if_false, if_true]) (rput_right hT pg lo true el er ef h1 h2 h3)
    · have h2' : P.btw ef 0 4095 = false := by simpa using h2
      exact err 2 (by decide) (by unfold putE; simp only [h1, h2', Bool.true_eq_false, if_false, if_true]) (rput_range hT pg lo true el er ef (fun hh => h2 hh.2))
  · have h1' : P.btw pg 0 65535 = false := by simpa using h1
    exact err 2 (by decide) (by unfold putE; simp only [h1', if_true]) (rput_range hT pg lo true el er ef (fun hh => h1 hh.1))
set_option maxHeartbeats 400000 in
theorem rmap_at (hI : Inv s ty (-1)) (hr : ty root = some ⟨o, 3, 0⟩) (ho : 1 ≤ o ∧ o ≤ 16) (hT : IsU u w t o root false) (h : Wr u w s k) (hk : k + 200 ≤ bnd) (pg f r : Int) :
    Calls Tryz.prog 41 #[.pointer (some ⟨t, 0, none⟩), .int .i64 pg, .int .i64 f, .int .i64 r] w fun x w' => x = .returned (.int .i64 (putE s root pg 0 ⟨true, r, false, f⟩)) ∧ Wr u w' (putT s o root pg 0 ⟨true, r, false, f⟩) (k + 100) ∧ Ch u w w' := by
  have HP := hid (rput_at hI hr ho hT h hk pg 0 false r f (.inl ⟨rfl, rfl⟩))
  generalize putE s root pg 0 ⟨true, r, false, f⟩ = e at *
  generalize putT s o root pg 0 ⟨true, r, false, f⟩ = s' at *
  clear hI hr ho hT h hk
  go_enter Tryz.func41, Tryz.ntmps41
  go_wp2_with fail
  refine HP.out.mono ?_
  rintro x w1 ⟨rfl, hW, hC⟩
  have HW := hid hW
  have HC := hid hC
  clear hW hC
  go_wp2
  go_ret
  exact ⟨rfl, HW.out, HC.out⟩
set_option maxHeartbeats 400000 in
theorem rlarge_at (hI : Inv s ty (-1)) (hr : ty root = some ⟨o, 3, 0⟩) (ho : 1 ≤ o ∧ o ≤ 16) (hT : IsU u w t o root false) (h : Wr u w s k) (hk : k + 200 ≤ bnd) (pg f r : Int) :
    Calls Tryz.prog 42 #[.pointer (some ⟨t, 0, none⟩), .int .i64 pg, .int .i64 f, .int .i64 r] w fun x w' => x = .returned (.int .i64 (putE s root pg 1 ⟨true, r, true, f⟩)) ∧ Wr u w' (putT s o root pg 1 ⟨true, r, true, f⟩) (k + 100) ∧ Ch u w w' := by
  have HP := hid (rput_at hI hr ho hT h hk pg 1 true r f (.inr ⟨rfl, rfl⟩))
  generalize putE s root pg 1 ⟨true, r, true, f⟩ = e at *
  generalize putT s o root pg 1 ⟨true, r, true, f⟩ = s' at *
  clear hI hr ho hT h hk
  go_enter Tryz.func42, Tryz.ntmps42
  go_wp2_with fail
  refine HP.out.mono ?_
  rintro x w1 ⟨rfl, hW, hC⟩
  have HW := hid hW
  have HC := hid hC
  clear hW hC
  go_wp2
  go_ret
  exact ⟨rfl, HW.out, HC.out⟩
set_option maxHeartbeats 400000 in
theorem rmap_dr (hT : IsU u w t o root true) (pg f r : Int) :
    Calls Tryz.prog 41 #[.pointer (some ⟨t, 0, none⟩), .int .i64 pg, .int .i64 f, .int .i64 r] w fun x w' => x = .returned (.int .i64 6) ∧ Below w.heap.size w w' := by
  have HP := hid (rput_dr hT pg 0 true false r f)
  clear hT
  go_enter Tryz.func41, Tryz.ntmps41
  go_wp2_with fail
  refine HP.out.mono ?_
  rintro x w1 ⟨rfl, hB⟩
  have HB := hid hB
  clear hB
  go_wp2
  go_ret
  exact ⟨rfl, HB.out⟩
set_option maxHeartbeats 400000 in
theorem rlarge_dr (hT : IsU u w t o root true) (pg f r : Int) :
    Calls Tryz.prog 42 #[.pointer (some ⟨t, 0, none⟩), .int .i64 pg, .int .i64 f, .int .i64 r] w fun x w' => x = .returned (.int .i64 6) ∧ Below w.heap.size w w' := by
  have HP := hid (rput_dr hT pg 1 true true r f)
  clear hT
  go_enter Tryz.func42, Tryz.ntmps42
  go_wp2_with fail
  refine HP.out.mono ?_
  rintro x w1 ⟨rfl, hB⟩
  have HB := hid hB
  clear hB
  go_wp2
  go_ret
  exact ⟨rfl, HB.out⟩
end
end Go.Proofs.YtpfmmlbakbhklaaGreatDoor
namespace Go.Proofs.YtpfmmlbakbhklaaGreatDoor
open Go.RowKit
section
variable {u : Si} {w w' : World} {t : Nat} {o root : Int} {dr : Bool} {s : Sm} {k : Nat} {ty : Int → Option Kd}
set_option maxHeartbeats 1000000 in
/-- Nothing is taken away: there is no such page, or no frame for its split. -/
theorem runmap_no (hI : Inv s ty (-1)) (hr : ty root = some ⟨o, 3, 0⟩) (ho : 1 ≤ o ∧ o ≤ 16) (hT : IsU u w t o root false) (h : Wr u w s k) (hk : k + 200 ≤ bnd) (pg : Int) (hn : unE s o root pg ≠ 0) :
    Calls Tryz.prog 43 #[.pointer (some ⟨t, 0, none⟩), .int .i64 pg] w fun r w' => r = .returned (.tuple #[.int .i64 0, .int .i64 (unE s o root pg)]) ∧ Wr u w' s (k + 100) ∧ Ch u w w' := by
  have HQ := hid (rquery_at hT h pg (fun hb => hI.way_ok hr hb) (fun hb hp => hI.lv hr hb hp))
  have HT := hid hT
  have HW := hid h
  by_cases hq : qE s root pg = 0
  · have hE : unE s o root pg = alE s o root pg := by unfold unE; rw [if_pos hq]
    rw [hE] at hn ⊢
    have HSP := hid (fun W (a : IsU u W t o root false) (b : Wr u W s k) => rsplit_at hI hr ho a b (by omega) pg (qE_btw hq) (qE_p hq))
    rw [alS_no hn] at HSP
    rw [hq] at HQ
    have hn' : (alE s o root pg != 0) = true := by simpa using hn
    generalize alE s o root pg = ae at *
    generalize qF s root pg = qf at *
    generalize qR s root pg = qr at *
    clear hI hr ho hT h hk hq hE hn
    go_enter Tryz.func43, Tryz.ntmps43
    go_wp2_with fail
    refine HQ.out.mono ?_
    rintro r w1 ⟨rfl, hB⟩
    have HB := hid hB
    have HT1 := hid (HT.out.below hB)
    have HW1 := hid (HW.out.below hB)
    clear hB
    go_wp2_with fail
    refine (HSP.out _ HT1.out HW1.out).mono ?_
    rintro r w2 ⟨rfl, hW, hC⟩
    have HW2 := hid hW
    have HC2 := hid ((Ch.of_below HB.out).trans hC)
    clear hW hC
    go_wp2
    go_ret2
    exact ⟨rfl, HW2.out.mono (by omega), HC2.out⟩
  · have hE : unE s o root pg = qE s root pg := by unfold unE; rw [if_neg hq]
    rw [hE]
    have hn' : (qE s root pg != 0) = true := by simpa using hq
    generalize qE s root pg = qe at *
    generalize qF s root pg = qf at *
    generalize qR s root pg = qr at *
    clear hI hr ho hT h hk hq hE hn
    go_enter Tryz.func43, Tryz.ntmps43
    go_wp2_with fail
    refine HQ.out.mono ?_
    rintro r w1 ⟨rfl, hB⟩
    have HB := hid hB
    have HW1 := hid (HW.out.below hB)
    clear hB
    go_wp2
    go_ret2
    exact ⟨rfl, HW1.out.mono (by omega), .of_below HB.out⟩
set_option maxRecDepth 100000 in
set_option maxHeartbeats 4000000 in
theorem runmap_go (hI : Inv s ty (-1)) (hr : ty root = some ⟨o, 3, 0⟩) (ho : 1 ≤ o ∧ o ≤ 16) (hT : IsU u w t o root false) (h : Wr u w s k) (hk : k + 200 ≤ bnd) (pg : Int) (hq : qE s root pg = 0) (ha : alE s o root pg = 0) :
    Calls Tryz.prog 43 #[.pointer (some ⟨t, 0, none⟩), .int .i64 pg] w fun r w' => r = .returned (.tuple #[.int .i64 (unF s o root pg), .int .i64 0]) ∧ Wr u w' (unS s o root pg) (k + 100) ∧ Ch u w w' := by
  obtain ⟨f2, f1, f0, A, ty1, h1, hr1⟩ := hI.al hr ho hq ha
  obtain ⟨-, eF, eS⟩ := un_al hq ha A h1 hr1
  rw [eF, eS]
  have HQ := hid (rquery_at hT h pg (fun hb => hI.way_ok hr hb) (fun hb hp => hI.lv hr hb hp))
  have HT := hid hT
  have HW := hid h
  have HK := hid hk
  have HSP := hid (fun W (a : IsU u W t o root false) (b : Wr u W s k) => rsplit_at hI hr ho a b (by omega) pg (qE_btw hq) (qE_p hq))
  rw [ha] at HSP
  rw [hq] at HQ
  have HFR := hid A.fr
  have hwy := fun W (a : IsU u W t o root false) (b : Wr u W (alS s o root pg) (k + 20)) => rway_at a b pg A.ok
  have hwf : wfr (alS s o root pg).xs pg root = [root, f2, f1, f0] := by unfold wfr; rw [A.way]; rfl
  rw [hwf] at hwy
  have HWY := hid hwy
  have hlen := A.len
  generalize alS s o root pg = s1 at *
  generalize qF s root pg = qf at *
  generalize qR s root pg = qr at *
  obtain ⟨L, hL⟩ : ∃ L : List (Int × Nat), [(root, 3), (f2, 2), (f1, 1), (f0, 0)] = L := ⟨_, rfl⟩
  obtain ⟨pa, hpa⟩ : ∃ pa, P.at' f0 pg ((0 : Nat) : Int) = pa := ⟨_, rfl⟩
  have HPA := hid (fun W => P.rplace_at f0 pg ((0 : Nat) : Int) W)
  rw [hpa] at HPA ⊢
  obtain ⟨R, hR⟩ : ∃ R, thinS pg [(f0, 0), (f1, 1), (f2, 2), (root, 3)] ⟨setW s1.xs pa 0, s1.ds⟩ = R := ⟨_, rfl⟩
  rw [hR]
  have HR0 := hid (show thinS pg ((L.take (3 + 1)).reverse) ⟨setW s1.xs pa 0, s1.ds⟩ = R from by rw [← hL]; exact hR)
  have HLN := hid (show L.length = 4 by rw [← hL]; rfl)
  have HLI := hid (show ∀ j : Nat, j < 4 → [root, f2, f1, f0][j]? = some (L.getD j (0, 0)).1 ∧ (L.getD j (0, 0)).2 = 3 - j ∧ (L.getD j (0, 0)) ∈ L by
    intro j hj
    rw [← hL]
    obtain rfl | rfl | rfl | rfl : j = 0 ∨ j = 1 ∨ j = 2 ∨ j = 3 := by omega
    all_goals exact ⟨rfl, rfl, by simp⟩)
  rw [hL] at HFR
  clear hI hr ho hT h hk hq ha A h1 hr1 eF eS hwf hlen hpa hR hL hwy
  go_enter Tryz.func43, Tryz.ntmps43
  go_wp2_with fail
  refine HQ.out.mono ?_
  rintro r w1 ⟨rfl, hB⟩
  have HB := hid hB
  have HT1 := hid (HT.out.below hB)
  have HW1 := hid (HW.out.below hB)
  clear hB HQ
  go_wp2_with fail
  refine (HSP.out _ HT1.out HW1.out).mono ?_
  rintro r w2 ⟨rfl, hW, hC⟩
  have HW2 := hid hW
  have HT2 := hid (HT1.out.ch HW1.out hC)
  have HC2 := hid ((Ch.of_below HB.out).trans hC)
  clear hW hC HSP
  go_wp2_with fail
  refine (HWY.out _ HT2.out HW2.out).mono ?_
  rintro r w3 ⟨v, rfl, hrow, hB⟩
  obtain ⟨g, cap, rfl⟩ := ownsRow_succ hrow
  have HROW := hid hrow
  have HT3 := hid (HT2.out.below hB)
  have HW3 := hid (HW2.out.below hB)
  have HC3 := hid (HC2.out.trans (.of_below hB))
  have hS : ∀ w' : World, w'.ownsRow w2.heap.size 3 1 (.slice (some ⟨g, 0, none⟩) 4 cap) 4 ([root, f2, f1, f0].map (Value.int .i64)) → IsU u w' t o root false → w'.cell? ⟨t, 0, none⟩ = some (.pointer (some ⟨u.mp, 0, none⟩)) ∧ w'.cell? ⟨g, 3, none⟩ = some (.int .i64 f0) := fun w' a b => ⟨b.cells.1, a.cellAt 3 (by decide)⟩
  have HS := hid hS
  have H80 : Hid (∀ W, Hid (Below w3.heap.size w3 W) → Calls Tryz.prog 80 #[.int .i64 f0, .int .i64 pg, .int .i64 0] W fun e w' => e = .returned (.int .i64 pa) ∧ (w'.cell? ⟨t, 0, none⟩ = some (.pointer (some ⟨u.mp, 0, none⟩)) ∧ w'.cell? ⟨g, 3, none⟩ = some (.int .i64 f0)) ∧ Hid (Below w3.heap.size w3 w')) := fun W b => by
    refine (HPA.out W).mono ?_
    rintro e w' ⟨rfl, hB⟩
    have := b.out.trans (hB.mono b.out.size)
    exact ⟨rfl, HS.out _ (own_bel HROW.out this) (HT3.out.below this), this⟩
  have H79 : Hid (∀ W, Hid (Below w3.heap.size w3 W) → Calls Tryz.prog 79 #[.pointer (some ⟨u.mp, 0, none⟩), .int .i64 pa, .int .u64 0] W fun e w' => (∃ x, e = .returned (.int .i64 x)) ∧ (w'.cell? ⟨t, 0, none⟩ = some (.pointer (some ⟨u.mp, 0, none⟩)) ∧ w'.cell? ⟨g, 3, none⟩ = some (.int .i64 f0)) ∧ Hid (Wr u w' ⟨setW s1.xs pa 0, s1.ds⟩ (k + 20 + 1) ∧ Ch u w3 w')) := fun W b => by
    refine ((HW3.out.below b.out).rstore_at (by have := HK.out; omega) pa 0 (by decide)).mono ?_
    rintro e w' ⟨hx, hW, hC⟩
    exact ⟨hx, HS.out _ (own_chR (own_bel HROW.out b.out) (HW3.out.below b.out) hC) ((HT3.out.below b.out).ch (HW3.out.below b.out) hC), hW, (Ch.of_below b.out).trans hC⟩
  have HD : Hid (Below w3.heap.size w3 w3.drew) := (Below.refl _ _).drew
  have hS0 := HS.out w3.drew (own_bel HROW.out HD.out) (HT3.out.below HD.out)
  clear hS hrow hB HWY
  go_wp2
  go_region_held3 (fun w' => w'.cell? ⟨t, 0, none⟩ = some (.pointer (some ⟨u.mp, 0, none⟩)) ∧ w'.cell? ⟨g, 3, none⟩ = some (.int .i64 f0)) (first | exact hS0 | assumption)
    (first
      | (go_at_call 80; refine (H80.out _ (by assumption)).mono ?_; rintro e5 w5 ⟨rfl, hS5, HT5⟩)
      | (go_at_call 79; refine (H79.out _ (by assumption)).mono ?_; rintro e6 w6 ⟨⟨x6, rfl⟩, hS6, HT6⟩))
  all_goals
    clear hS5 hS6 hS0
    go_wp2
    have HW6 := hid HT6.out.1
    have HC6 := hid HT6.out.2
    clear HT6 H80 H79 HPA
    go_loopw [11] (fun p wr => ∃ (i : Nat) (s' : Sm) (k' : Nat), p = .int .i64 i ∧ i ≤ 3 ∧ Wr u wr s' k' ∧ k' + i ≤ k + 30 ∧ s'.xs.length = s1.xs.length ∧ Ch u w3 wr ∧ thinS pg ((L.take (i + 1)).reverse) s' = R) (fun p _ => (intOf p).toNat)
    case atStart => exact ⟨3, _, k + 20 + 1, rfl, Nat.le_refl _, HW6.out, by omega, setW_len _ _ _, HC6.out, HR0.out⟩
    case round =>
      obtain ⟨i, s', k', rfl, hi, hWr, hkr, hlr, hCr, hRr⟩ := hrel
      have HWr := hid hWr
      have HCr := hid hCr
      have HKR := hid hkr
      have HLR := hid hlr
      have HTr := hid (HT3.out.ch HW3.out hCr)
      have hrr := own_chR HROW.out HW3.out hCr
      have HRR := hid hrr
      have HRr := hid hRr
      clear hWr hCr hkr hRr hlr
      cases i with
      | zero =>
        have HE := hid (show R = s' from by
          rw [← HRr.out, take_rev (by have := HLN.out; omega)]
          rfl)
        clear hrr
        go_wp2
        go_ret2
        exact ⟨rfl, by rw [HE.out]; exact HWr.out.mono (by have := HKR.out; omega), HC3.out.trans HCr.out⟩
      | succ j =>
        obtain ⟨l1, l2, l3⟩ := HLI.out (j + 1) (by omega)
        obtain ⟨m1, m2, m3⟩ := HLI.out j (by omega)
        have hg1 : ∀ W : World, W.ownsRow w2.heap.size 3 1 (.slice (some ⟨g, 0, none⟩) 4 cap) 4 ([root, f2, f1, f0].map (Value.int .i64)) → W.cell? ⟨g, j + 1, none⟩ = some (.int .i64 (L.getD (j + 1) (0, 0)).1) := fun W a => (a.cellAt (j + 1) (by omega)).trans (by rw [List.getElem?_map, l1]; rfl)
        have hg2 : ∀ W : World, W.ownsRow w2.heap.size 3 1 (.slice (some ⟨g, 0, none⟩) 4 cap) 4 ([root, f2, f1, f0].map (Value.int .i64)) → W.cell? ⟨g, j, none⟩ = some (.int .i64 (L.getD j (0, 0)).1) := fun W a => (a.cellAt j (by omega)).trans (by rw [List.getElem?_map, m1]; rfl)
        have HTK := hid (show thinS pg (L.getD (j + 1) (0, 0) :: L.getD j (0, 0) :: (L.take j).reverse) s' = R from by
          rw [← HRr.out, take_rev (by have := HLN.out; omega), take_rev (i := j) (by have := HLN.out; omega)])
        have HTJ := hid (take_rev (L := L) (i := j) (by have := HLN.out; omega))
        have hfr := HFR.out _ l3
        generalize L.getD (j + 1) (0, 0) = x at *
        generalize L.getD j (0, 0) = y at *
        obtain ⟨xf, xv⟩ := x
        obtain ⟨yf, yv⟩ := y
        simp only at hg1 hg2 l2 m2 hfr
        have c1 := hg1 _ hrr
        have HG1 := hid hg1
        have HG2 := hid hg2
        have HEM := hid (rempty_at HTr.out HWr.out xf ⟨hfr.1, hfr.2.1⟩ (by rw [HLR.out]; exact hfr.2.2))
        have HSY := hid (fun (g : empW s'.xs xf = true) => (show thinS pg ((L.take (j + 1)).reverse) ⟨setW s'.xs (P.at' yf pg yv) 0, O.tL s'.ds xf 5 0⟩ = R from by
          rw [← HTK.out, HTJ.out]
          show _ = (if _ then _ else _)
          rw [if_pos g]))
        have HSN := hid (fun (g : ¬ empW s'.xs xf = true) => (show R = s' from by
          rw [← HTK.out]
          show (if _ then _ else _) = _
          rw [if_neg g]))
        have hj2 : j ≤ 2 := by omega
        have ey : ((yv : Nat) : Int) = 4 - ((j : Int) + 1) := by omega
        have HPY := hid (fun W => P.rplace_at yf pg ((yv : Nat) : Int) W)
        generalize P.at' yf pg yv = ya at *
        rw [ey] at HPY
        generalize empW s'.xs xf = b at *
        have hj0 : (0 : Int) < (j : Int) + 1 := by omega
        have e2 : IntKind.i64.wrap ((j : Int) + 1 - 1) = (j : Int) := by rw [IntKind.wrap_i64]; omega
        have e3 : IntKind.i64.wrap (j : Int) = (j : Int) := by rw [IntKind.wrap_i64]; omega
        have e4 : (0 : Int) ≤ (j : Int) := by omega
        have e5 : (j : Int) < 4 := by omega
        have e6 : IntKind.i64.wrap (4 - ((j : Int) + 1)) = 4 - ((j : Int) + 1) := by rw [IntKind.wrap_i64]; omega
        have e7 : (j : Int) + 1 < 4 := by omega
        have e8 : j < 4 := by omega
        have e9 : j + 1 < 4 := by omega
        have e10 : (0 : Int) ≤ (j : Int) + 1 := by omega
        clear l1 l2 l3 m1 m2 m3 hg1 hg2 hrr hfr ey hi
        cases b
        · have HE := hid (HSN.out (by decide))
          go_wp2_with fail
          refine HEM.out.mono ?_
          rintro r w' ⟨rfl, hw'⟩
          rw [hw']
          clear hw' w'
          go_wp2
          go_ret2
          exact ⟨rfl, by rw [HE.out]; exact HWr.out.mono (by have := HKR.out; omega), HC3.out.trans HCr.out⟩
        · have HE := hid (HSY.out (by trivial))
          have hS : ∀ w' : World, w'.ownsRow w2.heap.size 3 1 (.slice (some ⟨g, 0, none⟩) 4 cap) 4 ([root, f2, f1, f0].map (Value.int .i64)) → IsU u w' t o root false → w'.cell? ⟨t, 0, none⟩ = some (.pointer (some ⟨u.mp, 0, none⟩)) ∧ w'.cell? ⟨g, j, none⟩ = some (.int .i64 yf) := fun w' a b => ⟨b.cells.1, HG2.out _ a⟩
          have HS2 := hid hS
          have H80 : Hid (∀ W, Hid (Below wr.heap.size wr W) → Calls Tryz.prog 80 #[.int .i64 yf, .int .i64 pg, .int .i64 (4 - ((j : Int) + 1))] W fun e w' => e = .returned (.int .i64 ya) ∧ (w'.cell? ⟨t, 0, none⟩ = some (.pointer (some ⟨u.mp, 0, none⟩)) ∧ w'.cell? ⟨g, j, none⟩ = some (.int .i64 yf)) ∧ Hid (Below wr.heap.size wr w')) := fun W b => by
            refine (HPY.out W).mono ?_
            rintro e w' ⟨rfl, hB⟩
            have := b.out.trans (hB.mono b.out.size)
            exact ⟨rfl, HS2.out _ (own_bel HRR.out this) (HTr.out.below this), this⟩
          have H79 : Hid (∀ W, Hid (Below wr.heap.size wr W) → Calls Tryz.prog 79 #[.pointer (some ⟨u.mp, 0, none⟩), .int .i64 ya, .int .u64 0] W fun e w' => (∃ x, e = .returned (.int .i64 x)) ∧ (w'.cell? ⟨t, 0, none⟩ = some (.pointer (some ⟨u.mp, 0, none⟩)) ∧ w'.cell? ⟨g, j, none⟩ = some (.int .i64 yf)) ∧ Hid (Wr u w' ⟨setW s'.xs ya 0, s'.ds⟩ (k' + 1) ∧ Ch u wr w')) := fun W b => by
            refine ((HWr.out.below b.out).rstore_at (by have := HK.out; have := HKR.out; omega) ya 0 (by decide)).mono ?_
            rintro e w' ⟨hx, hW, hC⟩
            exact ⟨hx, HS2.out _ (own_chR (own_bel HRR.out b.out) (HWr.out.below b.out) hC) ((HTr.out.below b.out).ch (HWr.out.below b.out) hC), hW, (Ch.of_below b.out).trans hC⟩
          have HD2 : Hid (Below wr.heap.size wr wr.drew) := (Below.refl _ _).drew
          have hS0 := HS2.out wr.drew (own_bel HRR.out HD2.out) (HTr.out.below HD2.out)
          clear hS
          go_wp2_with fail
          refine HEM.out.mono ?_
          rintro r w' ⟨rfl, hw'⟩
          rw [hw']
          clear hw' w' c1
          go_wp2
          go_region_held3 (fun w' => w'.cell? ⟨t, 0, none⟩ = some (.pointer (some ⟨u.mp, 0, none⟩)) ∧ w'.cell? ⟨g, j, none⟩ = some (.int .i64 yf)) (first | exact hS0 | assumption)
            (first
              | (go_at_call 80; refine (H80.out _ (by assumption)).mono ?_; rintro e5 w5 ⟨rfl, hS5, HT5⟩)
              | (go_at_call 79; refine (H79.out _ (by assumption)).mono ?_; rintro e7 w7 ⟨⟨x7, rfl⟩, hS7, HT7⟩))
          all_goals
            have HW7 := hid HT7.out.1
            have HC7 := hid HT7.out.2
            have HT8 := hid (HTr.out.ch HWr.out HC7.out)
            have HR7 := hid (own_chR HRR.out HWr.out HC7.out)
            clear hS5 hS7 hS0 HT7 H80 H79 HS2 HD2
            have HC := hid (O.rturn_at (HW7.out.below (Below.refl _ _).drew).pool xf 5 0)
            have hS : ∀ w', Ch u w7.drew w' → w'.cell? ⟨t, 1, none⟩ = some (.pointer (some ⟨u.pp, 0, none⟩)) ∧ w'.cell? ⟨g, j + 1, none⟩ = some (.int .i64 xf) := fun w' c =>
              ⟨((HT8.out.below (Below.refl _ _).drew).ch (HW7.out.below (Below.refl _ _).drew) c).cells.2.1, HG1.out _ (own_chR (own_bel HR7.out (Below.refl _ _).drew) (HW7.out.below (Below.refl _ _).drew) c)⟩
            have HS := hid hS
            obtain ⟨c1, c2⟩ := hS _ (.refl _ _)
            clear hS
            go_wp2
            go_region_held3 (fun w' => w'.cell? ⟨t, 1, none⟩ = some (.pointer (some ⟨u.pp, 0, none⟩)) ∧ w'.cell? ⟨g, j + 1, none⟩ = some (.int .i64 xf)) (first | exact ⟨c1, c2⟩ | assumption)
              (first | (go_at_call 82; refine HC.out.mono ?_; rintro r w8 ⟨rfl, hP2, hB2⟩; have hS2 := HS.out _ (.of_bt hB2); have HP2 := hid hP2; have HB2 := hid hB2; clear hP2 hB2))
            all_goals
              have HCa := hid ((Ch.of_below (u := u) (Below.refl w7.heap.size w7).drew).trans (.of_bt HB2.out))
              have HW8 := hid (show Wr u w8 ⟨setW s'.xs ya 0, O.tL s'.ds xf 5 0⟩ (k' + 1) from (HW7.out.below (Below.refl _ _).drew).turn HP2.out HB2.out)
              clear hS2 c1 c2 HC HS HP2 HB2
              go_wp2
              refine ⟨⟨j, _, k' + 1, rfl, by omega, HW8.out, by have := HKR.out; omega, by rw [← HLR.out]; exact setW_len _ _ _, (HCr.out.trans HC7.out).trans HCa.out, HE.out⟩, measD⟩
/-- All of Unmap. -/
theorem runmap_at (hI : Inv s ty (-1)) (hr : ty root = some ⟨o, 3, 0⟩) (ho : 1 ≤ o ∧ o ≤ 16) (hT : IsU u w t o root false) (h : Wr u w s k) (hk : k + 200 ≤ bnd) (pg : Int) :
    Calls Tryz.prog 43 #[.pointer (some ⟨t, 0, none⟩), .int .i64 pg] w fun r w' => r = .returned (.tuple #[.int .i64 (unF s o root pg), .int .i64 (unE s o root pg)]) ∧ Wr u w' (unS s o root pg) (k + 100) ∧ Ch u w w' := by
  by_cases hE : unE s o root pg = 0
  · have hq : qE s root pg = 0 := (unE_in hE).1
    have ha : alE s o root pg = 0 := by
      unfold unE at hE
      rw [if_pos hq] at hE
      exact hE
    rw [hE]
    exact runmap_go hI hr ho hT h hk pg hq ha
  · have hF : unF s o root pg = 0 := by unfold unF; rw [if_neg hE]
    have hS : unS s o root pg = s := by unfold unS; rw [if_neg hE]
    rw [hF, hS]
    exact runmap_no hI hr ho hT h hk pg hE
set_option maxHeartbeats 400000 in
theorem runmap_dr (hT : IsU u w t o root true) (pg : Int) :
    Calls Tryz.prog 43 #[.pointer (some ⟨t, 0, none⟩), .int .i64 pg] w fun r w' => r = .returned (.tuple #[.int .i64 0, .int .i64 6]) ∧ w' = w := by
  have HQ := hid (rquery_dr hT pg)
  clear hT
  go_enter Tryz.func43, Tryz.ntmps43
  go_wp2_with fail
  refine HQ.out.mono ?_
  rintro r w' ⟨rfl, hw'⟩
  rw [hw']
  clear hw' w'
  go_wp2
  go_ret2
  exact ⟨rfl, rfl⟩
end
end Go.Proofs.YtpfmmlbakbhklaaGreatDoor
namespace Go.Proofs.YtpfmmlbakbhklaaGreatDoor
open Go.RowKit
section
variable {u : Si} {w w' : World} {t : Nat} {o root : Int} {dr : Bool} {s : Sm} {k : Nat} {ty : Int → Option Kd}
set_option maxHeartbeats 400000 in
theorem rprotect_dr (hT : IsU u w t o root true) (pg r : Int) :
    Calls Tryz.prog 44 #[.pointer (some ⟨t, 0, none⟩), .int .i64 pg, .int .i64 r] w fun x w' => x = .returned (.int .i64 6) ∧ w' = w := by
  obtain ⟨-, -, -, -, c4⟩ := hT.cells
  clear hT
  go_enter Tryz.func44, Tryz.ntmps44
  go_wp2
  go_ret
  exact ⟨rfl, rfl⟩
set_option maxHeartbeats 400000 in
theorem rprotect_range (hT : IsU u w t o root false) (pg r : Int) (h : ¬ P.btw pg 0 65535 = true) :
    Calls Tryz.prog 44 #[.pointer (some ⟨t, 0, none⟩), .int .i64 pg, .int .i64 r] w fun x w' => x = .returned (.int .i64 2) ∧ w' = w := by
  obtain ⟨-, -, -, -, c4⟩ := hT.cells
  have hc : pg < 0 ∨ (¬ pg < 0 ∧ 65535 < pg) := by
    by_cases a : pg < 0
    · exact .inl a
    · by_cases b : 65535 < pg
      · exact .inr ⟨a, b⟩
      · exact absurd (P.btw_yes.2 ⟨by omega, by omega⟩) h
  clear hT h
  rcases hc with a | ⟨a, b⟩
  all_goals
    go_enter Tryz.func44, Tryz.ntmps44
    go_wp2
    go_ret
    exact ⟨rfl, rfl⟩
set_option maxHeartbeats 400000 in
theorem rprotect_right (hT : IsU u w t o root false) (pg r : Int) (h1 : P.btw pg 0 65535 = true) (h : ¬ P.btw r 1 7 = true) :
    Calls Tryz.prog 44 #[.pointer (some ⟨t, 0, none⟩), .int .i64 pg, .int .i64 r] w fun x w' => x = .returned (.int .i64 7) ∧ w' = w := by
  obtain ⟨-, -, -, -, c4⟩ := hT.cells
  obtain ⟨p0, p1⟩ := P.btw_yes.1 h1
  have a1 : ¬ pg < 0 := by omega
  have a2 : ¬ 65535 < pg := by omega
  have hc : r < 1 ∨ (¬ r < 1 ∧ 7 < r) := by
    by_cases a : r < 1
    · exact .inl a
    · by_cases b : 7 < r
      · exact .inr ⟨a, b⟩
      · exact absurd (P.btw_yes.2 ⟨by omega, by omega⟩) h
  clear hT h h1 p0 p1
  rcases hc with a | ⟨a, b⟩
  all_goals
    go_enter Tryz.func44, Tryz.ntmps44
    go_wp2
    go_ret
    exact ⟨rfl, rfl⟩
set_option maxHeartbeats 1000000 in
/-- There is no such page. -/
theorem rprotect_none (hI : Inv s ty (-1)) (hr : ty root = some ⟨o, 3, 0⟩) (hT : IsU u w t o root false) (h : Wr u w s k) (pg r : Int) (h1 : P.btw pg 0 65535 = true) (h2 : P.btw r 1 7 = true) (hq : qE s root pg ≠ 0) :
    Calls Tryz.prog 44 #[.pointer (some ⟨t, 0, none⟩), .int .i64 pg, .int .i64 r] w fun x w' => x = .returned (.int .i64 (qE s root pg)) ∧ Below w.heap.size w w' := by
  have HQ := hid (rquery_at hT h pg (fun hb => hI.way_ok hr hb) (fun hb hp => hI.lv hr hb hp))
  obtain ⟨-, -, -, -, c4⟩ := hT.cells
  obtain ⟨p0, p1⟩ := P.btw_yes.1 h1
  obtain ⟨r0, r1⟩ := P.btw_yes.1 h2
  have a1 : ¬ pg < 0 := by omega
  have a2 : ¬ 65535 < pg := by omega
  have a3 : ¬ r < 1 := by omega
  have a4 : ¬ 7 < r := by omega
  have hn' : (qE s root pg != 0) = true := by simpa using hq
  generalize qE s root pg = qe at *
  generalize qF s root pg = qf at *
  generalize qR s root pg = qr at *
  clear hI hr hT h h1 h2 hq p0 p1 r0 r1
  go_enter Tryz.func44, Tryz.ntmps44
  go_wp2_with fail
  refine HQ.out.mono ?_
  rintro x w1 ⟨rfl, hB⟩
  have HB := hid hB
  clear hB
  go_wp2
  go_ret
  exact ⟨rfl, HB.out⟩
set_option maxHeartbeats 1000000 in
/-- A large entry has these rights. -/
theorem rprotect_large (hI : Inv s ty (-1)) (hr : ty root = some ⟨o, 3, 0⟩) (hT : IsU u w t o root false) (h : Wr u w s k) (pg r : Int) (h1 : P.btw pg 0 65535 = true) (h2 : P.btw r 1 7 = true) (hq : qE s root pg = 0) (hs : qR s root pg = r) (hl : (fd s root pg).2 = 1) :
    Calls Tryz.prog 44 #[.pointer (some ⟨t, 0, none⟩), .int .i64 pg, .int .i64 r] w fun x w' => x = .returned (.int .i64 0) ∧ Below w.heap.size w w' := by
  have HQ := hid (rquery_at hT h pg (fun hb => hI.way_ok hr hb) (fun hb hp => hI.lv hr hb hp))
  have HL := hid (fun W (a : IsU u W t o root false) (b : Wr u W s k) => rlast_at a b pg (hI.way_ok hr h1))
  have HT := hid hT
  have HW := hid h
  obtain ⟨-, -, -, -, c4⟩ := hT.cells
  obtain ⟨p0, p1⟩ := P.btw_yes.1 h1
  obtain ⟨r0, r1⟩ := P.btw_yes.1 h2
  have a1 : ¬ pg < 0 := by omega
  have a2 : ¬ 65535 < pg := by omega
  have a3 : ¬ r < 1 := by omega
  have a4 : ¬ 7 < r := by omega
  rw [hq, hs] at HQ
  rw [hl] at HL
  generalize qF s root pg = qf at *
  generalize fdE s root pg = e at *
  obtain ⟨ep, er, el, ef⟩ := e
  unfold P.eV at HL
  simp only at HL
  clear hI hr hT h h1 h2 hq hs hl p0 p1 r0 r1
  go_enter Tryz.func44, Tryz.ntmps44
  go_wp2_with fail
  refine HQ.out.mono ?_
  rintro x w1 ⟨rfl, hB⟩
  have HB := hid hB
  have HT1 := hid (HT.out.below hB)
  have HW1 := hid (HW.out.below hB)
  clear hB
  go_wp2_with fail
  refine (HL.out _ HT1.out HW1.out).mono ?_
  rintro x w2 ⟨rfl, hB⟩
  have HB2 := hid (HB.out.trans (hB.mono HB.out.size))
  clear hB
  go_wp2
  go_ret
  exact ⟨rfl, HB2.out.alloc HB2.out.size _⟩
end
end Go.Proofs.YtpfmmlbakbhklaaGreatDoor
namespace Go.Proofs.YtpfmmlbakbhklaaGreatDoor
open Go.RowKit
section
variable {u : Si} {w w' : World} {t : Nat} {o root : Int} {dr : Bool} {s : Sm} {k : Nat} {ty : Int → Option Kd}
set_option maxRecDepth 100000 in
set_option maxHeartbeats 1000000 in
/-- No frame for the split. -/
theorem rprotect_few (hI : Inv s ty (-1)) (hr : ty root = some ⟨o, 3, 0⟩) (ho : 1 ≤ o ∧ o ≤ 16) (hT : IsU u w t o root false) (h : Wr u w s k) (hk : k + 200 ≤ bnd) (pg r : Int) (h1 : P.btw pg 0 65535 = true) (h2 : P.btw r 1 7 = true) (hq : qE s root pg = 0) (hs : (qR s root pg == r) = false) (hn : alE s o root pg ≠ 0) :
    Calls Tryz.prog 44 #[.pointer (some ⟨t, 0, none⟩), .int .i64 pg, .int .i64 r] w fun x w' => x = .returned (.int .i64 (alE s o root pg)) ∧ Wr u w' s (k + 100) ∧ Ch u w w' := by
  have HQ := hid (rquery_at hT h pg (fun hb => hI.way_ok hr hb) (fun hb hp => hI.lv hr hb hp))
  have HSP := hid (fun W (a : IsU u W t o root false) (b : Wr u W s k) => rsplit_at hI hr ho a b (by omega) pg h1 (qE_p hq))
  have HT := hid hT
  have HW := hid h
  have HK := hid hk
  obtain ⟨-, -, -, -, c4⟩ := hT.cells
  obtain ⟨p0, p1⟩ := P.btw_yes.1 h1
  obtain ⟨r0, r1⟩ := P.btw_yes.1 h2
  have a1 : ¬ pg < 0 := by omega
  have a2 : ¬ 65535 < pg := by omega
  have a3 : ¬ r < 1 := by omega
  have a4 : ¬ 7 < r := by omega
  rw [alS_no hn] at HSP
  rw [hq] at HQ
  have hn' : (alE s o root pg != 0) = true := by simpa using hn
  generalize alE s o root pg = ae at *
  generalize qF s root pg = qf at *
  generalize qR s root pg = qr at *
  clear hI hr ho hT h hk h1 h2 hq hn p0 p1 r0 r1
  go_enter Tryz.func44, Tryz.ntmps44
  go_wp2_with fail
  refine HQ.out.mono ?_
  rintro x w1 ⟨rfl, hB⟩
  have HB := hid hB
  have HT1 := hid (HT.out.below hB)
  have HW1 := hid (HW.out.below hB)
  clear hB HQ c4
  go_wp2_with fail
  refine (HSP.out _ HT1.out HW1.out).mono ?_
  rintro x w2 ⟨rfl, hW, hC⟩
  have HW2 := hid hW
  have HT2 := hid (HT1.out.ch HW1.out hC)
  have HC2 := hid ((Ch.of_below HB.out).trans hC)
  clear hW hC HSP
  go_wp2
  go_ret
  exact ⟨rfl, HW2.out.mono (by omega), HC2.out⟩
set_option maxRecDepth 100000 in
set_option maxHeartbeats 1000000 in
/-- Other rights are laid. -/
theorem rprotect_go (hI : Inv s ty (-1)) (hr : ty root = some ⟨o, 3, 0⟩) (ho : 1 ≤ o ∧ o ≤ 16) (hT : IsU u w t o root false) (h : Wr u w s k) (hk : k + 200 ≤ bnd) (pg r : Int) (h1 : P.btw pg 0 65535 = true) (h2 : P.btw r 1 7 = true) (hq : qE s root pg = 0) (hs : (qR s root pg == r) = false) (ha : alE s o root pg = 0) :
    Calls Tryz.prog 44 #[.pointer (some ⟨t, 0, none⟩), .int .i64 pg, .int .i64 r] w fun x w' => x = .returned (.int .i64 0) ∧ Wr u w' (prS s o root pg r) (k + 100) ∧ Ch u w w' := by
  obtain ⟨f2, f1, f0, A, ty1, i1, hr1⟩ := hI.al hr ho hq ha
  have hwy := fun W (a : IsU u W t o root false) (b : Wr u W (alS s o root pg) (k + 20)) => rway_at a b pg A.ok
  have hwf : wfr (alS s o root pg).xs pg root = [root, f2, f1, f0] := by unfold wfr; rw [A.way]; rfl
  rw [hwf] at hwy
  have HWY := hid hwy
  obtain ⟨pa, hpa⟩ : ∃ pa, P.at' f0 pg ((0 : Nat) : Int) = pa := ⟨_, rfl⟩
  have HPA := hid (fun W => P.rplace_at f0 pg ((0 : Nat) : Int) W)
  rw [hpa] at HPA
  have hne : (fdE s root pg).r ≠ r := by
    have : qR s root pg = (fdE s root pg).r := if_pos hq
    rw [← this]
    simpa using hs
  have eS := (pr_al h1 h2 hq ha A).2 hne
  rw [hpa] at eS
  rw [eS]
  have HQ := hid (rquery_at hT h pg (fun hb => hI.way_ok hr hb) (fun hb hp => hI.lv hr hb hp))
  have HSP := hid (fun W (a : IsU u W t o root false) (b : Wr u W s k) => rsplit_at hI hr ho a b (by omega) pg h1 (qE_p hq))
  have HT := hid hT
  have HW := hid h
  have HK := hid hk
  obtain ⟨-, -, -, -, c4⟩ := hT.cells
  obtain ⟨p0, p1⟩ := P.btw_yes.1 h1
  obtain ⟨r0, r1⟩ := P.btw_yes.1 h2
  have a1 : ¬ pg < 0 := by omega
  have a2 : ¬ 65535 < pg := by omega
  have a3 : ¬ r < 1 := by omega
  have a4 : ¬ 7 < r := by omega
  rw [ha] at HSP
  rw [hq] at HQ
  generalize alS s o root pg = s1 at *
  generalize qF s root pg = qf at *
  generalize qR s root pg = qr at *
  clear hI hr ho hT h hk h1 h2 hq ha p0 p1 r0 r1 A i1 hr1 hwy hwf hpa hne eS
  go_enter Tryz.func44, Tryz.ntmps44
  go_wp2_with fail
  refine HQ.out.mono ?_
  rintro x w1 ⟨rfl, hB⟩
  have HB := hid hB
  have HT1 := hid (HT.out.below hB)
  have HW1 := hid (HW.out.below hB)
  clear hB HQ c4
  go_wp2_with fail
  refine (HSP.out _ HT1.out HW1.out).mono ?_
  rintro x w2 ⟨rfl, hW, hC⟩
  have HW2 := hid hW
  have HT2 := hid (HT1.out.ch HW1.out hC)
  have HC2 := hid ((Ch.of_below HB.out).trans hC)
  clear hW hC HSP
  go_wp2_with fail
  refine (HWY.out _ HT2.out HW2.out).mono ?_
  rintro x w3 ⟨v, rfl, hrow, hB⟩
  obtain ⟨g, cap, rfl⟩ := ownsRow_succ hrow
  have hg : w3.cell? ⟨g, 3, none⟩ = some (.int .i64 f0) := hrow.cellAt 3 (show 3 < 4 * 1 by decide)
  have HT3 := hid (HT2.out.below hB)
  have HW3 := hid (HW2.out.below hB)
  have HC3 := hid (HC2.out.trans (.of_below hB))
  clear hrow hB HWY
  go_wp2_with fail
  refine (HPA.out _).mono ?_
  rintro x w4 ⟨rfl, hB⟩
  have HT4 := hid (HT3.out.below hB)
  have HW4 := hid (HW3.out.below hB)
  have HC4 := hid (HC3.out.trans (.of_below hB))
  clear hB hg
  go_wp2_with fail
  refine (rlay_at HT4.out HW4.out (by have := HK.out; omega) pa ⟨true, r, false, qf⟩).mono ?_
  rintro x w5 ⟨rfl, hW, hC⟩
  have HW5 := hid hW
  have HC5 := hid (HC4.out.trans hC)
  clear hW hC
  go_wp2
  go_ret
  exact ⟨rfl, HW5.out.mono (by omega), HC5.out⟩
set_option maxRecDepth 100000 in
set_option maxHeartbeats 1000000 in
/-- The same rights are laid again. -/
theorem rprotect_same (hI : Inv s ty (-1)) (hr : ty root = some ⟨o, 3, 0⟩) (ho : 1 ≤ o ∧ o ≤ 16) (hT : IsU u w t o root false) (h : Wr u w s k) (hk : k + 200 ≤ bnd) (pg r : Int) (h1 : P.btw pg 0 65535 = true) (h2 : P.btw r 1 7 = true) (hq : qE s root pg = 0) (hs : qR s root pg = r) (hl : (fd s root pg).2 = 0) :
    Calls Tryz.prog 44 #[.pointer (some ⟨t, 0, none⟩), .int .i64 pg, .int .i64 r] w fun x w' => x = .returned (.int .i64 0) ∧ Wr u w' s (k + 100) ∧ Ch u w w' := by
  have hnl : (fdE s root pg).l = false := by
    rcases hI.fd_lf hr h1 (qE_p hq) with a | a
    · exact a.2
    · omega
  have ha : alE s o root pg = 0 := by unfold alE; rw [hnl, if_neg (by decide)]
  have hal : alS s o root pg = s := by unfold alS; rw [hnl, if_neg (by decide)]
  obtain ⟨f2, f1, f0, A, ty1, i1, hr1⟩ := hI.al hr ho hq ha
  have hwy := fun W (a : IsU u W t o root false) (b : Wr u W (alS s o root pg) (k + 20)) => rway_at a b pg A.ok
  have hwf : wfr (alS s o root pg).xs pg root = [root, f2, f1, f0] := by unfold wfr; rw [A.way]; rfl
  rw [hwf] at hwy
  have HWY := hid hwy
  obtain ⟨pa, hpa⟩ : ∃ pa, P.at' f0 pg ((0 : Nat) : Int) = pa := ⟨_, rfl⟩
  have HPA := hid (fun W => P.rplace_at f0 pg ((0 : Nat) : Int) W)
  rw [hpa] at HPA
  have hin := A.ok (f0, 0) (by rw [A.way]; simp)
  have hwd := A.wd
  have hee := A.e
  rw [hal] at hwd hee hin HWY
  simp only at hin
  rw [hpa] at hwd hin
  rw [hee] at hwd
  have hrr : (fdE s root pg).r = r := by
    have : qR s root pg = (fdE s root pg).r := if_pos hq
    rw [← this]
    exact hs
  rw [hrr] at hwd
  have HFIN := hid (show lay s pa ⟨true, r, false, qF s root pg⟩ = s by
    unfold lay
    rw [← hwd, setW_self hin])
  have HL := hid (fun W (a : IsU u W t o root false) (b : Wr u W s k) => rlast_at a b pg (hI.way_ok hr h1))
  rw [hl] at HL
  have HQ := hid (rquery_at hT h pg (fun hb => hI.way_ok hr hb) (fun hb hp => hI.lv hr hb hp))
  have HSP := hid (fun W (a : IsU u W t o root false) (b : Wr u W s k) => rsplit_at hI hr ho a b (by omega) pg h1 (qE_p hq))
  have HT := hid hT
  have HW := hid h
  have HK := hid hk
  obtain ⟨-, -, -, -, c4⟩ := hT.cells
  obtain ⟨p0, p1⟩ := P.btw_yes.1 h1
  obtain ⟨r0, r1⟩ := P.btw_yes.1 h2
  have a1 : ¬ pg < 0 := by omega
  have a2 : ¬ 65535 < pg := by omega
  have a3 : ¬ r < 1 := by omega
  have a4 : ¬ 7 < r := by omega
  rw [ha, hal] at HSP
  rw [hq, hs] at HQ
  generalize qF s root pg = qf at *
  clear hrr hee hnl
  generalize fdE s root pg = e at *
  obtain ⟨ep, er, el, ef⟩ := e
  unfold P.eV at HL
  simp only at HL
  clear hI hr ho hT h hk h1 h2 hq ha p0 p1 r0 r1 A i1 hr1 hwy hwf hpa hal hin hwd hl hs
  go_enter Tryz.func44, Tryz.ntmps44
  go_wp2_with fail
  refine HQ.out.mono ?_
  rintro x w1 ⟨rfl, hB⟩
  have HB := hid hB
  have HT1 := hid (HT.out.below hB)
  have HW1 := hid (HW.out.below hB)
  clear hB HQ c4
  go_wp2_with fail
  refine (HL.out _ HT1.out HW1.out).mono ?_
  rintro x w0 ⟨rfl, hB⟩
  have hBa := hB.alloc hB.size (.cells #[.bool ep, .int .i64 er, .bool el, .int .i64 ef] 102)
  have HB := hid (HB.out.trans (hBa.mono HB.out.size))
  have HT1 := hid (HT1.out.below hBa)
  have HW1 := hid (HW1.out.below hBa)
  clear hB hBa
  go_wp2_with fail
  refine (HSP.out _ HT1.out HW1.out).mono ?_
  rintro x w2 ⟨rfl, hW, hC⟩
  have HW2 := hid hW
  have HT2 := hid (HT1.out.ch HW1.out hC)
  have HC2 := hid ((Ch.of_below HB.out).trans hC)
  clear hW hC HSP
  go_wp2_with fail
  refine (HWY.out _ HT2.out HW2.out).mono ?_
  rintro x w3 ⟨v, rfl, hrow, hB⟩
  obtain ⟨g, cap, rfl⟩ := ownsRow_succ hrow
  have hg : w3.cell? ⟨g, 3, none⟩ = some (.int .i64 f0) := hrow.cellAt 3 (show 3 < 4 * 1 by decide)
  have HT3 := hid (HT2.out.below hB)
  have HW3 := hid (HW2.out.below hB)
  have HC3 := hid (HC2.out.trans (.of_below hB))
  clear hrow hB HWY
  go_wp2_with fail
  refine (HPA.out _).mono ?_
  rintro x w4 ⟨rfl, hB⟩
  have HT4 := hid (HT3.out.below hB)
  have HW4 := hid (HW3.out.below hB)
  have HC4 := hid (HC3.out.trans (.of_below hB))
  clear hB hg
  go_wp2_with fail
  refine (rlay_at HT4.out HW4.out (by have := HK.out; omega) pa ⟨true, r, false, qf⟩).mono ?_
  rintro x w5 ⟨rfl, hW, hC⟩
  have HW5 := hid hW
  have HC5 := hid (HC4.out.trans hC)
  clear hW hC
  go_wp2
  go_ret
  exact ⟨rfl, by have := HW5.out; rw [HFIN.out] at this; exact this.mono (by omega), HC5.out⟩
/-- All of Protect. -/
theorem rprotect_at (hI : Inv s ty (-1)) (hr : ty root = some ⟨o, 3, 0⟩) (ho : 1 ≤ o ∧ o ≤ 16) (hT : IsU u w t o root false) (h : Wr u w s k) (hk : k + 200 ≤ bnd) (pg r : Int) :
    Calls Tryz.prog 44 #[.pointer (some ⟨t, 0, none⟩), .int .i64 pg, .int .i64 r] w fun x w' => x = .returned (.int .i64 (prE s o root pg r)) ∧ Wr u w' (prS s o root pg r) (k + 100) ∧ Ch u w w' := by
  have hz : ∀ c, prE s o root pg r = c → c ≠ 0 → prS s o root pg r = s := fun c e hc => by unfold prS; rw [e, if_neg hc]
  by_cases h1 : P.btw pg 0 65535 = true
  · by_cases h2 : P.btw r 1 7 = true
    · by_cases hq : qE s root pg = 0
      · have hR : qR s root pg = (fdE s root pg).r := if_pos hq
        by_cases hs : qR s root pg = r
        · have hE : prE s o root pg r = 0 := by
            unfold prE
            rw [h1, if_neg (fun e => Bool.noConfusion e), h2, if_neg (fun e => Bool.noConfusion e), if_pos hq, if_pos (hR.symm.trans hs)]
          have hS : prS s o root pg r = s := by unfold prS; rw [if_pos hE, if_pos (hR.symm.trans hs)]
          rw [hE, hS]
          have hlv := hI.lv hr h1 (qE_p hq)
          by_cases hl : (fd s root pg).2 = 1
          · refine (rprotect_large hI hr hT h pg r h1 h2 hq hs hl).mono ?_
            rintro x w' ⟨rfl, hB⟩
            exact ⟨rfl, (h.below hB).mono (by omega), .of_below hB⟩
          · exact rprotect_same hI hr ho hT h hk pg r h1 h2 hq hs (by omega)
        · have hs' : (qR s root pg == r) = false := by simpa using hs
          have hE : prE s o root pg r = alE s o root pg := by
            unfold prE
            rw [h1, if_neg (fun e => Bool.noConfusion e), h2, if_neg (fun e => Bool.noConfusion e), if_pos hq, if_neg (fun e => hs (hR.trans e))]
          by_cases ha : alE s o root pg = 0
          · rw [hE, ha]
            exact rprotect_go hI hr ho hT h hk pg r h1 h2 hq hs' ha
          · rw [hz _ hE ha, hE]
            exact rprotect_few hI hr ho hT h hk pg r h1 h2 hq hs' ha
      · have hE : prE s o root pg r = qE s root pg := by
          unfold prE
          rw [h1, if_neg (fun e => Bool.noConfusion e), h2, if_neg (fun e => Bool.noConfusion e), if_neg hq]
        rw [hz _ hE hq, hE]
        refine (rprotect_none hI hr hT h pg r h1 h2 hq).mono ?_
        rintro x w' ⟨rfl, hB⟩
        exact ⟨rfl, (h.below hB).mono (by omega), .of_below hB⟩
    · have h2' : P.btw r 1 7 = false := by simpa using h2
      have hE : prE s o root pg r = 7 := by
        unfold prE
        rw [h1, if_neg (fun e => Bool.noConfusion e), h2', if_pos rfl]
      rw [hz _ hE (by decide), hE]
      refine (rprotect_right hT pg r h1 h2).mono ?_
      rintro x w' ⟨rfl, rfl⟩
      exact ⟨rfl, h.mono (by omega), .refl _ _⟩
  · have h1' : P.btw pg 0 65535 = false := by simpa using h1
    have hE : prE s o root pg r = 2 := by
      unfold prE
      rw [h1', if_pos rfl]
    rw [hz _ hE (by decide), hE]
    refine (rprotect_range hT pg r h1).mono ?_
    rintro x w' ⟨rfl, rfl⟩
    exact ⟨rfl, h.mono (by omega), .refl _ _⟩
end
end Go.Proofs.YtpfmmlbakbhklaaGreatDoor
