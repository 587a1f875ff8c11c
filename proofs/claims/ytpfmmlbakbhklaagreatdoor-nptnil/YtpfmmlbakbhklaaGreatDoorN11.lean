/- What putFault returns, for every page, level and entry. Conditions: the words and frames lie in memory; the tables are live. -/
import Derived.Test.YtpfmmlbakbhklaaGreatDoorN10
namespace Go.Proofs.YtpfmmlbakbhklaaGreatDoor
open Go.RowKit
theorem count_nn (L : List O.Ds) (k : Int) : 0 ≤ ((O.cK L k : Nat) : Int) := by omega
section
variable {u : Si} {w : World} {t : Nat} {o root : Int} {s : Sm} {k : Nat}
def fdl (s : Sm) (root pg : Int) (lo : Nat) : P.En := en s.xs pg (endF s.xs pg lo 3 root).1 (endF s.xs pg lo 3 root).2
theorem tend_lo (hT : IsT u w t 1 o root) (h : Wo u w s k) (pg : Int) (lo : Nat) (hlo : lo ≤ 3) :
    Calls Tryz.prog 84 #[.pointer (some ⟨t, 0, none⟩), .int .i64 pg, .int .i64 lo] w fun e w' => e = .returned (.agg #[.int .i64 (endF s.xs pg lo 3 root).1, .int .i64 ((endF s.xs pg lo 3 root).2 : Nat), .int .i64 (P.at' (endF s.xs pg lo 3 root).1 pg (endF s.xs pg lo 3 root).2), .bool (fdl s root pg lo).p, .int .i64 (fdl s root pg lo).r, .bool (fdl s root pg lo).l, .int .i64 (fdl s root pg lo).f]) ∧ Below w.heap.size w w' :=
  tend_at hT h pg lo hlo
set_option maxHeartbeats 2000000 in
theorem pf0 (hT : IsT u w t 1 o root) (pg : Int) (lo : Nat) (xp : Bool) (xr : Int) (xl : Bool) (xf : Int) (h0 : P.btw pg 0 65535 = false) :
    Calls Tryz.prog 95 #[.pointer (some ⟨t, 0, none⟩), .int .i64 pg, .int .i64 lo, .agg #[.bool xp, .int .i64 xr, .bool xl, .int .i64 xf]] w fun r w' => r = .returned (.int .i64 2) ∧ Below w.heap.size w w' := by
  have hB := below_alloc w (.cells #[.bool xp, .int .i64 xr, .bool xl, .int .i64 xf] 95)
  have hN := heap_alloc_new w (.cells #[.bool xp, .int .i64 xr, .bool xl, .int .i64 xf] 95)
  have HF := hid (fault_at (hT.below hB) pg)
  have HB := hid hB
  have HN := hid hN
  rw [ftE_live, h0] at HF
  rw [if_neg (by decide)] at HF
  clear hT h0 hB hN
  go_enter Tryz.func95, Tryz.ntmps95
  go_wp2_with fail
  refine HF.out.mono ?_
  rintro r w1 ⟨rfl, rfl⟩
  go_wp2
  go_ret
  exact ⟨rfl, HB.out⟩
set_option maxHeartbeats 2000000 in
theorem pf1 (hT : IsT u w t 1 o root) (h : Wo u w s k) (pg : Int) (lo : Nat) (hlo : lo ≤ 3) (xp : Bool) (xr : Int) (xl : Bool) (xf : Int) (h0 : P.btw pg 0 65535 = true) (h1 : P.btw xf 0 4095 = false) :
    Calls Tryz.prog 95 #[.pointer (some ⟨t, 0, none⟩), .int .i64 pg, .int .i64 lo, .agg #[.bool xp, .int .i64 xr, .bool xl, .int .i64 xf]] w fun r w' => r = .returned (.int .i64 2) ∧ Below w.heap.size w w' := by
  have hB := below_alloc w (.cells #[.bool xp, .int .i64 xr, .bool xl, .int .i64 xf] 95)
  have hN := heap_alloc_new w (.cells #[.bool xp, .int .i64 xr, .bool xl, .int .i64 xf] 95)
  have HF := hid (fault_at (hT.below hB) pg)
  have HB := hid hB
  have HN := hid hN
  rw [ftE_live, h0] at HF
  rw [if_pos rfl] at HF
  have HE := hid (tend_lo (hT.below hB) (h.below hB) pg lo hlo)
  have HSP := hid (fun W => P.span_at lo W)
  have HFR := hid (fun W => frame_at xf W)
  rw [h1] at HFR
  have hs1 : 1 ≤ P.sp lo ∧ P.sp lo ≤ 4096 := by
    obtain h | h | h | h : (lo : Int) = 0 ∨ (lo : Int) = 1 ∨ (lo : Int) = 2 ∨ (lo : Int) = 3 := by omega
    all_goals (rw [h]; decide)
  obtain ⟨p0, p1⟩ := P.btw_yes.1 h0
  obtain ⟨sp1, sp2⟩ := hs1
  generalize P.sp lo = sv at *
  generalize P.at' (endF s.xs pg lo 3 root).1 pg (endF s.xs pg lo 3 root).2 = aa at *
  generalize (endF s.xs pg lo 3 root).1 = fr at *
  generalize (endF s.xs pg lo 3 root).2 = v at *
  generalize fdl s root pg lo = e at *
  obtain ⟨ep, er, el, ef⟩ := e
  simp only at HE
  clear hT h h0 h1 hB hN hlo
  go_enter Tryz.func95, Tryz.ntmps95
  go_wp2_with fail
  refine HF.out.mono ?_
  rintro r w1 ⟨rfl, rfl⟩
  go_wp2_with fail
  refine HE.out.mono ?_
  rintro r w2 ⟨rfl, hB2⟩
  have HB2 := hid (HB.out.trans (hB2.mono HB.out.size))
  have HN2 := hid (P.stay hB2 HN.out)
  clear hB2
  go_wp2_with fail
  refine (HSP.out _).mono ?_
  rintro r w3 ⟨rfl, hw3⟩
  rw [hw3]
  clear hw3 w3
  have HB3 := hid (HB2.out.alloc HB2.out.size (.cells #[.int .i64 fr, .int .i64 (v : Nat), .int .i64 aa, .bool ep, .int .i64 er, .bool el, .int .i64 ef] 97))
  obtain ⟨c0, c1, c2, c3⟩ := P.four (P.hkeep HN2.out (.cells #[.int .i64 fr, .int .i64 (v : Nat), .int .i64 aa, .bool ep, .int .i64 er, .bool el, .int .i64 ef] 97))
  go_wp2_with fail
  refine (HFR.out _).mono ?_
  rintro r w3 ⟨rfl, hw3⟩
  rw [hw3]
  clear hw3 w3
  go_wp2
  go_ret
  exact ⟨rfl, HB3.out⟩
set_option maxHeartbeats 2000000 in
theorem pf2 (hT : IsT u w t 1 o root) (h : Wo u w s k) (pg : Int) (lo : Nat) (hlo : lo ≤ 3) (xp : Bool) (xr : Int) (xl : Bool) (xf : Int) (h0 : P.btw pg 0 65535 = true) (h1 : P.btw xf 0 4095 = true) (h2 : P.btw xr 1 7 = false) :
    Calls Tryz.prog 95 #[.pointer (some ⟨t, 0, none⟩), .int .i64 pg, .int .i64 lo, .agg #[.bool xp, .int .i64 xr, .bool xl, .int .i64 xf]] w fun r w' => r = .returned (.int .i64 7) ∧ Below w.heap.size w w' := by
  have hB := below_alloc w (.cells #[.bool xp, .int .i64 xr, .bool xl, .int .i64 xf] 95)
  have hN := heap_alloc_new w (.cells #[.bool xp, .int .i64 xr, .bool xl, .int .i64 xf] 95)
  have HF := hid (fault_at (hT.below hB) pg)
  have HB := hid hB
  have HN := hid hN
  rw [ftE_live, h0] at HF
  rw [if_pos rfl] at HF
  have HE := hid (tend_lo (hT.below hB) (h.below hB) pg lo hlo)
  have HSP := hid (fun W => P.span_at lo W)
  have HFR := hid (fun W => frame_at xf W)
  have HRI := hid (fun W => rights_at xr W)
  rw [h1] at HFR
  rw [h2] at HRI
  have hs1 : 1 ≤ P.sp lo ∧ P.sp lo ≤ 4096 := by
    obtain h | h | h | h : (lo : Int) = 0 ∨ (lo : Int) = 1 ∨ (lo : Int) = 2 ∨ (lo : Int) = 3 := by omega
    all_goals (rw [h]; decide)
  obtain ⟨p0, p1⟩ := P.btw_yes.1 h0
  obtain ⟨f0, f1⟩ := P.btw_yes.1 h1
  obtain ⟨sp1, sp2⟩ := hs1
  generalize P.sp lo = sv at *
  generalize P.at' (endF s.xs pg lo 3 root).1 pg (endF s.xs pg lo 3 root).2 = aa at *
  generalize (endF s.xs pg lo 3 root).1 = fr at *
  generalize (endF s.xs pg lo 3 root).2 = v at *
  generalize fdl s root pg lo = e at *
  obtain ⟨ep, er, el, ef⟩ := e
  simp only at HE
  clear hT h h0 h1 h2 hB hN hlo
  go_enter Tryz.func95, Tryz.ntmps95
  go_wp2_with fail
  refine HF.out.mono ?_
  rintro r w1 ⟨rfl, rfl⟩
  go_wp2_with fail
  refine HE.out.mono ?_
  rintro r w2 ⟨rfl, hB2⟩
  have HB2 := hid (HB.out.trans (hB2.mono HB.out.size))
  have HN2 := hid (P.stay hB2 HN.out)
  clear hB2
  go_wp2_with fail
  refine (HSP.out _).mono ?_
  rintro r w3 ⟨rfl, hw3⟩
  rw [hw3]
  clear hw3 w3
  have HB3 := hid (HB2.out.alloc HB2.out.size (.cells #[.int .i64 fr, .int .i64 (v : Nat), .int .i64 aa, .bool ep, .int .i64 er, .bool el, .int .i64 ef] 97))
  obtain ⟨c0, c1, c2, c3⟩ := P.four (P.hkeep HN2.out (.cells #[.int .i64 fr, .int .i64 (v : Nat), .int .i64 aa, .bool ep, .int .i64 er, .bool el, .int .i64 ef] 97))
  go_wp2_with fail
  refine (HFR.out _).mono ?_
  rintro r w3 ⟨rfl, hw3⟩
  rw [hw3]
  clear hw3 w3
  go_wp2_with fail
  refine (HRI.out _).mono ?_
  rintro r w3 ⟨rfl, hw3⟩
  rw [hw3]
  clear hw3 w3
  go_wp2
  go_ret
  exact ⟨rfl, HB3.out⟩
set_option maxHeartbeats 2000000 in
theorem pf3 (hT : IsT u w t 1 o root) (h : Wo u w s k) (pg : Int) (lo : Nat) (hlo : lo ≤ 3) (xp : Bool) (xr : Int) (xl : Bool) (xf : Int) (h0 : P.btw pg 0 65535 = true) (h1 : P.btw xf 0 4095 = true) (h2 : P.btw xr 1 7 = true) (h3 : (pg % P.sp lo != 0 || xf % P.sp lo != 0) = true) :
    Calls Tryz.prog 95 #[.pointer (some ⟨t, 0, none⟩), .int .i64 pg, .int .i64 lo, .agg #[.bool xp, .int .i64 xr, .bool xl, .int .i64 xf]] w fun r w' => r = .returned (.int .i64 8) ∧ Below w.heap.size w w' := by
  have hB := below_alloc w (.cells #[.bool xp, .int .i64 xr, .bool xl, .int .i64 xf] 95)
  have hN := heap_alloc_new w (.cells #[.bool xp, .int .i64 xr, .bool xl, .int .i64 xf] 95)
  have HF := hid (fault_at (hT.below hB) pg)
  have HB := hid hB
  have HN := hid hN
  rw [ftE_live, h0] at HF
  rw [if_pos rfl] at HF
  have HE := hid (tend_lo (hT.below hB) (h.below hB) pg lo hlo)
  have HSP := hid (fun W => P.span_at lo W)
  have HFR := hid (fun W => frame_at xf W)
  have HRI := hid (fun W => rights_at xr W)
  rw [h1] at HFR
  rw [h2] at HRI
  have hs1 : 1 ≤ P.sp lo ∧ P.sp lo ≤ 4096 := by
    obtain h | h | h | h : (lo : Int) = 0 ∨ (lo : Int) = 1 ∨ (lo : Int) = 2 ∨ (lo : Int) = 3 := by omega
    all_goals (rw [h]; decide)
  obtain ⟨p0, p1⟩ := P.btw_yes.1 h0
  obtain ⟨f0, f1⟩ := P.btw_yes.1 h1
  obtain ⟨sp1, sp2⟩ := hs1
  generalize P.sp lo = sv at *
  have g3 : pg % sv ≠ 0 ∨ xf % sv ≠ 0 := by simpa using h3
  generalize P.at' (endF s.xs pg lo 3 root).1 pg (endF s.xs pg lo 3 root).2 = aa at *
  generalize (endF s.xs pg lo 3 root).1 = fr at *
  generalize (endF s.xs pg lo 3 root).2 = v at *
  generalize fdl s root pg lo = e at *
  obtain ⟨ep, er, el, ef⟩ := e
  simp only at HE
  clear hT h h0 h1 h2 h3 hB hN hlo
  go_enter Tryz.func95, Tryz.ntmps95
  go_wp2_with fail
  refine HF.out.mono ?_
  rintro r w1 ⟨rfl, rfl⟩
  go_wp2_with fail
  refine HE.out.mono ?_
  rintro r w2 ⟨rfl, hB2⟩
  have HB2 := hid (HB.out.trans (hB2.mono HB.out.size))
  have HN2 := hid (P.stay hB2 HN.out)
  clear hB2
  go_wp2_with fail
  refine (HSP.out _).mono ?_
  rintro r w3 ⟨rfl, hw3⟩
  rw [hw3]
  clear hw3 w3
  have HB3 := hid (HB2.out.alloc HB2.out.size (.cells #[.int .i64 fr, .int .i64 (v : Nat), .int .i64 aa, .bool ep, .int .i64 er, .bool el, .int .i64 ef] 97))
  obtain ⟨c0, c1, c2, c3⟩ := P.four (P.hkeep HN2.out (.cells #[.int .i64 fr, .int .i64 (v : Nat), .int .i64 aa, .bool ep, .int .i64 er, .bool el, .int .i64 ef] 97))
  go_wp2_with fail
  refine (HFR.out _).mono ?_
  rintro r w3 ⟨rfl, hw3⟩
  rw [hw3]
  clear hw3 w3
  go_wp2_with fail
  refine (HRI.out _).mono ?_
  rintro r w3 ⟨rfl, hw3⟩
  rw [hw3]
  clear hw3 w3
  by_cases g4 : pg % sv = 0
  · have g5 : (xf % sv == 0) = false := by
      rcases g3 with g | g
      · exact absurd g4 g
      · simpa using g
    clear g3
    go_wp2
    go_ret
    exact ⟨rfl, HB3.out⟩
  · have g5 : (pg % sv == 0) = false := by simpa using g4
    clear g3 g4
    go_wp2
    go_ret
    exact ⟨rfl, HB3.out⟩
set_option maxHeartbeats 2000000 in
theorem pf4 (hT : IsT u w t 1 o root) (h : Wo u w s k) (pg : Int) (lo : Nat) (hlo : lo ≤ 3) (xp : Bool) (xr : Int) (xl : Bool) (xf : Int) (h0 : P.btw pg 0 65535 = true) (h1 : P.btw xf 0 4095 = true) (h2 : P.btw xr 1 7 = true) (h3 : (pg % P.sp lo != 0 || xf % P.sp lo != 0) = false) (h4 : (fdl s root pg lo).p = true) :
    Calls Tryz.prog 95 #[.pointer (some ⟨t, 0, none⟩), .int .i64 pg, .int .i64 lo, .agg #[.bool xp, .int .i64 xr, .bool xl, .int .i64 xf]] w fun r w' => r = .returned (.int .i64 5) ∧ Below w.heap.size w w' := by
  have hB := below_alloc w (.cells #[.bool xp, .int .i64 xr, .bool xl, .int .i64 xf] 95)
  have hN := heap_alloc_new w (.cells #[.bool xp, .int .i64 xr, .bool xl, .int .i64 xf] 95)
  have HF := hid (fault_at (hT.below hB) pg)
  have HB := hid hB
  have HN := hid hN
  rw [ftE_live, h0] at HF
  rw [if_pos rfl] at HF
  have HE := hid (tend_lo (hT.below hB) (h.below hB) pg lo hlo)
  have HSP := hid (fun W => P.span_at lo W)
  have HFR := hid (fun W => frame_at xf W)
  have HRI := hid (fun W => rights_at xr W)
  rw [h1] at HFR
  rw [h2] at HRI
  have hs1 : 1 ≤ P.sp lo ∧ P.sp lo ≤ 4096 := by
    obtain h | h | h | h : (lo : Int) = 0 ∨ (lo : Int) = 1 ∨ (lo : Int) = 2 ∨ (lo : Int) = 3 := by omega
    all_goals (rw [h]; decide)
  obtain ⟨p0, p1⟩ := P.btw_yes.1 h0
  obtain ⟨f0, f1⟩ := P.btw_yes.1 h1
  have hp4 : (fdl s root pg lo).p = true := h4
  obtain ⟨sp1, sp2⟩ := hs1
  generalize P.sp lo = sv at *
  have g3 : pg % sv = 0 ∧ xf % sv = 0 := by simpa using h3
  obtain ⟨g30, g31⟩ := g3
  generalize P.at' (endF s.xs pg lo 3 root).1 pg (endF s.xs pg lo 3 root).2 = aa at *
  generalize (endF s.xs pg lo 3 root).1 = fr at *
  generalize (endF s.xs pg lo 3 root).2 = v at *
  generalize fdl s root pg lo = e at *
  obtain ⟨ep, er, el, ef⟩ := e
  simp only at HE hp4
  subst hp4
  clear hT h h0 h1 h2 h3 h4 hB hN hlo
  go_enter Tryz.func95, Tryz.ntmps95
  go_wp2_with fail
  refine HF.out.mono ?_
  rintro r w1 ⟨rfl, rfl⟩
  go_wp2_with fail
  refine HE.out.mono ?_
  rintro r w2 ⟨rfl, hB2⟩
  have HB2 := hid (HB.out.trans (hB2.mono HB.out.size))
  have HN2 := hid (P.stay hB2 HN.out)
  clear hB2
  go_wp2_with fail
  refine (HSP.out _).mono ?_
  rintro r w3 ⟨rfl, hw3⟩
  rw [hw3]
  clear hw3 w3
  have HB3 := hid (HB2.out.alloc HB2.out.size (.cells #[.int .i64 fr, .int .i64 (v : Nat), .int .i64 aa, .bool true, .int .i64 er, .bool el, .int .i64 ef] 97))
  obtain ⟨c0, c1, c2, c3⟩ := P.four (P.hkeep HN2.out (.cells #[.int .i64 fr, .int .i64 (v : Nat), .int .i64 aa, .bool true, .int .i64 er, .bool el, .int .i64 ef] 97))
  go_wp2_with fail
  refine (HFR.out _).mono ?_
  rintro r w3 ⟨rfl, hw3⟩
  rw [hw3]
  clear hw3 w3
  go_wp2_with fail
  refine (HRI.out _).mono ?_
  rintro r w3 ⟨rfl, hw3⟩
  rw [hw3]
  clear hw3 w3
  go_wp2
  go_ret
  exact ⟨rfl, HB3.out⟩
set_option maxHeartbeats 2000000 in
theorem pf5 (hT : IsT u w t 1 o root) (h : Wo u w s k) (pg : Int) (lo : Nat) (hlo : lo ≤ 3) (xp : Bool) (xr : Int) (xl : Bool) (xf : Int) (h0 : P.btw pg 0 65535 = true) (h1 : P.btw xf 0 4095 = true) (h2 : P.btw xr 1 7 = true) (h3 : (pg % P.sp lo != 0 || xf % P.sp lo != 0) = false) (h4 : (fdl s root pg lo).p = false) (h5 : decide ((O.cK s.ds 0 : Int) < (endF s.xs pg lo 3 root).2 - lo) = true) :
    Calls Tryz.prog 95 #[.pointer (some ⟨t, 0, none⟩), .int .i64 pg, .int .i64 lo, .agg #[.bool xp, .int .i64 xr, .bool xl, .int .i64 xf]] w fun r w' => r = .returned (.int .i64 12) ∧ Below w.heap.size w w' := by
  have hB := below_alloc w (.cells #[.bool xp, .int .i64 xr, .bool xl, .int .i64 xf] 95)
  have hN := heap_alloc_new w (.cells #[.bool xp, .int .i64 xr, .bool xl, .int .i64 xf] 95)
  have HF := hid (fault_at (hT.below hB) pg)
  have HB := hid hB
  have HN := hid hN
  rw [ftE_live, h0] at HF
  rw [if_pos rfl] at HF
  have HE := hid (tend_lo (hT.below hB) (h.below hB) pg lo hlo)
  have HSP := hid (fun W => P.span_at lo W)
  have HFR := hid (fun W => frame_at xf W)
  have HRI := hid (fun W => rights_at xr W)
  rw [h1] at HFR
  rw [h2] at HRI
  have hs1 : 1 ≤ P.sp lo ∧ P.sp lo ≤ 4096 := by
    obtain h | h | h | h : (lo : Int) = 0 ∨ (lo : Int) = 1 ∨ (lo : Int) = 2 ∨ (lo : Int) = 3 := by omega
    all_goals (rw [h]; decide)
  obtain ⟨p0, p1⟩ := P.btw_yes.1 h0
  obtain ⟨f0, f1⟩ := P.btw_yes.1 h1
  have hve := endF_le s.xs pg lo 3 root
  have HTT := hid (hT.below hB)
  have HWW := hid (h.below hB)
  have hp4 : (fdl s root pg lo).p = false := h4
  obtain ⟨sp1, sp2⟩ := hs1
  generalize P.sp lo = sv at *
  have g3 : pg % sv = 0 ∧ xf % sv = 0 := by simpa using h3
  obtain ⟨g30, g31⟩ := g3
  generalize P.at' (endF s.xs pg lo 3 root).1 pg (endF s.xs pg lo 3 root).2 = aa at *
  have HCN := hid (fun (W : World) (b : Below (w.alloc (.cells #[.bool xp, .int .i64 xr, .bool xl, .int .i64 xf] 95)).heap.size (w.alloc (.cells #[.bool xp, .int .i64 xr, .bool xl, .int .i64 xf] 95)) W) => O.count_at (HWW.out.below b).pool 0)
  have HTC := hid (fun (W : World) (b : Below (w.alloc (.cells #[.bool xp, .int .i64 xr, .bool xl, .int .i64 xf] 95)).heap.size (w.alloc (.cells #[.bool xp, .int .i64 xr, .bool xl, .int .i64 xf] 95)) W) => (HTT.out.below b).cells.2.2.1)
  generalize hcn : O.cK s.ds 0 = cn at *
  generalize (endF s.xs pg lo 3 root).1 = fr at *
  generalize (endF s.xs pg lo 3 root).2 = v at *
  generalize fdl s root pg lo = e at *
  obtain ⟨ep, er, el, ef⟩ := e
  simp only at HE hp4
  subst hp4
  have g5 : (cn : Int) < (v : Int) - lo := of_decide_eq_true h5
  have hv3 : (0 : Int) ≤ (v : Int) ∧ (v : Int) ≤ 3 := by have : v ≤ 3 := hve; omega
  have hl3 : (0 : Int) ≤ (lo : Int) ∧ (lo : Int) ≤ 3 := by omega
  clear hve hlo
  generalize ((v : Nat) : Int) = vi at *
  generalize ((lo : Nat) : Int) = li at *
  generalize ((cn : Nat) : Int) = ci at *
  obtain ⟨v0, v3⟩ := hv3
  obtain ⟨l0, l3⟩ := hl3
  have hwr : IntKind.i64.wrap (vi - li) = vi - li := by rw [IntKind.wrap_i64]; omega
  clear hT h h0 h1 h2 h3 h4 h5 hB hN
  go_enter Tryz.func95, Tryz.ntmps95
  go_wp2_with fail
  refine HF.out.mono ?_
  rintro r w1 ⟨rfl, rfl⟩
  go_wp2_with fail
  refine HE.out.mono ?_
  rintro r w2 ⟨rfl, hB2⟩
  have HB2 := hid (HB.out.trans (hB2.mono HB.out.size))
  have HN2 := hid (P.stay hB2 HN.out)
  have HD2 := hid hB2
  clear hB2
  go_wp2_with fail
  refine (HSP.out _).mono ?_
  rintro r w3 ⟨rfl, hw3⟩
  rw [hw3]
  clear hw3 w3
  have HB3 := hid (HB2.out.alloc HB2.out.size (.cells #[.int .i64 fr, .int .i64 vi, .int .i64 aa, .bool false, .int .i64 er, .bool el, .int .i64 ef] 97))
  obtain ⟨c0, c1, c2, c3⟩ := P.four (P.hkeep HN2.out (.cells #[.int .i64 fr, .int .i64 vi, .int .i64 aa, .bool false, .int .i64 er, .bool el, .int .i64 ef] 97))
  go_wp2_with fail
  refine (HFR.out _).mono ?_
  rintro r w3 ⟨rfl, hw3⟩
  rw [hw3]
  clear hw3 w3
  go_wp2_with fail
  refine (HRI.out _).mono ?_
  rintro r w3 ⟨rfl, hw3⟩
  rw [hw3]
  clear hw3 w3
  have hd : Below (w.alloc (.cells #[.bool xp, .int .i64 xr, .bool xl, .int .i64 xf] 95)).heap.size (w.alloc (.cells #[.bool xp, .int .i64 xr, .bool xl, .int .i64 xf] 95)) (w2.alloc (.cells #[.int .i64 fr, .int .i64 vi, .int .i64 aa, .bool false, .int .i64 er, .bool el, .int .i64 ef] 97)).drew := (HD2.out.alloc HD2.out.size _).drew
  have tc := HTC.out _ hd
  have HCT := hid (HCN.out _ hd)
  have hn := heap_alloc_new w2 (.cells #[.int .i64 fr, .int .i64 vi, .int .i64 aa, .bool false, .int .i64 er, .bool el, .int .i64 ef] 97)
  have vc : (w2.alloc (.cells #[.int .i64 fr, .int .i64 vi, .int .i64 aa, .bool false, .int .i64 er, .bool el, .int .i64 ef] 97)).drew.cell? ⟨w2.heap.size, 1, none⟩ = some (.int .i64 vi) := P.cell_of hn rfl
  have HS := hid (fun (W : World) (b : Below (w2.alloc (.cells #[.int .i64 fr, .int .i64 vi, .int .i64 aa, .bool false, .int .i64 er, .bool el, .int .i64 ef] 97)).drew.heap.size (w2.alloc (.cells #[.int .i64 fr, .int .i64 vi, .int .i64 aa, .bool false, .int .i64 er, .bool el, .int .i64 ef] 97)).drew W) => (show W.cell? ⟨w2.heap.size, 1, none⟩ = some (.int .i64 vi) ∧ W.cell? ⟨t, 2, none⟩ = some (.pointer (some ⟨u.pp, 0, none⟩)) from ⟨(b.cell (p := ⟨w2.heap.size, 1, none⟩) (by simp)).trans vc, (b.cell (p := ⟨t, 2, none⟩) (World.block_lt_of_cell? _ ⟨t, 2, none⟩ tc)).trans tc⟩))
  clear hd hn
  go_wp2
  go_region_held3 (fun W => W.cell? ⟨w2.heap.size, 1, none⟩ = some (.int .i64 vi) ∧ W.cell? ⟨t, 2, none⟩ = some (.pointer (some ⟨u.pp, 0, none⟩))) (first | exact ⟨vc, tc⟩ | assumption)
    (first | (go_at_call 31; refine HCT.out.mono ?_; rintro r w5 ⟨rfl, hB5⟩; have hS5 := HS.out _ hB5; have HB5 := hid hB5; clear hB5))
  all_goals go_wp2
  all_goals go_ret
  all_goals first | exact ⟨rfl, HB3.out.drew.trans (HB5.out.mono HB3.out.drew.size)⟩ | (exfalso; omega)
set_option maxHeartbeats 2000000 in
theorem pf6 (hT : IsT u w t 1 o root) (h : Wo u w s k) (pg : Int) (lo : Nat) (hlo : lo ≤ 3) (xp : Bool) (xr : Int) (xl : Bool) (xf : Int) (h0 : P.btw pg 0 65535 = true) (h1 : P.btw xf 0 4095 = true) (h2 : P.btw xr 1 7 = true) (h3 : (pg % P.sp lo != 0 || xf % P.sp lo != 0) = false) (h4 : (fdl s root pg lo).p = false) (h5 : decide ((O.cK s.ds 0 : Int) < (endF s.xs pg lo 3 root).2 - lo) = false) :
    Calls Tryz.prog 95 #[.pointer (some ⟨t, 0, none⟩), .int .i64 pg, .int .i64 lo, .agg #[.bool xp, .int .i64 xr, .bool xl, .int .i64 xf]] w fun r w' => r = .returned (.int .i64 0) ∧ Below w.heap.size w w' := by
  have hB := below_alloc w (.cells #[.bool xp, .int .i64 xr, .bool xl, .int .i64 xf] 95)
  have hN := heap_alloc_new w (.cells #[.bool xp, .int .i64 xr, .bool xl, .int .i64 xf] 95)
  have HF := hid (fault_at (hT.below hB) pg)
  have HB := hid hB
  have HN := hid hN
  rw [ftE_live, h0] at HF
  rw [if_pos rfl] at HF
  have HE := hid (tend_lo (hT.below hB) (h.below hB) pg lo hlo)
  have HSP := hid (fun W => P.span_at lo W)
  have HFR := hid (fun W => frame_at xf W)
  have HRI := hid (fun W => rights_at xr W)
  rw [h1] at HFR
  rw [h2] at HRI
  have hs1 : 1 ≤ P.sp lo ∧ P.sp lo ≤ 4096 := by
    obtain h | h | h | h : (lo : Int) = 0 ∨ (lo : Int) = 1 ∨ (lo : Int) = 2 ∨ (lo : Int) = 3 := by omega
    all_goals (rw [h]; decide)
  obtain ⟨p0, p1⟩ := P.btw_yes.1 h0
  obtain ⟨f0, f1⟩ := P.btw_yes.1 h1
  have hve := endF_le s.xs pg lo 3 root
  have HTT := hid (hT.below hB)
  have HWW := hid (h.below hB)
  have hp4 : (fdl s root pg lo).p = false := h4
  obtain ⟨sp1, sp2⟩ := hs1
  generalize P.sp lo = sv at *
  have g3 : pg % sv = 0 ∧ xf % sv = 0 := by simpa using h3
  obtain ⟨g30, g31⟩ := g3
  generalize P.at' (endF s.xs pg lo 3 root).1 pg (endF s.xs pg lo 3 root).2 = aa at *
  have HCN := hid (fun (W : World) (b : Below (w.alloc (.cells #[.bool xp, .int .i64 xr, .bool xl, .int .i64 xf] 95)).heap.size (w.alloc (.cells #[.bool xp, .int .i64 xr, .bool xl, .int .i64 xf] 95)) W) => O.count_at (HWW.out.below b).pool 0)
  have HTC := hid (fun (W : World) (b : Below (w.alloc (.cells #[.bool xp, .int .i64 xr, .bool xl, .int .i64 xf] 95)).heap.size (w.alloc (.cells #[.bool xp, .int .i64 xr, .bool xl, .int .i64 xf] 95)) W) => (HTT.out.below b).cells.2.2.1)
  generalize hcn : O.cK s.ds 0 = cn at *
  generalize (endF s.xs pg lo 3 root).1 = fr at *
  generalize (endF s.xs pg lo 3 root).2 = v at *
  generalize fdl s root pg lo = e at *
  obtain ⟨ep, er, el, ef⟩ := e
  simp only at HE hp4
  subst hp4
  have g5 : ¬ (cn : Int) < (v : Int) - lo := of_decide_eq_false h5
  have hv3 : (0 : Int) ≤ (v : Int) ∧ (v : Int) ≤ 3 := by have : v ≤ 3 := hve; omega
  have hl3 : (0 : Int) ≤ (lo : Int) ∧ (lo : Int) ≤ 3 := by omega
  clear hve hlo
  generalize ((v : Nat) : Int) = vi at *
  generalize ((lo : Nat) : Int) = li at *
  generalize ((cn : Nat) : Int) = ci at *
  obtain ⟨v0, v3⟩ := hv3
  obtain ⟨l0, l3⟩ := hl3
  have hwr : IntKind.i64.wrap (vi - li) = vi - li := by rw [IntKind.wrap_i64]; omega
  clear hT h h0 h1 h2 h3 h4 h5 hB hN
  go_enter Tryz.func95, Tryz.ntmps95
  go_wp2_with fail
  refine HF.out.mono ?_
  rintro r w1 ⟨rfl, rfl⟩
  go_wp2_with fail
  refine HE.out.mono ?_
  rintro r w2 ⟨rfl, hB2⟩
  have HB2 := hid (HB.out.trans (hB2.mono HB.out.size))
  have HN2 := hid (P.stay hB2 HN.out)
  have HD2 := hid hB2
  clear hB2
  go_wp2_with fail
  refine (HSP.out _).mono ?_
  rintro r w3 ⟨rfl, hw3⟩
  rw [hw3]
  clear hw3 w3
  have HB3 := hid (HB2.out.alloc HB2.out.size (.cells #[.int .i64 fr, .int .i64 vi, .int .i64 aa, .bool false, .int .i64 er, .bool el, .int .i64 ef] 97))
  obtain ⟨c0, c1, c2, c3⟩ := P.four (P.hkeep HN2.out (.cells #[.int .i64 fr, .int .i64 vi, .int .i64 aa, .bool false, .int .i64 er, .bool el, .int .i64 ef] 97))
  go_wp2_with fail
  refine (HFR.out _).mono ?_
  rintro r w3 ⟨rfl, hw3⟩
  rw [hw3]
  clear hw3 w3
  go_wp2_with fail
  refine (HRI.out _).mono ?_
  rintro r w3 ⟨rfl, hw3⟩
  rw [hw3]
  clear hw3 w3
  have hd : Below (w.alloc (.cells #[.bool xp, .int .i64 xr, .bool xl, .int .i64 xf] 95)).heap.size (w.alloc (.cells #[.bool xp, .int .i64 xr, .bool xl, .int .i64 xf] 95)) (w2.alloc (.cells #[.int .i64 fr, .int .i64 vi, .int .i64 aa, .bool false, .int .i64 er, .bool el, .int .i64 ef] 97)).drew := (HD2.out.alloc HD2.out.size _).drew
  have tc := HTC.out _ hd
  have HCT := hid (HCN.out _ hd)
  have hn := heap_alloc_new w2 (.cells #[.int .i64 fr, .int .i64 vi, .int .i64 aa, .bool false, .int .i64 er, .bool el, .int .i64 ef] 97)
  have vc : (w2.alloc (.cells #[.int .i64 fr, .int .i64 vi, .int .i64 aa, .bool false, .int .i64 er, .bool el, .int .i64 ef] 97)).drew.cell? ⟨w2.heap.size, 1, none⟩ = some (.int .i64 vi) := P.cell_of hn rfl
  have HS := hid (fun (W : World) (b : Below (w2.alloc (.cells #[.int .i64 fr, .int .i64 vi, .int .i64 aa, .bool false, .int .i64 er, .bool el, .int .i64 ef] 97)).drew.heap.size (w2.alloc (.cells #[.int .i64 fr, .int .i64 vi, .int .i64 aa, .bool false, .int .i64 er, .bool el, .int .i64 ef] 97)).drew W) => (show W.cell? ⟨w2.heap.size, 1, none⟩ = some (.int .i64 vi) ∧ W.cell? ⟨t, 2, none⟩ = some (.pointer (some ⟨u.pp, 0, none⟩)) from ⟨(b.cell (p := ⟨w2.heap.size, 1, none⟩) (by simp)).trans vc, (b.cell (p := ⟨t, 2, none⟩) (World.block_lt_of_cell? _ ⟨t, 2, none⟩ tc)).trans tc⟩))
  clear hd hn
  go_wp2
  go_region_held3 (fun W => W.cell? ⟨w2.heap.size, 1, none⟩ = some (.int .i64 vi) ∧ W.cell? ⟨t, 2, none⟩ = some (.pointer (some ⟨u.pp, 0, none⟩))) (first | exact ⟨vc, tc⟩ | assumption)
    (first | (go_at_call 31; refine HCT.out.mono ?_; rintro r w5 ⟨rfl, hB5⟩; have hS5 := HS.out _ hB5; have HB5 := hid hB5; clear hB5))
  all_goals go_wp2
  all_goals go_ret
  all_goals first | exact ⟨rfl, HB3.out.drew.trans (HB5.out.mono HB3.out.drew.size)⟩ | (exfalso; omega)
theorem putFault_at (hT : IsT u w t 1 o root) (h : Wo u w s k) (pg : Int) (lo : Nat) (hlo : lo ≤ 3) (e : P.En) :
    Calls Tryz.prog 95 #[.pointer (some ⟨t, 0, none⟩), .int .i64 pg, .int .i64 lo, P.eV e] w fun r w' => r = .returned (.int .i64 (putE s root pg lo e)) ∧ Below w.heap.size w w' := by
  obtain ⟨xp, xr, xl, xf⟩ := e
  unfold putE
  show Calls Tryz.prog 95 #[.pointer (some ⟨t, 0, none⟩), .int .i64 pg, .int .i64 lo, .agg #[.bool xp, .int .i64 xr, .bool xl, .int .i64 xf]] w _
  cases h0 : P.btw pg 0 65535
  · exact pf0 hT pg lo xp xr xl xf h0
  · rw [if_neg (by decide)]
    cases h1 : P.btw xf 0 4095
    · rw [if_pos rfl]; exact pf1 hT h pg lo hlo xp xr xl xf h0 h1
    · rw [if_neg (by decide)]
      cases h2 : P.btw xr 1 7
      · rw [if_pos rfl]; exact pf2 hT h pg lo hlo xp xr xl xf h0 h1 h2
      · rw [if_neg (by decide)]
        cases h3 : (pg % P.sp lo != 0 || xf % P.sp lo != 0)
        · rw [if_neg (by decide)]
          show Calls Tryz.prog 95 _ w fun r w' => r = .returned (.int .i64 (if (fdl s root pg lo).p = true then 5 else if (O.cK s.ds 0 : Int) < (endF s.xs pg lo 3 root).2 - lo then 12 else 0)) ∧ Below w.heap.size w w'
          cases h4 : (fdl s root pg lo).p
          · rw [if_neg (by decide)]
            cases h5 : decide ((O.cK s.ds 0 : Int) < (endF s.xs pg lo 3 root).2 - lo)
            · rw [if_neg (of_decide_eq_false h5)]; exact pf6 hT h pg lo hlo xp xr xl xf h0 h1 h2 h3 h4 h5
            · rw [if_pos (of_decide_eq_true h5)]; exact pf5 hT h pg lo hlo xp xr xl xf h0 h1 h2 h3 h4 h5
          · rw [if_pos rfl]; exact pf4 hT h pg lo hlo xp xr xl xf h0 h1 h2 h3 h4
        · rw [if_pos rfl]; exact pf3 hT h pg lo hlo xp xr xl xf h0 h1 h2 h3
end
end Go.Proofs.YtpfmmlbakbhklaaGreatDoor
