/- What newTable and hang return and leave: a frame is taken, its words are laid, an entry leads to it. Conditions: the words and frames lie in memory; few calls have been counted. -/
import Derived.Test.YtpfmmlbakbhklaaGreatDoorN6
import Derived.Test.YtpfmmlbakbhklaaGreatDoorOS7
import Derived.Test.YtpfmmlbakbhklaaGreatDoorOS8
namespace Go.Proofs.YtpfmmlbakbhklaaGreatDoor
open Go.RowKit
section
variable {u : Si} {w : World} {t : Nat} {st o root : Int} {s : Sm} {k : Nat}
theorem newS_yes {s : Sm} {o : Int} {ent : Nat → P.En} (g : newE s o = 0) : newS s o ent = ⟨laidK s.xs (newF s o) ent 16, O.kL s.ds 3 o⟩ := if_pos g
theorem newS_no {s : Sm} {o : Int} {ent : Nat → P.En} (g : newE s o ≠ 0) : newS s o ent = s := if_neg g
theorem kL_no {ds : List O.Ds} {o : Int} (h : O.kE ds 3 o ≠ 0) : O.kL ds 3 o = ds := by
  unfold O.kL O.kE at *
  cases hf : O.fr ds with
  | nil => rfl
  | cons f q =>
    rw [hf] at h
    simp only at h ⊢
    unfold O.tL
    rw [if_neg h]
set_option maxRecDepth 100000 in
set_option maxHeartbeats 2000000 in
theorem new_none (hT : IsT u w t st o root) (h : Wo u w s k) (hk : k + 20 ≤ bnd) :
    Calls Tryz.prog 71 #[.pointer (some ⟨t, 0, none⟩), .func (.func 72) #[] #[]] w fun r w' => r = .returned (.tuple #[.int .i64 (if newE s o = 0 then newF s o else 0), .int .i64 (newE s o)]) ∧ Wo u w' (newS s o none16) (k + 16) ∧ Ch u w w' := by
  have HT := hid hT
  have HW := hid h
  have HK := hid hk
  have hT1 := hT.below (Below.refl w.heap.size w).drew
  have hW1 := h.drew
  obtain ⟨-, -, c2, c3, -⟩ := hT1.cells
  have HC := hid (O.take_at hW1.pool 3 o hW1.tab)
  have hS : ∀ w', Ch u w.drew w' → w'.cell? ⟨t, 2, none⟩ = some (.pointer (some ⟨u.pp, 0, none⟩)) ∧ w'.cell? ⟨t, 3, none⟩ = some (.int .i64 o) := fun w' c => ⟨(hT1.ch hW1 c).cells.2.2.1, (hT1.ch hW1 c).cells.2.2.2.1⟩
  have HS := hid hS
  have HE := hid (show newE s o = O.kE s.ds 3 o from rfl)
  have HF := hid (show newF s o = O.kF s.ds 3 o from rfl)
  have HL := hid (fun (g : newE s o = 0) => newS_yes (ent := none16) g)
  have HL2 := hid (fun (g : newE s o ≠ 0) => And.intro (newS_no (ent := none16) g) (show O.kL s.ds 3 o = s.ds from kL_no g))
  rw [← HE.out, ← HF.out] at HC
  generalize newS s o none16 = sn at *
  generalize newE s o = ee at *
  generalize newF s o = ff at *
  generalize hds : O.kL s.ds 3 o = ds' at *
  clear hT h hk hT1 hW1 hS hds HE HF
  by_cases hee : ee = 0
  · subst hee
    rw [if_pos rfl]
    have HL' := hid (HL.out rfl)
    clear HL HL2
    go_enter Tryz.func71, Tryz.ntmps71
    go_wp2
    go_region_held3 (fun w' => w'.cell? ⟨t, 2, none⟩ = some (.pointer (some ⟨u.pp, 0, none⟩)) ∧ w'.cell? ⟨t, 3, none⟩ = some (.int .i64 o)) (first | exact ⟨c2, c3⟩ | assumption)
      (first | (go_at_call 111; refine HC.out.mono ?_; rintro r w2 ⟨rfl, hP2, hB2⟩; have hS2 := HS.out _ (.of_bt hB2); have HP2 := hid hP2; have HB2 := hid hB2; clear hP2 hB2))
    all_goals
      have hW2 : Wo u w2 ⟨s.xs, ds'⟩ k := HW.out.drew.turn HP2.out HB2.out
      have hC2 : Ch u w w2 := (Ch.of_below (Below.refl _ _).drew).trans (.of_bt HB2.out)
      have HW2 := hid hW2
      have HC2 := hid hC2
      have HT2 := hid (HT.out.ch HW.out hC2)
      clear hW2 hC2 hS2 c2 c3
      go_wp2
      go_loopw [24] (fun i wr => ∃ j : Nat, j ≤ 16 ∧ i = .int .i64 j ∧ Wo u wr ⟨laidK s.xs ff none16 j, ds'⟩ (k + j) ∧ Ch u w wr) (fun i _ => 16 - (intOf i).toNat)
      case atStart => exact ⟨0, by omega, rfl, HW2.out, HC2.out⟩
      case round =>
        obtain ⟨j, hj, rfl, hWr, hCr⟩ := hrel
        have HWr := hid hWr
        have HCr := hid hCr
        have HTr := hid (HT.out.ch HW.out hCr)
        have HJ := hid hj
        clear hWr hCr
        by_cases h16 : j < 16
        · have HPL := hid (fun W => P.place_at ff j 0 W)
          have HEN := hid (fun W => (show Calls Tryz.prog 72 #[.int .i64 j] W fun r w' => r = .returned (P.eV (none16 j)) ∧ Below W.heap.size W w' from nothing_at (j : Int) W))
          have HLA := hid (fun w1 (b : Below wr.heap.size wr w1) => lay_at' (HTr.out.below b) (HWr.out.below b) (by have := HK.out; omega) (P.at' ff j 0) (none16 j))
          have HNX := hid (show lay ⟨laidK s.xs ff none16 j, ds'⟩ (P.at' ff j 0) (none16 j) = ⟨laidK s.xs ff none16 (j + 1), ds'⟩ from rfl)
          rw [HNX.out] at HLA
          generalize hla : laidK s.xs ff none16 (j + 1) = xs' at *
          generalize P.at' ff j 0 = a at *
          generalize hen : none16 j = en1 at *
          obtain ⟨ep, er, el, ef⟩ := en1
          unfold P.eV at HEN HLA
          simp only at HEN HLA
          go_wp2_with fail
          refine (HPL.out _).mono ?_
          rintro r w3 ⟨rfl, hw3⟩
          rw [hw3]
          clear hw3 w3
          go_wp2_with fail
          refine (HEN.out _).mono ?_
          rintro r w3 ⟨rfl, hB3⟩
          have HB3 := hid hB3
          clear hB3
          go_wp2_with fail
          refine (HLA.out _ HB3.out).mono ?_
          rintro r w4 ⟨rfl, hW4, hC4⟩
          have HW4 := hid hW4
          have HC4 := hid (HCr.out.trans ((Ch.of_below HB3.out).trans hC4))
          clear hW4 hC4
          go_wp2
          refine ⟨⟨j + 1, by omega, by go_num, by rw [hla]; exact HW4.out, HC4.out⟩, by simp [intOf]; omega⟩
        · obtain rfl : j = 16 := by omega
          have HN := HL'
          go_wp2
          go_ret2
          exact ⟨rfl, by rw [HN.out]; exact HWr.out, HCr.out⟩
  · have HN := hid (HL2.out hee)
    rw [if_neg hee]
    have hee' : (ee != 0) = true := by simpa using hee
    clear HL HL2 hee
    go_enter Tryz.func71, Tryz.ntmps71
    go_wp2
    go_region_held3 (fun w' => w'.cell? ⟨t, 2, none⟩ = some (.pointer (some ⟨u.pp, 0, none⟩)) ∧ w'.cell? ⟨t, 3, none⟩ = some (.int .i64 o)) (first | exact ⟨c2, c3⟩ | assumption)
      (first | (go_at_call 111; refine HC.out.mono ?_; rintro r w2 ⟨rfl, hP2, hB2⟩; have hS2 := HS.out _ (.of_bt hB2); have HP2 := hid hP2; have HB2 := hid hB2; clear hP2 hB2))
    all_goals
      have hW2 : Wo u w2 ⟨s.xs, ds'⟩ k := HW.out.drew.turn HP2.out HB2.out
      have hC2 : Ch u w w2 := (Ch.of_below (Below.refl _ _).drew).trans (.of_bt HB2.out)
      have HW2 := hid hW2
      have HC2 := hid hC2
      clear hW2 hC2 hS2 c2 c3
      go_wp2
      go_ret2
      refine ⟨rfl, ?_, HC2.out⟩
      rw [HN.out.1]
      have := HW2.out
      rw [HN.out.2] at this
      exact this.mono (by omega)
set_option maxRecDepth 100000 in
set_option maxHeartbeats 2000000 in
theorem new_part (hT : IsT u w t st o root) (h : Wo u w s k) (hk : k + 20 ≤ bnd) (fr v a0 : Int) (pp : Bool) (pr : Int) (pl : Bool) (pf : Int) (h0 : 0 ≤ pf) (h1 : pf ≤ 4095) :
    Calls Tryz.prog 71 #[.pointer (some ⟨t, 0, none⟩), .func (.func 98) #[.agg #[.int .i64 fr, .int .i64 v, .int .i64 a0, .bool pp, .int .i64 pr, .bool pl, .int .i64 pf]] #[]] w fun r w' => r = .returned (.tuple #[.int .i64 (if newE s o = 0 then newF s o else 0), .int .i64 (newE s o)]) ∧ Wo u w' (newS s o (part ⟨pp, pr, pl, pf⟩)) (k + 16) ∧ Ch u w w' := by
  have HT := hid hT
  have HW := hid h
  have HK := hid hk
  have H01 := hid (And.intro h0 h1)
  have hT1 := hT.below (Below.refl w.heap.size w).drew
  have hW1 := h.drew
  obtain ⟨-, -, c2, c3, -⟩ := hT1.cells
  have HC := hid (O.take_at hW1.pool 3 o hW1.tab)
  have hS : ∀ w', Ch u w.drew w' → w'.cell? ⟨t, 2, none⟩ = some (.pointer (some ⟨u.pp, 0, none⟩)) ∧ w'.cell? ⟨t, 3, none⟩ = some (.int .i64 o) := fun w' c => ⟨(hT1.ch hW1 c).cells.2.2.1, (hT1.ch hW1 c).cells.2.2.2.1⟩
  have HS := hid hS
  have HE := hid (show newE s o = O.kE s.ds 3 o from rfl)
  have HF := hid (show newF s o = O.kF s.ds 3 o from rfl)
  have HL := hid (fun (g : newE s o = 0) => newS_yes (ent := (part ⟨pp, pr, pl, pf⟩)) g)
  have HL2 := hid (fun (g : newE s o ≠ 0) => And.intro (newS_no (ent := (part ⟨pp, pr, pl, pf⟩)) g) (show O.kL s.ds 3 o = s.ds from kL_no g))
  rw [← HE.out, ← HF.out] at HC
  generalize newS s o (part ⟨pp, pr, pl, pf⟩) = sn at *
  generalize newE s o = ee at *
  generalize newF s o = ff at *
  generalize hds : O.kL s.ds 3 o = ds' at *
  clear h0 h1 hT h hk hT1 hW1 hS hds HE HF
  by_cases hee : ee = 0
  · subst hee
    rw [if_pos rfl]
    have HL' := hid (HL.out rfl)
    clear HL HL2
    go_enter Tryz.func71, Tryz.ntmps71
    go_wp2
    go_region_held3 (fun w' => w'.cell? ⟨t, 2, none⟩ = some (.pointer (some ⟨u.pp, 0, none⟩)) ∧ w'.cell? ⟨t, 3, none⟩ = some (.int .i64 o)) (first | exact ⟨c2, c3⟩ | assumption)
      (first | (go_at_call 111; refine HC.out.mono ?_; rintro r w2 ⟨rfl, hP2, hB2⟩; have hS2 := HS.out _ (.of_bt hB2); have HP2 := hid hP2; have HB2 := hid hB2; clear hP2 hB2))
    all_goals
      have hW2 : Wo u w2 ⟨s.xs, ds'⟩ k := HW.out.drew.turn HP2.out HB2.out
      have hC2 : Ch u w w2 := (Ch.of_below (Below.refl _ _).drew).trans (.of_bt HB2.out)
      have HW2 := hid hW2
      have HC2 := hid hC2
      have HT2 := hid (HT.out.ch HW.out hC2)
      clear hW2 hC2 hS2 c2 c3
      go_wp2
      go_loopw [24] (fun i wr => ∃ j : Nat, j ≤ 16 ∧ i = .int .i64 j ∧ Wo u wr ⟨laidK s.xs ff (part ⟨pp, pr, pl, pf⟩) j, ds'⟩ (k + j) ∧ Ch u w wr) (fun i _ => 16 - (intOf i).toNat)
      case atStart => exact ⟨0, by omega, rfl, HW2.out, HC2.out⟩
      case round =>
        obtain ⟨j, hj, rfl, hWr, hCr⟩ := hrel
        have HWr := hid hWr
        have HCr := hid hCr
        have HTr := hid (HT.out.ch HW.out hCr)
        have HJ := hid hj
        clear hWr hCr
        by_cases h16 : j < 16
        · have HPL := hid (fun W => P.place_at ff j 0 W)
          have HEN := hid (fun W => (show Calls Tryz.prog 98 #[.agg #[.int .i64 fr, .int .i64 v, .int .i64 a0, .bool pp, .int .i64 pr, .bool pl, .int .i64 pf], .int .i64 j] W fun r w' => r = .returned (P.eV ((part ⟨pp, pr, pl, pf⟩) j)) ∧ Below W.heap.size W w' from part_at fr v a0 j ⟨pp, pr, pl, pf⟩ W H01.out.1 H01.out.2 (by omega) (by omega)))
          have HLA := hid (fun w1 (b : Below wr.heap.size wr w1) => lay_at' (HTr.out.below b) (HWr.out.below b) (by have := HK.out; omega) (P.at' ff j 0) ((part ⟨pp, pr, pl, pf⟩) j))
          have HNX := hid (show lay ⟨laidK s.xs ff (part ⟨pp, pr, pl, pf⟩) j, ds'⟩ (P.at' ff j 0) ((part ⟨pp, pr, pl, pf⟩) j) = ⟨laidK s.xs ff (part ⟨pp, pr, pl, pf⟩) (j + 1), ds'⟩ from rfl)
          rw [HNX.out] at HLA
          generalize hla : laidK s.xs ff (part ⟨pp, pr, pl, pf⟩) (j + 1) = xs' at *
          generalize P.at' ff j 0 = a at *
          generalize hen : (part ⟨pp, pr, pl, pf⟩) j = en1 at *
          obtain ⟨ep, er, el, ef⟩ := en1
          unfold P.eV at HEN HLA
          simp only at HEN HLA
          go_wp2_with fail
          refine (HPL.out _).mono ?_
          rintro r w3 ⟨rfl, hw3⟩
          rw [hw3]
          clear hw3 w3
          go_wp2_with fail
          refine (HEN.out _).mono ?_
          rintro r w3 ⟨rfl, hB3⟩
          have HB3 := hid hB3
          clear hB3
          go_wp2_with fail
          refine (HLA.out _ HB3.out).mono ?_
          rintro r w4 ⟨rfl, hW4, hC4⟩
          have HW4 := hid hW4
          have HC4 := hid (HCr.out.trans ((Ch.of_below HB3.out).trans hC4))
          clear hW4 hC4
          go_wp2
          refine ⟨⟨j + 1, by omega, by go_num, by rw [hla]; exact HW4.out, HC4.out⟩, by simp [intOf]; omega⟩
        · obtain rfl : j = 16 := by omega
          have HN := HL'
          go_wp2
          go_ret2
          exact ⟨rfl, by rw [HN.out]; exact HWr.out, HCr.out⟩
  · have HN := hid (HL2.out hee)
    rw [if_neg hee]
    have hee' : (ee != 0) = true := by simpa using hee
    clear HL HL2 hee
    go_enter Tryz.func71, Tryz.ntmps71
    go_wp2
    go_region_held3 (fun w' => w'.cell? ⟨t, 2, none⟩ = some (.pointer (some ⟨u.pp, 0, none⟩)) ∧ w'.cell? ⟨t, 3, none⟩ = some (.int .i64 o)) (first | exact ⟨c2, c3⟩ | assumption)
      (first | (go_at_call 111; refine HC.out.mono ?_; rintro r w2 ⟨rfl, hP2, hB2⟩; have hS2 := HS.out _ (.of_bt hB2); have HP2 := hid hP2; have HB2 := hid hB2; clear hP2 hB2))
    all_goals
      have hW2 : Wo u w2 ⟨s.xs, ds'⟩ k := HW.out.drew.turn HP2.out HB2.out
      have hC2 : Ch u w w2 := (Ch.of_below (Below.refl _ _).drew).trans (.of_bt HB2.out)
      have HW2 := hid hW2
      have HC2 := hid hC2
      clear hW2 hC2 hS2 c2 c3
      go_wp2
      go_ret2
      refine ⟨rfl, ?_, HC2.out⟩
      rw [HN.out.1]
      have := HW2.out
      rw [HN.out.2] at this
      exact this.mono (by omega)
set_option maxHeartbeats 1000000 in
theorem hang_none (hT : IsT u w t st o root) (h : Wo u w s k) (hk : k + 20 ≤ bnd) (a : Int) :
    Calls Tryz.prog 97 #[.pointer (some ⟨t, 0, none⟩), .int .i64 a, .func (.func 72) #[] #[]] w fun r w' => r = .returned (.int .i64 (newE s o)) ∧ Wo u w' (hangS s o a none16) (k + 17) ∧ Ch u w w' := by
  have HT := hid hT
  have HW := hid h
  have HK := hid hk
  have HC := hid (new_none hT h hk )
  have HY := hid (fun (g : newE s o = 0) => show hangS s o a none16 = lay (newS s o none16) a ⟨true, 0, false, newF s o⟩ from if_pos g)
  have HN := hid (fun (g : newE s o ≠ 0) => And.intro (show hangS s o a none16 = s from if_neg g) (newS_no (ent := none16) g))
  generalize hangS s o a none16 = sh at *
  generalize newS s o none16 = sn at *
  generalize newE s o = ee at *
  generalize newF s o = ff at *
  clear hT h hk
  by_cases hee : ee = 0
  · subst hee
    simp only [if_true] at HC
    have HY' := hid (HY.out rfl)
    clear HY HN
    go_enter Tryz.func97, Tryz.ntmps97
    go_wp2_with fail
    refine HC.out.mono ?_
    rintro r w2 ⟨rfl, hW2, hC2⟩
    have HW2 := hid hW2
    have HC2 := hid hC2
    have HT2 := hid (HT.out.ch HW.out hC2)
    clear hW2 hC2
    go_wp2_with fail
    refine (lay_at' HT2.out HW2.out (by have := HK.out; omega) a ⟨true, 0, false, ff⟩).mono ?_
    rintro r w3 ⟨rfl, hW3, hC3⟩
    have HW3 := hid hW3
    have HC3 := hid (HC2.out.trans hC3)
    clear hW3 hC3
    go_wp2
    go_ret
    exact ⟨rfl, by rw [HY'.out]; exact HW3.out, HC3.out⟩
  · have hee' : (ee != 0) = true := by simpa using hee
    rw [if_neg hee] at HC
    have HN' := hid (HN.out hee)
    clear HY HN hee
    go_enter Tryz.func97, Tryz.ntmps97
    go_wp2_with fail
    refine HC.out.mono ?_
    rintro r w2 ⟨rfl, hW2, hC2⟩
    have HW2 := hid hW2
    have HC2 := hid hC2
    clear hW2 hC2
    go_wp2
    go_ret
    refine ⟨rfl, ?_, HC2.out⟩
    rw [HN'.out.1]
    have := HW2.out
    rw [HN'.out.2] at this
    exact this.mono (by omega)
set_option maxHeartbeats 1000000 in
theorem hang_part (hT : IsT u w t st o root) (h : Wo u w s k) (hk : k + 20 ≤ bnd) (a : Int) (fr v a0 : Int) (pp : Bool) (pr : Int) (pl : Bool) (pf : Int) (h0 : 0 ≤ pf) (h1 : pf ≤ 4095) :
    Calls Tryz.prog 97 #[.pointer (some ⟨t, 0, none⟩), .int .i64 a, .func (.func 98) #[.agg #[.int .i64 fr, .int .i64 v, .int .i64 a0, .bool pp, .int .i64 pr, .bool pl, .int .i64 pf]] #[]] w fun r w' => r = .returned (.int .i64 (newE s o)) ∧ Wo u w' (hangS s o a (part ⟨pp, pr, pl, pf⟩)) (k + 17) ∧ Ch u w w' := by
  have HT := hid hT
  have HW := hid h
  have HK := hid hk
  have HC := hid (new_part hT h hk fr v a0 pp pr pl pf h0 h1)
  have HY := hid (fun (g : newE s o = 0) => show hangS s o a (part ⟨pp, pr, pl, pf⟩) = lay (newS s o (part ⟨pp, pr, pl, pf⟩)) a ⟨true, 0, false, newF s o⟩ from if_pos g)
  have HN := hid (fun (g : newE s o ≠ 0) => And.intro (show hangS s o a (part ⟨pp, pr, pl, pf⟩) = s from if_neg g) (newS_no (ent := (part ⟨pp, pr, pl, pf⟩)) g))
  generalize hangS s o a (part ⟨pp, pr, pl, pf⟩) = sh at *
  generalize newS s o (part ⟨pp, pr, pl, pf⟩) = sn at *
  generalize newE s o = ee at *
  generalize newF s o = ff at *
  clear hT h hk
  by_cases hee : ee = 0
  · subst hee
    simp only [if_true] at HC
    have HY' := hid (HY.out rfl)
    clear HY HN
    go_enter Tryz.func97, Tryz.ntmps97
    go_wp2_with fail
    refine HC.out.mono ?_
    rintro r w2 ⟨rfl, hW2, hC2⟩
    have HW2 := hid hW2
    have HC2 := hid hC2
    have HT2 := hid (HT.out.ch HW.out hC2)
    clear hW2 hC2
    go_wp2_with fail
    refine (lay_at' HT2.out HW2.out (by have := HK.out; omega) a ⟨true, 0, false, ff⟩).mono ?_
    rintro r w3 ⟨rfl, hW3, hC3⟩
    have HW3 := hid hW3
    have HC3 := hid (HC2.out.trans hC3)
    clear hW3 hC3
    go_wp2
    go_ret
    exact ⟨rfl, by rw [HY'.out]; exact HW3.out, HC3.out⟩
  · have hee' : (ee != 0) = true := by simpa using hee
    rw [if_neg hee] at HC
    have HN' := hid (HN.out hee)
    clear HY HN hee
    go_enter Tryz.func97, Tryz.ntmps97
    go_wp2_with fail
    refine HC.out.mono ?_
    rintro r w2 ⟨rfl, hW2, hC2⟩
    have HW2 := hid hW2
    have HC2 := hid hC2
    clear hW2 hC2
    go_wp2
    go_ret
    refine ⟨rfl, ?_, HC2.out⟩
    rw [HN'.out.1]
    have := HW2.out
    rw [HN'.out.2] at this
    exact this.mono (by omega)
end
end Go.Proofs.YtpfmmlbakbhklaaGreatDoor
