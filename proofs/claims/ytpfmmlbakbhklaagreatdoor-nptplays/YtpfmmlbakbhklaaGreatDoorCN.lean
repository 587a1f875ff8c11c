/- The walk of NptPlays: for every number and every script it returns true; nothing that lay before is changed. Condition: the rules lie in their variable. -/
import Derived.Test.YtpfmmlbakbhklaaGreatDoorCM
import Derived.Test.YtpfmmlbakbhklaaGreatDoorBQ
import Derived.Test.YtpfmmlbakbhklaaGreatDoorBS
import Derived.Deep.RegionHeld3
import Derived.BigQuiet
namespace Go.Proofs.YtpfmmlbakbhklaaGreatDoor
open Go.RowKit
set_option maxRecDepth 100000 in
set_option maxHeartbeats 4000000 in
theorem plays_walk (w : World) (hT : O.Tab w) (x : Nat) {q : Option Addr} {n c : Nat} {l : List Cal} (hx : x < 256) (hl : l.length = n) (hs : Script w q l) :
    Calls Tryz.prog 3 #[.int .u8 x, .slice q n c] w fun e w' => e = .returned (.bool true) ∧ Below w.heap.size w w' := by
  have HS := hid hs
  have HL := hid hl
  have hm : x % 40 < 40 := Nat.mod_lt _ (by decide)
  have HBG := hid (begin_at w hT (x % 40) (by omega))
  obtain ⟨m, hmm⟩ : ∃ m, x % 40 = m := ⟨_, rfl⟩
  have em : ((x : Nat) : Int).tmod 40 = (m : Int) := by rw [← hmm]; rfl
  have e2 : wrap64 (1 + (m : Int)) = 1 + (m : Int) := by unfold wrap64; omega
  rw [hmm] at HBG hm
  rw [show (((m + 1 : Nat)) : Int) = 1 + (m : Int) by omega] at HBG
  have HM := hid hm
  clear hT hs hl hmm
  go_enter Tryz.func3, Tryz.ntmps3
  go_wp2_with fail
  refine HBG.out.mono ?_
  rintro e w1 ⟨rfl, u, v, a0, b0, a1, b1, x1, hb⟩
  obtain ⟨d, L0, hdg, hP0, hI0⟩ := Pw.start (by have := HM.out; omega) hb
  rw [← hdg]
  have HP0 := hid hP0
  have HI0 := hid hI0
  clear hb hdg HBG em e2 hm hP0 hI0
  go_wp2
  go_loopw [7] (fun p wr => ∃ (i : Nat) (s : Sm) (L : Nat → Nat) (k : Nat), p = .int .i64 i ∧ i ≤ n ∧ i ≤ 40 ∧ Pw w d k wr s L s L ∧ PI d s L ∧ k ≤ 32 + i * 200) (fun p _ => 40 - (intOf p).toNat)
  case atStart => exact ⟨0, _, _, _, rfl, Nat.zero_le _, Nat.zero_le _, HP0.out, HI0.out, by omega⟩
  case round =>
    obtain ⟨i, s, L, k, rfl, hin, hi, hf, hpi, hk⟩ := hrel
    have HF := hid hf
    have HPI := hid hpi
    have HK : Hid (k + 400 ≤ bnd) := by
      unfold Hid bnd
      omega
    have HKr := hid hk
    by_cases hlt : i < n
    · by_cases h40 : i < 40
      · have hlt1 : (i : Int) < (n : Int) := by omega
        have hlt2 : (i : Int) < 40 := by omega
        obtain ⟨b, off, rfl, hbl, hcl⟩ := (HS.out.below hf.bel) (by intro e; rw [e] at HL; have := HL.out; simp at this; omega)
        obtain ⟨k0, k1, k2, k3, k4⟩ := hcl i (by have := HL.out; omega)
        generalize l.getD i noCal = oc at *
        obtain ⟨kd, wh, pg, fm, rt⟩ := oc
        simp only at k0 k1 k2 k3 k4
        have hb0 := below_alloc wr (.cells #[.int .i64 kd, .int .i64 wh, .int .i64 pg, .int .i64 fm, .int .i64 rt] 27)
        have HBO := hid (heap_alloc_new wr (.cells #[.int .i64 kd, .int .i64 wh, .int .i64 pg, .int .i64 fm, .int .i64 rt] 27))
        have HF1 := hid (HF.out.below hb0)
        clear hcl hf hb0 hpi hk
        go_wp2_with fail
        refine (pdo_at HF1.out HPI.out HK.out kd wh pg fm rt).mono ?_
        rintro e w2 ⟨rfl, s', L', hW, hI, hKq, -⟩
        have HZ2 := hid (hKq _ _ _ (by decide) (by decide) (by decide) (by decide) (by decide) (by decide) (by decide) HBO.out)
        have HW2 := hid hW
        have HI2 := hid hI
        have HIN : Hid (i + 1 ≤ n) := hlt
        have HI4 : Hid (i + 1 ≤ 40) := h40
        clear hW hI hKq HF HPI HF1 HBO k0 k1 k2 k3 k4 hbl
        go_wp2_with fail
        refine (HW2.out.same).mono ?_
        rintro e w3 ⟨rfl, hB⟩
        have HW3 := hid (HW2.out.below hB)
        have HZ3 := hid (P.stay hB HZ2.out)
        clear hB HZ2 HW2
        obtain ⟨j, hj, hbw⟩ := and_one wh
        have hj2 : (j : Int) < 2 := by omega
        have hj0 : (0 : Int) ≤ (j : Int) := by omega
        have hwr : wrap64 ((i : Int) + 1) = ((i + 1 : Nat) : Int) := by unfold wrap64; omega
        obtain ⟨gx, -⟩ := HW3.out.cellX hj
        obtain ⟨-, z1, -, -, -⟩ := cells5V HZ3.out
        have HJ := hid hj
        by_cases h0 : L' j = 0
        · have hx : d.X j = none := by
            rcases HW3.out.ts j hj with ⟨-, h2⟩ | ⟨h1, -⟩ | ⟨h1, -⟩
            · exact h2
            · omega
            · omega
          rw [hx] at gx
          clear hx hj h0
          go_wp2
          go_quiet (fail)
          have HW4 := hid (HW3.out.below (below_drewN (Below.refl _ _) nq))
          have HZ4 := hid (P.stay (below_drewN (Below.refl w3.heap.size w3) nq) HZ3.out)
          clear gx z1 HW3 HZ3
          generalize w3.drewN nq = W4 at *
          have gb := (HW4.out.cellX HJ.out).2
          obtain ⟨-, z1, -, -, -⟩ := cells5V HZ4.out
          go_wp2
          go_quiet (fail)
          have HW5 := hid (HW4.out.below (below_drewN (Below.refl _ _) nq))
          clear gb z1 HW4 HZ4
          generalize W4.drewN nq = W5 at *
          go_wp2
          go_roundw
          case measure => first | exact meas h40 | (rw [hwr]; exact meas h40) | (simp [intOf]; omega)
          case rel => exact ⟨i + 1, s', L', k + 200, by go_num, HIN.out, HI4.out, HW5.out, HI2.out, by have := HKr.out; omega⟩
        · have hl2 : L' j = 1 ∨ L' j = 2 := by
            by_cases h1 : L' j = 1
            · exact .inl h1
            · exact .inr (HW3.out.two hj h1 h0)
          obtain ⟨a, hx⟩ := HW3.out.addr hj hl2
          rw [hx] at gx
          have HQO := hid fun W (p : Pw w d (k + 200) W s' L' s' L') => p.queryO hj hl2 pg
          have HQR := hid fun W (p : Pw w d (k + 200) W s' L' s' L') => p.queryR HI2.out hj hl2 pg
          have HAO := hid fun W (p : Pw w d (k + 200) W s' L' s' L') => p.allO hj hl2
          have HAR := hid fun W (p : Pw w d (k + 200) W s' L' s' L') => p.allR HI2.out hj hl2
          have HRO := hid fun W (p : Pw w d (k + 200) W s' L' s' L') => p.rootO hj hl2
          have HRR := hid fun W (p : Pw w d (k + 200) W s' L' s' L') => p.rootR hj hl2
          rw [hx] at HQO HAO HRO
          generalize (if L' j = 1 then qF s' (d.R j) pg else 0) = F at *
          generalize (if L' j = 1 then qR s' (d.R j) pg else 0) = R at *
          generalize lE (L' j) (qE s' (d.R j) pg) = E at *
          generalize lA (L' j) (allL s'.xs (d.R j)) = A at *
          generalize (if L' j = 1 then d.R j else -1) = RT at *
          have hF : (F != F) = false := by simp
          have hR : (R != R) = false := by simp
          have hE : (E != E) = false := by simp
          have hRT : (RT != RT) = false := by simp
          clear hx hj h0 hl2
          go_wp2
          go_quiet (fail)
          have HW4 := hid (HW3.out.below (below_drewN (Below.refl _ _) nq))
          have HZ4 := hid (P.stay (below_drewN (Below.refl w3.heap.size w3) nq) HZ3.out)
          clear gx z1 HW3 HZ3
          generalize w3.drewN nq = W4 at *
          have gb := (HW4.out.cellX HJ.out).2
          obtain ⟨-, z1, -, -, -⟩ := cells5V HZ4.out
          go_wp2
          go_quiet (fail)
          have HW5 := hid (HW4.out.below (below_drewN (Below.refl _ _) nq))
          have HZ5 := hid (P.stay (below_drewN (Below.refl W4.heap.size W4) nq) HZ4.out)
          clear gb z1 HW4 HZ4
          generalize W4.drewN nq = W5 at *
          obtain ⟨-, -, z2, -, -⟩ := cells5V HZ5.out
          go_wp2_with fail
          refine (HQO.out _ HW5.out).mono ?_
          rintro e w6 ⟨rfl, hB⟩
          have HW6 := hid (HW5.out.below hB)
          have HZ6 := hid (P.stay hB HZ5.out)
          clear hB z2 HW5 HZ5 HQO
          obtain ⟨-, -, z2, -, -⟩ := cells5V HZ6.out
          go_wp2_with fail
          refine (HQR.out _ HW6.out).mono ?_
          rintro e w7 ⟨rfl, hB⟩
          have HW7 := hid (HW6.out.below hB)
          clear hB z2 HW6 HZ6 HQR
          go_wp2_with fail
          refine (HAO.out _ HW7.out).mono ?_
          rintro e w8 ⟨⟨x8, rfl, hX⟩, hB⟩
          have HW8 := hid (HW7.out.below hB)
          have HX8 := hid hX
          clear hB hX HW7 HAO
          go_wp2_with fail
          refine (HAR.out _ HW8.out).mono ?_
          rintro e w9 ⟨⟨x9, rfl, hX⟩, hB⟩
          have HW9 := hid (HW8.out.below hB)
          have HX9 := hid (HX8.out.below hB)
          have HY9 := hid hX
          clear hB hX HW8 HAR HX8
          go_wp2_with fail
          refine (sameI_any HX9.out HY9.out).mono ?_
          rintro e w10 ⟨rfl, hB⟩
          have HW10 := hid (HW9.out.below hB)
          clear hB HW9 HX9 HY9
          go_wp2_with fail
          refine (HRO.out _ HW10.out).mono ?_
          rintro e w11 ⟨rfl, hw⟩
          rw [hw]
          clear hw w11 HRO
          go_wp2_with fail
          refine (HRR.out _ HW10.out).mono ?_
          rintro e w11 ⟨rfl, hw⟩
          rw [hw]
          clear hw w11 HRR
          go_wp2
          go_roundw
          case measure => first | exact meas h40 | (rw [hwr]; exact meas h40) | (simp [intOf]; omega)
          case rel => exact ⟨i + 1, s', L', k + 200, by go_num, HIN.out, HI4.out, HW10.out, HI2.out, by have := HKr.out; omega⟩
      · have hlt1 : (i : Int) < (n : Int) := by omega
        have hlt2 : ¬ (i : Int) < 40 := by omega
        clear hf hpi hk
        go_wp2_with fail
        refine (known_yes wr HF.out.wo.tab).mono ?_
        rintro e w2 ⟨rfl, hB⟩
        have HB := hid (HF.out.bel.trans (hB.mono HF.out.bel.size))
        clear hB
        go_wp2
        go_ret
        exact ⟨rfl, HB.out⟩
    · have hlt1 : ¬ (i : Int) < (n : Int) := by omega
      clear hf hpi hk
      go_wp2_with fail
      refine (known_yes wr HF.out.wo.tab).mono ?_
      rintro e w2 ⟨rfl, hB⟩
      have HB := hid (HF.out.bel.trans (hB.mono HF.out.bel.size))
      clear hB
      go_wp2
      go_ret
      exact ⟨rfl, HB.out⟩
end Go.Proofs.YtpfmmlbakbhklaaGreatDoor
