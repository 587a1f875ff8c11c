/- The walk of RingRoom: for all numbers the call returns true; nothing that lay before is changed. No conditions. -/
import Derived.Test.YtfnfbceblpaggaaQ3
namespace Go.Proofs.Ytfnfbceblpaggaa
open Go.RowKit

/-- The first i numbers of round k. -/
def seg (k i : Nat) : List Int := (List.range i).map fun (j : Nat) => 100 * (k : Int) + (j : Int)
theorem seg_length (k i : Nat) : (seg k i).length = i := by simp [seg]
theorem seg_succ (k i : Nat) : seg k i ++ [100 * (k : Int) + (i : Int)] = seg k (i + 1) := by simp [seg, List.range_succ]
theorem seg_drop {k n i : Nat} (h : i < n) : ((seg k n).drop i).getD 0 0 = 100 * (k : Int) + (i : Int) := by
  simp [seg, List.getD, h]

theorem Qw.mono {w0 w : World} {p b r ad n B C : Nat} {L : List Int} (h : Qw w0 p b r ad n B w L) (k : B ≤ C) : Qw w0 p b r ad n C w L := by
  obtain ⟨s, R, f, h⟩ := h
  exact ⟨s, R, f, { h with co := h.co.mono (by omega), t := fun j => by have := h.t j; omega, i := by have := h.i; omega, n := by have := h.n; omega }⟩

set_option maxRecDepth 100000 in
set_option maxHeartbeats 2000000 in
theorem room_walk (z : Nat) (hz : z < 256) (y : Nat) (hy : y < 256) (w : World) :
    Calls Try.prog 7 #[.int .u8 z, .int .u8 y] w fun e w' => e = .returned (.bool true) ∧ Below w.heap.size w w' := by
  obtain ⟨c63, hc63⟩ : ∃ c : Nat, z % 63 = c := ⟨_, rfl⟩
  obtain ⟨c4, hc4⟩ : ∃ c : Nat, y % 4 = c := ⟨_, rfl⟩
  have hcb : c63 < 63 := by omega
  have hcb4 : c4 < 4 := by omega
  have hy0 : (0 : Int) ≤ (y : Int) := by omega
  have hy1 : (y : Int) < 256 := by omega
  have hz0 : (0 : Int) ≤ (z : Int) := by omega
  have hz1 : (z : Int) < 256 := by omega
  have htm : (z : Int).tmod 63 = (c63 : Int) := by rw [Int.tmod_eq_emod_of_nonneg (by omega)]; omega
  have HM : Hid ((y : Int).tmod 4 = (c4 : Int)) := hid (by rw [Int.tmod_eq_emod_of_nonneg (by omega)]; omega)
  clear hc63 hc4
  go_enter Try.func7, Try.ntmps7
  go_wp2_with fail
  clear htm
  obtain ⟨n, hn⟩ : ∃ n : Nat, (n : Int) = 2 + (c63 : Int) := ⟨2 + c63, by simp⟩
  have hn0 : 2 ≤ n := by omega
  have hn1 : n ≤ 64 := by omega
  rw [← hn]
  clear hn hcb
  refine (new_yes 200 _ (by decide) (by decide)).mono ?_
  rintro e w1 ⟨rfl, hM1, hB1⟩
  have K0 := hid (Kn.first (s := ⟨List.replicate 200 0, 0, 0⟩) 5 n hM1 hB1)
  clear hM1 hB1
  have c0 := K0.out.c0
  have c1 := K0.out.c1
  generalize w.heap.size + 1 = p at *
  generalize hq : w.heap.size = q at *
  clear hq
  go_wp2_with fail
  refine (init_at (c := 0) K0.out.mem (cnt_of (by kernel_rfl)) (by decide) n ((5 : Nat) : Int) (qok_of (by omega) hn0 hn1)).mono ?_
  rintro e wa ⟨rfl, T⟩
  rw [(initR_fit (emp n) ⟨List.replicate 200 0, 0, 0⟩ 5 (by rw [empK_length]; simp; omega)).1]
  have J0 : Hid (Qw w p q w1.heap.size 5 n 100 wa []) := hid (Qw.first hn0 hn1 (by omega) (K0.out.turn T))
  clear T K0 c0 c1
  go_wp2
  generalize w1.heap.size = r at *
  go_loopw [9] (fun i wr => ∃ k : Nat, k ≤ 1 + c4 ∧ i = .int .i64 k ∧ Qw w p q r 5 n (100 + 200 * k) wr []) (fun i _ => 1 + c4 - (intOf i).toNat)
  case atStart => exact ⟨0, by omega, rfl, J0.out⟩
  case round =>
    obtain ⟨k, hk, rfl, hO⟩ := hrel
    have HO := hid hO
    clear hO J0
    have htm := HM.out
    by_cases hlt : k < 1 + c4
    · have hkl : (k : Int) < 1 + (c4 : Int) := by omega
      go_wp2
      clear htm
      go_loopw [10] (fun i wr => ∃ j : Nat, j ≤ n + 1 ∧ i = .int .i64 j ∧ Qw w p q r 5 n (100 + 200 * k + j) wr (seg k (min j n))) (fun i _ => n + 1 - (intOf i).toNat)
      case atStart => exact ⟨0, by omega, rfl, by simpa [seg] using HO.out⟩
      case round =>
        rename World => wo
        obtain ⟨j, hj, rfl, hI⟩ := hrel
        have HI := hid hI
        have c0 := hI.c0
        have c1 := hI.c1
        clear hI HO
        by_cases hjn : j < n + 1
        · have hjl : (j : Int) ≤ (n : Int) := by omega
          go_wp2_with fail
          refine (HI.out.push (by omega) hn0 hn1 (by omega) (v := 100 * (k : Int) + (j : Int)) (by omega) (by omega)).mono ?_
          rintro e w3 ⟨rfl, hQ⟩
          rw [seg_length] at hQ ⊢
          by_cases hjj : j < n
          · have hd : decide (min j n < n) = true := by simp; omega
            have hjj2 : (j : Int) < (n : Int) := by omega
            rw [hd]
            rw [if_pos (by omega), show min j n = j by omega, seg_succ] at hQ
            have HQ := hid hQ
            clear hQ hd
            go_wp2
            go_roundw
            case rel => exact ⟨j + 1, by omega, by go_num, by rw [show min (j + 1) n = j + 1 by omega]; exact HQ.out⟩
            case measure => simp [intOf]; omega
          · have hd : decide (min j n < n) = false := by simp; omega
            have hjj2 : (n : Int) ≤ (j : Int) := by omega
            rw [hd]
            rw [if_neg (by omega), show min j n = n by omega] at hQ
            have HQ := hid hQ
            clear hQ hd
            go_wp2
            go_roundw
            case rel => exact ⟨j + 1, by omega, by go_num, by rw [show min (j + 1) n = n by omega]; exact HQ.out⟩
            case measure => simp [intOf]; omega
        · have h2 := HI.out
          rw [show min j n = n by omega] at h2
          have H2 := hid (h2.mono (C := 100 + 200 * k + (n + 1)) (by omega))
          clear h2 HI c0 c1
          have hjl : (n : Int) < (j : Int) := by omega
          have hjb : decide (j ≤ n) = false := by simp; omega
          go_wp2
          clear hjb
          go_loopw [11] (fun i wr => ∃ j : Nat, j ≤ n + 1 ∧ i = .int .i64 j ∧ Qw w p q r 5 n (100 + 200 * k + (n + 1) + j) wr ((seg k n).drop j)) (fun i _ => n + 1 - (intOf i).toNat)
          case atStart => exact ⟨0, by omega, rfl, H2.out⟩
          case round =>
            rename World => wp
            obtain ⟨j, hj, rfl, hI⟩ := hrel
            have HI := hid hI
            have c0 := hI.c0
            have c1 := hI.c1
            clear hI H2
            by_cases hjn : j < n + 1
            · have hjl : (j : Int) ≤ (n : Int) := by omega
              go_wp2_with fail
              refine (HI.out.pop (by omega) hn0 hn1 (by omega)).mono ?_
              rintro e w3 ⟨rfl, hQ⟩
              rw [List.tail_drop] at hQ
              have HQ := hid hQ
              clear hQ
              by_cases hjj : j < n
              · have hd : decide (0 < ((seg k n).drop j).length) = true := by simp [seg_length]; omega
                have hjj2 : (j : Int) < (n : Int) := by omega
                rw [hd, seg_drop hjj]
                have he : ((100 * (k : Int) + (j : Int)) != (100 * (k : Int) + (j : Int))) = false := by simp
                clear hd
                go_wp2
                go_roundw
                case rel => exact ⟨j + 1, by omega, by go_num, HQ.out⟩
                case measure => simp [intOf]; omega
              · have hd : decide (0 < ((seg k n).drop j).length) = false := by simp [seg_length]; omega
                have hjj2 : (n : Int) ≤ (j : Int) := by omega
                rw [hd]
                generalize ((seg k n).drop j).getD 0 0 = gv
                clear hd
                go_wp2
                go_roundw
                case rel => exact ⟨j + 1, by omega, by go_num, HQ.out⟩
                case measure => simp [intOf]; omega
            · have hjl : (n : Int) < (j : Int) := by omega
              have H3 := HI.out
              rw [List.drop_eq_nil_of_le (by rw [seg_length]; omega)] at H3
              have H4 := hid (H3.mono (C := 100 + 200 * (k + 1)) (by omega))
              clear H3 HI c0 c1
              go_wp2
              go_roundw
              case rel => exact ⟨k + 1, by omega, by go_num, H4.out⟩
              case measure => simp [intOf]; omega
    · obtain rfl : k = 1 + c4 := by omega
      have HB := hid HO.out.bel
      clear HO
      go_wp2_with fail
      refine (known_yes _).mono ?_
      rintro e w9 ⟨rfl, K⟩
      have HF := hid (bel_trans HB.out K)
      clear K HB
      go_wp2
      go_ret
      exact ⟨rfl, HF.out⟩
end Go.Proofs.Ytfnfbceblpaggaa
