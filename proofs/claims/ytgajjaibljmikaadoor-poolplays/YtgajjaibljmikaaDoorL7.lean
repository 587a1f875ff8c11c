/- That PoolRefs returns true, for every two numbers below 256; nothing that lay before is changed. Condition: the table of rules lies in its variable as the program's text lays it. -/
import Derived.Test.YtgajjaibljmikaaDoorL6
import Derived.Test.YtgajjaibljmikaaDoorR1
namespace Go.Proofs.YtgajjaibljmikaaDoor
open Go.RowKit

theorem Ow.newI {w0 w : World} {m : Int} {n : Nat} (hm : m = n) (hT : Tab w) (hB : Below w0.heap.size w0 w) (hp0 : 0 < w0.heap.size) (h1 : 1 ≤ n) (h2 : n ≤ 4096) :
    Calls Tryd.prog 10 #[.int .i64 m] w fun e w' => e = .returned (.tuple #[.pointer (some ⟨w.heap.size + 1, 0, none⟩), .int .i64 0]) ∧ Ow w0 w' (w.heap.size + 1) w.heap.size (List.replicate n zd) ∧ Below w.heap.size w w' := by
  subst hm
  exact Ow.new hT hB hp0 h1 h2

theorem in0 (d : Ds) (R : List Ds) : (0 : Int) ≤ 0 ∧ (0 : Int) < (d :: R).length := ⟨by omega, by simp⟩
theorem tE0 (d : Ds) (R : List Ds) (k o : Int) : tE (d :: R) 0 k o = nxE d k o := if_pos (in0 d R)
theorem gE0 (d : Ds) (R : List Ds) (y : Int) : gE (d :: R) 0 y = rfE d y := if_pos (in0 d R)
theorem tL0_yes {d : Ds} {R : List Ds} {k o : Int} (h : nxE d k o = 0) : tL (d :: R) 0 k o = nxD d k o :: R := if_pos ((tE0 d R k o).trans h)
theorem tL0_no {d : Ds} {R : List Ds} {k o : Int} (h : nxE d k o ≠ 0) : tL (d :: R) 0 k o = d :: R := if_neg (by rw [tE0]; exact h)
theorem gL0_yes {d : Ds} {R : List Ds} {y : Int} (h : rfE d y = 0) : gL (d :: R) 0 y = rfD d y :: R := if_pos ((gE0 d R y).trans h)
theorem gL0_no {d : Ds} {R : List Ds} {y : Int} (h : rfE d y ≠ 0) : gL (d :: R) 0 y = d :: R := if_neg (by rw [gE0]; exact h)
theorem take0 (R : List Ds) {k o : Int} (h : nxE zd k o = 0) : kF (zd :: R) k o = 0 ∧ kE (zd :: R) k o = 0 ∧ kL (zd :: R) k o = nxD zd k o :: R := by
  obtain ⟨q, hq⟩ := fr_head (L := zd :: R) (j := 0) (by simp) (fun i hi => absurd hi (by omega)) rfl
  have e : tE (zd :: R) ((0 : Nat) : Int) k o = 0 := (tE0 zd R k o).trans h
  refine ⟨?_, ?_, ?_⟩
  · unfold kF; rw [hq]; exact if_pos e
  · unfold kE; rw [hq]; exact e
  · unfold kL; rw [hq]; exact tL0_yes h

/-- A guest's frame of the machine 3 with r who refer to it. -/
abbrev gd (r : Int) : Ds := ⟨4, 3, r, 0⟩
theorem gd_rt {r : Int} (h : 0 ≤ r ∧ r ≤ 65535) : rt (gd r) = true := (rt_iff _).2 (by simp; omega)
theorem gd_busy {r : Int} (h : 0 < r ∧ r ≤ 65535) (k o : Int) : nxE (gd r) k o = 9 := by
  unfold nxE
  rw [if_pos (gd_rt (by omega)), if_neg (by show ¬ r = 0; omega)]
theorem gd_ref {r y : Int} (h : 0 ≤ r ∧ r ≤ 65535) (hy : 0 ≤ r + y ∧ r + y ≤ 65535) : rfE (gd r) y = 0 := by
  unfold rfE
  rw [if_pos (gd_rt h), if_pos ⟨by show (2 : Int) ≤ 4; decide, by show (4 : Int) ≤ 4; decide⟩, if_pos hy]
theorem gd_low {r y : Int} (h : 0 ≤ r ∧ r ≤ 65535) (hy : r + y < 0) : rfE (gd r) y = 2 := by
  unfold rfE
  rw [if_pos (gd_rt h), if_pos ⟨by show (2 : Int) ≤ 4; decide, by show (4 : Int) ≤ 4; decide⟩, if_neg (by show ¬ (0 ≤ r + y ∧ _); omega)]
theorem count_zero (n : Nat) : cK (List.replicate n zd) 0 = n := by
  unfold cK
  rw [wh_count, List.countP_replicate]
  rfl

set_option maxRecDepth 100000 in
set_option maxHeartbeats 4000000 in
theorem refs_true (n r : Nat) (hn : n < 256) (hr : r < 256) (w : World) (hT : Tab w) : Calls Tryd.prog 7 #[.int .u8 n, .int .u8 r] w fun v w' => v = .returned (.bool true) ∧ Below w.heap.size w w' := by
  have HT := hid hT
  have HN := hid hn
  clear hT
  go_enter Tryd.func7, Tryd.ntmps7
  go_wp2_with fail
  refine (Ow.newI (n := n + 1) (by omega) HT.out (Below.refl _ _) HT.out.pos (by omega) (by omega)).mono ?_
  rintro v w1 ⟨rfl, hO, -⟩
  have O1 := hid hO
  clear hO
  generalize w.heap.size + 1 = p at O1
  generalize w.heap.size = b at O1
  have ht := take0 (List.replicate n zd) (k := 4) (o := 3) (by rfl)
  have HK := hid ht
  clear ht hn
  go_wp2_with fail
  refine (O1.out.take 4 3 0 0 (gd 0 :: List.replicate n zd) HK.out.1 HK.out.2.1 HK.out.2.2).mono ?_
  rintro v w2 ⟨rfl, hO, -⟩
  have O2 := hid hO
  clear hO
  go_wp2
  go_loopw [9] (fun i wr => ∃ j : Nat, j ≤ r ∧ i = .int .i64 (j : Nat) ∧ Ow w wr p b (gd (j : Nat) :: List.replicate n zd)) (fun i _ => r - (intOf i).toNat)
  case atStart => exact ⟨0, Nat.zero_le _, rfl, O2.out⟩
  case round =>
    obtain ⟨j, hj, rfl, hO⟩ := hrel
    have Or := hid hO
    clear hO
    by_cases hlt : j < r
    · have e1 : rfE (gd (j : Nat)) 1 = 0 := gd_ref (by omega) (by omega)
      have e2 : ∀ k o, nxE (gd ((j + 1 : Nat) : Int)) k o = 9 := gd_busy (by omega)
      have E1 := hid e1
      have E2 := hid e2
      clear e1 e2
      go_wp2_with fail
      refine (Or.out.ref 0 1 0 (gd ((j + 1 : Nat) : Int) :: List.replicate n zd) ((gE0 _ _ _).trans E1.out) ((gL0_yes E1.out).trans (by rfl))).mono ?_
      rintro v w3 ⟨rfl, hO, -⟩
      have O3 := hid hO
      clear hO
      go_wp2_with fail
      refine (O3.out.give 0 9 _ ((tE0 _ _ _ _).trans (E2.out _ _)) (tL0_no (by rw [E2.out]; decide))).mono ?_
      rintro v w4 ⟨rfl, hO, -⟩
      have O4 := hid hO
      clear hO
      go_wp2_with fail
      refine (O4.out.turn 0 5 0 9 _ ((tE0 _ _ _ _).trans (E2.out _ _)) (tL0_no (by rw [E2.out]; decide))).mono ?_
      rintro v w5 ⟨rfl, hO, -⟩
      have O5 := hid hO
      clear hO
      go_wp2
      go_roundw
      case rel => exact ⟨j + 1, by omega, by go_num, O5.out⟩
      case measure => simp [intOf]; omega
    · obtain rfl : j = r := by omega
      have e1 : ∀ y : Int, y = -(j : Int) - 1 → rfE (gd (j : Nat)) y = 2 := fun y hy => gd_low (by omega) (by omega)
      have e2 : ∀ y : Int, y = -(j : Int) → rfE (gd (j : Nat)) y = 0 ∧ rfD (gd (j : Nat)) y = gd 0 := fun y hy => ⟨gd_ref (by omega) (by omega), by subst hy; unfold rfD; simp; omega⟩
      have E1 := hid e1
      have E2 := hid e2
      have E3 := hid (count_zero (n + 1))
      clear e1 e2
      go_wp2_with fail
      refine (Or.out.ref 0 _ 2 _ ((gE0 _ _ _).trans (E1.out _ ?_)) (gL0_no ?_)).mono ?_
      · omega
      · rw [E1.out _ (by omega)]; decide
      rintro v w3 ⟨rfl, hO, -⟩
      have O3 := hid hO
      clear hO
      go_wp2_with fail
      refine (O3.out.ref 0 _ 0 (gd 0 :: List.replicate n zd) ((gE0 _ _ _).trans (E2.out _ ?_).1) ?_).mono ?_
      · omega
      · rw [gL0_yes (E2.out _ (by omega)).1, (E2.out _ (by omega)).2]
      rintro v w4 ⟨rfl, hO, -⟩
      have O4 := hid hO
      clear hO
      go_wp2_with fail
      refine (O4.out.turn 0 5 0 0 (⟨5, 3, 0, 0⟩ :: List.replicate n zd) ((tE0 _ _ _ _).trans (by rfl)) (tL0_yes (by rfl))).mono ?_
      rintro v w5 ⟨rfl, hO, -⟩
      have O5 := hid hO
      clear hO
      go_wp2_with fail
      refine (O5.out.give 0 0 (zd :: List.replicate n zd) ((tE0 _ _ _ _).trans (by rfl)) (tL0_yes (by rfl))).mono ?_
      rintro v w6 ⟨rfl, hO, -⟩
      have O6 := hid hO
      clear hO
      go_wp2_with fail
      refine (O6.out.count 0 (n + 1) E3.out).mono ?_
      rintro v w7 ⟨rfl, hO, -⟩
      have O7 := hid hO
      clear hO
      go_wp2_with fail
      refine (O7.out.len (n + 1) (by simp)).mono ?_
      rintro v w8 ⟨rfl, rfl⟩
      go_wp2_with fail
      refine (known_yes _ O7.out.tab).mono ?_
      rintro v w9 ⟨rfl, hB⟩
      have O8 := hid (O7.out.below hB)
      clear hB
      go_wp2
      go_ret
      exact ⟨rfl, O8.out.bel⟩
end Go.Proofs.YtgajjaibljmikaaDoor
