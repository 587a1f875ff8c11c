/- The walk of FieldOnes: it returns true for every two words; nothing that lay before is changed. -/
import Derived.Test.YthhilppeeffheaaDoorW4
import Derived.Test.YthhilppeeffheaaDoorMath3
namespace Go.Proofs.YthhilppeeffheaaDoor
open Go.RowKit

def M.bld (v : Nat) (l : List Nat) : Nat := l.foldl (fun y i => M.pt y i 1 1) v
theorem M.tb_bld : ∀ (l : List Nat) (v j : Nat), (M.bld v l).testBit j = (v.testBit j || decide (j ∈ l))
  | [], v, j => by simp [M.bld]
  | i :: l, v, j => by
    have ih := M.tb_bld l (M.pt v i 1 1) j
    unfold M.bld at ih ⊢
    rw [List.foldl_cons, ih, M.tb_pt]
    by_cases h : j = i
    · subst h
      have : j ≤ j ∧ j < j + 1 := by omega
      rw [if_pos this]
      simp
    · have : ¬ (i ≤ j ∧ j < i + 1) := by omega
      rw [if_neg this]
      simp [h]
theorem M.bld_ones (x : Nat) (hx : x < 18446744073709551616) : M.bld 0 (M.onesL x) = x := by
  apply Nat.eq_of_testBit_eq
  intro j
  rw [M.tb_bld, Nat.zero_testBit, Bool.false_or]
  unfold M.onesL
  by_cases h : j < 64
  · simp [h]
  · have := M.tb_high x j hx (by omega)
    simp [this]
theorem M.bld_lt (l : List Nat) (h : ∀ i ∈ l, i < 64) : M.bld 0 l < 18446744073709551616 := by
  refine M.lt_of_tb _ 64 fun j hj => ?_
  rw [M.tb_bld, Nat.zero_testBit, Bool.false_or, decide_eq_false_iff_not]
  intro hm
  have := h j hm
  omega
theorem M.bld_snoc (v : Nat) (l : List Nat) (i : Nat) : M.bld v (l ++ [i]) = M.pt (M.bld v l) i 1 1 := by
  simp [M.bld]
theorem M.ones_sorted (x : Nat) : (M.onesL x).Pairwise (· < ·) := List.Pairwise.filter _ List.pairwise_lt_range
theorem M.ones_step (x k : Nat) (h : k + 1 < (M.onesL x).length) : (M.onesL x)[k] < (M.onesL x)[k + 1] :=
  List.pairwise_iff_getElem.1 (M.ones_sorted x) k (k + 1) (by omega) h (by omega)

theorem put1 (u z : Nat) (w : World) (hu : u < 18446744073709551616) (hz : z < 64) :
    Calls Tryd.prog 13 #[.int .u64 u, .int .i64 z, .int .i64 1, .int .u64 1] w fun e w' => e = .returned (.int .u64 (M.pt u z 1 1 : Nat)) ∧ w' = w :=
  (put_any u z 1 1 w (by omega) (by omega) (by decide)).mono fun e w' ⟨h, h'⟩ => ⟨h.trans (ret_int (by
    have hf : isF (z : Int) 1 = true := by rw [isF_iff]; omega
    simp [fPut, hf])), h'⟩

set_option maxRecDepth 100000 in
set_option maxHeartbeats 1000000 in
theorem ones_walk (x y : Nat) (w : World) (hx : x < 18446744073709551616) (hy : y < 18446744073709551616) (hT : Tab w) (hw : 0 < w.heap.size) :
    Calls Tryd.prog 7 #[.int .u64 x, .int .u64 y] w fun e w' => e = .returned (.bool true) ∧ Below w.heap.size w w' := by
  have HX : Hid (x < 18446744073709551616) := hx
  have HY : Hid (y < 18446744073709551616) := hy
  clear hx hy
  have hlen := M.onesL_len x
  go_enter Tryd.func7, Tryd.ntmps7
  go_wp2_with fail
  refine (ones_nat x HX.out w hT hw).mono ?_
  rintro e w1 ⟨v, rfl, hr, hb1⟩
  obtain ⟨_, p, cap, rfl, hc⟩ := Row.of_owns (k := .i64) hr (by unfold maxLen; omega)
  clear hr
  obtain ⟨n, hn⟩ : ∃ n, (M.onesL x).length = n := ⟨_, rfl⟩
  simp only [List.length_map, hn] at hc ⊢
  have HN : Hid ((M.onesL x).length = n) := hn
  rw [hn] at hlen
  clear hn
  go_wp2
  go_loopw [6, 7] (fun v i wr => (∃ k : Nat, k ≤ n ∧ i = .int .i64 k ∧ v = .int .u64 (M.bld 0 ((M.onesL x).take k) : Nat)) ∧ Below w.heap.size w wr ∧ ∀ b o, b < w1.heap.size → wr.cell? ⟨b, o, none⟩ = w1.cell? ⟨b, o, none⟩) (fun _ i _ => n - (intOf i).toNat)
  case atStart => exact ⟨⟨0, Nat.zero_le _, rfl, rfl⟩, hb1, fun _ _ _ => rfl⟩
  case round =>
    obtain ⟨⟨k, hk, rfl, rfl⟩, hB, hcl⟩ := hrel
    by_cases hlt : k < n
    · have hkx : k < (M.onesL x).length := by rw [HN.out]; exact hlt
      obtain ⟨b, off, rfl, hbl, hcell⟩ := hc (by intro h; rw [List.map_eq_nil_iff] at h; rw [h] at hkx; simp at hkx)
      have c1 : wr.cell? ⟨b, off + k, none⟩ = some (.int .i64 ((M.onesL x)[k] : Nat)) := by
        rw [hcl _ _ hbl, hcell k hlt]; simp [hkx]
      have hz64 : (M.onesL x)[k] < 64 := M.onesL_lt x _ (List.getElem_mem hkx)
      have HTK : Hid ((M.onesL x).take (k + 1) = (M.onesL x).take k ++ [(M.onesL x)[k]]) := List.take_succ_eq_append_getElem hkx
      have hvl : M.bld 0 ((M.onesL x).take k) < 18446744073709551616 := M.bld_lt _ fun i hi => M.onesL_lt x i (List.mem_of_mem_take hi)
      have hprev : ∀ j, k = j + 1 → ∃ z' : Nat, wr.cell? ⟨b, off + j, none⟩ = some (.int .i64 (z' : Nat)) ∧ z' < (M.onesL x)[k] := by
        rintro j rfl
        have hj : j < (M.onesL x).length := by omega
        refine ⟨(M.onesL x)[j], ?_, M.ones_step x j hkx⟩
        rw [hcl _ _ hbl, hcell j (by omega)]; simp [hj]
      generalize (M.onesL x)[k] = z at c1 hz64 HTK hprev
      obtain ⟨u, hu⟩ : ∃ u, M.bld 0 ((M.onesL x).take k) = u := ⟨_, rfl⟩
      rw [hu] at hvl ⊢
      have HU : Hid (M.bld 0 ((M.onesL x).take k) = u) := hu
      have HVL : Hid (u < 18446744073709551616) := hvl
      clear hu hvl hcell hkx
      have HCL : Hid (∀ b o, b < w1.heap.size → wr.cell? ⟨b, o, none⟩ = w1.cell? ⟨b, o, none⟩) := hcl
      clear hcl
      have d1 : decide ((z : Int) < 0) = false := by simp
      have d2 : decide ((63 : Int) < z) = false := by simp; omega
      cases k with
      | zero =>
        clear hprev
        simp only [Nat.add_zero] at c1
        go_wp2
        go_quiet (fail)
        go_wp2_with (go_at_call 13; refine (put1 _ _ _ HVL.out hz64).mono ?_; rintro e w' ⟨rfl, hw'⟩; rw [hw']; clear hw' w')
        refine ⟨⟨⟨1, by omega, rfl, ?_⟩, below_drewN hB _, fun b o h => HCL.out b o h⟩, by simp [intOf]; omega⟩
        have h1 := HTK.out
        rw [Nat.zero_add] at h1
        rw [h1, M.bld_snoc, HU.out]
      | succ j =>
        obtain ⟨z', c2, hzz⟩ := hprev j rfl
        clear hprev
        have d3 : decide ((0 : Int) < (j : Int) + 1) = true := by rw [decide_eq_true_iff]; omega
        have d4 : decide ((z : Int) ≤ (z' : Int)) = false := by simp; omega
        go_wp2
        go_quiet (fail)
        go_wp2_with (go_at_call 13; refine (put1 _ _ _ HVL.out hz64).mono ?_; rintro e w' ⟨rfl, hw'⟩; rw [hw']; clear hw' w')
        refine ⟨⟨⟨j + 1 + 1, by omega, by go_num, ?_⟩, below_drewN hB _, fun b o h => HCL.out b o h⟩, by simp [intOf]; omega⟩
        rw [HTK.out, M.bld_snoc, HU.out]
    · have hkn : k = n := by omega
      subst hkn
      have hfull : M.bld 0 ((M.onesL x).take k) = x := by
        rw [List.take_of_length_le (by rw [HN.out]; exact Nat.le_refl _), M.bld_ones x HX.out]
      rw [hfull]
      clear hfull hcl hc
      have f1 : ((x : Int) == x) = true := by simp
      have HC : Hid (M.popN 64 x = k) := by show M.popN 64 x = k; rw [← M.onesL_length, HN.out]
      have f2 : ((k : Int) == k) = true := by simp
      have hpa := M.popN_or_and 64 x y
      have la := M.popN_le 64 (x ||| y)
      have lb := M.popN_le 64 (x &&& y)
      have ld := M.popN_le 64 y
      rw [HC.out] at hpa
      have HOR : Hid (x ||| y < 18446744073709551616) := Nat.or_lt_two_pow (n := 64) HX.out HY.out
      have HAND : Hid (x &&& y < 18446744073709551616) := Nat.lt_of_le_of_lt Nat.and_le_left HX.out
      go_wp2_with fail
      refine (fcount_nat x _ HX.out).mono ?_
      rintro e w' ⟨rfl, hw'⟩; rw [hw', HC.out]; clear hw' w'
      go_wp2_with fail
      rw [u64_or_nat x y HX.out HY.out]
      refine (fcount_nat (x ||| y) _ HOR.out).mono ?_
      rintro e w' ⟨rfl, hw'⟩; rw [hw']; clear hw' w'
      go_wp2_with fail
      rw [u64_and_nat x y HX.out HY.out]
      refine (fcount_nat (x &&& y) _ HAND.out).mono ?_
      rintro e w' ⟨rfl, hw'⟩; rw [hw']; clear hw' w'
      generalize M.popN 64 (x ||| y) = a at *
      generalize M.popN 64 (x &&& y) = b at *
      have HPA : Hid (a + b = k + M.popN 64 y) := hpa
      clear hpa
      go_wp2_with fail
      refine (fcount_nat x _ HX.out).mono ?_
      rintro e w' ⟨rfl, hw'⟩; rw [hw', HC.out]; clear hw' w'
      go_wp2_with fail
      refine (fcount_nat y _ HY.out).mono ?_
      rintro e w' ⟨rfl, hw'⟩; rw [hw']; clear hw' w'
      generalize M.popN 64 y = d at *
      have f3 : ((a : Int) + b == k + d) = true := by rw [beq_iff_eq]; have := HPA.out; omega
      go_wp2_with fail
      refine (known_any _ (hT.below hB hw) (Nat.lt_of_lt_of_le hw hB.size)).mono ?_
      rintro e w2 ⟨rfl, hb2⟩
      replace hb2 := hB.trans (hb2.mono hB.size)
      go_wp2
      go_ret
      exact ⟨rfl, hb2⟩
end Go.Proofs.YthhilppeeffheaaDoor
