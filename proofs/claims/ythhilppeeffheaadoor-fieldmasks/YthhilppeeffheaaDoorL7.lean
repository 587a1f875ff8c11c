/- FieldMasks. -/
import Derived.Test.YthhilppeeffheaaDoorW4
namespace Go.Proofs.YthhilppeeffheaaDoor
open Go.RowKit

theorem M.mk_split (l s t : Nat) : M.mk l s &&& M.mk (l + s) t = 0 ∧ M.mk l s ||| M.mk (l + s) t = M.mk l (s + t) := by
  constructor
  · apply Nat.eq_of_testBit_eq
    intro i
    rw [Nat.testBit_and, M.tb_mk, M.tb_mk, Nat.zero_testBit]
    by_cases h1 : i < l + s <;> simp [h1] <;> omega
  · apply Nat.eq_of_testBit_eq
    intro i
    rw [Nat.testBit_or, M.tb_mk, M.tb_mk, M.tb_mk]
    by_cases h1 : i < l + s <;> by_cases h2 : l ≤ i <;> by_cases h3 : i < l + (s + t) <;> simp [h1, h2, h3] <;> omega

theorem ones_mask (l s : Nat) (h1 : 1 ≤ s) (h2 : l + s ≤ 64) (w : World) (hT : Tab w) (hw : 0 < w.heap.size) :
    Calls Tryd.prog 18 #[.int .u64 (M.mk l s : Nat)] w fun e w' => ∃ b off cap, e = .returned (.slice (some ⟨b, off, none⟩) s cap) ∧
      w'.cell? ⟨b, off, none⟩ = some (.int .i64 l) ∧ w'.cell? ⟨b, off + (s - 1), none⟩ = some (.int .i64 ((l : Int) + s - 1)) ∧ Below w.heap.size w w' := by
  refine (ones_nat (M.mk l s) (M.mk_lt l s h2) w hT hw).mono ?_
  rintro e w' ⟨v, rfl, hr, hb⟩
  have hlen := M.onesL_len (M.mk l s)
  have hR := Row.of_owns (k := .i64) hr (by unfold maxLen; omega)
  rw [M.onesL_mk l s h2] at hR
  obtain ⟨b, off, cap, rfl, _, hc⟩ := hR.some' (by intro h; have := congrArg List.length h; simp at this; omega)
  simp only [List.length_map, List.length_range'] at hc
  refine ⟨b, off, cap, by simp, ?_, ?_, hb⟩
  · have := hc 0 (by omega)
    have e0 : 0 < s := by omega
    simpa [e0] using this
  · have := hc (s - 1) (by omega)
    have e0 : s - 1 < s := by omega
    rw [this]
    simp [e0]
    omega

set_option maxRecDepth 100000 in
set_option maxHeartbeats 400000 in
theorem masks_walk (a b c : Int) (w : World) (ha : 0 ≤ a) (ha' : a ≤ 255) (hb : 0 ≤ b) (hb' : b ≤ 255) (hc : 0 ≤ c) (hc' : c ≤ 255) (hT : Tab w) (hw : 0 < w.heap.size) :
    Calls Tryd.prog 9 #[.agg #[.int .u8 a, .int .u8 b, .int .u8 c]] w fun e w' => e = .returned (.bool true) ∧ Below w.heap.size w w' := by
  have q1 : 0 ≤ b % (63 - a % 62) := Int.emod_nonneg _ (by omega)
  have q2 : b % (63 - a % 62) < 63 - a % 62 := Int.emod_lt_of_pos _ (by omega)
  have q3 : 0 ≤ c % (64 - a % 62 - (1 + b % (63 - a % 62))) := Int.emod_nonneg _ (by omega)
  have q4 : c % (64 - a % 62 - (1 + b % (63 - a % 62))) < 64 - a % 62 - (1 + b % (63 - a % 62)) := Int.emod_lt_of_pos _ (by omega)
  go_enter Tryd.func9, Tryd.ntmps9
  go_wp2_with fail
  have r : 0 ≤ a % 62 ∧ 1 ≤ 1 + b % (63 - a % 62) ∧ a % 62 + (1 + b % (63 - a % 62)) ≤ 63 ∧ 1 ≤ 1 + c % (64 - a % 62 - (1 + b % (63 - a % 62))) ∧ a % 62 + (1 + b % (63 - a % 62)) + (1 + c % (64 - a % 62 - (1 + b % (63 - a % 62)))) ≤ 64 := by omega
  clear q1 q2 q3 q4
  generalize a % 62 = l at r ⊢
  generalize 1 + b % (63 - l) = s at r ⊢
  generalize 1 + c % (64 - l - s) = t at r ⊢
  obtain ⟨r1, r2, r3, r4, r5⟩ := r
  obtain ⟨l, rfl⟩ := Int.eq_ofNat_of_zero_le r1
  obtain ⟨s, rfl⟩ := Int.eq_ofNat_of_zero_le (show 0 ≤ s by omega)
  obtain ⟨t, rfl⟩ := Int.eq_ofNat_of_zero_le (show 0 ≤ t by omega)
  have hd := M.mk_split l s t
  have m1 := M.mk_lt l s (by omega)
  have m2 := M.mk_lt (l + s) t (by omega)
  have f1 : (bits BinOp.and IntKind.u64 ((M.mk l s : Nat) : Int) ((M.mk (l + s) t : Nat) : Int) == 0) = true := by
    rw [u64_and_nat _ _ m1 m2, hd.1]; rfl
  have f2 : (bits BinOp.or IntKind.u64 ((M.mk l s : Nat) : Int) ((M.mk (l + s) t : Nat) : Int) == ((M.mk l (s + t) : Nat) : Int)) = true := by
    rw [u64_or_nat _ _ m1 m2, hd.2]; simp
  clear hd m1 m2
  have hB0 : Below w.heap.size w (w.alloc (Obj.cells #[Value.int IntKind.u8 a, Value.int IntKind.u8 b, Value.int IntKind.u8 c] 51)) := (Below.refl _ _).alloc (Nat.le_refl _) _
  refine (mask_yes l s _ (by omega) (by omega)).mono ?_
  rintro e w' ⟨rfl, hw'⟩; rw [hw']; clear hw' w'
  go_wp2_with fail
  rw [← Int.natCast_add]
  refine (mask_yes (l + s) t _ (by omega) (by omega)).mono ?_
  rintro e w' ⟨rfl, hw'⟩; rw [hw']; clear hw' w'
  go_wp2_with fail
  refine (ones_mask l s (by omega) (by omega) _ (hT.below hB0 hw) (by simp)).mono ?_
  rintro e w1 ⟨g, off, cap, rfl, c0, c1, hb1⟩
  replace hb1 := hB0.trans (hb1.mono hB0.size)
  clear hB0
  generalize M.mk l s = mm at *
  generalize M.mk (l + s) t = mn at *
  go_wp2_with fail
  rw [← Int.natCast_add]
  refine (mask_yes l (s + t) _ (by omega) (by omega)).mono ?_
  rintro e w' ⟨rfl, hw'⟩; rw [hw']; clear hw' w'
  generalize M.mk l (s + t) = mo at *
  have f3 : ((s : Int) == s) = true := by simp
  have f4 : ((l : Int) == l) = true := by simp
  have f5 : ((l : Int) + s - 1 == l + s - 1) = true := by simp
  go_wp2_with fail
  refine (known_any _ ?_ ?_).mono ?_
  · exact hT.below hb1 hw
  · exact Nat.lt_of_lt_of_le hw hb1.size
  rintro e w2 ⟨rfl, hb2⟩
  replace hb2 := hb1.trans (hb2.mono hb1.size)
  go_wp2
  go_ret
  exact ⟨rfl, hb2⟩
end Go.Proofs.YthhilppeeffheaaDoor
