/- The walk of FieldBack: it returns true for every word, two bytes and number; nothing that lay before is changed. -/
import Derived.Test.YthhilppeeffheaaDoorW4
import Derived.Test.YthhilppeeffheaaDoorMath3
namespace Go.Proofs.YthhilppeeffheaaDoor
open Go.RowKit

set_option maxRecDepth 100000 in
set_option maxHeartbeats 400000 in
theorem back_walk (x v : Nat) (a b : Int) (w : World) (hx : x < 18446744073709551616) (hv : v < 18446744073709551616) (ha : 0 ≤ a) (ha' : a ≤ 255) (hb : 0 ≤ b) (hb' : b ≤ 255) (hT : Tab w) (hw : 0 < w.heap.size) :
    Calls Tryd.prog 5 #[.int .u64 x, .agg #[.int .u8 a, .int .u8 b], .int .u64 v] w fun e w' => e = .returned (.bool true) ∧ Below w.heap.size w w' := by
  have HX : Hid (x < 18446744073709551616) := hx
  have HV : Hid (v < 18446744073709551616) := hv
  clear hx hv
  have q1 : 0 ≤ b % (64 - a % 64) := Int.emod_nonneg _ (by omega)
  have q2 : b % (64 - a % 64) < 64 - a % 64 := Int.emod_lt_of_pos _ (by omega)
  go_enter Tryd.func5, Tryd.ntmps5
  go_wp2_with fail
  have r : 0 ≤ a % 64 ∧ 1 ≤ 1 + b % (64 - a % 64) ∧ a % 64 + (1 + b % (64 - a % 64)) ≤ 64 := by omega
  clear q1 q2
  generalize a % 64 = l at r ⊢
  generalize 1 + b % (64 - l) = s at r ⊢
  obtain ⟨r1, r2, r3⟩ := r
  obtain ⟨l, rfl⟩ := Int.eq_ofNat_of_zero_le r1
  obtain ⟨s, rfl⟩ := Int.eq_ofNat_of_zero_le (show 0 ≤ s by omega)
  have s1 : 1 ≤ s := by omega
  have s2 : l + s ≤ 64 := by omega
  have m1 := M.mk_lt l s s2
  have m2 := M.pt_lt x l s v HX.out s2
  have m3 := M.gt_lt x l s HX.out
  have e1 := M.gt_pt x l s v
  have f2 : (bits BinOp.andNot IntKind.u64 ((M.pt x l s v : Nat) : Int) ((M.mk l s : Nat) : Int) == bits BinOp.andNot IntKind.u64 (x : Int) ((M.mk l s : Nat) : Int)) = true := by
    rw [u64_andNot_nat _ _ m2 m1, u64_andNot_nat _ _ HX.out m1, M.andNot_pt x l s v s2]; simp
  have HB : Hid (M.pt (M.pt x l s v) l s (M.gt x l s) = x) := M.pt_back x l s v
  obtain ⟨g, hg⟩ : ∃ g, v % 2 ^ s = g := ⟨_, rfl⟩
  have f1 : ((g : Int) == IntKind.u64.wrap ((v : Int) * 2 ^ (64 - s)) / 2 ^ (64 - s)) = true := by
    have h1 := M.shl_shr v s (by omega)
    have h2 : IntKind.u64.wrap ((v : Int) * 2 ^ (64 - s)) / 2 ^ (64 - s) = ((v * 2 ^ (64 - s) % 18446744073709551616 / 2 ^ (64 - s) : Nat) : Int) := by
      rw [IntKind.wrap_u64]; simp
    rw [h2, h1, hg]; simp
  have HE : Hid (M.gt (M.pt x l s v) l s = g) := by show _ = _; rw [e1, hg]
  clear hg
  have HP : Hid (M.popN 64 (M.mk l s) = s) := M.popN_mk l 64 s s2
  have HM1 : Hid (M.mk l s < 18446744073709551616) := m1
  have HM2 : Hid (M.pt x l s v < 18446744073709551616) := m2
  clear e1 m1 m2 m3
  have hB0 : Below w.heap.size w (w.alloc (Obj.cells #[Value.int IntKind.u8 a, Value.int IntKind.u8 b] 42)) := (Below.refl _ _).alloc (Nat.le_refl _) _
  refine (mask_yes l s _ s1 s2).mono ?_
  rintro e w' ⟨rfl, hw'⟩; rw [hw']; clear hw' w'
  go_wp2_with fail
  refine (put_yes x l s v _ HX.out s1 s2).mono ?_
  rintro e w' ⟨rfl, hw'⟩; rw [hw']; clear hw' w'
  go_wp2_with fail
  refine (get_yes (M.pt x l s v) l s _ HM2.out s1 s2).mono ?_
  rintro e w' ⟨rfl, hw'⟩; rw [hw', HE.out]; clear hw' w'
  go_wp2_with fail
  refine (fcount_nat (M.mk l s) _ HM1.out).mono ?_
  rintro e w' ⟨rfl, hw'⟩; rw [hw', HP.out]; clear hw' w'
  have f3 : ((s : Int) == s) = true := by simp
  go_wp2_with fail
  refine (get_yes x l s _ HX.out s1 s2).mono ?_
  rintro e w' ⟨rfl, hw'⟩; rw [hw']; clear hw' w'
  go_wp2_with fail
  refine (put_yes (M.pt x l s v) l s (M.gt x l s) _ HM2.out s1 s2).mono ?_
  rintro e w' ⟨rfl, hw'⟩; rw [hw', HB.out]; clear hw' w'
  have f4 : ((x : Int) == x) = true := by simp
  go_wp2_with fail
  refine (known_any _ (hT.below hB0 hw) (by simp)).mono ?_
  rintro e w2 ⟨rfl, hb2⟩
  replace hb2 := hB0.trans (hb2.mono hB0.size)
  go_wp2
  go_ret
  exact ⟨rfl, hb2⟩
end Go.Proofs.YthhilppeeffheaaDoor
