/- PteRights is proved: for every entry and every two numbers the call returns true, and what was handed over reads as before. No condition. -/
import Derived.Test.YtiafnmhmpjhddaaRows
import Derived.Test.YtiafnmhmpjhddaaL7
import Derived.Test.YtiafnmhmpjhddaaKit
namespace Go.Proofs.Ytiafnmhmpjhddaa
open Go.ChangeShapes Go.WideShapes Go.ChangeAt Go.RowKit

set_option maxRecDepth 100000 in
theorem rights_lifted (os : Os) (started : os.Started) (H : Type) (enc : TypeId × Value → H) :
    ReturnsInHanded {} Try.checked os 7 .any (Rows.pteRightsSpec.pre6 enc Try.prog Try.f7 Rows.pteRightsRow.domain false) (Rows.pteRightsSpec.post enc Try.prog Try.f7 false true false false) := by
  refine returnsInHanded_of_change (C := Try.checked) own started (by kernel_rfl) Try.func7
    (ChangeSpec.witness6 (enc := enc) (C := Try.checked) false ⟨#[], #[.agg #[.bool false, .int .i64 0, .bool false, .int .i64 0], .agg #[.int .u8 0, .int .u8 0]], []⟩ 8 (by kernel_rfl) (by kernel_rfl) (by kernel_rfl) (by kernel_rfl)) ?_
  intro W base args ds gs before hval0 hW hcnd _
  have hval : ∀ (j : Nat) t v, Try.f7.params[j]? = some t → args[j]? = some v → Value.okWide Try.prog W .any base t v := hval0
  have hW' := hW
  obtain ⟨p, q, hA0, hV, rfl, hfz, hnd⟩ := hW
  have hA : DataW.TrodAll enc Try.prog W 0 (fun _ => true) true Try.f7.params.toList args.toList ds p := hA0
  rw [Try.params7] at hA hval
  obtain ⟨v0, v1, d0, d1, p0, p1, rfl, rfl, rfl, h0, h1⟩ := trodAll_two hA
  obtain ⟨rfl, rfl⟩ := trodVars_none hV
  have k0 := h0
  have lt0 : ∀ x ∈ p0, x.block < W.heap.size := by obtain ⟨m, hm⟩ := k0; exact DataW.trod_lt m _ _ _ hm
  have k1 := h1
  have lt1 : ∀ x ∈ p1, x.block < W.heap.size := by obtain ⟨m, hm⟩ := k1; exact DataW.trod_lt m _ _ _ hm
  obtain ⟨x0, rfl⟩ := en_of_arg (hval 0 23 v0 rfl rfl) h0
  obtain ⟨zs1, hz1, rfl, wz1⟩ := open_arr Try.underlying48 Try.underlying5 cells5 cells48 (hval 1 48 v1 rfl rfl) h1
  obtain ⟨a1, b1, rfl⟩ := list2 zs1 hz1
  have wa1 := wz1 a1 (by simp)
  have wb1 := wz1 b1 (by simp)
  obtain ⟨m1, rfl⟩ := Int.eq_ofNat_of_zero_le (bounds_u8 wa1).1
  obtain ⟨n1, rfl⟩ := Int.eq_ofNat_of_zero_le (bounds_u8 wb1).1
  clear hA0 hval0
  refine (rights_walk x0 m1 n1 (by have := (bounds_u8 wa1).2; omega) (by have := (bounds_u8 wb1).2; omega) W).mono fun e W' ⟨he, bel⟩ => ?_
  subst he
  exact ⟨_, rfl, _, _, _, [], _, [], hW', trodAll_mk1 (shut_bool Try.underlying4 _), trodAll_mk2 (Below.trod laidOut (by kernel_rfl) (of_decide_eq_true (by kernel_rfl)) k0 bel lt0) (Below.trod laidOut (by kernel_rfl) (of_decide_eq_true (by kernel_rfl)) k1 bel lt1), rfl, bel.frame _, fun h => by cases h⟩

theorem pteRights_holds : Rows.PteRightsSaid :=
  OpenClaim.holds_of_wide 7 Try.f7 rfl rfl rfl rfl rfl rfl rfl ⟨rfl, rfl, rfl, rfl, rfl⟩ rfl rfl rfl rfl rfl (by kernel_rfl) Try.func7 (by kernel_rfl)
    (of_decide_eq_true (by kernel_rfl)) (by unfold Func.isWrapper; first | (rw [if_pos (by decide +kernel)]; kernel_rfl) | (rw [if_neg (by decide +kernel)]; exact ⟨rfl, rfl⟩))
    (fun os started H enc _ => rights_lifted os started H enc)
#print axioms pteRights_holds
end Go.Proofs.Ytiafnmhmpjhddaa
