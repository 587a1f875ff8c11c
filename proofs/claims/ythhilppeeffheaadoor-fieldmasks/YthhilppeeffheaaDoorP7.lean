/- FieldMasks is proved: for every three bytes the call returns true, and what was handed over reads as before. Condition: the package variable math/bits.deBruijn64tab holds what the program's own text lays into it (tied by the given tie). -/
import Derived.Test.YthhilppeeffheaaDoorRows
import Derived.Test.YthhilppeeffheaaDoorTie
import Derived.Test.YthhilppeeffheaaDoorCards
import Derived.Test.YthhilppeeffheaaDoorL7
import Derived.Test.YthhilppeeffheaaDoorKit
import Derived.SevenTiedAt
namespace Go.Proofs.YthhilppeeffheaaDoor
open Go.ChangeShapes Go.WideShapes Go.ChangeAt Go.RowKit

theorem cells51 : Tryd.prog.cellsOf 51 = 3 := by kernel_rfl

set_option maxRecDepth 100000 in
theorem masks_lifted (os : Os) (started : os.Started) (H : Type) (enc : TypeId × Value → H) :
    ReturnsInHanded {} Tryd.checked os 9 .any (fun w args => (Rows.fieldMasksSpec.pre enc Tryd.prog Tryd.f9 [] false w args ∧ laidMetH Tryd.prog laidL w) ∧ sizedMet enc Tryd.prog Tryd.f9 (OpenSpec.ofChange Rows.fieldMasksSpec) false w args)
      (Rows.fieldMasksSpec.post enc Tryd.prog Tryd.f9 false true false false) := by
  refine returnsInHanded_of_change_and (C := Tryd.checked) (X := fun w _ => laidMetH Tryd.prog laidL w) (fun _ _ _ hh h => h.of_heap hh) own started (by kernel_rfl) Tryd.func9
    (ChangeSpec.witness_shaped (enc := enc) (C := Tryd.checked) (os := os) (X := fun w _ => laidMetH Tryd.prog laidL w) false (World.doorLaid Tryd.prog 14 os) #[.agg #[.int .u8 0, .int .u8 0, .int .u8 0]] 8 rfl (World.shaped_of_RefB (by kernel_rfl) (by kernel_rfl)) (by kernel_rfl) (by kernel_rfl) (by kernel_rfl) (door_met os _)) ?_
  intro W base args ds gs before hval0 hW _ _ hL _
  have hval : ∀ (j : Nat) t v, Tryd.f9.params[j]? = some t → args[j]? = some v → Value.okWide Tryd.prog W .any base t v := hval0
  have hW' := hW
  obtain ⟨p, q, hA0, hV, rfl, hfz, hnd⟩ := hW
  have hA : DataW.TrodAll enc Tryd.prog W 0 (fun _ => true) true Tryd.f9.params.toList args.toList ds p := hA0
  rw [Tryd.params9] at hA hval
  obtain ⟨v0, d0, rfl, rfl, h0⟩ := trodAll_one hA
  obtain ⟨rfl, rfl⟩ := trodVars_none hV
  have k0 := h0
  have lt0 : ∀ x ∈ p, x.block < W.heap.size := by obtain ⟨m, hm⟩ := k0; exact DataW.trod_lt m _ _ _ hm
  obtain ⟨zs, hz, rfl, wz⟩ := open_arr Tryd.underlying51 Tryd.underlying5 cells5 cells51 (hval 0 51 v0 rfl rfl) h0
  have hT := tab_of_laid hL
  have hw := heap_pos hT
  obtain ⟨a, b, c, rfl⟩ := list3 zs hz
  have wa := bounds_u8 (wz a (by simp))
  have wb := bounds_u8 (wz b (by simp))
  have wc := bounds_u8 (wz c (by simp))
  clear hA0 hval0
  refine (masks_walk a b c W wa.1 wa.2 wb.1 wb.2 wc.1 wc.2 hT hw).mono fun e W' ⟨he, bel⟩ => ?_
  subst he
  exact ⟨_, rfl, _, _, _, [], _, [], hW', trodAll_mk1 (shut_bool Tryd.underlying4 _), trodAll_mk1 (Below.trod laidOut (by kernel_rfl) (of_decide_eq_true (by kernel_rfl)) k0 bel lt0), rfl, bel.frame _, fun h => by cases h⟩

theorem masks_row : Rows.FieldMasksSaid :=
  OpenClaim.holds_of_wide 9 Tryd.f9 rfl rfl rfl rfl rfl rfl rfl ⟨rfl, rfl, rfl, rfl, rfl⟩ rfl rfl rfl rfl rfl (by kernel_rfl) Tryd.func9 (by kernel_rfl)
    (of_decide_eq_true (by kernel_rfl)) (by unfold Func.isWrapper; first | (rw [if_pos (by decide +kernel)]; kernel_rfl) | (rw [if_neg (by decide +kernel)]; exact ⟨rfl, rfl⟩))
    (fun os started H enc _ => masks_lifted os started H enc)

theorem fieldMasks_card : Rows.FieldMasksCardSaid :=
  Claim7.holds_tied_plain_at .later [] [.data] true (true, "3571cbc7f1df05bb1e8ccdba3c16b6a163d7ae944cec2a15855fe08f0a560597") false
    masks_row (fun _ h => by cases h) (by kernel_rfl) (fun _ h => by cases h) fieldMasks_row_tie rfl ⟨rfl, rfl⟩ (by kernel_rfl) rfl
    (fun f fn hf hfn => by
      obtain rfl : f = 9 := Option.some.inj ((show Tryd.prog.funcNamed "matryoshka/matryoshkalaw01.FieldMasks" = some 9 by kernel_rfl).symm.trans hf) |>.symm
      obtain rfl : fn = Tryd.f9 := (Option.some.inj (Tryd.func9.symm.trans hfn)).symm
      exact ⟨by kernel_rfl, fun j t ht => by
        rw [Tryd.params9] at ht
        have hm : t ∈ [51] := by simpa using Array.mem_of_getElem? ht
        have hall : ([51].all fun u => !Tryd.prog.wantsStandIn u) = true := by kernel_rfl
        exact (show Tryd.prog.wantsStandIn t = false by simpa using List.all_eq_true.1 hall t hm)⟩)
    (by kernel_rfl)
#print axioms fieldMasks_card
end Go.Proofs.YthhilppeeffheaaDoor
