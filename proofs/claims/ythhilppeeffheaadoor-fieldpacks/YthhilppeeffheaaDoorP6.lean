/- FieldPacks is proved: for every four words and every four bytes the call returns true, and what was handed over reads as before. Condition: the package variable math/bits.deBruijn64tab holds what the program's own text lays into it (tied by the given tie). -/
import Derived.Test.YthhilppeeffheaaDoorRows
import Derived.Test.YthhilppeeffheaaDoorTie
import Derived.Test.YthhilppeeffheaaDoorCards
import Derived.Test.YthhilppeeffheaaDoorL6
import Derived.Test.YthhilppeeffheaaDoorKit
import Derived.SevenTiedAt
namespace Go.Proofs.YthhilppeeffheaaDoor
open Go.ChangeShapes Go.WideShapes Go.ChangeAt Go.RowKit

theorem cells45 : Tryd.prog.cellsOf 45 = 4 := by kernel_rfl
theorem cells46 : Tryd.prog.cellsOf 46 = 4 := by kernel_rfl
theorem all4 {α : Type} {p : α → Prop} {a b c d : α} (h0 : p a) (h1 : p b) (h2 : p c) (h3 : p d) : ∀ v ∈ [a, b, c, d], p v := by
  intro v hv
  simp only [List.mem_cons, List.not_mem_nil, or_false] at hv
  rcases hv with rfl | rfl | rfl | rfl <;> assumption

set_option maxRecDepth 100000 in
theorem packs_lifted (os : Os) (started : os.Started) (H : Type) (enc : TypeId × Value → H) :
    ReturnsInHanded {} Tryd.checked os 6 .any (fun w args => (Rows.fieldPacksSpec.pre enc Tryd.prog Tryd.f6 [] false w args ∧ laidMetH Tryd.prog laidL w) ∧ sizedMet enc Tryd.prog Tryd.f6 (OpenSpec.ofChange Rows.fieldPacksSpec) false w args)
      (Rows.fieldPacksSpec.post enc Tryd.prog Tryd.f6 false true false false) := by
  refine returnsInHanded_of_change_and (C := Tryd.checked) (X := fun w _ => laidMetH Tryd.prog laidL w) (fun _ _ _ hh h => h.of_heap hh) own started (by kernel_rfl) Tryd.func6
    (ChangeSpec.witness_shaped (enc := enc) (C := Tryd.checked) (os := os) (X := fun w _ => laidMetH Tryd.prog laidL w) false (World.doorLaid Tryd.prog 14 os) #[.agg #[.int .u64 0, .int .u64 0, .int .u64 0, .int .u64 0], .agg #[.int .u8 0, .int .u8 0, .int .u8 0, .int .u8 0]] 8 rfl (World.shaped_of_RefB (by kernel_rfl) (by kernel_rfl)) (by kernel_rfl) (by kernel_rfl) (by kernel_rfl) (door_met os _)) ?_
  intro W base args ds gs before hval0 hW _ _ hL _
  have hval : ∀ (j : Nat) t v, Tryd.f6.params[j]? = some t → args[j]? = some v → Value.okWide Tryd.prog W .any base t v := hval0
  have hW' := hW
  obtain ⟨p, q, hA0, hV, rfl, hfz, hnd⟩ := hW
  have hA : DataW.TrodAll enc Tryd.prog W 0 (fun _ => true) true Tryd.f6.params.toList args.toList ds p := hA0
  rw [Tryd.params6] at hA hval
  obtain ⟨v0, v1, d0, d1, p0, p1, rfl, rfl, rfl, h0, h1⟩ := trodAll_two hA
  obtain ⟨rfl, rfl⟩ := trodVars_none hV
  have k0 := h0
  have lt0 : ∀ x ∈ p0, x.block < W.heap.size := by obtain ⟨m, hm⟩ := k0; exact DataW.trod_lt m _ _ _ hm
  have k1 := h1
  have lt1 : ∀ x ∈ p1, x.block < W.heap.size := by obtain ⟨m, hm⟩ := k1; exact DataW.trod_lt m _ _ _ hm
  obtain ⟨zs, hz, rfl, wz⟩ := open_arr Tryd.underlying45 Tryd.underlying22 cells22 cells45 (hval 0 45 v0 rfl rfl) h0
  obtain ⟨ys, hy, rfl, wy⟩ := open_arr Tryd.underlying46 Tryd.underlying5 cells5 cells46 (hval 1 46 v1 rfl rfl) h1
  obtain ⟨a0, a1, a2, a3, rfl⟩ := list4 zs hz
  obtain ⟨s0, s1, s2, s3, rfl⟩ := list4 ys hy
  have b0 := bounds_u64 (wz a0 (by simp))
  have b1 := bounds_u64 (wz a1 (by simp))
  have b2 := bounds_u64 (wz a2 (by simp))
  have b3 := bounds_u64 (wz a3 (by simp))
  have c0 := bounds_u8 (wy s0 (by simp))
  have c1 := bounds_u8 (wy s1 (by simp))
  have c2 := bounds_u8 (wy s2 (by simp))
  have c3 := bounds_u8 (wy s3 (by simp))
  obtain ⟨n0, rfl⟩ := Int.eq_ofNat_of_zero_le b0.1
  obtain ⟨n1, rfl⟩ := Int.eq_ofNat_of_zero_le b1.1
  obtain ⟨n2, rfl⟩ := Int.eq_ofNat_of_zero_le b2.1
  obtain ⟨n3, rfl⟩ := Int.eq_ofNat_of_zero_le b3.1
  have hT := tab_of_laid hL
  have hw := heap_pos hT
  clear hA0 hval0
  refine (packs_walk [n0, n1, n2, n3] [s0, s1, s2, s3] W n0 n1 n2 n3 s0 s1 s2 s3 rfl rfl (all4 (by omega) (by omega) (by omega) (by omega)) (all4 c0 c1 c2 c3) hT hw).mono fun e W' ⟨he, bel⟩ => ?_
  subst he
  exact ⟨_, rfl, _, _, _, [], _, [], hW', trodAll_mk1 (shut_bool Tryd.underlying4 _), trodAll_mk2 (Below.trod laidOut (by kernel_rfl) (of_decide_eq_true (by kernel_rfl)) k0 bel lt0) (Below.trod laidOut (by kernel_rfl) (of_decide_eq_true (by kernel_rfl)) k1 bel lt1), rfl, bel.frame _, fun h => by cases h⟩

theorem packs_row : Rows.FieldPacksSaid :=
  OpenClaim.holds_of_wide 6 Tryd.f6 rfl rfl rfl rfl rfl rfl rfl ⟨rfl, rfl, rfl, rfl, rfl⟩ rfl rfl rfl rfl rfl (by kernel_rfl) Tryd.func6 (by kernel_rfl)
    (of_decide_eq_true (by kernel_rfl)) (by unfold Func.isWrapper; first | (rw [if_pos (by decide +kernel)]; kernel_rfl) | (rw [if_neg (by decide +kernel)]; exact ⟨rfl, rfl⟩))
    (fun os started H enc _ => packs_lifted os started H enc)

theorem fieldPacks_card : Rows.FieldPacksCardSaid :=
  Claim7.holds_tied_plain_at .later [] [.data] true (true, "3571cbc7f1df05bb1e8ccdba3c16b6a163d7ae944cec2a15855fe08f0a560597") false
    packs_row (fun _ h => by cases h) (by kernel_rfl) (fun _ h => by cases h) fieldPacks_row_tie rfl ⟨rfl, rfl⟩ (by kernel_rfl) rfl
    (fun f fn hf hfn => by
      obtain rfl : f = 6 := Option.some.inj ((show Tryd.prog.funcNamed "matryoshka/matryoshkalaw01.FieldPacks" = some 6 by kernel_rfl).symm.trans hf) |>.symm
      obtain rfl : fn = Tryd.f6 := (Option.some.inj (Tryd.func6.symm.trans hfn)).symm
      exact ⟨by kernel_rfl, fun j t ht => by
        rw [Tryd.params6] at ht
        have hm : t ∈ [45, 46] := by simpa using Array.mem_of_getElem? ht
        have hall : ([45, 46].all fun u => !Tryd.prog.wantsStandIn u) = true := by kernel_rfl
        exact (show Tryd.prog.wantsStandIn t = false by simpa using List.all_eq_true.1 hall t hm)⟩)
    (by kernel_rfl)
#print axioms fieldPacks_card
end Go.Proofs.YthhilppeeffheaaDoor
