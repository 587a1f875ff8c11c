/- NptLarge is proved: for every page below 65536 and every three numbers below 256 the call returns true, and what was handed over reads as before. Condition: the package variable matryoshka/desc.rules holds what the program's own text lays into it (tied by the given tie). -/
import Derived.Test.YtpfmmlbakbhklaaGreatDoorRows
import Derived.Test.YtpfmmlbakbhklaaGreatDoorTie
import Derived.Test.YtpfmmlbakbhklaaGreatDoorCards
import Derived.Test.YtpfmmlbakbhklaaGreatDoorBZ
import Derived.Test.YtpfmmlbakbhklaaGreatDoorBP
import Derived.Test.YtpfmmlbakbhklaaGreatDoorBQ3
import Derived.SevenTiedAt
namespace Go.Proofs.YtpfmmlbakbhklaaGreatDoor
open Go.ChangeShapes Go.WideShapes Go.ChangeAt Go.RowKit

set_option maxRecDepth 100000 in
theorem tlarge_lifted (os : Os) (started : os.Started) (H : Type) (enc : TypeId × Value → H) :
    ReturnsInHanded {} Tryz.checked os 8 .any (fun w args => (Rows.nptLargeSpec.pre enc Tryz.prog Tryz.f8 [] false w args ∧ laidMetH Tryz.prog laidL w) ∧ sizedMet enc Tryz.prog Tryz.f8 (OpenSpec.ofChange Rows.nptLargeSpec) false w args)
      (Rows.nptLargeSpec.post enc Tryz.prog Tryz.f8 false true false false) := by
  refine returnsInHanded_of_change_and (C := Tryz.checked) (X := fun w _ => laidMetH Tryz.prog laidL w) (fun _ _ _ hh h => h.of_heap hh) own started (by kernel_rfl) Tryz.func8
    (ChangeSpec.witness_shaped (enc := enc) (C := Tryz.checked) (os := os) (X := fun w _ => laidMetH Tryz.prog laidL w) false (World.laidAll Tryz.prog os laidL) #[.int .u16 0, .agg #[.int .u8 0, .int .u8 0, .int .u8 0]] 8 (World.laidAll_os _ _ _) (World.shaped_of_ZipB (by kernel_rfl) (by kernel_rfl)) (by kernel_rfl) (by kernel_rfl) (by kernel_rfl) (door_met os _)) ?_
  intro W base args ds gs before hval0 hW _ _ hL _
  have hval : ∀ (j : Nat) t v, Tryz.f8.params[j]? = some t → args[j]? = some v → Value.okWide Tryz.prog W .any base t v := hval0
  have hW' := hW
  obtain ⟨p, q, hA0, hV, rfl, hfz, hnd⟩ := hW
  have hA : DataW.TrodAll enc Tryz.prog W 0 (fun _ => true) true Tryz.f8.params.toList args.toList ds p := hA0
  rw [Tryz.params8] at hA hval
  obtain ⟨v0, v1, d0, d1, p0, p1, rfl, rfl, rfl, h0, h1⟩ := trodAll_two hA
  obtain ⟨rfl, rfl⟩ := trodVars_none hV
  have k0 := h0
  have lt0 : ∀ x ∈ p0, x.block < W.heap.size := by obtain ⟨m, hm⟩ := k0; exact DataW.trod_lt m _ _ _ hm
  have k1 := h1
  have lt1 : ∀ x ∈ p1, x.block < W.heap.size := by obtain ⟨m, hm⟩ := k1; exact DataW.trod_lt m _ _ _ hm
  obtain ⟨z0, rfl, rfl, rfl, wz0⟩ := open_int Tryz.underlying48 (hval 0 48 v0 rfl rfl) h0
  obtain ⟨zs1, hz1, rfl, wz1⟩ := open_arr Tryz.underlying78 Tryz.underlying5 cells5 cells78 (hval 1 78 v1 rfl rfl) h1
  obtain ⟨x0, x1, x2, rfl⟩ := list3 zs1 hz1
  have b0 := bounds_u8 (wz1 x0 (by simp))
  have b1 := bounds_u8 (wz1 x1 (by simp))
  have b2 := bounds_u8 (wz1 x2 (by simp))
  obtain ⟨y0, rfl⟩ := Int.eq_ofNat_of_zero_le b0.1
  obtain ⟨y1, rfl⟩ := Int.eq_ofNat_of_zero_le b1.1
  obtain ⟨y2, rfl⟩ := Int.eq_ofNat_of_zero_le b2.1
  obtain ⟨yp, rfl⟩ := Int.eq_ofNat_of_zero_le (bounds_u16 wz0).1
  have hT := tab_of_laid hL
  clear hA0 hval0
  refine (large_walk W hT yp y0 y1 y2 (by have := (bounds_u16 wz0).2; omega) (by omega) (by omega) (by omega)).mono fun e W' ⟨he, bel⟩ => ?_
  subst he
  exact ⟨_, rfl, _, _, _, [], _, [], hW', trodAll_mk1 (shut_bool Tryz.underlying4 _), trodAll_mk2 (Below.trod laidOut (by kernel_rfl) (of_decide_eq_true (by kernel_rfl)) k0 bel lt0) (Below.trod laidOut (by kernel_rfl) (of_decide_eq_true (by kernel_rfl)) k1 bel lt1), rfl, bel.frame _, fun h => by cases h⟩

theorem tlarge_row : Rows.NptLargeSaid :=
  OpenClaim.holds_of_wide 8 Tryz.f8 rfl rfl rfl rfl rfl rfl rfl ⟨rfl, rfl, rfl, rfl, rfl⟩ rfl rfl rfl rfl rfl (by kernel_rfl) Tryz.func8 (by kernel_rfl)
    (of_decide_eq_true (by kernel_rfl)) (by unfold Func.isWrapper; first | (rw [if_pos (by decide +kernel)]; kernel_rfl) | (rw [if_neg (by decide +kernel)]; exact ⟨rfl, rfl⟩))
    (fun os started H enc _ => tlarge_lifted os started H enc)

theorem nptLarge_card : Rows.NptLargeCardSaid :=
  Claim7.holds_tied_plain_at .later [] [.data] true (true, "01d919b89e1d8b75cf064ff029311a12fc803a16212a52ec3a3cc5753345bb76") false
    tlarge_row (fun _ h => by cases h) (by kernel_rfl) (fun _ h => by cases h) nptLarge_row_tie rfl ⟨rfl, rfl⟩ (by kernel_rfl) rfl
    (fun f fn hf hfn => by
      obtain rfl : f = 8 := Option.some.inj ((show Tryz.prog.funcNamed "matryoshka/matryoshkalaw13.NptLarge" = some 8 by kernel_rfl).symm.trans hf) |>.symm
      obtain rfl : fn = Tryz.f8 := (Option.some.inj (Tryz.func8.symm.trans hfn)).symm
      exact ⟨by kernel_rfl, fun j t ht => by
        rw [Tryz.params8] at ht
        have hm : t ∈ [48, 78] := by simpa using Array.mem_of_getElem? ht
        have hall : ([48, 78].all fun u => !Tryz.prog.wantsStandIn u) = true := by kernel_rfl
        exact (show Tryz.prog.wantsStandIn t = false by simpa using List.all_eq_true.1 hall t hm)⟩)
    (by kernel_rfl)
#print axioms nptLarge_card
end Go.Proofs.YtpfmmlbakbhklaaGreatDoor
