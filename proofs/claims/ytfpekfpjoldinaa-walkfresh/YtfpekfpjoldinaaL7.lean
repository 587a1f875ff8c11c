/- The walk of WalkFresh: for every three numbers it returns true; nothing that lay before is changed. No conditions but the numbers' sizes. -/
import Derived.Test.YtfpekfpjoldinaaK
namespace Go.Proofs.Ytfpekfpjoldinaa
open Go.RowKit

theorem fresh_oc {a g wt : Int} (a0 : 0 ≤ a) (a1 : a ≤ 9) (g0 : 0 ≤ g) (g1 : g ≤ 65535) : oc (bothS []).xs a g wt (3 : Nat) = .fin ⟨0, 0, 3, 4⟩ := by
  have e1 : P.at' a g 3 = 16 * a + g / 4096 % 16 := by
    unfold P.at'
    rw [P.ix_yes (P.btw_t g0 g1) (by decide), show P.sp 3 = 4096 from rfl, decide_eq_true (by omega), P.btw_t a0 (by omega)]
    rfl
  show ocx (inB (bothS []).xs.length (P.at' a g 3)) (wordAt (bothS []).xs (P.at' a g 3)) g wt 3 = _
  have e2 : inB (bothS []).xs.length (P.at' a g 3) = true := inB_yes.2 (by
    rw [e1]
    show _ ∧ _ < ((List.replicate 160 (0 : Int)).length : Int)
    rw [List.length_replicate]
    omega)
  have e3 : wordAt (bothS []).xs (P.at' a g 3) = 0 := by
    unfold wordAt
    rw [if_pos e2]
    show (List.replicate 160 (0 : Int)).getD _ 0 = 0
    rw [List.getD, List.getElem?_replicate]
    split <;> rfl
  rw [e2, e3]
  rfl

theorem fresh_path {a g wt : Int} (h : oc (bothS []).xs a g wt (3 : Nat) = .fin ⟨0, 0, 3, 4⟩) : pathF (bothS []).xs g wt 3 a = [a] := pathF_fin h
theorem fresh_run {a g wt : Int} (h : oc (bothS []).xs a g wt (3 : Nat) = .fin ⟨0, 0, 3, 4⟩) : runF (bothS []).xs g wt 3 a = ⟨0, 0, 3, 4⟩ := runF_fin h

theorem fresh_step {a g wt : Int} (hk : okW a g wt = true) (h : oc (bothS []).xs a g wt (3 : Nat) = .fin ⟨0, 0, 3, 4⟩) : Wd ⟨0, 0, 3, 4⟩ [a] (stepW (bothS []).xs (newW a g wt)) := by
  have hi := Wi.new (xs := (bothS []).xs) hk
  rw [fresh_path h, fresh_run h] at hi
  rcases hi.step with x | x
  · have := x.1.st
    have e : stepW (bothS []).xs (newW a g wt) = ocW (oc (bothS []).xs a g wt (3 : Nat)) (putP (newW a g wt) 0) := rfl
    rw [e, h] at this
    cases this
  · exact x

set_option maxRecDepth 100000 in
set_option maxHeartbeats 1000000 in
theorem fresh_walk (r g k : Nat) (lr : r ≤ 255) (lg : g ≤ 65535) (lk : k ≤ 255) (w : World) : Calls Try.prog 7 #[.int .u8 r, .int .u16 g, .int .u8 k] w fun e w' => e = .returned (.bool true) ∧ Below w.heap.size w w' := by
  have e1 : IntKind.i64.wrap (r : Int) = r := i64w (by omega) (by omega)
  have e2 : IntKind.i64.wrap (g : Int) = g := i64w (by omega) (by omega)
  have e3 : IntKind.i64.wrap (k : Int) = k := i64w (by omega) (by omega)
  obtain ⟨a, ha⟩ : ∃ a : Nat, (r : Int) % 10 = a := ⟨r % 10, by omega⟩
  obtain ⟨m, hm⟩ : ∃ m : Nat, (k : Int) % 8 = m := ⟨k % 8, by omega⟩
  have e4 : (r : Int).tmod 10 = a := by rw [Int.tmod_eq_emod_of_nonneg (by omega)]; exact ha
  have e5 : (k : Int).tmod 8 = m := by rw [Int.tmod_eq_emod_of_nonneg (by omega)]; exact hm
  have e6 : IntKind.i64.wrap (a : Int) = a := i64w (by omega) (by omega)
  have e7 : IntKind.i64.wrap (m : Int) = m := i64w (by omega) (by omega)
  have hok : okW a g m = true := by
    unfold okW
    rw [P.btw_t (by omega) (by omega), P.btw_t (by omega) (by omega), P.btw_t (by omega) (by omega)]
    rfl
  have ho := fresh_oc (wt := m) (show (0 : Int) ≤ (a : Int) by omega) (by omega) (show (0 : Int) ≤ (g : Int) by omega) (by omega)
  have HS := hid (fresh_step hok ho)
  have HI := hid (Wi.new (xs := (bothS []).xs) hok)
  have HN := hid (fun W => wnew_at W (a : Int) (g : Int) (m : Int) (by omega) (by omega) hok)
  have HU : Hid (U64 (bothS []).xs) := hid (bothS_u64 (fun i => ⟨Int.le_refl _, show (0 : Int) < 18446744073709551616 by decide⟩))
  clear ha hm hok ho lr lg lk
  generalize newW (a : Int) (g : Int) (m : Int) = x0 at *
  go_enter Try.func7, Try.ntmps7
  go_wp2_with fail
  refine (both_nil _ _ _).mono ?_
  rintro e w1 ⟨p, b, q, c, rfl, hB⟩
  have HK := hid (Kn.of_bo hB (Below.refl _ _) (bothS_cnt []))
  clear hB
  go_wp2_with fail
  refine (HN.out _).mono ?_
  rintro e w2 ⟨rfl, hw2⟩
  have HX : Hid (IsWk w2 w1.heap.size x0) := hid (by rw [hw2]; exact heap_alloc_new _ _)
  have HK2 : Hid (Kn w w2 p b (bothS []).xs 200) := hid (by rw [hw2]; exact HK.out.below (below_alloc _ _))
  have hgp : w1.heap.size ≠ p := by have := HK.out.lt; omega
  have hgb : w1.heap.size ≠ b := by have := HK.out.lt; omega
  have hg0 : Hid (w.heap.size ≤ w1.heap.size) := hid HK.out.bel.size
  clear hw2 HK
  generalize w1.heap.size = gb at *
  go_wp2_with fail
  refine (step_w HK2.out HX.out HI.out (by unfold bnd; omega) hgp hgb hg0.out HU.out).mono ?_
  rintro e w3 ⟨rfl, hX, hK⟩
  have HD := HS
  have hst := HS.out.st
  generalize stepW (bothS []).xs x0 = y at *
  have HX := hid hX
  have HK := hid hK
  clear hX hK HK2 HS
  rw [hst]
  clear hst
  go_wp2_with fail
  refine (result_k HX.out HD.out).mono ?_
  rintro e v1 ⟨rfl, hB⟩
  have HXn := hid (HX.out.below hB)
  clear HX
  have HX := HXn
  clear HXn
  have HKn := hid (HK.out.below hB)
  clear HK
  have HK := HKn
  clear HKn
  clear hB
  simp only [ftwo]
  (try simp only [])
  go_wp2_with fail
  refine (path_d (HX.out.below (below_alloc _ _)) HD.out).mono ?_
  rintro e v2 ⟨rfl, hP, hB⟩
  have nFp : v1.heap.size ≠ p := by have := HK.out.lt; omega
  have nFb : v1.heap.size ≠ b := by have := HK.out.lt; omega
  have aF := P.stay hB (heap_alloc_new v1 _)
  have aPA := hP
  have HXn := hid ((HX.out.below (below_alloc _ _)).below hB)
  clear HX
  have HX := HXn
  clear HXn
  have HKn := hid ((HK.out.below (below_alloc _ _)).below hB)
  clear HK
  have HK := HKn
  clear HKn
  clear hB
  have lF := lt_of_block aF
  have dF0 := cell_of (i := 0) aF rfl
  have dF1 := cell_of (i := 1) aF rfl
  have dF2 := cell_of (i := 2) aF rfl
  have dF3 := cell_of (i := 3) aF rfl
  have AF := hid aF
  clear aF
  rw [World.size_alloc] at aPA
  rw [World.size_alloc]
  have HPA := hid aPA
  clear aPA hP
  (try simp only [])
  go_wp2_with fail
  refine (same_any (Lies.of_row (P.hkeep HPA.out _) rfl (by simp)) (Lies.of_row (xs := [(a : Int)]) (heap_alloc_new _ _) rfl (by simp))).mono ?_
  rintro e v3 ⟨rfl, hB⟩
  have aF := P.stay hB (P.hkeep AF.out _)
  have HXn := hid ((HX.out.below (below_alloc _ _)).below hB)
  clear HX
  have HX := HXn
  clear HXn
  have HKn := hid ((HK.out.below (below_alloc _ _)).below hB)
  clear HK
  have HK := HKn
  clear HKn
  clear AF lF dF0 dF1 dF2 dF3
  clear hB
  have lF := lt_of_block aF
  have dF0 := cell_of (i := 0) aF rfl
  have dF1 := cell_of (i := 1) aF rfl
  have dF2 := cell_of (i := 2) aF rfl
  have dF3 := cell_of (i := 3) aF rfl
  have AF := hid aF
  clear aF
  (try simp only [])
  go_wp2_with fail
  refine (known_yes _).mono ?_
  rintro e v4 ⟨rfl, hB⟩
  have aF := P.stay hB AF.out
  have HXn := hid (HX.out.below hB)
  clear HX
  have HX := HXn
  clear HXn
  have HKn := hid (HK.out.below hB)
  clear HK
  have HK := HKn
  clear HKn
  clear AF lF dF0 dF1 dF2 dF3
  clear hB
  have lF := lt_of_block aF
  have dF0 := cell_of (i := 0) aF rfl
  have dF1 := cell_of (i := 1) aF rfl
  have dF2 := cell_of (i := 2) aF rfl
  have dF3 := cell_of (i := 3) aF rfl
  have AF := hid aF
  clear aF
  (try simp only [])
  go_wp2
  go_ret
  exact ⟨rfl, HK.out.bel⟩

end Go.Proofs.Ytfpekfpjoldinaa
