/- The walk of FieldApart: it returns true for every word, three bytes and two numbers; nothing that lay before is changed. -/
import Derived.Test.YthhilppeeffheaaDoorW4
import Derived.Test.YthhilppeeffheaaDoorMath3
import Derived.Deep.RegionHeld3
namespace Go.Proofs.YthhilppeeffheaaDoor
open Go.RowKit

theorem i64w (x : Int) (h1 : -9223372036854775808 ≤ x) (h2 : x ≤ 9223372036854775807) : IntKind.i64.wrap x = x := by
  simp [IntKind.wrap, IntKind.bits, IntKind.signed]; omega
theorem put_I (x v l s : Nat) (li si : Int) (w : World) (hl : li = l) (hs : si = s) (hx : x < 18446744073709551616) (h1 : 1 ≤ s) (h2 : l + s ≤ 64) :
    Calls Tryd.prog 13 #[.int .u64 x, .int .i64 li, .int .i64 si, .int .u64 v] w fun e w' => e = .returned (.int .u64 (M.pt x l s v : Nat)) ∧ w' = w := by
  subst hl hs
  exact put_yes x l s v w hx h1 h2
theorem get_I (x l s : Nat) (li si : Int) (w : World) (hl : li = l) (hs : si = s) (hx : x < 18446744073709551616) (h1 : 1 ≤ s) (h2 : l + s ≤ 64) :
    Calls Tryd.prog 11 #[.int .u64 x, .int .i64 li, .int .i64 si] w fun e w' => e = .returned (.int .u64 (M.gt x l s : Nat)) ∧ w' = w := by
  subst hl hs
  exact get_yes x l s w hx h1 h2

theorem put_0 (v s : Nat) (w : World) (h1 : 1 ≤ s) (h2 : s ≤ 64) :
    Calls Tryd.prog 13 #[.int .u64 0, .int .i64 0, .int .i64 s, .int .u64 v] w fun e w' => e = .returned (.int .u64 (M.pt 0 0 s v : Nat)) ∧ w' = w :=
  put_I 0 v 0 s 0 s w rfl rfl (by decide) h1 (by omega)
theorem get_V (x : Nat) (li si : Int) (y : Nat) (w : World) (h : x < 18446744073709551616 ∧ ∃ l s : Nat, li = l ∧ si = s ∧ 1 ≤ s ∧ l + s ≤ 64 ∧ M.gt x l s = y) :
    Calls Tryd.prog 11 #[.int .u64 x, .int .i64 li, .int .i64 si] w fun e w' => e = .returned (.int .u64 (y : Nat)) ∧ w' = w := by
  obtain ⟨hx, l, s, rfl, rfl, h1, h2, rfl⟩ := h
  exact get_yes x l s w hx h1 h2

/-- What is held of the world while the last statement is reckoned, in whatever order. -/
abbrev ApS (w : World) (v0 v1 : Nat) (w' : World) : Prop :=
  (w'.cell? ⟨w.heap.size + 1, 0, none⟩ = some (.int .u64 v0) ∧ w'.cell? ⟨w.heap.size + 1, 1, none⟩ = some (.int .u64 v1)) ∧ Below w.heap.size w w' ∧ w.heap.size + 1 < w'.heap.size
theorem ApS.step {w : World} {v0 v1 : Nat} {W W' : World} (h : ApS w v0 v1 W) (hb : Below W.heap.size W W') : ApS w v0 v1 W' :=
  ⟨⟨(hb.cell (p := ⟨w.heap.size + 1, 0, none⟩) h.2.2).trans h.1.1, (hb.cell (p := ⟨w.heap.size + 1, 1, none⟩) h.2.2).trans h.1.2⟩, h.2.1.trans (hb.mono (by have := h.2.2; omega)), Nat.lt_of_lt_of_le h.2.2 hb.size⟩
theorem ApS.below {w : World} {v0 v1 : Nat} {W : World} (h : ApS w v0 v1 W) : Below w.heap.size w W := h.2.1
theorem ApS.known {w : World} {v0 v1 : Nat} {W : World} (hT : Tab w) (hw : 0 < w.heap.size) (h : ApS w v0 v1 W) :
    Calls Tryd.prog 20 #[] W fun e w' => e = .returned (.bool true) ∧ ApS w v0 v1 w' :=
  (known_any W (hT.below h.2.1 hw) (Nat.lt_of_lt_of_le hw h.2.1.size)).mono fun _ _ ⟨he, hb⟩ => ⟨he, h.step hb⟩

theorem M.pt_comm (x a m v b n u : Nat) (h : a + m ≤ b) : M.pt (M.pt x a m v) b n u = M.pt (M.pt x b n u) a m v := by
  apply Nat.eq_of_testBit_eq
  intro i
  rw [M.tb_pt, M.tb_pt, M.tb_pt, M.tb_pt]
  by_cases h1 : b ≤ i ∧ i < b + n
  · rw [if_pos h1, if_neg (by omega), if_pos h1]
  · rw [if_neg h1, if_neg h1]
theorem M.gt_pt_low (x a m v b n u : Nat) (h : a + m ≤ b) : M.gt (M.pt (M.pt x a m v) b n u) a m = v % 2 ^ m := by
  rw [M.pt_comm x a m v b n u h, M.gt_pt]

set_option maxRecDepth 100000 in
set_option maxHeartbeats 1000000 in
theorem apart_walk1 (x v0 v1 : Nat) (a b c : Int) (w : World) (hx : x < 18446744073709551616) (ha : 0 ≤ a) (ha' : a ≤ 255) (hb : 0 ≤ b) (hb' : b ≤ 255) (hc : 0 ≤ c) (hc' : c ≤ 255) (hT : Tab w) (hw : 0 < w.heap.size)
    (hm : (1 + a % 32 : Int) < 1 + c % (64 - (32 + b % 31))) :
    Calls Tryd.prog 8 #[.int .u64 x, .agg #[.int .u8 a, .int .u8 b, .int .u8 c], .agg #[.int .u64 v0, .int .u64 v1]] w fun e w' => e = .returned (.bool true) ∧ Below w.heap.size w w' := by
  have HX : Hid (x < 18446744073709551616) := hx
  clear hx
  have q1 : 0 ≤ c % (64 - (32 + b % 31)) := Int.emod_nonneg _ (by omega)
  have q2 : c % (64 - (32 + b % 31)) < 64 - (32 + b % 31) := Int.emod_lt_of_pos _ (by omega)
  go_enter Tryd.func8, Tryd.ntmps8
  go_wp2
  have r : 1 ≤ 1 + a % 32 ∧ 1 + a % 32 ≤ 32 ∧ 32 ≤ 32 + b % 31 ∧ 1 ≤ 1 + c % (64 - (32 + b % 31)) ∧ (32 + b % 31) + (1 + c % (64 - (32 + b % 31))) ≤ 64 := by omega
  clear q1 q2
  generalize 1 + a % 32 = a1 at r hm ⊢
  generalize 32 + b % 31 = b1 at r hm ⊢
  generalize 1 + c % (64 - b1) = n1 at r hm ⊢
  obtain ⟨r1, r2, r3, r4, r5⟩ := r
  obtain ⟨a1, rfl⟩ := Int.eq_ofNat_of_zero_le (show 0 ≤ a1 by omega)
  obtain ⟨b1, rfl⟩ := Int.eq_ofNat_of_zero_le (show 0 ≤ b1 by omega)
  obtain ⟨n1, rfl⟩ := Int.eq_ofNat_of_zero_le (show 0 ≤ n1 by omega)
  obtain ⟨W0, hW0⟩ : ∃ W0, ((w.alloc (Obj.cells #[Value.int IntKind.u8 a, Value.int IntKind.u8 b, Value.int IntKind.u8 c] 51)).alloc (Obj.cells #[Value.int IntKind.u64 v0, Value.int IntKind.u64 v1] 52)) = W0 := ⟨_, rfl⟩
  have c0 : W0.cell? ⟨w.heap.size + 1, 0, none⟩ = some (.int .u64 v0) := by rw [← hW0, World.cell?_alloc_at _ _ _ _ (by simp)]; rfl
  have c1 : W0.cell? ⟨w.heap.size + 1, 1, none⟩ = some (.int .u64 v1) := by rw [← hW0, World.cell?_alloc_at _ _ _ _ (by simp)]; rfl
  have hB0 : Below w.heap.size w W0 := by rw [← hW0]; exact ((Below.refl _ _).alloc (Nat.le_refl _) _).alloc (by simp) _
  have hZ0 : w.heap.size + 1 < W0.heap.size := by rw [← hW0]; simp
  rw [hW0]
  clear hW0
  obtain ⟨A, kA, kB⟩ : ∃ A, A + a1 ≤ a1 ∧ a1 ≤ A + a1 := ⟨a1 - a1, by omega, by omega⟩
  have k1 : 1 ≤ a1 := by omega
  have k2 : A + a1 ≤ b1 := by omega
  have k3 : 1 ≤ n1 := by omega
  have k4 : b1 + n1 ≤ 64 := by omega
  have L1 : M.pt x A a1 v0 < 18446744073709551616 := M.pt_lt _ _ _ _ HX.out (by omega)
  have L2 : M.pt x b1 n1 v1 < 18446744073709551616 := M.pt_lt _ _ _ _ HX.out k4
  have L3 : M.pt (M.pt x A a1 v0) b1 n1 v1 < 18446744073709551616 := M.pt_lt _ _ _ _ L1 k4
  have EC : Hid (M.pt (M.pt x b1 n1 v1) A a1 v0 = M.pt (M.pt x A a1 v0) b1 n1 v1) := (M.pt_comm x A a1 v0 b1 n1 v1 k2).symm
  have EG : Hid (M.gt (M.pt (M.pt x A a1 v0) b1 n1 v1) A a1 = v0 % 2 ^ a1) := M.gt_pt_low x A a1 v0 b1 n1 v1 k2
  have EH : Hid (M.gt (M.pt (M.pt x A a1 v0) b1 n1 v1) b1 n1 = v1 % 2 ^ n1) := M.gt_pt _ _ _ _
  have HL1 : Hid (M.pt x A a1 v0 < 18446744073709551616) := L1
  have HL2 : Hid (M.pt x b1 n1 v1 < 18446744073709551616) := L2
  have HL3 : Hid (M.pt (M.pt x A a1 v0) b1 n1 v1 < 18446744073709551616) := L3
  clear L1 L2 L3
  go_quiet (first
    | (go_at_call 13; refine Calls.quiet_of_same (put_I _ _ A a1 _ _ _ ?_ ?_ ?_ ?_ ?_); (· first | omega | (rw [i64w _ (by omega) (by omega)]; omega)); (· rfl); (· exact HX.out); (· omega); (· omega))
    | (go_at_call 13; refine Calls.quiet_of_same (put_I _ _ b1 n1 _ _ _ ?_ ?_ ?_ ?_ ?_); (· rfl); (· rfl); (· exact HL1.out); (· omega); (· omega)))
  have hB1 : Below w.heap.size w (W0.drewN nq) := below_drewN hB0 nq
  have d0 : (W0.drewN nq).cell? ⟨w.heap.size + 1, 0, none⟩ = some (.int .u64 v0) := c0
  have d1 : (W0.drewN nq).cell? ⟨w.heap.size + 1, 1, none⟩ = some (.int .u64 v1) := c1
  have hZ1 : w.heap.size + 1 < (W0.drewN nq).heap.size := hZ0
  clear c0 c1 hB0 hZ0
  generalize W0.drewN nq = W1 at *
  go_wp2
  go_quiet (first
    | (go_at_call 13; refine Calls.quiet_of_same (put_I _ _ b1 n1 _ _ _ ?_ ?_ ?_ ?_ ?_); (· rfl); (· rfl); (· exact HX.out); (· omega); (· omega))
    | (go_at_call 13; refine Calls.quiet_of_same (put_I _ _ A a1 _ _ _ ?_ ?_ ?_ ?_ ?_); (· first | omega | (rw [i64w _ (by omega) (by omega)]; omega)); (· rfl); (· exact HL2.out); (· omega); (· omega)))
  rw [EC.out]
  have hB2 : Below w.heap.size w (W1.drewN nq) := below_drewN hB1 nq
  have e0 : (W1.drewN nq).cell? ⟨w.heap.size + 1, 0, none⟩ = some (.int .u64 v0) := d0
  have e1 : (W1.drewN nq).cell? ⟨w.heap.size + 1, 1, none⟩ = some (.int .u64 v1) := d1
  have hZ2 : w.heap.size + 1 < (W1.drewN nq).heap.size := hZ1
  clear d0 d1 hB1 hZ1
  generalize W1.drewN nq = W2 at *
  generalize M.pt (M.pt x A a1 v0) b1 n1 v1 = P at *
  clear EC HL1 HL2
  obtain ⟨Y0, hY0⟩ : ∃ Y, v0 % 2 ^ a1 = Y := ⟨_, rfl⟩
  obtain ⟨Y1, hY1⟩ : ∃ Y, v1 % 2 ^ n1 = Y := ⟨_, rfl⟩
  rw [hY0] at EG
  rw [hY1] at EH
  have FG : Hid (M.gt (M.pt 0 0 a1 v0) 0 a1 = Y0) := by show _ = _; rw [M.gt_pt, hY0]
  have FH : Hid (M.gt (M.pt 0 0 n1 v1) 0 n1 = Y1) := by show _ = _; rw [M.gt_pt, hY1]
  have HP0 : Hid (M.pt 0 0 a1 v0 < 18446744073709551616) := M.pt_lt _ _ _ _ (by decide) (by omega)
  have HP1 : Hid (M.pt 0 0 n1 v1 < 18446744073709551616) := M.pt_lt _ _ _ _ (by decide) (by omega)
  clear hY0 hY1
  have t1 : ((P : Int) == P) = true := by simp
  have t2 : ((Y0 : Int) == Y0) = true := by simp
  have t3 : ((Y1 : Int) == Y1) = true := by simp
  go_wp2
  have hS0 : ApS w v0 v1 W2.drew := ⟨⟨e0, e1⟩, hB2.drew, hZ2⟩
  go_region_held3 (fun w' => (w'.cell? ⟨w.heap.size + 1, 0, none⟩ = some (.int .u64 v0) ∧ w'.cell? ⟨w.heap.size + 1, 1, none⟩ = some (.int .u64 v1)) ∧ Below w.heap.size w w' ∧ w.heap.size + 1 < w'.heap.size) (first | exact hS0 | assumption)
    (first
      | (go_at_call 13; refine (put_0 _ _ _ ?_ ?_).mono ?_; (· omega); (· omega); rintro e w' ⟨rfl, hw'⟩; rw [hw']; clear hw' w')
      | (go_at_call 11; refine (get_V _ _ _ Y0 _ ?_).mono ?_; (· first | exact ⟨HL3.out, A, a1, by first | omega | (rw [i64w _ (by omega) (by omega)]; omega), rfl, by omega, by omega, EG.out⟩ | exact ⟨HP0.out, 0, a1, rfl, rfl, by omega, by omega, FG.out⟩); rintro e w' ⟨rfl, hw'⟩; rw [hw']; clear hw' w')
      | (go_at_call 11; refine (get_V _ _ _ Y1 _ ?_).mono ?_; (· first | exact ⟨HL3.out, b1, n1, rfl, rfl, by omega, by omega, EH.out⟩ | exact ⟨HP1.out, 0, n1, rfl, rfl, by omega, by omega, FH.out⟩); rintro e w' ⟨rfl, hw'⟩; rw [hw']; clear hw' w')
      | (go_at_call 20; refine (ApS.known (v0 := v0) (v1 := v1) hT hw (by assumption)).mono ?_; rintro e w' ⟨rfl, hw'⟩))
  all_goals go_wp2
  all_goals go_ret
  all_goals exact ⟨rfl, ApS.below (v0 := v0) (v1 := v1) (by assumption)⟩

set_option maxRecDepth 100000 in
set_option maxHeartbeats 1000000 in
theorem apart_walk2 (x v0 v1 : Nat) (a b c : Int) (w : World) (hx : x < 18446744073709551616) (ha : 0 ≤ a) (ha' : a ≤ 255) (hb : 0 ≤ b) (hb' : b ≤ 255) (hc : 0 ≤ c) (hc' : c ≤ 255) (hT : Tab w) (hw : 0 < w.heap.size)
    (hm : ¬ (1 + a % 32 : Int) < 1 + c % (64 - (32 + b % 31))) :
    Calls Tryd.prog 8 #[.int .u64 x, .agg #[.int .u8 a, .int .u8 b, .int .u8 c], .agg #[.int .u64 v0, .int .u64 v1]] w fun e w' => e = .returned (.bool true) ∧ Below w.heap.size w w' := by
  have HX : Hid (x < 18446744073709551616) := hx
  clear hx
  have q1 : 0 ≤ c % (64 - (32 + b % 31)) := Int.emod_nonneg _ (by omega)
  have q2 : c % (64 - (32 + b % 31)) < 64 - (32 + b % 31) := Int.emod_lt_of_pos _ (by omega)
  go_enter Tryd.func8, Tryd.ntmps8
  go_wp2
  have r : 1 ≤ 1 + a % 32 ∧ 1 + a % 32 ≤ 32 ∧ 32 ≤ 32 + b % 31 ∧ 1 ≤ 1 + c % (64 - (32 + b % 31)) ∧ (32 + b % 31) + (1 + c % (64 - (32 + b % 31))) ≤ 64 := by omega
  clear q1 q2
  generalize 1 + a % 32 = a1 at r hm ⊢
  generalize 32 + b % 31 = b1 at r hm ⊢
  generalize 1 + c % (64 - b1) = n1 at r hm ⊢
  obtain ⟨r1, r2, r3, r4, r5⟩ := r
  obtain ⟨a1, rfl⟩ := Int.eq_ofNat_of_zero_le (show 0 ≤ a1 by omega)
  obtain ⟨b1, rfl⟩ := Int.eq_ofNat_of_zero_le (show 0 ≤ b1 by omega)
  obtain ⟨n1, rfl⟩ := Int.eq_ofNat_of_zero_le (show 0 ≤ n1 by omega)
  obtain ⟨W0, hW0⟩ : ∃ W0, ((w.alloc (Obj.cells #[Value.int IntKind.u8 a, Value.int IntKind.u8 b, Value.int IntKind.u8 c] 51)).alloc (Obj.cells #[Value.int IntKind.u64 v0, Value.int IntKind.u64 v1] 52)) = W0 := ⟨_, rfl⟩
  have c0 : W0.cell? ⟨w.heap.size + 1, 0, none⟩ = some (.int .u64 v0) := by rw [← hW0, World.cell?_alloc_at _ _ _ _ (by simp)]; rfl
  have c1 : W0.cell? ⟨w.heap.size + 1, 1, none⟩ = some (.int .u64 v1) := by rw [← hW0, World.cell?_alloc_at _ _ _ _ (by simp)]; rfl
  have hB0 : Below w.heap.size w W0 := by rw [← hW0]; exact ((Below.refl _ _).alloc (Nat.le_refl _) _).alloc (by simp) _
  have hZ0 : w.heap.size + 1 < W0.heap.size := by rw [← hW0]; simp
  rw [hW0]
  clear hW0
  obtain ⟨A, kA, kB⟩ : ∃ A, A + n1 ≤ a1 ∧ a1 ≤ A + n1 := ⟨a1 - n1, by omega, by omega⟩
  have k1 : 1 ≤ n1 := by omega
  have k2 : A + n1 ≤ b1 := by omega
  have k3 : 1 ≤ n1 := by omega
  have k4 : b1 + n1 ≤ 64 := by omega
  have L1 : M.pt x A n1 v0 < 18446744073709551616 := M.pt_lt _ _ _ _ HX.out (by omega)
  have L2 : M.pt x b1 n1 v1 < 18446744073709551616 := M.pt_lt _ _ _ _ HX.out k4
  have L3 : M.pt (M.pt x A n1 v0) b1 n1 v1 < 18446744073709551616 := M.pt_lt _ _ _ _ L1 k4
  have EC : Hid (M.pt (M.pt x b1 n1 v1) A n1 v0 = M.pt (M.pt x A n1 v0) b1 n1 v1) := (M.pt_comm x A n1 v0 b1 n1 v1 k2).symm
  have EG : Hid (M.gt (M.pt (M.pt x A n1 v0) b1 n1 v1) A n1 = v0 % 2 ^ n1) := M.gt_pt_low x A n1 v0 b1 n1 v1 k2
  have EH : Hid (M.gt (M.pt (M.pt x A n1 v0) b1 n1 v1) b1 n1 = v1 % 2 ^ n1) := M.gt_pt _ _ _ _
  have HL1 : Hid (M.pt x A n1 v0 < 18446744073709551616) := L1
  have HL2 : Hid (M.pt x b1 n1 v1 < 18446744073709551616) := L2
  have HL3 : Hid (M.pt (M.pt x A n1 v0) b1 n1 v1 < 18446744073709551616) := L3
  clear L1 L2 L3
  go_quiet (first
    | (go_at_call 13; refine Calls.quiet_of_same (put_I _ _ A n1 _ _ _ ?_ ?_ ?_ ?_ ?_); (· first | omega | (rw [i64w _ (by omega) (by omega)]; omega)); (· rfl); (· exact HX.out); (· omega); (· omega))
    | (go_at_call 13; refine Calls.quiet_of_same (put_I _ _ b1 n1 _ _ _ ?_ ?_ ?_ ?_ ?_); (· rfl); (· rfl); (· exact HL1.out); (· omega); (· omega)))
  have hB1 : Below w.heap.size w (W0.drewN nq) := below_drewN hB0 nq
  have d0 : (W0.drewN nq).cell? ⟨w.heap.size + 1, 0, none⟩ = some (.int .u64 v0) := c0
  have d1 : (W0.drewN nq).cell? ⟨w.heap.size + 1, 1, none⟩ = some (.int .u64 v1) := c1
  have hZ1 : w.heap.size + 1 < (W0.drewN nq).heap.size := hZ0
  clear c0 c1 hB0 hZ0
  generalize W0.drewN nq = W1 at *
  go_wp2
  go_quiet (first
    | (go_at_call 13; refine Calls.quiet_of_same (put_I _ _ b1 n1 _ _ _ ?_ ?_ ?_ ?_ ?_); (· rfl); (· rfl); (· exact HX.out); (· omega); (· omega))
    | (go_at_call 13; refine Calls.quiet_of_same (put_I _ _ A n1 _ _ _ ?_ ?_ ?_ ?_ ?_); (· first | omega | (rw [i64w _ (by omega) (by omega)]; omega)); (· rfl); (· exact HL2.out); (· omega); (· omega)))
  rw [EC.out]
  have hB2 : Below w.heap.size w (W1.drewN nq) := below_drewN hB1 nq
  have e0 : (W1.drewN nq).cell? ⟨w.heap.size + 1, 0, none⟩ = some (.int .u64 v0) := d0
  have e1 : (W1.drewN nq).cell? ⟨w.heap.size + 1, 1, none⟩ = some (.int .u64 v1) := d1
  have hZ2 : w.heap.size + 1 < (W1.drewN nq).heap.size := hZ1
  clear d0 d1 hB1 hZ1
  generalize W1.drewN nq = W2 at *
  generalize M.pt (M.pt x A n1 v0) b1 n1 v1 = P at *
  clear EC HL1 HL2
  obtain ⟨Y0, hY0⟩ : ∃ Y, v0 % 2 ^ n1 = Y := ⟨_, rfl⟩
  obtain ⟨Y1, hY1⟩ : ∃ Y, v1 % 2 ^ n1 = Y := ⟨_, rfl⟩
  rw [hY0] at EG
  rw [hY1] at EH
  have FG : Hid (M.gt (M.pt 0 0 n1 v0) 0 n1 = Y0) := by show _ = _; rw [M.gt_pt, hY0]
  have FH : Hid (M.gt (M.pt 0 0 n1 v1) 0 n1 = Y1) := by show _ = _; rw [M.gt_pt, hY1]
  have HP0 : Hid (M.pt 0 0 n1 v0 < 18446744073709551616) := M.pt_lt _ _ _ _ (by decide) (by omega)
  have HP1 : Hid (M.pt 0 0 n1 v1 < 18446744073709551616) := M.pt_lt _ _ _ _ (by decide) (by omega)
  clear hY0 hY1
  have t1 : ((P : Int) == P) = true := by simp
  have t2 : ((Y0 : Int) == Y0) = true := by simp
  have t3 : ((Y1 : Int) == Y1) = true := by simp
  go_wp2
  have hS0 : ApS w v0 v1 W2.drew := ⟨⟨e0, e1⟩, hB2.drew, hZ2⟩
  go_region_held3 (fun w' => (w'.cell? ⟨w.heap.size + 1, 0, none⟩ = some (.int .u64 v0) ∧ w'.cell? ⟨w.heap.size + 1, 1, none⟩ = some (.int .u64 v1)) ∧ Below w.heap.size w w' ∧ w.heap.size + 1 < w'.heap.size) (first | exact hS0 | assumption)
    (first
      | (go_at_call 13; refine (put_0 _ _ _ ?_ ?_).mono ?_; (· omega); (· omega); rintro e w' ⟨rfl, hw'⟩; rw [hw']; clear hw' w')
      | (go_at_call 11; refine (get_V _ _ _ Y0 _ ?_).mono ?_; (· first | exact ⟨HL3.out, A, n1, by first | omega | (rw [i64w _ (by omega) (by omega)]; omega), rfl, by omega, by omega, EG.out⟩ | exact ⟨HP0.out, 0, n1, rfl, rfl, by omega, by omega, FG.out⟩); rintro e w' ⟨rfl, hw'⟩; rw [hw']; clear hw' w')
      | (go_at_call 11; refine (get_V _ _ _ Y1 _ ?_).mono ?_; (· first | exact ⟨HL3.out, b1, n1, rfl, rfl, by omega, by omega, EH.out⟩ | exact ⟨HP1.out, 0, n1, rfl, rfl, by omega, by omega, FH.out⟩); rintro e w' ⟨rfl, hw'⟩; rw [hw']; clear hw' w')
      | (go_at_call 20; refine (ApS.known (v0 := v0) (v1 := v1) hT hw (by assumption)).mono ?_; rintro e w' ⟨rfl, hw'⟩))
  all_goals go_wp2
  all_goals go_ret
  all_goals exact ⟨rfl, ApS.below (v0 := v0) (v1 := v1) (by assumption)⟩

theorem apart_walk (x v0 v1 : Nat) (a b c : Int) (w : World) (hx : x < 18446744073709551616) (ha : 0 ≤ a) (ha' : a ≤ 255) (hb : 0 ≤ b) (hb' : b ≤ 255) (hc : 0 ≤ c) (hc' : c ≤ 255) (hT : Tab w) (hw : 0 < w.heap.size) :
    Calls Tryd.prog 8 #[.int .u64 x, .agg #[.int .u8 a, .int .u8 b, .int .u8 c], .agg #[.int .u64 v0, .int .u64 v1]] w fun e w' => e = .returned (.bool true) ∧ Below w.heap.size w w' := by
  by_cases hm : (1 + a % 32 : Int) < 1 + c % (64 - (32 + b % 31))
  · exact apart_walk1 x v0 v1 a b c w hx ha ha' hb hb' hc hc' hT hw hm
  · exact apart_walk2 x v0 v1 a b c w hx ha ha' hb hb' hc hc' hT hw hm
end Go.Proofs.YthhilppeeffheaaDoor
