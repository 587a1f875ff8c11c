/- The walk of FieldTells: it returns true for every word, place, size and number; nothing that lay before is changed. -/
import Derived.Test.YthhilppeeffheaaDoorR2
import Derived.Deep.RegionHeld3
namespace Go.Proofs.YthhilppeeffheaaDoor
open Go.RowKit

/-- A word's ones, as the numbers of a list. -/
def oL (x : Nat) : List Int := (M.onesL x).map fun i : Nat => ((i : Nat) : Int)

/-- What is held of the world while the last statement is reckoned, in whatever order. -/
abbrev TeS (w : World) (a b : Int) (lv : Value) (xs : List Int) (w' : World) : Prop :=
  (w'.cell? ⟨w.heap.size, 0, none⟩ = some (.int .i64 a) ∧ w'.cell? ⟨w.heap.size, 1, none⟩ = some (.int .i64 b)) ∧ Below w.heap.size w w' ∧ w.heap.size < w'.heap.size ∧ Row .i64 w' lv xs
theorem TeS.step {w : World} {a b : Int} {lv : Value} {xs : List Int} {W W' : World} (h : TeS w a b lv xs W) (hb : Below W.heap.size W W') : TeS w a b lv xs W' :=
  ⟨⟨(hb.cell (p := ⟨w.heap.size, 0, none⟩) h.2.2.1).trans h.1.1, (hb.cell (p := ⟨w.heap.size, 1, none⟩) h.2.2.1).trans h.1.2⟩, h.2.1.trans (hb.mono (by have := h.2.2.1; omega)), Nat.lt_of_lt_of_le h.2.2.1 hb.size, h.2.2.2.below hb⟩
theorem TeS.below {w : World} {a b : Int} {lv : Value} {xs : List Int} {W : World} (h : TeS w a b lv xs W) : Below w.heap.size w W := h.2.1
theorem TeS.known {w : World} {a b : Int} {lv : Value} {xs : List Int} {W : World} (hT : Tab w) (hw : 0 < w.heap.size) (h : TeS w a b lv xs W) :
    Calls Tryd.prog 20 #[] W fun e w' => e = .returned (.bool true) ∧ TeS w a b lv xs w' :=
  (known_any W (hT.below h.2.1 hw) (Nat.lt_of_lt_of_le hw h.2.1.size)).mono fun _ _ ⟨he, hb⟩ => ⟨he, h.step hb⟩
theorem TeS.ones {w : World} {a b : Int} {lv : Value} {W : World} (x : Nat) (hx : x < 18446744073709551616) (hT : Tab w) (hw : 0 < w.heap.size) (h : TeS w a b lv (oL x) W) :
    Calls Tryd.prog 18 #[.int .u64 x] W fun e w' => ∃ v, e = .returned v ∧ Hid (Row .i64 w' v (oL x)) ∧ TeS w a b lv (oL x) w' :=
  (ones_nat x hx W (hT.below h.2.1 hw) (Nat.lt_of_lt_of_le hw h.2.1.size)).mono fun _ _ ⟨v, he, hr, hb⟩ => ⟨v, he, Row.of_owns hr (by have := M.onesL_len x; unfold maxLen; omega), h.step hb⟩
theorem TeS.ints {w : World} {a b : Int} {lv v : Value} {xs : List Int} {W : World} (hv : Hid (Row .i64 W v xs)) (h : TeS w a b lv xs W) :
    Calls Tryd.prog 17 #[v, lv] W fun e w' => e = .returned (.bool true) ∧ TeS w a b lv xs w' :=
  (ints_b v lv xs W hv.out h.2.2.2).mono fun _ _ ⟨he, hb⟩ => ⟨he, h.step hb⟩

theorem get_G (x : Nat) (a b : Int) (w : World) (hx : x < 18446744073709551616) : Calls Tryd.prog 11 #[.int .u64 x, .int .i64 a, .int .i64 b] w fun e w' => e = .returned (.int .u64 (fGet x a b : Nat)) ∧ w' = w :=
  get_any x a b w (by omega) (by omega)
theorem rget_G (x : Nat) (a b : Int) (w : World) (hx : x < 18446744073709551616) : Calls Tryd.prog 12 #[.int .u64 x, .int .i64 a, .int .i64 b] w fun e w' => e = .returned (.int .u64 (fGet x a b : Nat)) ∧ w' = w :=
  rget_any x a b w (by omega) (by omega)
theorem put_G (x : Nat) (a b : Int) (v : Nat) (w : World) (hx : x < 18446744073709551616) : Calls Tryd.prog 13 #[.int .u64 x, .int .i64 a, .int .i64 b, .int .u64 v] w fun e w' => e = .returned (.int .u64 (fPut x a b v : Nat)) ∧ w' = w :=
  put_any x a b v w (by omega) (by omega) (by omega)
theorem rput_G (x : Nat) (a b : Int) (v : Nat) (w : World) (hx : x < 18446744073709551616) (hv : v < 18446744073709551616) : Calls Tryd.prog 14 #[.int .u64 x, .int .i64 a, .int .i64 b, .int .u64 v] w fun e w' => e = .returned (.int .u64 (fPut x a b v : Nat)) ∧ w' = w :=
  rput_any x a b v w (by omega) (by omega) (by omega) (by omega)

set_option maxRecDepth 100000 in
set_option maxHeartbeats 2000000 in
theorem tells_walk (x v : Nat) (a b : Int) (w : World) (hx : x < 18446744073709551616) (hv : v < 18446744073709551616) (hT : Tab w) (hw : 0 < w.heap.size) :
    Calls Tryd.prog 3 #[.int .u64 x, .agg #[.int .i64 a, .int .i64 b], .int .u64 v] w fun e w' => e = .returned (.bool true) ∧ Below w.heap.size w w' := by
  have HX : Hid (x < 18446744073709551616) := hx
  have HV : Hid (v < 18446744073709551616) := hv
  clear hx hv
  go_enter Tryd.func3, Tryd.ntmps3
  go_wp2_with fail
  refine (rones_nat x HX.out _).mono ?_
  rintro e w1 ⟨lv, rfl, hr, hb1⟩
  have hR : Row .i64 w1 lv (oL x) := Row.of_owns (k := .i64) hr (by have := M.onesL_len x; unfold maxLen; omega)
  have hol : (oL x).length = (M.onesL x).length := by simp [oL]
  have c0 : w1.cell? ⟨w.heap.size, 0, none⟩ = some (.int .i64 a) := by
    rw [hb1.cell (p := ⟨w.heap.size, 0, none⟩) (by simp), World.cell?_alloc_at _ _ _ _ rfl]; rfl
  have c1 : w1.cell? ⟨w.heap.size, 1, none⟩ = some (.int .i64 b) := by
    rw [hb1.cell (p := ⟨w.heap.size, 1, none⟩) (by simp), World.cell?_alloc_at _ _ _ _ rfl]; rfl
  have hB1 : Below w.heap.size w w1 := belowA _ (Nat.le_refl _) hb1
  have hZ1 : w.heap.size < w1.heap.size := by have := hb1.size; simp at this; omega
  clear hb1 hr
  obtain ⟨hl, p, cap, rfl, hc⟩ := id hR
  clear hc hl
  rw [hol] at hR ⊢
  clear hol
  have HC : Hid (M.popN 64 x = (M.onesL x).length) := (M.onesL_length x).symm
  obtain ⟨n, hn⟩ : ∃ n, (M.onesL x).length = n := ⟨_, rfl⟩
  rw [hn] at hR HC ⊢
  clear hn
  obtain ⟨g, hg⟩ : ∃ g, fGet x a b = g := ⟨_, rfl⟩
  have HG : Hid (fGet x a b = g) := hg
  obtain ⟨q, hq⟩ : ∃ q, fPut x a b v = q := ⟨_, rfl⟩
  have HQ : Hid (fPut x a b v = q) := hq
  obtain ⟨m, hm⟩ : ∃ m, fMask a b = m := ⟨_, rfl⟩
  have HM : Hid (fMask a b = m) := hm
  clear hg hq hm
  have t1 : ((g : Int) == g) = true := by simp
  have t2 : ((q : Int) == q) = true := by simp
  have t3 : ((m : Int) == m) = true := by simp
  have t4 : ((n : Int) == n) = true := by simp
  have hS0 : TeS w a b (.slice p n cap) (oL x) w1.drew := ⟨⟨c0, c1⟩, hB1.drew, hZ1, hR⟩
  go_wp2
  go_region_held3 (fun w' => (w'.cell? ⟨w.heap.size, 0, none⟩ = some (.int .i64 a) ∧ w'.cell? ⟨w.heap.size, 1, none⟩ = some (.int .i64 b)) ∧ Below w.heap.size w w' ∧ w.heap.size < w'.heap.size ∧ Row .i64 w' (.slice p n cap) (oL x)) (first | exact hS0 | assumption)
    (first
      | (go_at_call 11; refine (get_G _ _ _ _ HX.out).mono ?_; rintro e w' ⟨rfl, hw'⟩; rw [hw', HG.out]; clear hw' w')
      | (go_at_call 12; refine (rget_G _ _ _ _ HX.out).mono ?_; rintro e w' ⟨rfl, hw'⟩; rw [hw', HG.out]; clear hw' w')
      | (go_at_call 13; refine (put_G _ _ _ _ _ HX.out).mono ?_; rintro e w' ⟨rfl, hw'⟩; rw [hw', HQ.out]; clear hw' w')
      | (go_at_call 14; refine (rput_G _ _ _ _ _ HX.out HV.out).mono ?_; rintro e w' ⟨rfl, hw'⟩; rw [hw', HQ.out]; clear hw' w')
      | (go_at_call 15; refine (mask_any _ _ _).mono ?_; rintro e w' ⟨rfl, hw'⟩; rw [hw', HM.out]; clear hw' w')
      | (go_at_call 16; refine (rmask_any _ _ _).mono ?_; rintro e w' ⟨rfl, hw'⟩; rw [hw', HM.out]; clear hw' w')
      | (go_at_call 18; refine (TeS.ones (a := a) (b := b) (lv := .slice p n cap) x HX.out hT hw (by assumption)).mono ?_; rintro e w' ⟨v', rfl, hv', hw'⟩)
      | (go_at_call 17; refine (TeS.ints (w := w) (a := a) (b := b) (xs := oL x) (by assumption) (by assumption)).mono ?_; rintro e w' ⟨rfl, hw'⟩)
      | (go_at_call 19; refine (fcount_nat _ _ HX.out).mono ?_; rintro e w' ⟨rfl, hw'⟩; rw [hw', HC.out]; clear hw' w')
      | (go_at_call 20; refine (TeS.known (a := a) (b := b) (lv := .slice p n cap) (xs := oL x) hT hw (by assumption)).mono ?_; rintro e w' ⟨rfl, hw'⟩))
  all_goals go_wp2
  all_goals go_ret
  all_goals exact ⟨rfl, TeS.below (a := a) (b := b) (lv := .slice p n cap) (xs := oL x) (by assumption)⟩
end Go.Proofs.YthhilppeeffheaaDoor
