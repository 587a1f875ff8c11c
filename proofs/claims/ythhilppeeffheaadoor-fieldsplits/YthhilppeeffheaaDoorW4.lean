/- That the fixed calls of the statements' own check (known) come out true; nothing that lay before is changed. Condition: the library's table lies in its variable as the program's text lays it. -/
import Derived.Test.YthhilppeeffheaaDoorW3
import Derived.Deep.RegionWith
namespace Go.Proofs.YthhilppeeffheaaDoor
open Go.RowKit

theorem k13 (w : World) : Calls Tryd.prog 13 #[.int .u64 0, .int .i64 4, .int .i64 4, .int .u64 31] w fun e w' => e = .returned (.int .u64 240) ∧ w' = w :=
  (put_any 0 4 4 31 w (by decide) (by decide) (by decide)).mono fun e w' ⟨h, h'⟩ => ⟨h.trans (ret_int (by decide +kernel)), h'⟩
theorem k11 (w : World) : Calls Tryd.prog 11 #[.int .u64 240, .int .i64 4, .int .i64 4] w fun e w' => e = .returned (.int .u64 15) ∧ w' = w :=
  (get_any 240 4 4 w (by decide) (by decide)).mono fun e w' ⟨h, h'⟩ => ⟨h.trans (ret_int (by decide +kernel)), h'⟩
theorem k15a (w : World) : Calls Tryd.prog 15 #[.int .i64 62, .int .i64 2] w fun e w' => e = .returned (.int .u64 13835058055282163712) ∧ w' = w :=
  (mask_any 62 2 w).mono fun e w' ⟨h, h'⟩ => ⟨h.trans (ret_int (by decide +kernel)), h'⟩
theorem k15b (w : World) : Calls Tryd.prog 15 #[.int .i64 62, .int .i64 3] w fun e w' => e = .returned (.int .u64 0) ∧ w' = w :=
  (mask_any 62 3 w).mono fun e w' ⟨h, h'⟩ => ⟨h.trans (ret_int (by decide +kernel)), h'⟩
theorem k19 (w : World) : Calls Tryd.prog 19 #[.int .u64 11] w fun e w' => e = .returned (.int .i64 3) ∧ w' = w :=
  (fcount_any 11 w (by decide) (by decide)).mono fun e w' ⟨h, h'⟩ => ⟨h.trans (ret_int (by decide +kernel)), h'⟩
theorem k18 (w : World) (hT : Tab w) (hw : 0 < w.heap.size) : Calls Tryd.prog 18 #[.int .u64 10] w fun e w' => ∃ v, e = .returned v ∧ Row .i64 w' v [1, 3] ∧ Below w.heap.size w w' :=
  (ones_any 10 (by decide) (by decide) w hT hw).mono fun e w' ⟨v, h, hr, hb⟩ => ⟨v, h, by
    have e : M.onesL (Int.toNat 10) = [1, 3] := by decide +kernel
    rw [e] at hr
    exact Row.of_owns hr (by unfold maxLen; simp), hb⟩

theorem row_new2 (k : IntKind) (w : World) (t : TypeId) (a b : Int) : Row k (w.alloc (.cells #[.int k a, .int k b] t)) (.slice (some ⟨w.heap.size, 0, none⟩) 2 2) [a, b] := by
  refine ⟨by unfold maxLen; simp, _, _, rfl, fun _ => ⟨w.heap.size, 0, rfl, by simp, fun i hi => ?_⟩⟩
  rw [World.cell?_alloc_at _ _ _ _ rfl]
  match i, hi with
  | 0, _ => rfl
  | 1, _ => rfl

theorem m62_2 : ((fMask 62 2 : Nat) : Int) = 13835058055282163712 := by decide +kernel
theorem m62_3 : ((fMask 62 3 : Nat) : Int) = 0 := by decide +kernel

theorem Below.of_drewN {w w' : World} {n : Nat} (h : ∃ m, w' = w.drewN m) : Below n w w' := by
  obtain ⟨m, rfl⟩ := h
  exact below_drewN (Below.refl n w) m
theorem ints_b (v u : Value) (xs : List Int) (w : World) (h1 : Row .i64 w v xs) (h2 : Row .i64 w u xs) :
    Calls Tryd.prog 17 #[v, u] w fun e w' => e = .returned (.bool true) ∧ Below w.heap.size w w' :=
  (ints_any v u xs w h1 h2).mono fun _ _ ⟨h, h'⟩ => ⟨h, Below.of_drewN h'⟩
theorem words_b (v u : Value) (xs : List Int) (w : World) (h1 : Row .u64 w v xs) (h2 : Row .u64 w u xs) :
    Calls Tryd.prog 21 #[v, u] w fun e w' => e = .returned (.bool true) ∧ Below w.heap.size w w' :=
  (words_any v u xs w h1 h2).mono fun _ _ ⟨h, h'⟩ => ⟨h, Below.of_drewN h'⟩

theorem k24 (w : World) : Calls Tryd.prog 24 #[.slice (some ⟨w.heap.size, 0, none⟩) 2 2] (w.alloc (.cells #[.int .u64 5, .int .i64 3, .int .u64 1, .int .i64 1] 48)) fun e w' => e = .returned (.int .u64 13) ∧ Below w.heap.size w w' := by
  refine (pack_some w.heap.size 0 2 2 [(5, 3), (1, 1)] (by simp) _ (by unfold maxLen; decide) ⟨rfl, by simp, fun i hi => ?_⟩).mono fun e w' ⟨h, h'⟩ => ⟨h.trans (ret_int (by decide +kernel)), ?_⟩
  · rw [World.cell?_alloc_at _ _ _ _ rfl, World.cell?_alloc_at _ _ _ _ rfl]
    match i, hi with
    | 0, _ => exact ⟨rfl, rfl⟩
    | 1, _ => exact ⟨rfl, rfl⟩
  · exact ((Below.refl _ _).alloc (Nat.le_refl _) _).trans (h'.mono (by simp))
theorem k22a (w : World) (v : Value) (h : Row .i64 w v [3, 1]) : Calls Tryd.prog 22 #[.int .u64 13, v] w fun e w' => ∃ u, e = .returned u ∧ Row .u64 w' u [5, 1] ∧ Below w.heap.size w w' :=
  (split_any 13 (by decide) (by decide) v [3, 1] w h).mono fun e w' ⟨u, he, hr, hb⟩ => ⟨u, he, by
    have e : (splitTo (Int.toNat 13) 0 [3, 1]).getD [] = [5, 1] := by decide +kernel
    rw [e] at hr
    exact Row.of_owns hr (by unfold maxLen; simp), hb⟩
theorem k22b (w : World) (v : Value) (h : Row .i64 w v [64, 1]) : Calls Tryd.prog 22 #[.int .u64 1, v] w fun e w' => ∃ p cap, e = .returned (.slice p 0 cap) ∧ Below w.heap.size w w' :=
  (split_any 1 (by decide) (by decide) v [64, 1] w h).mono fun e w' ⟨u, he, hr, hb⟩ => by
    have e1 : (splitTo (Int.toNat 1) 0 [64, 1]).getD [] = [] := by decide +kernel
    rw [e1] at hr
    obtain ⟨_, p, cap, hu, _⟩ := Row.of_owns (k := .u64) (xs := []) hr (by simp)
    exact ⟨p, cap, by rw [he, hu]; rfl, hb⟩

theorem belowA {w w' : World} {n : Nat} (o : Obj) (hb : n ≤ w.heap.size) (h : Below (w.alloc o).heap.size (w.alloc o) w') : Below n w w' :=
  ((Below.refl _ _).alloc hb _).trans (h.mono (by simp; omega))

set_option maxRecDepth 100000 in
set_option maxHeartbeats 400000 in
theorem known_any (w : World) (hT : Tab w) (hw : 0 < w.heap.size) :
    Calls Tryd.prog 20 #[] w fun e w' => e = .returned (.bool true) ∧ Below w.heap.size w w' := by
  go_enter Tryd.func20, Tryd.ntmps20
  go_wp2_with (first
    | (go_at_call 13; refine (k13 _).mono ?_; rintro e w' ⟨rfl, hw'⟩; rw [hw']; clear hw' w')
    | (go_at_call 11; refine (k11 _).mono ?_; rintro e w' ⟨rfl, hw'⟩; rw [hw']; clear hw' w')
    | (go_at_call 15; refine (mask_any _ _ _).mono ?_; rintro e w' ⟨rfl, hw'⟩; rw [hw']; clear hw' w'; first | rw [m62_2] | rw [m62_3])
    | (go_at_call 19; refine (k19 _).mono ?_; rintro e w' ⟨rfl, hw'⟩; rw [hw']; clear hw' w'))
  refine (k18 _ hT hw).mono ?_
  rintro e w1 ⟨v1, rfl, hr1, hb1⟩
  go_wp2_with fail
  refine (ints_b _ _ [1, 3] _ (hr1.below ((Below.refl _ _).alloc (Nat.le_refl _) _)) (row_new2 .i64 _ _ 1 3)).mono ?_
  rintro e w2 ⟨rfl, hb2⟩
  replace hb2 := hb1.trans (belowA _ hb1.size hb2)
  clear hb1 hr1
  go_wp2_with fail
  refine (k24 _).mono ?_
  rintro e w3 ⟨rfl, hb3⟩
  replace hb3 := hb2.trans (hb3.mono hb2.size)
  clear hb2
  go_wp2_with fail
  refine (k22a _ _ (row_new2 .i64 _ _ 3 1)).mono ?_
  rintro e w4 ⟨v4, rfl, hr4, hb4⟩
  replace hb4 := hb3.trans (belowA _ hb3.size hb4)
  clear hb3
  go_wp2_with fail
  refine (words_b _ _ [5, 1] _ (hr4.below ((Below.refl _ _).alloc (Nat.le_refl _) _)) (row_new2 .u64 _ _ 5 1)).mono ?_
  rintro e w5 ⟨rfl, hb5⟩
  replace hb5 := hb4.trans (belowA _ hb4.size hb5)
  clear hb4 hr4
  go_wp2_with fail
  refine (k22b _ _ (row_new2 .i64 _ _ 64 1)).mono ?_
  rintro e w6 ⟨p6, cap6, rfl, hb6⟩
  replace hb6 := hb5.trans (belowA _ hb5.size hb6)
  clear hb5
  go_wp2
  go_ret
  exact ⟨rfl, hb6⟩
end Go.Proofs.YthhilppeeffheaaDoor
