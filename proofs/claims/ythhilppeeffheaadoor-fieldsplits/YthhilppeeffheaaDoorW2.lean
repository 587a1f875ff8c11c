/- What field.Ones returns, for every word: a new slice of the places of its ones, rising; nothing that lay before is changed. Condition: the library's table lies in its variable as the program's text lays it. -/
import Derived.Test.YthhilppeeffheaaDoorW1
import Derived.RangeFuncNested
import Derived.RangeFuncBound
import Derived.RangeFuncBox
import Derived.RangeFuncCalls
import Derived.RangeFuncLeaves
import Derived.Shelf.Abstract
import Derived.Shelf.RegionOpen
import Derived.OwnWalkIn
import Derived.TacticsInMore
import Derived.LoopNIn
import Derived.LoopIn
import Derived.Maps.AppendAt
namespace Go.Proofs.YthhilppeeffheaaDoor
open Go.RowKit Go.Shelf

attribute [local go_sem] Oper.semAt_some

theorem Tab.below {n : Nat} {A B : World} (h : Below n A B) (hn : 0 < n) (hT : Tab A) : Tab B := fun j hj => (h.cell (p := ⟨0, j, none⟩) hn).trans (hT j hj)

theorem and_pred_val (x : Nat) (hx : x < 18446744073709551616) (h1 : (1 : Int) ≤ x) :
    Value.int .u64 (bits BinOp.and IntKind.u64 (x : Int) (IntKind.u64.wrap ((x : Int) - 1))) = .int .u64 ((x &&& (x - 1) : Nat) : Int) := by
  rw [IntKind.wrap_u64, show ((x : Int) - 1) % 18446744073709551616 = ((x - 1 : Nat) : Int) by omega, u64_and_nat x _ hx (by omega)]
theorem and_pred_meas (x : Nat) (hx : x < 18446744073709551616) (h1 : (1 : Int) ≤ x) (h : x &&& (x - 1) < x) :
    (intOf (Value.int .u64 (bits BinOp.and IntKind.u64 (x : Int) (IntKind.u64.wrap ((x : Int) - 1))))).toNat < (intOf (Value.int .u64 (x : Int))).toNat := by
  rw [and_pred_val x hx h1]
  simpa [intOf] using h

set_option maxRecDepth 100000 in
set_option maxHeartbeats 1000000 in
theorem places1_in (n : Nat) (hn : 1 ≤ n) (l Bn n₀ : Nat) (hn0 : 0 < n₀) (x0 : Nat) (hx0 : x0 < 18446744073709551616) (J Jx : List Nat → World → Prop)
    (hY : ∀ pre x W, J pre W → pre.length < (M.onesL x0).length → YieldAt Fence.wide (n - 1) Tryd.prog l #[.int .i64 (x : Nat)] W fun e W' =>
      (e = .returned (.bool true) ∧ J (pre ++ [x]) W' ∧ Below n₀ W W') ∨ (e = .returned (.bool false) ∧ Jx (pre ++ [x]) W'))
    (W : World) (hBn : W.cell? ⟨Bn, 0, none⟩ = some (.int .u64 x0)) (hT : Tab W) (h0 : J [] W) :
    CallsIn Fence.wide n Tryd.prog 33 #[.func (.yield l) #[] #[], .pointer (some ⟨Bn, 0, none⟩)] W fun e W' => (∃ v, e = .returned v) ∧
      ((∃ ys, ys = M.onesL x0 ∧ J ys W') ∨ (∃ pre, pre <+: M.onesL x0 ∧ Jx pre W')) := by
  have HX : Hid (x0 < 18446744073709551616) := hx0
  clear hx0
  refine callsIn_of_wp Tryd.func33 rfl trivial ?_ rfl
  simp only [Tryd.ntmps33, List.size_toArray, List.length_cons, List.length_nil, Nat.reduceAdd, Nat.reduceSub, Array.replicate_succ, Array.replicate_zero, List.push_toArray, List.append_toArray, List.nil_append, List.cons_append]
  gi_wp2
  gi_loopw [3] (fun p wr => ∃ (pre : List Nat) (x : Nat), p = .int .u64 (x : Nat) ∧ x < 18446744073709551616 ∧ M.onesL x0 = pre ++ M.onesL x ∧ Tab wr ∧ J pre wr)
    (fun p _ => (intOf p).toNat)
  case atStart =>
    exact ⟨[], x0, rfl, HX.out, rfl, hT, h0⟩
  case round =>
    obtain ⟨pre, x, rfl, hx, hp, hTr, hJs⟩ := hrel
    have HXx : Hid (x < 18446744073709551616) := hx
    have HP : Hid (M.onesL x0 = pre ++ M.onesL x) := hp
    clear hx hp
    by_cases hz : x = 0
    · subst hz
      gi_wp2
      go_end0
      exact ⟨⟨_, rfl⟩, .inl ⟨pre, by rw [HP.out, M.onesL_zero, List.append_nil], hJs⟩⟩
    · obtain ⟨hs1, hs2, hs3⟩ := M.onesL_step x hz HXx.out
      have htz := tz_any x HXx.out hz wr hTr
      generalize Lib.ctz 64 x = k at hs1 hs2 htz
      have HS1 : Hid (M.onesL x = k :: M.onesL (x &&& (x - 1))) := hs1
      have HS3 : Hid (x &&& (x - 1) < x) := hs3
      have HTZ : Hid _ := htz
      have hb : ((x : Int) != 0) = true := by rw [bne_iff_ne]; omega
      have hpos : (1 : Int) ≤ x := by omega
      obtain ⟨fn, tmps, assign, body, hy, hR⟩ := hY pre k wr hJs (by rw [HP.out, hs1]; simp)
      clear hs1 hs3 htz hz
      gi_wp2_with fail
      refine ⟨trivial, (callsIn_wide.2 HTZ.out).mono ?_⟩
      rintro e w' ⟨rfl, rfl⟩
      gi_wp2
      refine hR.mono ?_
      rintro e W3 (⟨rfl, hJ3, hk3⟩ | ⟨rfl, hJx3⟩)
      · gi_wp2
        go_roundw
        case rel => exact ⟨pre ++ [k], x &&& (x - 1), and_pred_val x HXx.out hpos, Nat.lt_trans HS3.out HXx.out, by rw [HP.out, HS1.out]; simp, hTr.below hk3 hn0, hJ3⟩
        case measure => exact and_pred_meas x HXx.out hpos HS3.out
      · gi_wp2
        refine bodyPost_ret (results_none rfl _ _ _) rfl ?_
        exact ⟨⟨_, rfl⟩, .inr ⟨pre ++ [k], ⟨M.onesL (x &&& (x - 1)), by rw [HP.out, HS1.out]; simp⟩, hJx3⟩⟩

set_option maxHeartbeats 1000000 in
theorem places_in (n x0 : Nat) (w : World) :
    CallsIn Fence.wide n Tryd.prog 31 #[.int .u64 x0] w fun e w' => e = .returned (.func (.func 33) #[] #[.pointer (some ⟨w.heap.size, 0, none⟩)]) ∧ w' = w.alloc (.cells #[.int .u64 x0] 22) := by
  refine callsIn_of_wp Tryd.func31 rfl trivial ?_ rfl
  simp only [Tryd.ntmps31, List.size_toArray, List.length_cons, List.length_nil, Nat.reduceAdd, Nat.reduceSub, Array.replicate_succ, Array.replicate_zero, List.push_toArray, List.append_toArray, List.nil_append, List.cons_append]
  gi_wp2
  go_ret
  exact ⟨rfl, rfl⟩

theorem places_stops (n : Nat) (hn : 1 ≤ n) (Bn n₀ : Nat) (hn0 : 0 < n₀) (x0 : Nat) (hx0 : x0 < 18446744073709551616) (w : World) (hBn : Bn < w.heap.size) (hn₀ : n₀ ≤ w.heap.size)
    (hc : w.cell? ⟨Bn, 0, none⟩ = some (.int .u64 x0)) (hT : Tab w) :
    SeqStopsK Fence.wide n Tryd.prog 33 #[.pointer (some ⟨Bn, 0, none⟩)] (fun x : Nat => #[Value.int .i64 (x : Nat)]) (Below n₀) (fun ys => ys = M.onesL x0) (fun pre => pre <+: M.onesL x0) (M.onesL x0).length w := fun l J Jx W hW _ _ hY h0 =>
  places1_in n hn l Bn n₀ hn0 x0 hx0 J Jx hY W ((hW.cell (p := ⟨Bn, 0, none⟩) hBn).trans hc) (hT.below (hW.mono hn₀) hn0) h0

theorem info3 : (Tryd.prog.info? 3).map (fun i => (i.zero, i.size, i.bytes)) = some (some (.int .i64 0), 1, 8) := by kernel_rfl

def ints (l : List Nat) : List Value := l.map fun x => Value.int .i64 (x : Nat)

set_option maxRecDepth 100000 in
set_option maxHeartbeats 2000000 in
theorem ones_in (x0 : Nat) (hx0 : x0 < 18446744073709551616) (w : World) (hT : Tab w) (hw : 0 < w.heap.size) :
    CallsIn Fence.wide 3 Tryd.prog 18 #[.int .u64 x0] w fun e W' => ∃ v, e = .returned v ∧ W'.ownsRow w.heap.size 3 1 v (M.onesL x0).length (ints (M.onesL x0)) ∧ Below w.heap.size w W' := by
  have HX : Hid (x0 < 18446744073709551616) := hx0
  have hlen : (M.onesL x0).length ≤ 64 := M.onesL_len x0
  clear hx0
  obtain ⟨i0, hi, hz0, hz1, hz2⟩ := info_parts info3
  refine callsIn_of_wp_marks Tryd.func18 rfl trivial ?_ rfl
  simp only [Tryd.ntmps18, List.size_toArray, List.length_cons, List.length_nil, Nat.reduceAdd, Nat.reduceSub, Array.replicate_succ, Array.replicate_zero, List.push_toArray, List.append_toArray, List.nil_append, List.cons_append]
  gi_wp2_with fail
  refine ⟨trivial, (places_in _ _ _).mono ?_⟩
  rintro e w' ⟨rfl, rfl⟩
  gi_wp2
  have bO := Boxed.new w 24 (.slice none 0 0)
  have bN := Boxed.new (w.alloc (.cells #[.slice none 0 0] 24)) 22 (.int .u64 x0)
  rw [World.size_alloc] at bN
  have hB0 : Below w.heap.size w ((w.alloc (.cells #[.slice none 0 0] 24)).alloc (.cells #[.int .u64 x0] 22)) := ((Below.refl _ w).alloc (Nat.le_refl _) _).alloc (by simp) _
  refine wpIn_rangeFunc_ownG rfl (by decide) (gf := 33) (lb := #[.pointer (some ⟨w.heap.size + 1, 0, none⟩)]) rfl trivial (enters_of Tryd.func33 (by kernel_rfl) rfl)
    (places_stops (3 - 1) (by decide) (w.heap.size + 1) w.heap.size hw x0 HX.out _ (by simp) (by simp; omega) bN.cell (hT.below hB0 hw)) belowK_t (belowK_b (by simp; omega)) (Below.refl _ _) (fun _ => rfl)
    (fun pre W => (∃ v, Boxed W w.heap.size 24 v ∧ W.ownsRow w.heap.size 3 1 v pre.length (ints pre) ∧ True) ∧ Below w.heap.size w W)
    (fun _ _ _ => False)
    (OwnFrom.and (Own.from (holdsRow_own w.heap.size w.heap.size 24 3 1 (fun pre => pre.length) (fun pre => ints pre) (fun _ _ => True)) _) (ownFrom_below (Nat.le_refl _) (by simp; omega)))
    (fun _ _ _ _ _ hs _ _ => hs)
    ⟨⟨_, bO.alloc _, World.ownsRow_nil _ _ _ _, trivial⟩, hB0⟩
    (fun x => { tmps := #[.int .u64 x0, undef, .slice none 0 0, .pointer (some ⟨w.heap.size, 0, none⟩), .int .i64 (x : Nat), .int .u64 x0, .func (.func 33) #[] #[.pointer (some ⟨w.heap.size + 1, 0, none⟩)], .int .i64 (x : Nat), undef, undef, undef, undef, undef], defers := [] }) ?assign ?body ?done ?stop
  case assign =>
    intro l x W K hK
    gi_wp2
    exact hK
  case body =>
    rintro l pre x W ⟨⟨v, hv, hrow, _⟩, hB⟩ hlt
    have hc := hv.cell
    gi_wp2_with (gi_at_builtin; refine wpListIn_append_own _ rfl _ _ 24 rfl w.heap.size 3 i0 (.int .i64 0) 1 8 Tryd.underlying24 hi hz0 hz1 hz2 rfl (by decide) _ _ _ rfl (hrow.alloc _) ⟨W.heap.size, 0, none⟩ 1 1 [.int .i64 (x : Nat)] rfl rfl (cell_one_new _ _ _) (by simp [Value.oneCell']) (by unfold maxLen; omega) (by omega) (by have := hB.size; simp; omega) ?_; intro v' w1 hown' hgrow _; obtain ⟨g', cap', rfl⟩ := ownsRow_succ hown'; obtain ⟨hv1, hv2, hr2, hk2, hb2⟩ := hv.appended (by decide) hrow hB.size (Nat.le_refl _) hown' hgrow; have hc1 := hv1.cell; have hf1 := hv1.frozen)
    exact ⟨hk2.from _, hb2, ⟨_, hv2, by simpa [ints] using hr2, trivial⟩, hB.trans hb2⟩
  case done =>
    rintro D ys W hD rfl ⟨⟨v, hv, hrow, _⟩, hB⟩ hK
    have hc := hv.cell
    gi_wp2
    refine ⟨by simp, .inl ⟨_, _, rfl, run_takeDeferred hK, ?_⟩⟩
    exact ⟨_, results_tmp rfl _ _ _, v, rfl, ownsRow_putObj hrow _ hK rfl, hB.trans (belowK_b (w := w) (Nat.le_refl _) W D _ _ (by simp at hD; omega) hK rfl rfl)⟩
  case stop =>
    rintro D c pre W _ _ h _
    exact h.elim

theorem ones_nat (x0 : Nat) (hx0 : x0 < 18446744073709551616) (w : World) (hT : Tab w) (hw : 0 < w.heap.size) :
    Calls Tryd.prog 18 #[.int .u64 x0] w fun e W' => ∃ v, e = .returned v ∧ W'.ownsRow w.heap.size 3 1 v (M.onesL x0).length (ints (M.onesL x0)) ∧ Below w.heap.size w W' :=
  callsIn_wide.1 (ones_in x0 hx0 w hT hw)
theorem ones_any (x : Int) (h0 : 0 ≤ x) (hx : x < 18446744073709551616) (w : World) (hT : Tab w) (hw : 0 < w.heap.size) :
    Calls Tryd.prog 18 #[.int .u64 x] w fun e W' => ∃ v, e = .returned v ∧ W'.ownsRow w.heap.size 3 1 v (M.onesL x.toNat).length (ints (M.onesL x.toNat)) ∧ Below w.heap.size w W' := by
  obtain ⟨x', rfl⟩ := Int.eq_ofNat_of_zero_le h0
  exact ones_nat x' (by omega) w hT hw
end Go.Proofs.YthhilppeeffheaaDoor
