/- What the calls of tables that are none, are zero, or were dropped, return: an error each, and nothing is changed. No conditions. -/
import Derived.Test.YtpfmmlbakbhklaaGreatDoorN19
namespace Go.Proofs.YtpfmmlbakbhklaaGreatDoor
open Go.RowKit
/-- Tables of which nothing may be asked: e is told. -/
structure Dd (w : World) (p : Option Addr) (e : Int) : Prop where
  fault : ∀ W, Below w.heap.size w W → ∀ pg, Calls Tryz.prog 59 #[.pointer p, .int .i64 pg] W fun r w' => r = .returned (.int .i64 e) ∧ w' = W
  live : ∀ W, Below w.heap.size w W → Calls Tryz.prog 49 #[.pointer p] W fun r w' => r = .returned (.bool false) ∧ w' = W
  ne : (e != 0) = true
theorem Dd.none (w : World) : Dd w none 10 := ⟨fun W _ pg => fault_nil W pg, fun W _ => isLive_nil W, rfl⟩
set_option maxHeartbeats 400000 in
theorem Dd.zero {w : World} {t : Nat} (c0 : w.cell? ⟨t, 0, Option.none⟩ = some (.int .i64 0)) : Dd w (some ⟨t, 0, Option.none⟩) 10 := by
  have hc : ∀ W, Below w.heap.size w W → W.cell? ⟨t, 0, Option.none⟩ = some (.int .i64 0) := fun W b => (b.cell (p := ⟨t, 0, Option.none⟩) (World.block_lt_of_cell? _ ⟨t, 0, Option.none⟩ c0)).trans c0
  refine ⟨fun W b pg => ?_, fun W b => ?_, rfl⟩
  · have c := hc W b
    clear hc b c0
    go_enter Tryz.func59, Tryz.ntmps59
    go_wp2
    go_ret
    exact ⟨rfl, rfl⟩
  · have c := hc W b
    clear hc b c0
    go_enter Tryz.func49, Tryz.ntmps49
    go_wp2
    go_ret
    exact ⟨rfl, rfl⟩
set_option maxHeartbeats 400000 in
theorem Dd.two {w : World} {t : Nat} (c0 : w.cell? ⟨t, 0, Option.none⟩ = some (.int .i64 2)) : Dd w (some ⟨t, 0, Option.none⟩) 6 := by
  have hc : ∀ W, Below w.heap.size w W → W.cell? ⟨t, 0, Option.none⟩ = some (.int .i64 2) := fun W b => (b.cell (p := ⟨t, 0, Option.none⟩) (World.block_lt_of_cell? _ ⟨t, 0, Option.none⟩ c0)).trans c0
  refine ⟨fun W b pg => ?_, fun W b => ?_, rfl⟩
  · have c := hc W b
    clear hc b c0
    go_enter Tryz.func59, Tryz.ntmps59
    go_wp2
    go_ret
    exact ⟨rfl, rfl⟩
  · have c := hc W b
    clear hc b c0
    go_enter Tryz.func49, Tryz.ntmps49
    go_wp2
    go_ret
    exact ⟨rfl, rfl⟩
theorem Dd.below {w w' : World} {p : Option Addr} {e : Int} (h : Dd w p e) (b : Below w.heap.size w w') : Dd w' p e :=
  ⟨fun W c => h.fault W (b.trans (c.mono b.size)), fun W c => h.live W (b.trans (c.mono b.size)), h.ne⟩
section
variable {w : World} {p : Option Addr} {e : Int}
set_option maxHeartbeats 400000 in
theorem find_dead (h : Dd w p e) (pg : Int) : Calls Tryz.prog 46 #[.pointer p, .int .i64 pg] w fun r w' => r = .returned (.tuple #[.agg zeC, .int .i64 e]) ∧ Below w.heap.size w w' := by
  have hB := below_alloc w (.cells zeC 97)
  have hN := heap_alloc_new w (.cells zeC 97)
  have HF := hid (h.fault _ hB pg)
  have HB := hid hB
  have HN := hid hN
  have hne := h.ne
  obtain ⟨x0, x1, x2, x3, x4, x5, x6⟩ := seven hN
  obtain ⟨y0, y1, y2, y3, y4, y5, y6⟩ := free7 hN
  clear h hB hN
  go_enter Tryz.func46, Tryz.ntmps46
  go_wp2_with fail
  refine HF.out.mono ?_
  rintro r w1 ⟨rfl, rfl⟩
  go_wp2
  refine bodyPost_ret (P.results_row_tmp rfl _ _ w.heap.size _ rfl (run_loadVar_row _ _ 97 97 _ (0, 0) _ HN.out Tryz.underlying97 rfl size97)) rfl ?_
  exact ⟨rfl, HB.out⟩
set_option maxHeartbeats 400000 in
theorem query_dead (h : Dd w p e) (pg : Int) : Calls Tryz.prog 13 #[.pointer p, .int .i64 pg] w fun r w' => r = .returned (.tuple #[.int .i64 0, .int .i64 0, .int .i64 e]) ∧ Below w.heap.size w w' := by
  have HF := hid (find_dead h pg)
  have hne := h.ne
  clear h
  go_enter Tryz.func13, Tryz.ntmps13
  go_wp2_with fail
  refine HF.out.mono ?_
  rintro r w1 ⟨rfl, hB1⟩
  have HB1 := hid (hB1.alloc hB1.size (.cells zeC 97))
  clear hB1
  go_wp2
  go_ret3
  exact ⟨rfl, HB1.out⟩
set_option maxHeartbeats 400000 in
theorem unmap_dead (h : Dd w p e) (pg : Int) : Calls Tryz.prog 23 #[.pointer p, .int .i64 pg] w fun r w' => r = .returned (.tuple #[.int .i64 0, .int .i64 e]) ∧ Below w.heap.size w w' := by
  have HF := hid (find_dead h pg)
  have hne := h.ne
  clear h
  go_enter Tryz.func23, Tryz.ntmps23
  go_wp2_with fail
  refine HF.out.mono ?_
  rintro r w1 ⟨rfl, hB1⟩
  have HB1 := hid (hB1.alloc hB1.size (.cells zeC 97))
  clear hB1
  go_wp2
  go_ret2
  exact ⟨rfl, HB1.out⟩
set_option maxHeartbeats 400000 in
theorem protect_dead (h : Dd w p e) (pg rr : Int) : Calls Tryz.prog 24 #[.pointer p, .int .i64 pg, .int .i64 rr] w fun r w' => r = .returned (.int .i64 e) ∧ w' = w := by
  have HF := hid (h.fault w (Below.refl _ _) pg)
  have hne := h.ne
  clear h
  go_enter Tryz.func24, Tryz.ntmps24
  go_wp2_with fail
  refine HF.out.mono ?_
  rintro r w1 ⟨rfl, hw1⟩
  rw [hw1]
  clear hw1 w1
  go_wp2
  go_ret
  exact ⟨rfl, rfl⟩
set_option maxHeartbeats 400000 in
theorem putFault_dead (h : Dd w p e) (pg lo : Int) (ep : Bool) (er : Int) (el : Bool) (ef : Int) :
    Calls Tryz.prog 95 #[.pointer p, .int .i64 pg, .int .i64 lo, .agg #[.bool ep, .int .i64 er, .bool el, .int .i64 ef]] w fun r w' => r = .returned (.int .i64 e) ∧ Below w.heap.size w w' := by
  have hB := below_alloc w (.cells #[.bool ep, .int .i64 er, .bool el, .int .i64 ef] 95)
  have HB := hid hB
  have HF := hid (h.fault _ hB pg)
  have hne := h.ne
  clear h hB
  go_enter Tryz.func95, Tryz.ntmps95
  go_wp2_with fail
  refine HF.out.mono ?_
  rintro r w1 ⟨rfl, hw1⟩
  rw [hw1]
  clear hw1 w1
  go_wp2
  go_ret
  exact ⟨rfl, HB.out⟩
set_option maxRecDepth 100000 in
set_option maxHeartbeats 1000000 in
theorem put_dead (h : Dd w p e) (pg lo : Int) (ep : Bool) (er : Int) (el : Bool) (ef : Int) :
    Calls Tryz.prog 55 #[.pointer p, .int .i64 pg, .int .i64 lo, .agg #[.bool ep, .int .i64 er, .bool el, .int .i64 ef]] w fun r w' => r = .returned (.int .i64 e) ∧ Below w.heap.size w w' := by
  have B3 : Below w.heap.size w (((w.alloc (.cells #[.pointer p] 30)).alloc (.cells #[.int .i64 lo] 3)).alloc (.cells #[.bool ep, .int .i64 er, .bool el, .int .i64 ef] 95)) := ((below_alloc _ _).alloc (by simp) _).alloc (by simp; omega) _
  have HF := hid (putFault_dead (h.below B3) pg lo ep er el ef)
  have HB3 := hid B3
  have hne := h.ne
  clear h B3
  refine callsIn_wide.1 (show CallsIn Fence.wide 3 Tryz.prog 55 _ _ _ from ?_)
  refine callsIn_of_wp_marks Tryz.func55 rfl trivial ?_ rfl
  simp only [Tryz.ntmps55, List.size_toArray, List.length_cons, List.length_nil, Nat.reduceAdd, Nat.reduceSub, Array.replicate_succ, Array.replicate_zero, List.push_toArray, List.append_toArray, List.nil_append, List.cons_append]
  gi_wp2_with fail
  refine ⟨trivial, (callsIn_wide.2 HF.out).mono ?_⟩
  rintro r w1 ⟨rfl, hB1⟩
  have HB1 := hid (HB3.out.trans (hB1.mono HB3.out.size))
  clear hB1
  gi_wp2
  exact ⟨_, results_tmp rfl _ _ _, rfl, HB1.out⟩
set_option maxHeartbeats 400000 in
theorem map_dead (h : Dd w p e) (pg f r : Int) :
    Calls Tryz.prog 21 #[.pointer p, .int .i64 pg, .int .i64 f, .int .i64 r] w fun x w' => x = .returned (.int .i64 e) ∧ Below w.heap.size w w' := by
  have HP := hid (put_dead h pg 0 true r false f)
  clear h
  go_enter Tryz.func21, Tryz.ntmps21
  go_wp2_with fail
  refine HP.out.mono ?_
  rintro x w1 ⟨rfl, hB⟩
  have HX := hid hB
  clear hB
  go_wp2
  go_ret
  exact ⟨rfl, HX.out⟩
set_option maxHeartbeats 400000 in
theorem large_dead (h : Dd w p e) (pg f r : Int) :
    Calls Tryz.prog 22 #[.pointer p, .int .i64 pg, .int .i64 f, .int .i64 r] w fun x w' => x = .returned (.int .i64 e) ∧ Below w.heap.size w w' := by
  have HP := hid (put_dead h pg 1 true r true f)
  clear h
  go_enter Tryz.func22, Tryz.ntmps22
  go_wp2_with fail
  refine HP.out.mono ?_
  rintro x w1 ⟨rfl, hB⟩
  have HX := hid hB
  clear hB
  go_wp2
  go_ret
  exact ⟨rfl, HX.out⟩
set_option maxHeartbeats 400000 in
theorem all_dead (h : Dd w p e) : Calls Tryz.prog 16 #[.pointer p] w fun r w' => r = .returned (.slice none 0 0) ∧ w' = w := by
  have HL := hid (h.live w (Below.refl _ _))
  clear h
  go_enter Tryz.func16, Tryz.ntmps16
  go_wp2_with fail
  refine HL.out.mono ?_
  rintro e w' ⟨rfl, hw'⟩
  rw [hw']
  clear hw' w'
  go_wp2
  go_ret
  exact ⟨rfl, rfl⟩
set_option maxHeartbeats 400000 in
theorem drop_dead (h : Dd w p e) : Calls Tryz.prog 37 #[.pointer p] w fun r w' => r = .returned (.slice none 0 0) ∧ w' = w := by
  have HL := hid (h.live w (Below.refl _ _))
  clear h
  go_enter Tryz.func37, Tryz.ntmps37
  go_wp2_with fail
  refine HL.out.mono ?_
  rintro e w' ⟨rfl, hw'⟩
  rw [hw']
  clear hw' w'
  go_wp2
  go_ret
  exact ⟨rfl, rfl⟩
set_option maxHeartbeats 400000 in
theorem root_dead (h : Dd w p e) : Calls Tryz.prog 18 #[.pointer p] w fun r w' => r = .returned (.int .i64 (-1)) ∧ w' = w := by
  have HL := hid (h.live w (Below.refl _ _))
  clear h
  go_enter Tryz.func18, Tryz.ntmps18
  go_wp2_with fail
  refine HL.out.mono ?_
  rintro e w' ⟨rfl, hw'⟩
  rw [hw']
  clear hw' w'
  go_wp2
  go_ret
  exact ⟨rfl, rfl⟩
end
end Go.Proofs.YtpfmmlbakbhklaaGreatDoor
