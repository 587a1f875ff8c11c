/- What a program's next act is. Conditions: it is one that Push or Pop gave. -/
import Derived.Test.YtfnfbceblpaggaaS3
namespace Go.Proofs.Ytfnfbceblpaggaa
open Go.RowKit

set_option maxRecDepth 100000 in
set_option maxHeartbeats 600000 in
theorem nx0G {t : TypeId} {w : World} {g : Nat} {ad sz ps mv : Int} {wh : Bool} (h : IsPr t w g ⟨ad, sz, none, 0, ps, mv, wh⟩) (ok : POk ⟨ad, sz, none, 0, ps, mv, wh⟩) :
    Calls Try.prog 34 #[.pointer (some ⟨g, 0, none⟩)] w fun e w' => e = .returned (acV ⟨1, ad + 1, 0, 0⟩) ∧ Below w.heap.size w w' := by
  have hS := PS.first h
  have HP := hid (h.below (below_alloc w (.cells z4 51)))
  have hlt := h.lt
  obtain ⟨sb0, sb1⟩ := slot_bounds ps ok.q
  obtain ⟨qa0, qa1, qs0, qs1⟩ := ok.q
  simp only [] at qa0 qa1 qs0 qs1 sb0 sb1
  have HSl : Hid (∀ {w' : World}, PS w g ad sz (.iface 89 (.agg #[])) 0 ps w' → Calls Try.prog 45 #[.agg #[.int .i64 ad, .int .i64 sz], .int .u64 ps] w' fun e w'' => e = .returned (.int .i64 (slotA ad sz ps)) ∧ (∃ a b c d, There4 w'' w.heap.size a b c d) ∧ PS w g ad sz (.iface 89 (.agg #[])) 0 ps w'') := hid (fun h' => PS.lift hlt h' (slot_at _ ok.q ok.p0 ok.p1))
  have HC : Hid (∀ {w' : World}, PS w g ad sz (.iface 89 (.agg #[])) 0 ps w' → Calls Try.prog 81 #[.agg #[], .agg #[.int .i64 ad, .int .i64 sz]] w' fun e w'' => e = .returned (.int .i64 (ad + 1)) ∧ (∃ a b c d, There4 w'' w.heap.size a b c d) ∧ PS w g ad sz (.iface 89 (.agg #[])) 0 ps w'') := hid (fun h' => PS.lift hlt h' (countG_at _ ok.q))
  clear h ok
  generalize slotA ad sz ps = sl at *
  have hwr := i64w (x := sl) (by omega) (by omega)
  simp only [ownV] at hS
  go_enter Try.func34, Try.ntmps34
  go_wp2_with fail
  refine (pNone_at HP.out).mono ?_
  rintro e w2 ⟨rfl, hw2⟩
  rw [hw2]
  clear hw2 w2 HP
  generalize w.alloc (.cells z4 51) = W at *
  have hS0 := hS.drew
  go_wp2_with fail
  go_region_held3 (fun w' => (w'.cell? ⟨g, 0, none⟩ = some (.int .i64 ad) ∧ w'.cell? ⟨g, 1, none⟩ = some (.int .i64 sz) ∧ w'.cell? ⟨g, 2, none⟩ = some (.iface 89 (.agg #[])) ∧ w'.cell? ⟨g, 3, none⟩ = some (.int .i64 0) ∧ w'.cell? ⟨g, 4, none⟩ = some (.int .u64 ps)) ∧ (Below w.heap.size w w' ∧ R4 w' w.heap.size)) (first | with_reducible exact hS0 | with_reducible assumption)
    (first
      | (go_at_call 45; refine (HSl.out (by assumption)).mono ?_; rintro e3 w3 ⟨rfl, hth, hw'⟩))
  obtain ⟨a, b, c, d, d0, d1, d2, d3, f0, f1, f2, f3⟩ := hth
  obtain ⟨⟨c0, c1, c2, c3, c4⟩, hB1, hR1⟩ := id hw'
  have hS1 := hw'.drew
  clear c0 c1 c2 c4 hB1 hR1
  go_wp2_with fail
  go_region_held3 (fun w' => (w'.cell? ⟨g, 0, none⟩ = some (.int .i64 ad) ∧ w'.cell? ⟨g, 1, none⟩ = some (.int .i64 sz) ∧ w'.cell? ⟨g, 2, none⟩ = some (.iface 89 (.agg #[])) ∧ w'.cell? ⟨g, 3, none⟩ = some (.int .i64 0) ∧ w'.cell? ⟨g, 4, none⟩ = some (.int .u64 ps)) ∧ (Below w.heap.size w w' ∧ R4 w' w.heap.size)) (first | with_reducible exact PS.put hlt (by assumption) _ _ _ _ | with_reducible exact hS1 | with_reducible assumption)
    (first
      | (go_at_call 81; refine (HC.out (by assumption)).mono ?_; rintro e4 w4 ⟨rfl, ⟨a, b, c, d, d0, d1, d2, d3, f0, f1, f2, f3⟩, hw4⟩))
  obtain ⟨_, hB4, _, _, _, _, hg4⟩ := hw4
  have HG4 := hid hg4
  have HB4 := hid hB4
  clear hB4 hg4
  go_wp2
  (try simp only [Exit.inBlock, Exit.then])
  refine bodyPost_ret (results_cell_row rfl _ _ w.heap.size 51 _ (0, 0) _ rfl (put4 HG4.out _ _ _ _) Try.underlying51 rfl size51) rfl ?_
  exact ⟨by first | rfl | rw [hwr], below_put4 HB4.out _ _ _ _⟩
set_option maxRecDepth 100000 in
set_option maxHeartbeats 600000 in
theorem nx2G {t : TypeId} {w : World} {g : Nat} {ad sz ps mv : Int} {wh : Bool} (h : IsPr t w g ⟨ad, sz, none, 2, ps, mv, wh⟩) (ok : POk ⟨ad, sz, none, 2, ps, mv, wh⟩) :
    Calls Try.prog 34 #[.pointer (some ⟨g, 0, none⟩)] w fun e w' => e = .returned (acV ⟨3, ad + 1, ps, add64 ps 1⟩) ∧ Below w.heap.size w w' := by
  have hS := PS.first h
  have HP := hid (h.below (below_alloc w (.cells z4 51)))
  have hlt := h.lt
  obtain ⟨sb0, sb1⟩ := slot_bounds ps ok.q
  obtain ⟨qa0, qa1, qs0, qs1⟩ := ok.q
  simp only [] at qa0 qa1 qs0 qs1 sb0 sb1
  have HSl : Hid (∀ {w' : World}, PS w g ad sz (.iface 89 (.agg #[])) 2 ps w' → Calls Try.prog 45 #[.agg #[.int .i64 ad, .int .i64 sz], .int .u64 ps] w' fun e w'' => e = .returned (.int .i64 (slotA ad sz ps)) ∧ (∃ a b c d, There4 w'' w.heap.size a b c d) ∧ PS w g ad sz (.iface 89 (.agg #[])) 2 ps w'') := hid (fun h' => PS.lift hlt h' (slot_at _ ok.q ok.p0 ok.p1))
  have HC : Hid (∀ {w' : World}, PS w g ad sz (.iface 89 (.agg #[])) 2 ps w' → Calls Try.prog 81 #[.agg #[], .agg #[.int .i64 ad, .int .i64 sz]] w' fun e w'' => e = .returned (.int .i64 (ad + 1)) ∧ (∃ a b c d, There4 w'' w.heap.size a b c d) ∧ PS w g ad sz (.iface 89 (.agg #[])) 2 ps w'') := hid (fun h' => PS.lift hlt h' (countG_at _ ok.q))
  clear h ok
  generalize slotA ad sz ps = sl at *
  have hwr := i64w (x := sl) (by omega) (by omega)
  simp only [ownV] at hS
  go_enter Try.func34, Try.ntmps34
  go_wp2_with fail
  refine (pNone_at HP.out).mono ?_
  rintro e w2 ⟨rfl, hw2⟩
  rw [hw2]
  clear hw2 w2 HP
  generalize w.alloc (.cells z4 51) = W at *
  have hS0 := hS.drew
  go_wp2_with fail
  go_region_held3 (fun w' => (w'.cell? ⟨g, 0, none⟩ = some (.int .i64 ad) ∧ w'.cell? ⟨g, 1, none⟩ = some (.int .i64 sz) ∧ w'.cell? ⟨g, 2, none⟩ = some (.iface 89 (.agg #[])) ∧ w'.cell? ⟨g, 3, none⟩ = some (.int .i64 2) ∧ w'.cell? ⟨g, 4, none⟩ = some (.int .u64 ps)) ∧ (Below w.heap.size w w' ∧ R4 w' w.heap.size)) (first | with_reducible exact hS0 | with_reducible assumption)
    (first
      | (go_at_call 45; refine (HSl.out (by assumption)).mono ?_; rintro e3 w3 ⟨rfl, hth, hw'⟩))
  obtain ⟨a, b, c, d, d0, d1, d2, d3, f0, f1, f2, f3⟩ := hth
  obtain ⟨⟨c0, c1, c2, c3, c4⟩, hB1, hR1⟩ := id hw'
  have hS1 := hw'.drew
  clear c0 c1 c2 c4 hB1 hR1
  go_wp2_with fail
  go_region_held3 (fun w' => (w'.cell? ⟨g, 0, none⟩ = some (.int .i64 ad) ∧ w'.cell? ⟨g, 1, none⟩ = some (.int .i64 sz) ∧ w'.cell? ⟨g, 2, none⟩ = some (.iface 89 (.agg #[])) ∧ w'.cell? ⟨g, 3, none⟩ = some (.int .i64 2) ∧ w'.cell? ⟨g, 4, none⟩ = some (.int .u64 ps)) ∧ (Below w.heap.size w w' ∧ R4 w' w.heap.size)) (first | with_reducible exact PS.put hlt (by assumption) _ _ _ _ | with_reducible exact hS1 | with_reducible assumption)
    (first
      | (go_at_call 81; refine (HC.out (by assumption)).mono ?_; rintro e4 w4 ⟨rfl, ⟨a, b, c, d, d0, d1, d2, d3, f0, f1, f2, f3⟩, hw4⟩))
  obtain ⟨_, hB4, _, _, _, _, hg4⟩ := hw4
  have HG4 := hid hg4
  have HB4 := hid hB4
  clear hB4 hg4
  go_wp2
  (try simp only [Exit.inBlock, Exit.then])
  refine bodyPost_ret (results_cell_row rfl _ _ w.heap.size 51 _ (0, 0) _ rfl (put4 HG4.out _ _ _ _) Try.underlying51 rfl size51) rfl ?_
  exact ⟨by first | rfl | rw [hwr], below_put4 HB4.out _ _ _ _⟩
set_option maxRecDepth 100000 in
set_option maxHeartbeats 600000 in
theorem nx3G {t : TypeId} {w : World} {g : Nat} {ad sz ps mv : Int} {wh : Bool} (h : IsPr t w g ⟨ad, sz, none, 3, ps, mv, wh⟩) (ok : POk ⟨ad, sz, none, 3, ps, mv, wh⟩) :
    Calls Try.prog 34 #[.pointer (some ⟨g, 0, none⟩)] w fun e w' => e = .returned (acV ⟨1, slotA ad sz ps + 1, 0, 0⟩) ∧ Below w.heap.size w w' := by
  have hS := PS.first h
  have HP := hid (h.below (below_alloc w (.cells z4 51)))
  have hlt := h.lt
  obtain ⟨sb0, sb1⟩ := slot_bounds ps ok.q
  obtain ⟨qa0, qa1, qs0, qs1⟩ := ok.q
  simp only [] at qa0 qa1 qs0 qs1 sb0 sb1
  have HSl : Hid (∀ {w' : World}, PS w g ad sz (.iface 89 (.agg #[])) 3 ps w' → Calls Try.prog 45 #[.agg #[.int .i64 ad, .int .i64 sz], .int .u64 ps] w' fun e w'' => e = .returned (.int .i64 (slotA ad sz ps)) ∧ (∃ a b c d, There4 w'' w.heap.size a b c d) ∧ PS w g ad sz (.iface 89 (.agg #[])) 3 ps w'') := hid (fun h' => PS.lift hlt h' (slot_at _ ok.q ok.p0 ok.p1))
  have HC : Hid (∀ {w' : World}, PS w g ad sz (.iface 89 (.agg #[])) 3 ps w' → Calls Try.prog 83 #[.agg #[], .int .i64 (slotA ad sz ps + 1)] w' fun e w'' => e = .returned (acV ⟨1, slotA ad sz ps + 1, 0, 0⟩) ∧ (∃ a b c d, There4 w'' w.heap.size a b c d) ∧ PS w g ad sz (.iface 89 (.agg #[])) 3 ps w'') := hid (fun h' => PS.lift hlt h' (moveG_at _ (slotA ad sz ps + 1)))
  clear h ok
  generalize slotA ad sz ps = sl at *
  have hwr := i64w (x := sl) (by omega) (by omega)
  simp only [ownV] at hS
  go_enter Try.func34, Try.ntmps34
  go_wp2_with fail
  refine (pNone_at HP.out).mono ?_
  rintro e w2 ⟨rfl, hw2⟩
  rw [hw2]
  clear hw2 w2 HP
  generalize w.alloc (.cells z4 51) = W at *
  have hS0 := hS.drew
  go_wp2_with fail
  go_region_held3 (fun w' => (w'.cell? ⟨g, 0, none⟩ = some (.int .i64 ad) ∧ w'.cell? ⟨g, 1, none⟩ = some (.int .i64 sz) ∧ w'.cell? ⟨g, 2, none⟩ = some (.iface 89 (.agg #[])) ∧ w'.cell? ⟨g, 3, none⟩ = some (.int .i64 3) ∧ w'.cell? ⟨g, 4, none⟩ = some (.int .u64 ps)) ∧ (Below w.heap.size w w' ∧ R4 w' w.heap.size)) (first | with_reducible exact hS0 | with_reducible assumption)
    (first
      | (go_at_call 45; refine (HSl.out (by assumption)).mono ?_; rintro e3 w3 ⟨rfl, hth, hw'⟩))
  obtain ⟨a, b, c, d, d0, d1, d2, d3, f0, f1, f2, f3⟩ := hth
  obtain ⟨⟨c0, c1, c2, c3, c4⟩, hB1, hR1⟩ := id hw'
  have HW := hid hw'
  clear hw' c0 c1 c4 hB1 hR1
  go_wp2_with fail
  refine (HC.out HW.out).mono ?_
  rintro e4 w4 ⟨rfl, ⟨a', b', c', d', d0, d1, d2, d3, f0, f1, f2, f3⟩, hw4⟩
  obtain ⟨_, hB4, _, _, _, _, hg4⟩ := hw4
  have HG4 := hid hg4
  have HB4 := hid hB4
  clear hB4 hg4
  go_wp2
  (try simp only [Exit.inBlock, Exit.then])
  refine bodyPost_ret (results_cell_row rfl _ _ w.heap.size 51 _ (0, 0) _ rfl (put4 HG4.out _ _ _ _) Try.underlying51 rfl size51) rfl ?_
  exact ⟨by first | rfl | rw [hwr], below_put4 HB4.out _ _ _ _⟩
set_option maxRecDepth 100000 in
set_option maxHeartbeats 600000 in
theorem nx4G {t : TypeId} {w : World} {g : Nat} {ad sz ps mv : Int} {wh : Bool} (h : IsPr t w g ⟨ad, sz, none, 4, ps, mv, wh⟩) (ok : POk ⟨ad, sz, none, 4, ps, mv, wh⟩) :
    Calls Try.prog 34 #[.pointer (some ⟨g, 0, none⟩)] w fun e w' => e = .returned (acV ⟨2, slotA ad sz ps, add64 ps sz, 0⟩) ∧ Below w.heap.size w w' := by
  have hS := PS.first h
  have HP := hid (h.below (below_alloc w (.cells z4 51)))
  have hlt := h.lt
  obtain ⟨sb0, sb1⟩ := slot_bounds ps ok.q
  obtain ⟨qa0, qa1, qs0, qs1⟩ := ok.q
  simp only [] at qa0 qa1 qs0 qs1 sb0 sb1
  have HSl : Hid (∀ {w' : World}, PS w g ad sz (.iface 89 (.agg #[])) 4 ps w' → Calls Try.prog 45 #[.agg #[.int .i64 ad, .int .i64 sz], .int .u64 ps] w' fun e w'' => e = .returned (.int .i64 (slotA ad sz ps)) ∧ (∃ a b c d, There4 w'' w.heap.size a b c d) ∧ PS w g ad sz (.iface 89 (.agg #[])) 4 ps w'') := hid (fun h' => PS.lift hlt h' (slot_at _ ok.q ok.p0 ok.p1))
  have HC : Hid (∀ {w' : World}, PS w g ad sz (.iface 89 (.agg #[])) 4 ps w' → Calls Try.prog 82 #[.agg #[], .agg #[.int .i64 ad, .int .i64 sz], .int .u64 ps] w' fun e w'' => e = .returned (.int .u64 (add64 ps sz)) ∧ (∃ a b c d, There4 w'' w.heap.size a b c d) ∧ PS w g ad sz (.iface 89 (.agg #[])) 4 ps w'') := hid (fun h' => PS.lift hlt h' (leftG_at _ ps ok.q))
  clear h ok
  generalize slotA ad sz ps = sl at *
  have hwr := i64w (x := sl) (by omega) (by omega)
  simp only [ownV] at hS
  go_enter Try.func34, Try.ntmps34
  go_wp2_with fail
  refine (pNone_at HP.out).mono ?_
  rintro e w2 ⟨rfl, hw2⟩
  rw [hw2]
  clear hw2 w2 HP
  generalize w.alloc (.cells z4 51) = W at *
  have hS0 := hS.drew
  go_wp2_with fail
  go_region_held3 (fun w' => (w'.cell? ⟨g, 0, none⟩ = some (.int .i64 ad) ∧ w'.cell? ⟨g, 1, none⟩ = some (.int .i64 sz) ∧ w'.cell? ⟨g, 2, none⟩ = some (.iface 89 (.agg #[])) ∧ w'.cell? ⟨g, 3, none⟩ = some (.int .i64 4) ∧ w'.cell? ⟨g, 4, none⟩ = some (.int .u64 ps)) ∧ (Below w.heap.size w w' ∧ R4 w' w.heap.size)) (first | with_reducible exact hS0 | with_reducible assumption)
    (first
      | (go_at_call 45; refine (HSl.out (by assumption)).mono ?_; rintro e3 w3 ⟨rfl, hth, hw'⟩))
  obtain ⟨a, b, c, d, d0, d1, d2, d3, f0, f1, f2, f3⟩ := hth
  obtain ⟨⟨c0, c1, c2, c3, c4⟩, hB1, hR1⟩ := id hw'
  have hS1 := hw'.drew
  clear c0 c1 c2 c4 hB1 hR1
  go_wp2_with fail
  go_region_held3 (fun w' => (w'.cell? ⟨g, 0, none⟩ = some (.int .i64 ad) ∧ w'.cell? ⟨g, 1, none⟩ = some (.int .i64 sz) ∧ w'.cell? ⟨g, 2, none⟩ = some (.iface 89 (.agg #[])) ∧ w'.cell? ⟨g, 3, none⟩ = some (.int .i64 4) ∧ w'.cell? ⟨g, 4, none⟩ = some (.int .u64 ps)) ∧ (Below w.heap.size w w' ∧ R4 w' w.heap.size)) (first | with_reducible exact PS.put hlt (by assumption) _ _ _ _ | with_reducible exact hS1 | with_reducible assumption)
    (first
      | (go_at_call 82; refine (HC.out (by assumption)).mono ?_; rintro e4 w4 ⟨rfl, ⟨a, b, c, d, d0, d1, d2, d3, f0, f1, f2, f3⟩, hw4⟩))
  obtain ⟨_, hB4, _, _, _, _, hg4⟩ := hw4
  have HG4 := hid hg4
  have HB4 := hid hB4
  clear hB4 hg4
  go_wp2
  (try simp only [Exit.inBlock, Exit.then])
  refine bodyPost_ret (results_cell_row rfl _ _ w.heap.size 51 _ (0, 0) _ rfl (put4 HG4.out _ _ _ _) Try.underlying51 rfl size51) rfl ?_
  exact ⟨by first | rfl | rw [hwr], below_put4 HB4.out _ _ _ _⟩
set_option maxRecDepth 100000 in
set_option maxHeartbeats 600000 in
theorem nx1 {t : TypeId} {w : World} {g : Nat} {ad sz ps mv : Int} {pv : Option Int} {wh : Bool} (h : IsPr t w g ⟨ad, sz, pv, 1, ps, mv, wh⟩) (ok : POk ⟨ad, sz, pv, 1, ps, mv, wh⟩) :
    Calls Try.prog 34 #[.pointer (some ⟨g, 0, none⟩)] w fun e w' => e = .returned (acV ⟨1, slotA ad sz ps, 0, 0⟩) ∧ Below w.heap.size w w' := by
  have hS := PS.first h
  have HP := hid (h.below (below_alloc w (.cells z4 51)))
  have hlt := h.lt
  obtain ⟨sb0, sb1⟩ := slot_bounds ps ok.q
  obtain ⟨qa0, qa1, qs0, qs1⟩ := ok.q
  simp only [] at qa0 qa1 qs0 qs1 sb0 sb1
  have HSl : Hid (∀ {w' : World}, PS w g ad sz (ownV pv) 1 ps w' → Calls Try.prog 45 #[.agg #[.int .i64 ad, .int .i64 sz], .int .u64 ps] w' fun e w'' => e = .returned (.int .i64 (slotA ad sz ps)) ∧ (∃ a b c d, There4 w'' w.heap.size a b c d) ∧ PS w g ad sz (ownV pv) 1 ps w'') := hid (fun h' => PS.lift hlt h' (slot_at _ ok.q ok.p0 ok.p1))
  clear h ok
  generalize slotA ad sz ps = sl at *
  have hwr := i64w (x := sl) (by omega) (by omega)
  go_enter Try.func34, Try.ntmps34
  go_wp2_with fail
  refine (pNone_at HP.out).mono ?_
  rintro e w2 ⟨rfl, hw2⟩
  rw [hw2]
  clear hw2 w2 HP
  generalize w.alloc (.cells z4 51) = W at *
  have hS0 := hS.drew
  go_wp2_with fail
  generalize ownV pv = o at *
  go_region_held3 (fun w' => (w'.cell? ⟨g, 0, none⟩ = some (.int .i64 ad) ∧ w'.cell? ⟨g, 1, none⟩ = some (.int .i64 sz) ∧ w'.cell? ⟨g, 2, none⟩ = some o ∧ w'.cell? ⟨g, 3, none⟩ = some (.int .i64 1) ∧ w'.cell? ⟨g, 4, none⟩ = some (.int .u64 ps)) ∧ (Below w.heap.size w w' ∧ R4 w' w.heap.size)) (first | with_reducible exact hS0 | with_reducible assumption)
    (first
      | (go_at_call 45; refine (HSl.out (by assumption)).mono ?_; rintro e3 w3 ⟨rfl, hth, hw'⟩))
  obtain ⟨a, b, c, d, d0, d1, d2, d3, f0, f1, f2, f3⟩ := hth
  obtain ⟨⟨c0, c1, c2, c3, c4⟩, hB1, hR1⟩ := id hw'
  clear hw' c0 c1 c2 c4
  obtain ⟨_, _, _, _, hg4⟩ := hR1
  have hB4 := hB1
  clear hB1
  have HG4 := hid hg4
  have HB4 := hid hB4
  clear hB4 hg4
  go_wp2
  (try simp only [Exit.inBlock, Exit.then])
  refine bodyPost_ret (results_cell_row rfl _ _ w.heap.size 51 _ (0, 0) _ rfl (put4 HG4.out _ _ _ _) Try.underlying51 rfl size51) rfl ?_
  exact ⟨by first | rfl | rw [hwr], below_put4 HB4.out _ _ _ _⟩
set_option maxRecDepth 100000 in
set_option maxHeartbeats 600000 in
theorem nx5 {t : TypeId} {w : World} {g : Nat} {ad sz ps mv : Int} {pv : Option Int} {wh : Bool} (h : IsPr t w g ⟨ad, sz, pv, 5, ps, mv, wh⟩) (ok : POk ⟨ad, sz, pv, 5, ps, mv, wh⟩) :
    Calls Try.prog 34 #[.pointer (some ⟨g, 0, none⟩)] w fun e w' => e = .returned (acV ⟨0, 0, 0, 0⟩) ∧ Below w.heap.size w w' := by
  have hS := PS.first h
  have HP := hid (h.below (below_alloc w (.cells z4 51)))
  have hlt := h.lt
  obtain ⟨sb0, sb1⟩ := slot_bounds ps ok.q
  obtain ⟨qa0, qa1, qs0, qs1⟩ := ok.q
  simp only [] at qa0 qa1 qs0 qs1 sb0 sb1
  have HSl : Hid (∀ {w' : World}, PS w g ad sz (ownV pv) 5 ps w' → Calls Try.prog 45 #[.agg #[.int .i64 ad, .int .i64 sz], .int .u64 ps] w' fun e w'' => e = .returned (.int .i64 (slotA ad sz ps)) ∧ (∃ a b c d, There4 w'' w.heap.size a b c d) ∧ PS w g ad sz (ownV pv) 5 ps w'') := hid (fun h' => PS.lift hlt h' (slot_at _ ok.q ok.p0 ok.p1))
  clear h ok
  generalize slotA ad sz ps = sl at *
  have hwr := i64w (x := sl) (by omega) (by omega)
  go_enter Try.func34, Try.ntmps34
  go_wp2_with fail
  refine (pNone_at HP.out).mono ?_
  rintro e w2 ⟨rfl, hw2⟩
  rw [hw2]
  clear hw2 w2 HP
  generalize w.alloc (.cells z4 51) = W at *
  have hS0 := hS.drew
  go_wp2_with fail
  generalize ownV pv = o at *
  go_region_held3 (fun w' => (w'.cell? ⟨g, 0, none⟩ = some (.int .i64 ad) ∧ w'.cell? ⟨g, 1, none⟩ = some (.int .i64 sz) ∧ w'.cell? ⟨g, 2, none⟩ = some o ∧ w'.cell? ⟨g, 3, none⟩ = some (.int .i64 5) ∧ w'.cell? ⟨g, 4, none⟩ = some (.int .u64 ps)) ∧ (Below w.heap.size w w' ∧ R4 w' w.heap.size)) (first | with_reducible exact hS0 | with_reducible assumption)
    (first
      | (go_at_call 45; refine (HSl.out (by assumption)).mono ?_; rintro e3 w3 ⟨rfl, hth, hw'⟩))
  obtain ⟨a, b, c, d, d0, d1, d2, d3, f0, f1, f2, f3⟩ := hth
  obtain ⟨⟨c0, c1, c2, c3, c4⟩, hB1, hR1⟩ := id hw'
  clear hw' c0 c1 c2 c4
  obtain ⟨_, _, _, _, hg4⟩ := hR1
  have hB4 := hB1
  clear hB1
  have HG4 := hid hg4
  have HB4 := hid hB4
  clear hB4 hg4
  go_wp2
  (try simp only [Exit.inBlock, Exit.then])
  refine bodyPost_ret (results_cell_row rfl _ _ w.heap.size 51 _ (0, 0) _ rfl (put4 HG4.out _ _ _ _) Try.underlying51 rfl size51) rfl ?_
  exact ⟨by first | rfl | rw [hwr], below_put4 HB4.out _ _ _ _⟩
end Go.Proofs.Ytfnfbceblpaggaa
