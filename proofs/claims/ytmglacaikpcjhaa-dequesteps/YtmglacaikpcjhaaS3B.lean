/- What a task's next act is. Conditions: it is one that Push, Pop or Steal gave. -/
import Derived.Test.YtmglacaikpcjhaaS3
namespace Go.Proofs.Ytmglacaikpcjhaa
open Go.RowKit

set_option maxRecDepth 100000 in
set_option maxHeartbeats 600000 in
theorem nx3P {w : World} {g : Nat} {ad sz v tp bt vl : Int} {hs : Bool} (h : IsTk w g ⟨ad, sz, .push v, 3, tp, bt, vl, hs⟩) (ok : POk ⟨ad, sz, .push v, 3, tp, bt, vl, hs⟩) :
    Calls Try.prog 16 #[.pointer (some ⟨g, 0, none⟩)] w fun e w' => e = .returned (acV ⟨2, slotA ad sz bt, v, 0⟩) ∧ Below w.heap.size w w' := by
  have hS : PS w g ad sz (ownV (.push v)) tp bt ((w.alloc (.cells z4 48)).alloc (.cells #[.int .i64 ad, .int .i64 sz] 34)) := PS.first h
  have HP := hid (h.below (below_alloc w (.cells z4 48)))
  have hlt := h.lt
  have hlt1 : g < (w.alloc (.cells z4 48)).heap.size := Nat.lt_of_lt_of_le hlt (below_alloc w (.cells z4 48)).size
  have HPo : Hid (∀ {w' : World}, PS w g ad sz (.iface 81 (.agg #[.int .u64 v])) tp bt w' → Calls Try.prog 87 #[.agg #[.int .u64 v], .int .u64 tp, .int .u64 bt] w' fun e w'' => e = .returned (.int .u64 bt) ∧ (∃ a b c d, There4 w'' w.heap.size a b c d) ∧ PS w g ad sz (.iface 81 (.agg #[.int .u64 v])) tp bt w'') := hid (fun h' => PS.lift hlt h' (posP_at _ v tp bt))
  have HSl : Hid (∀ {w' : World}, PS w g ad sz (.iface 81 (.agg #[.int .u64 v])) tp bt w' → Calls Try.prog 32 #[.agg #[.int .i64 ad, .int .i64 sz], .int .u64 bt] w' fun e w'' => e = .returned (.int .i64 (slotA ad sz bt)) ∧ (∃ a b c d, There4 w'' w.heap.size a b c d) ∧ PS w g ad sz (.iface 81 (.agg #[.int .u64 v])) tp bt w'') := hid (fun h' => PS.lift hlt h' (slot_at _ ok.q ok.b0 ok.b1))
  have HMv : Hid (∀ {w' : World}, PS w g ad sz (.iface 81 (.agg #[.int .u64 v])) tp bt w' → Calls Try.prog 86 #[.agg #[.int .u64 v], .int .i64 (slotA ad sz bt)] w' fun e w'' => e = .returned (acV ⟨2, slotA ad sz bt, v, 0⟩) ∧ (∃ a b c d, There4 w'' w.heap.size a b c d) ∧ PS w g ad sz (.iface 81 (.agg #[.int .u64 v])) tp bt w'') := hid (fun h' => PS.lift hlt h' (moveP_at _ v _))
  clear ok
  obtain ⟨c0, c1, c2, c3, c4, c5, c6, c7⟩ := (h.below (below_alloc w (.cells z4 48))).tc
  simp only [ownV] at hS c0 c1 c2 c3 c4 c5 c6 c7
  clear h c2 c4 c5 c6 c7
  generalize slotA ad sz bt = sl at *
  go_enter Try.func16, Try.ntmps16
  go_wp2_with fail
  refine (tNone_at HP.out).mono ?_
  rintro e w2 ⟨rfl, hw2⟩
  rw [hw2]
  clear hw2 w2 HP
  go_wp2_with fail
  clear c0 c1 c3 hlt1
  generalize (w.alloc (.cells z4 48)).alloc (.cells #[.int .i64 ad, .int .i64 sz] 34) = W at *
  have hS0 := hS.drew
  go_region_held3 (fun w' => (w'.cell? ⟨g, 2, none⟩ = some (.iface 81 (.agg #[.int .u64 v])) ∧ w'.cell? ⟨g, 4, none⟩ = some (.int .u64 tp) ∧ w'.cell? ⟨g, 5, none⟩ = some (.int .u64 bt) ∧ w'.cell? ⟨w.heap.size + 1, 0, none⟩ = some (.int .i64 ad) ∧ w'.cell? ⟨w.heap.size + 1, 1, none⟩ = some (.int .i64 sz)) ∧ (Below w.heap.size w w' ∧ w.heap.size + 1 < w'.heap.size ∧ R4 w' w.heap.size)) (first | with_reducible exact PS.put hlt (by assumption) _ _ _ _ | with_reducible exact hS0 | with_reducible assumption)
    (first
      | (go_at_call 87; refine (HPo.out (by assumption)).mono ?_; rintro e4 w4 ⟨rfl, ⟨a, b, c, d, d0, d1, d2, d3, f0, f1, f2, f3⟩, hw4⟩)
      | (go_at_call 32; refine (HSl.out (by assumption)).mono ?_; rintro e4 w4 ⟨rfl, ⟨a, b, c, d, d0, d1, d2, d3, f0, f1, f2, f3⟩, hw4⟩)
      | (go_at_call 86; refine (HMv.out (by assumption)).mono ?_; rintro e4 w4 ⟨rfl, ⟨a, b, c, d, d0, d1, d2, d3, f0, f1, f2, f3⟩, hw4⟩))
  obtain ⟨_, hB4, _, _, _, _, _, hg4⟩ := hw4
  have HG4 := hid hg4
  have HB4 := hid hB4
  clear hB4 hg4
  go_wp2
  (try simp only [Exit.inBlock, Exit.then])
  refine bodyPost_ret (results_cell_row rfl _ _ w.heap.size 48 _ (0, 0) _ rfl (put4 HG4.out _ _ _ _) Try.underlying48 rfl size48) rfl ?_
  exact ⟨rfl, below_put4 HB4.out _ _ _ _⟩
set_option maxRecDepth 100000 in
set_option maxHeartbeats 600000 in
theorem nx3G {w : World} {g : Nat} {ad sz tp bt vl : Int} {hs : Bool} (h : IsTk w g ⟨ad, sz, .pop, 3, tp, bt, vl, hs⟩) (ok : POk ⟨ad, sz, .pop, 3, tp, bt, vl, hs⟩) :
    Calls Try.prog 16 #[.pointer (some ⟨g, 0, none⟩)] w fun e w' => e = .returned (acV ⟨1, slotA ad sz bt, 0, 0⟩) ∧ Below w.heap.size w w' := by
  have hS : PS w g ad sz (ownV (.pop)) tp bt ((w.alloc (.cells z4 48)).alloc (.cells #[.int .i64 ad, .int .i64 sz] 34)) := PS.first h
  have HP := hid (h.below (below_alloc w (.cells z4 48)))
  have hlt := h.lt
  have hlt1 : g < (w.alloc (.cells z4 48)).heap.size := Nat.lt_of_lt_of_le hlt (below_alloc w (.cells z4 48)).size
  have HPo : Hid (∀ {w' : World}, PS w g ad sz (.iface 83 (.agg #[])) tp bt w' → Calls Try.prog 89 #[.agg #[], .int .u64 tp, .int .u64 bt] w' fun e w'' => e = .returned (.int .u64 bt) ∧ (∃ a b c d, There4 w'' w.heap.size a b c d) ∧ PS w g ad sz (.iface 83 (.agg #[])) tp bt w'') := hid (fun h' => PS.lift hlt h' (posG_at _ tp bt))
  have HSl : Hid (∀ {w' : World}, PS w g ad sz (.iface 83 (.agg #[])) tp bt w' → Calls Try.prog 32 #[.agg #[.int .i64 ad, .int .i64 sz], .int .u64 bt] w' fun e w'' => e = .returned (.int .i64 (slotA ad sz bt)) ∧ (∃ a b c d, There4 w'' w.heap.size a b c d) ∧ PS w g ad sz (.iface 83 (.agg #[])) tp bt w'') := hid (fun h' => PS.lift hlt h' (slot_at _ ok.q ok.b0 ok.b1))
  have HMv : Hid (∀ {w' : World}, PS w g ad sz (.iface 83 (.agg #[])) tp bt w' → Calls Try.prog 88 #[.agg #[], .int .i64 (slotA ad sz bt)] w' fun e w'' => e = .returned (acV ⟨1, slotA ad sz bt, 0, 0⟩) ∧ (∃ a b c d, There4 w'' w.heap.size a b c d) ∧ PS w g ad sz (.iface 83 (.agg #[])) tp bt w'') := hid (fun h' => PS.lift hlt h' (moveG_at _ _))
  clear ok
  obtain ⟨c0, c1, c2, c3, c4, c5, c6, c7⟩ := (h.below (below_alloc w (.cells z4 48))).tc
  simp only [ownV] at hS c0 c1 c2 c3 c4 c5 c6 c7
  clear h c2 c4 c5 c6 c7
  generalize slotA ad sz bt = sl at *
  go_enter Try.func16, Try.ntmps16
  go_wp2_with fail
  refine (tNone_at HP.out).mono ?_
  rintro e w2 ⟨rfl, hw2⟩
  rw [hw2]
  clear hw2 w2 HP
  go_wp2_with fail
  clear c0 c1 c3 hlt1
  generalize (w.alloc (.cells z4 48)).alloc (.cells #[.int .i64 ad, .int .i64 sz] 34) = W at *
  have hS0 := hS.drew
  go_region_held3 (fun w' => (w'.cell? ⟨g, 2, none⟩ = some (.iface 83 (.agg #[])) ∧ w'.cell? ⟨g, 4, none⟩ = some (.int .u64 tp) ∧ w'.cell? ⟨g, 5, none⟩ = some (.int .u64 bt) ∧ w'.cell? ⟨w.heap.size + 1, 0, none⟩ = some (.int .i64 ad) ∧ w'.cell? ⟨w.heap.size + 1, 1, none⟩ = some (.int .i64 sz)) ∧ (Below w.heap.size w w' ∧ w.heap.size + 1 < w'.heap.size ∧ R4 w' w.heap.size)) (first | with_reducible exact PS.put hlt (by assumption) _ _ _ _ | with_reducible exact hS0 | with_reducible assumption)
    (first
      | (go_at_call 89; refine (HPo.out (by assumption)).mono ?_; rintro e4 w4 ⟨rfl, ⟨a, b, c, d, d0, d1, d2, d3, f0, f1, f2, f3⟩, hw4⟩)
      | (go_at_call 32; refine (HSl.out (by assumption)).mono ?_; rintro e4 w4 ⟨rfl, ⟨a, b, c, d, d0, d1, d2, d3, f0, f1, f2, f3⟩, hw4⟩)
      | (go_at_call 88; refine (HMv.out (by assumption)).mono ?_; rintro e4 w4 ⟨rfl, ⟨a, b, c, d, d0, d1, d2, d3, f0, f1, f2, f3⟩, hw4⟩))
  obtain ⟨_, hB4, _, _, _, _, _, hg4⟩ := hw4
  have HG4 := hid hg4
  have HB4 := hid hB4
  clear hB4 hg4
  go_wp2
  (try simp only [Exit.inBlock, Exit.then])
  refine bodyPost_ret (results_cell_row rfl _ _ w.heap.size 48 _ (0, 0) _ rfl (put4 HG4.out _ _ _ _) Try.underlying48 rfl size48) rfl ?_
  exact ⟨rfl, below_put4 HB4.out _ _ _ _⟩
set_option maxRecDepth 100000 in
set_option maxHeartbeats 600000 in
theorem nx3S {w : World} {g : Nat} {ad sz tp bt vl : Int} {hs : Bool} (h : IsTk w g ⟨ad, sz, .steal, 3, tp, bt, vl, hs⟩) (ok : POk ⟨ad, sz, .steal, 3, tp, bt, vl, hs⟩) :
    Calls Try.prog 16 #[.pointer (some ⟨g, 0, none⟩)] w fun e w' => e = .returned (acV ⟨1, slotA ad sz tp, 0, 0⟩) ∧ Below w.heap.size w w' := by
  have hS : PS w g ad sz (ownV (.steal)) tp bt ((w.alloc (.cells z4 48)).alloc (.cells #[.int .i64 ad, .int .i64 sz] 34)) := PS.first h
  have HP := hid (h.below (below_alloc w (.cells z4 48)))
  have hlt := h.lt
  have hlt1 : g < (w.alloc (.cells z4 48)).heap.size := Nat.lt_of_lt_of_le hlt (below_alloc w (.cells z4 48)).size
  have HPo : Hid (∀ {w' : World}, PS w g ad sz (.iface 84 (.agg #[])) tp bt w' → Calls Try.prog 91 #[.agg #[], .int .u64 tp, .int .u64 bt] w' fun e w'' => e = .returned (.int .u64 tp) ∧ (∃ a b c d, There4 w'' w.heap.size a b c d) ∧ PS w g ad sz (.iface 84 (.agg #[])) tp bt w'') := hid (fun h' => PS.lift hlt h' (posS_at _ tp bt))
  have HSl : Hid (∀ {w' : World}, PS w g ad sz (.iface 84 (.agg #[])) tp bt w' → Calls Try.prog 32 #[.agg #[.int .i64 ad, .int .i64 sz], .int .u64 tp] w' fun e w'' => e = .returned (.int .i64 (slotA ad sz tp)) ∧ (∃ a b c d, There4 w'' w.heap.size a b c d) ∧ PS w g ad sz (.iface 84 (.agg #[])) tp bt w'') := hid (fun h' => PS.lift hlt h' (slot_at _ ok.q ok.p0 ok.p1))
  have HMv : Hid (∀ {w' : World}, PS w g ad sz (.iface 84 (.agg #[])) tp bt w' → Calls Try.prog 90 #[.agg #[], .int .i64 (slotA ad sz tp)] w' fun e w'' => e = .returned (acV ⟨1, slotA ad sz tp, 0, 0⟩) ∧ (∃ a b c d, There4 w'' w.heap.size a b c d) ∧ PS w g ad sz (.iface 84 (.agg #[])) tp bt w'') := hid (fun h' => PS.lift hlt h' (moveS_at _ _))
  clear ok
  obtain ⟨c0, c1, c2, c3, c4, c5, c6, c7⟩ := (h.below (below_alloc w (.cells z4 48))).tc
  simp only [ownV] at hS c0 c1 c2 c3 c4 c5 c6 c7
  clear h c2 c4 c5 c6 c7
  generalize slotA ad sz tp = sl at *
  go_enter Try.func16, Try.ntmps16
  go_wp2_with fail
  refine (tNone_at HP.out).mono ?_
  rintro e w2 ⟨rfl, hw2⟩
  rw [hw2]
  clear hw2 w2 HP
  go_wp2_with fail
  clear c0 c1 c3 hlt1
  generalize (w.alloc (.cells z4 48)).alloc (.cells #[.int .i64 ad, .int .i64 sz] 34) = W at *
  have hS0 := hS.drew
  go_region_held3 (fun w' => (w'.cell? ⟨g, 2, none⟩ = some (.iface 84 (.agg #[])) ∧ w'.cell? ⟨g, 4, none⟩ = some (.int .u64 tp) ∧ w'.cell? ⟨g, 5, none⟩ = some (.int .u64 bt) ∧ w'.cell? ⟨w.heap.size + 1, 0, none⟩ = some (.int .i64 ad) ∧ w'.cell? ⟨w.heap.size + 1, 1, none⟩ = some (.int .i64 sz)) ∧ (Below w.heap.size w w' ∧ w.heap.size + 1 < w'.heap.size ∧ R4 w' w.heap.size)) (first | with_reducible exact PS.put hlt (by assumption) _ _ _ _ | with_reducible exact hS0 | with_reducible assumption)
    (first
      | (go_at_call 91; refine (HPo.out (by assumption)).mono ?_; rintro e4 w4 ⟨rfl, ⟨a, b, c, d, d0, d1, d2, d3, f0, f1, f2, f3⟩, hw4⟩)
      | (go_at_call 32; refine (HSl.out (by assumption)).mono ?_; rintro e4 w4 ⟨rfl, ⟨a, b, c, d, d0, d1, d2, d3, f0, f1, f2, f3⟩, hw4⟩)
      | (go_at_call 90; refine (HMv.out (by assumption)).mono ?_; rintro e4 w4 ⟨rfl, ⟨a, b, c, d, d0, d1, d2, d3, f0, f1, f2, f3⟩, hw4⟩))
  obtain ⟨_, hB4, _, _, _, _, _, hg4⟩ := hw4
  have HG4 := hid hg4
  have HB4 := hid hB4
  clear hB4 hg4
  go_wp2
  (try simp only [Exit.inBlock, Exit.then])
  refine bodyPost_ret (results_cell_row rfl _ _ w.heap.size 48 _ (0, 0) _ rfl (put4 HG4.out _ _ _ _) Try.underlying48 rfl size48) rfl ?_
  exact ⟨rfl, below_put4 HB4.out _ _ _ _⟩
end Go.Proofs.Ytmglacaikpcjhaa
