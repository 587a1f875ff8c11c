/- What a task's next act is. Conditions: it is one that Push, Pop or Steal gave. -/
import Derived.Test.YtmglacaikpcjhaaS3
namespace Go.Proofs.Ytmglacaikpcjhaa
open Go.RowKit

set_option maxRecDepth 100000 in
set_option maxHeartbeats 600000 in
theorem nx0 {w : World} {g : Nat} {ad sz tp bt vl : Int} {kd : Kd} {hs : Bool} (h : IsTk w g ⟨ad, sz, kd, 0, tp, bt, vl, hs⟩) (ok : POk ⟨ad, sz, kd, 0, tp, bt, vl, hs⟩) :
    Calls Try.prog 16 #[.pointer (some ⟨g, 0, none⟩)] w fun e w' => e = .returned (acV ⟨1, ad, 0, 0⟩) ∧ Below w.heap.size w w' := by
  have hS : PS w g ad sz (ownV (kd)) tp bt ((w.alloc (.cells z4 48)).alloc (.cells #[.int .i64 ad, .int .i64 sz] 34)) := PS.first h
  have HP := hid (h.below (below_alloc w (.cells z4 48)))
  have hlt := h.lt
  have hlt1 : g < (w.alloc (.cells z4 48)).heap.size := Nat.lt_of_lt_of_le hlt (below_alloc w (.cells z4 48)).size
  have HT : Hid (∀ {w' : World}, PS w g ad sz (ownV kd) tp bt w' → Calls Try.prog 30 #[.agg #[.int .i64 ad, .int .i64 sz]] w' fun e w'' => e = .returned (.int .i64 ad) ∧ (∃ a b c d, There4 w'' w.heap.size a b c d) ∧ PS w g ad sz (ownV kd) tp bt w'') := hid (fun h' => PS.lift hlt h' (top_at _ ok.q))
  clear ok
  obtain ⟨c0, c1, c2, c3, c4, c5, c6, c7⟩ := (h.below (below_alloc w (.cells z4 48))).tc
  simp only [] at hS c0 c1 c2 c3 c4 c5 c6 c7
  clear h c2 c4 c5 c6 c7
  generalize ownV kd = o at *
  go_enter Try.func16, Try.ntmps16
  go_wp2_with fail
  refine (tNone_at HP.out).mono ?_
  rintro e w2 ⟨rfl, hw2⟩
  rw [hw2]
  clear hw2 w2 HP
  go_wp2_with fail
  clear c0 c1 c3 hlt1
  generalize (w.alloc (.cells z4 48)).alloc (.cells #[.int .i64 ad, .int .i64 sz] 34) = W at *
  refine (HT.out hS).mono ?_
  rintro e w4 ⟨rfl, ⟨a, b, c, d, d0, d1, d2, d3, f0, f1, f2, f3⟩, hw4⟩
  obtain ⟨_, hB4, _, _, _, _, _, hg4⟩ := hw4
  have HG4 := hid hg4
  have HB4 := hid hB4
  clear hB4 hg4
  go_wp2
  (try simp only [Exit.inBlock, Exit.then])
  refine bodyPost_ret (results_cell_row rfl _ _ w.heap.size 48 _ (0, 0) _ rfl (put4 HG4.out _ _ _ _) Try.underlying48 rfl size48) rfl ?_
  exact ⟨rfl, below_put4 HB4.out _ _ _ _⟩
set_option maxRecDepth 100000 in
set_option maxHeartbeats 600000 in
theorem nx1 {w : World} {g : Nat} {ad sz tp bt vl : Int} {kd : Kd} {hs : Bool} (h : IsTk w g ⟨ad, sz, kd, 1, tp, bt, vl, hs⟩) (ok : POk ⟨ad, sz, kd, 1, tp, bt, vl, hs⟩) :
    Calls Try.prog 16 #[.pointer (some ⟨g, 0, none⟩)] w fun e w' => e = .returned (acV ⟨1, ad + 1, 0, 0⟩) ∧ Below w.heap.size w w' := by
  have hS : PS w g ad sz (ownV (kd)) tp bt ((w.alloc (.cells z4 48)).alloc (.cells #[.int .i64 ad, .int .i64 sz] 34)) := PS.first h
  have HP := hid (h.below (below_alloc w (.cells z4 48)))
  have hlt := h.lt
  have hlt1 : g < (w.alloc (.cells z4 48)).heap.size := Nat.lt_of_lt_of_le hlt (below_alloc w (.cells z4 48)).size
  have HB : Hid (∀ {w' : World}, PS w g ad sz (ownV kd) tp bt w' → Calls Try.prog 31 #[.agg #[.int .i64 ad, .int .i64 sz]] w' fun e w'' => e = .returned (.int .i64 (ad + 1)) ∧ (∃ a b c d, There4 w'' w.heap.size a b c d) ∧ PS w g ad sz (ownV kd) tp bt w'') := hid (fun h' => PS.lift hlt h' (bottom_at _ ok.q))
  clear ok
  obtain ⟨c0, c1, c2, c3, c4, c5, c6, c7⟩ := (h.below (below_alloc w (.cells z4 48))).tc
  simp only [] at hS c0 c1 c2 c3 c4 c5 c6 c7
  clear h c2 c4 c5 c6 c7
  generalize ownV kd = o at *
  go_enter Try.func16, Try.ntmps16
  go_wp2_with fail
  refine (tNone_at HP.out).mono ?_
  rintro e w2 ⟨rfl, hw2⟩
  rw [hw2]
  clear hw2 w2 HP
  go_wp2_with fail
  clear c0 c1 c3 hlt1
  generalize (w.alloc (.cells z4 48)).alloc (.cells #[.int .i64 ad, .int .i64 sz] 34) = W at *
  refine (HB.out hS).mono ?_
  rintro e w4 ⟨rfl, ⟨a, b, c, d, d0, d1, d2, d3, f0, f1, f2, f3⟩, hw4⟩
  obtain ⟨_, hB4, _, _, _, _, _, hg4⟩ := hw4
  have HG4 := hid hg4
  have HB4 := hid hB4
  clear hB4 hg4
  go_wp2
  (try simp only [Exit.inBlock, Exit.then])
  refine bodyPost_ret (results_cell_row rfl _ _ w.heap.size 48 _ (0, 0) _ rfl (put4 HG4.out _ _ _ _) Try.underlying48 rfl size48) rfl ?_
  exact ⟨rfl, below_put4 HB4.out _ _ _ _⟩
set_option maxRecDepth 100000 in
set_option maxHeartbeats 600000 in
theorem nx2 {w : World} {g : Nat} {ad sz tp bt vl : Int} {kd : Kd} {hs : Bool} (h : IsTk w g ⟨ad, sz, kd, 2, tp, bt, vl, hs⟩) (ok : POk ⟨ad, sz, kd, 2, tp, bt, vl, hs⟩) :
    Calls Try.prog 16 #[.pointer (some ⟨g, 0, none⟩)] w fun e w' => e = .returned (acV ⟨2, ad + 1, bt, 0⟩) ∧ Below w.heap.size w w' := by
  have hS : PS w g ad sz (ownV (kd)) tp bt ((w.alloc (.cells z4 48)).alloc (.cells #[.int .i64 ad, .int .i64 sz] 34)) := PS.first h
  have HP := hid (h.below (below_alloc w (.cells z4 48)))
  have hlt := h.lt
  have hlt1 : g < (w.alloc (.cells z4 48)).heap.size := Nat.lt_of_lt_of_le hlt (below_alloc w (.cells z4 48)).size
  have HB : Hid (∀ {w' : World}, PS w g ad sz (ownV kd) tp bt w' → Calls Try.prog 31 #[.agg #[.int .i64 ad, .int .i64 sz]] w' fun e w'' => e = .returned (.int .i64 (ad + 1)) ∧ (∃ a b c d, There4 w'' w.heap.size a b c d) ∧ PS w g ad sz (ownV kd) tp bt w'') := hid (fun h' => PS.lift hlt h' (bottom_at _ ok.q))
  clear ok
  obtain ⟨c0, c1, c2, c3, c4, c5, c6, c7⟩ := (h.below (below_alloc w (.cells z4 48))).tc
  simp only [] at hS c0 c1 c2 c3 c4 c5 c6 c7
  clear h c2 c4 c5 c6 c7
  generalize ownV kd = o at *
  go_enter Try.func16, Try.ntmps16
  go_wp2_with fail
  refine (tNone_at HP.out).mono ?_
  rintro e w2 ⟨rfl, hw2⟩
  rw [hw2]
  clear hw2 w2 HP
  go_wp2_with fail
  clear c0 c1 c3 hlt1
  generalize (w.alloc (.cells z4 48)).alloc (.cells #[.int .i64 ad, .int .i64 sz] 34) = W at *
  have hS0 := hS.drew
  go_region_held3 (fun w' => (w'.cell? ⟨g, 2, none⟩ = some (o) ∧ w'.cell? ⟨g, 4, none⟩ = some (.int .u64 tp) ∧ w'.cell? ⟨g, 5, none⟩ = some (.int .u64 bt) ∧ w'.cell? ⟨w.heap.size + 1, 0, none⟩ = some (.int .i64 ad) ∧ w'.cell? ⟨w.heap.size + 1, 1, none⟩ = some (.int .i64 sz)) ∧ (Below w.heap.size w w' ∧ w.heap.size + 1 < w'.heap.size ∧ R4 w' w.heap.size)) (first | with_reducible exact PS.put hlt (by assumption) _ _ _ _ | with_reducible exact hS0 | with_reducible assumption)
    (first
      | (go_at_call 31; refine (HB.out (by assumption)).mono ?_; rintro e4 w4 ⟨rfl, ⟨a, b, c, d, d0, d1, d2, d3, f0, f1, f2, f3⟩, hw4⟩))
  obtain ⟨_, hB4, _, _, _, _, _, hg4⟩ := hw4
  have HG4 := hid hg4
  have HB4 := hid hB4
  clear hB4 hg4
  go_wp2
  (try simp only [Exit.inBlock, Exit.then])
  refine bodyPost_ret (results_cell_row rfl _ _ w.heap.size 48 _ (0, 0) _ rfl (put4 HG4.out _ _ _ _) Try.underlying48 rfl size48) rfl ?_
  exact ⟨rfl, below_put4 HB4.out _ _ _ _⟩
set_option maxRecDepth 100000 in
set_option maxHeartbeats 600000 in
theorem nx4 {w : World} {g : Nat} {ad sz tp bt vl : Int} {kd : Kd} {hs : Bool} (h : IsTk w g ⟨ad, sz, kd, 4, tp, bt, vl, hs⟩) (ok : POk ⟨ad, sz, kd, 4, tp, bt, vl, hs⟩) :
    Calls Try.prog 16 #[.pointer (some ⟨g, 0, none⟩)] w fun e w' => e = .returned (acV ⟨3, ad, tp, add64 tp 1⟩) ∧ Below w.heap.size w w' := by
  have hS : PS w g ad sz (ownV (kd)) tp bt ((w.alloc (.cells z4 48)).alloc (.cells #[.int .i64 ad, .int .i64 sz] 34)) := PS.first h
  have HP := hid (h.below (below_alloc w (.cells z4 48)))
  have hlt := h.lt
  have hlt1 : g < (w.alloc (.cells z4 48)).heap.size := Nat.lt_of_lt_of_le hlt (below_alloc w (.cells z4 48)).size
  have HT : Hid (∀ {w' : World}, PS w g ad sz (ownV kd) tp bt w' → Calls Try.prog 30 #[.agg #[.int .i64 ad, .int .i64 sz]] w' fun e w'' => e = .returned (.int .i64 ad) ∧ (∃ a b c d, There4 w'' w.heap.size a b c d) ∧ PS w g ad sz (ownV kd) tp bt w'') := hid (fun h' => PS.lift hlt h' (top_at _ ok.q))
  clear ok
  obtain ⟨c0, c1, c2, c3, c4, c5, c6, c7⟩ := (h.below (below_alloc w (.cells z4 48))).tc
  simp only [] at hS c0 c1 c2 c3 c4 c5 c6 c7
  clear h c2 c4 c5 c6 c7
  generalize ownV kd = o at *
  go_enter Try.func16, Try.ntmps16
  go_wp2_with fail
  refine (tNone_at HP.out).mono ?_
  rintro e w2 ⟨rfl, hw2⟩
  rw [hw2]
  clear hw2 w2 HP
  go_wp2_with fail
  clear c0 c1 c3 hlt1
  generalize (w.alloc (.cells z4 48)).alloc (.cells #[.int .i64 ad, .int .i64 sz] 34) = W at *
  have hS0 := hS.drew
  go_region_held3 (fun w' => (w'.cell? ⟨g, 2, none⟩ = some (o) ∧ w'.cell? ⟨g, 4, none⟩ = some (.int .u64 tp) ∧ w'.cell? ⟨g, 5, none⟩ = some (.int .u64 bt) ∧ w'.cell? ⟨w.heap.size + 1, 0, none⟩ = some (.int .i64 ad) ∧ w'.cell? ⟨w.heap.size + 1, 1, none⟩ = some (.int .i64 sz)) ∧ (Below w.heap.size w w' ∧ w.heap.size + 1 < w'.heap.size ∧ R4 w' w.heap.size)) (first | with_reducible exact PS.put hlt (by assumption) _ _ _ _ | with_reducible exact hS0 | with_reducible assumption)
    (first
      | (go_at_call 30; refine (HT.out (by assumption)).mono ?_; rintro e4 w4 ⟨rfl, ⟨a, b, c, d, d0, d1, d2, d3, f0, f1, f2, f3⟩, hw4⟩))
  obtain ⟨_, hB4, _, _, _, _, _, hg4⟩ := hw4
  have HG4 := hid hg4
  have HB4 := hid hB4
  clear hB4 hg4
  go_wp2
  (try simp only [Exit.inBlock, Exit.then])
  refine bodyPost_ret (results_cell_row rfl _ _ w.heap.size 48 _ (0, 0) _ rfl (put4 HG4.out _ _ _ _) Try.underlying48 rfl size48) rfl ?_
  exact ⟨rfl, below_put4 HB4.out _ _ _ _⟩
set_option maxRecDepth 100000 in
set_option maxHeartbeats 600000 in
theorem nx5 {w : World} {g : Nat} {ad sz tp bt vl : Int} {kd : Kd} {hs : Bool} (h : IsTk w g ⟨ad, sz, kd, 5, tp, bt, vl, hs⟩) (ok : POk ⟨ad, sz, kd, 5, tp, bt, vl, hs⟩) :
    Calls Try.prog 16 #[.pointer (some ⟨g, 0, none⟩)] w fun e w' => e = .returned (acV ⟨2, ad + 1, add64 bt 1, 0⟩) ∧ Below w.heap.size w w' := by
  have hS : PS w g ad sz (ownV (kd)) tp bt ((w.alloc (.cells z4 48)).alloc (.cells #[.int .i64 ad, .int .i64 sz] 34)) := PS.first h
  have HP := hid (h.below (below_alloc w (.cells z4 48)))
  have hlt := h.lt
  have hlt1 : g < (w.alloc (.cells z4 48)).heap.size := Nat.lt_of_lt_of_le hlt (below_alloc w (.cells z4 48)).size
  have HB : Hid (∀ {w' : World}, PS w g ad sz (ownV kd) tp bt w' → Calls Try.prog 31 #[.agg #[.int .i64 ad, .int .i64 sz]] w' fun e w'' => e = .returned (.int .i64 (ad + 1)) ∧ (∃ a b c d, There4 w'' w.heap.size a b c d) ∧ PS w g ad sz (ownV kd) tp bt w'') := hid (fun h' => PS.lift hlt h' (bottom_at _ ok.q))
  clear ok
  obtain ⟨c0, c1, c2, c3, c4, c5, c6, c7⟩ := (h.below (below_alloc w (.cells z4 48))).tc
  simp only [] at hS c0 c1 c2 c3 c4 c5 c6 c7
  clear h c2 c4 c5 c6 c7
  generalize ownV kd = o at *
  go_enter Try.func16, Try.ntmps16
  go_wp2_with fail
  refine (tNone_at HP.out).mono ?_
  rintro e w2 ⟨rfl, hw2⟩
  rw [hw2]
  clear hw2 w2 HP
  go_wp2_with fail
  clear c0 c1 c3 hlt1
  generalize (w.alloc (.cells z4 48)).alloc (.cells #[.int .i64 ad, .int .i64 sz] 34) = W at *
  have hS0 := hS.drew
  go_region_held3 (fun w' => (w'.cell? ⟨g, 2, none⟩ = some (o) ∧ w'.cell? ⟨g, 4, none⟩ = some (.int .u64 tp) ∧ w'.cell? ⟨g, 5, none⟩ = some (.int .u64 bt) ∧ w'.cell? ⟨w.heap.size + 1, 0, none⟩ = some (.int .i64 ad) ∧ w'.cell? ⟨w.heap.size + 1, 1, none⟩ = some (.int .i64 sz)) ∧ (Below w.heap.size w w' ∧ w.heap.size + 1 < w'.heap.size ∧ R4 w' w.heap.size)) (first | with_reducible exact PS.put hlt (by assumption) _ _ _ _ | with_reducible exact hS0 | with_reducible assumption)
    (first
      | (go_at_call 31; refine (HB.out (by assumption)).mono ?_; rintro e4 w4 ⟨rfl, ⟨a, b, c, d, d0, d1, d2, d3, f0, f1, f2, f3⟩, hw4⟩))
  obtain ⟨_, hB4, _, _, _, _, _, hg4⟩ := hw4
  have HG4 := hid hg4
  have HB4 := hid hB4
  clear hB4 hg4
  go_wp2
  (try simp only [Exit.inBlock, Exit.then])
  refine bodyPost_ret (results_cell_row rfl _ _ w.heap.size 48 _ (0, 0) _ rfl (put4 HG4.out _ _ _ _) Try.underlying48 rfl size48) rfl ?_
  exact ⟨rfl, below_put4 HB4.out _ _ _ _⟩
set_option maxRecDepth 100000 in
set_option maxHeartbeats 600000 in
theorem nx6 {w : World} {g : Nat} {ad sz tp bt vl : Int} {kd : Kd} {hs : Bool} (h : IsTk w g ⟨ad, sz, kd, 6, tp, bt, vl, hs⟩) :
    Calls Try.prog 16 #[.pointer (some ⟨g, 0, none⟩)] w fun e w' => e = .returned (acV ⟨0, 0, 0, 0⟩) ∧ Below w.heap.size w w' := by
  have hS : PS w g ad sz (ownV (kd)) tp bt ((w.alloc (.cells z4 48)).alloc (.cells #[.int .i64 ad, .int .i64 sz] 34)) := PS.first h
  have HP := hid (h.below (below_alloc w (.cells z4 48)))
  have hlt := h.lt
  have hlt1 : g < (w.alloc (.cells z4 48)).heap.size := Nat.lt_of_lt_of_le hlt (below_alloc w (.cells z4 48)).size
  obtain ⟨c0, c1, c2, c3, c4, c5, c6, c7⟩ := (h.below (below_alloc w (.cells z4 48))).tc
  simp only [] at hS c0 c1 c2 c3 c4 c5 c6 c7
  clear h c2 c4 c5 c6 c7
  generalize ownV kd = o at *
  go_enter Try.func16, Try.ntmps16
  go_wp2_with fail
  refine (tNone_at HP.out).mono ?_
  rintro e w2 ⟨rfl, hw2⟩
  rw [hw2]
  clear hw2 w2 HP
  go_wp2_with fail
  have hz := wd2_z w ad sz
  have HZ := hid hz
  clear hz
  (try simp only [Exit.inBlock, Exit.then])
  refine bodyPost_ret (results_cell_row rfl _ _ w.heap.size 48 (acC ⟨0, 0, 0, 0⟩) (0, 0) _ rfl HZ.out Try.underlying48 rfl size48) rfl ?_
  exact ⟨rfl, hS.2.1⟩
end Go.Proofs.Ytmglacaikpcjhaa
