/- That the fixed calls of the statements' own check (known) come out true; nothing that lay before is changed. Condition: the package's two tables lie in their variables as the program's text lays them. -/
import Derived.Test.YtacifhfkadnklaaDoorD11
import Derived.Test.YtacifhfkadnklaaDoorD8
namespace Go.Proofs.YtacifhfkadnklaaDoor
open Go.RowKit

theorem k8 (w : World) (hT : Tab w) : Calls Tryd.prog 8 #[.agg #[.int .i64 4, .int .i64 3, .int .i64 2, .int .i64 0]] w fun v w' => v = .returned (.tuple #[.int .u64 8244, .int .i64 0]) ∧ Below w.heap.size w w' := by
  exact (pack_at ⟨4, 3, 2, 0⟩ w hT).mono fun v w' ⟨a, b⟩ => ⟨a.trans (by rfl), b⟩
theorem k11a (w : World) (hT : Tab w) : Calls Tryd.prog 11 #[.int .u64 8244] w fun v w' => v = .returned (.tuple #[.agg #[.int .i64 4, .int .i64 3, .int .i64 2, .int .i64 0], .bool true]) ∧ Below w.heap.size w w' := by
  exact (parse_at 8244 (by decide) w hT).mono fun v w' ⟨a, b⟩ => ⟨a.trans (by rfl), b⟩
theorem k11b (w : World) (hT : Tab w) : Calls Tryd.prog 11 #[.int .u64 268435456] w fun v w' => v = .returned (.tuple #[.agg #[.int .i64 0, .int .i64 0, .int .i64 0, .int .i64 0], .bool false]) ∧ Below w.heap.size w w' := by
  exact (parse_at 268435456 (by decide) w hT).mono fun v w' ⟨a, b⟩ => ⟨a.trans (by rfl), b⟩
theorem k18a (w : World) (hT : Tab w) : Calls Tryd.prog 18 #[.agg #[.int .i64 4, .int .i64 3, .int .i64 2, .int .i64 0], .int .i64 0, .int .i64 0] w fun v w' => v = .returned (.tuple #[.agg #[.int .i64 0, .int .i64 0, .int .i64 0, .int .i64 0], .int .i64 9]) ∧ Below w.heap.size w w' := by
  exact (next_at ⟨4, 3, 2, 0⟩ 0 0 w hT).mono fun v w' ⟨a, b⟩ => ⟨a.trans (two_eq (d' := ⟨0, 0, 0, 0⟩) (e' := 9) (by rfl) (by rfl)), b⟩
theorem k20a (w : World) (hT : Tab w) : Calls Tryd.prog 20 #[.agg #[.int .i64 4, .int .i64 3, .int .i64 2, .int .i64 0], .int .i64 (-2)] w fun v w' => v = .returned (.tuple #[.agg #[.int .i64 4, .int .i64 3, .int .i64 0, .int .i64 0], .int .i64 0]) ∧ Below w.heap.size w w' := by
  exact (ref_at ⟨4, 3, 2, 0⟩ (-2) w hT).mono fun v w' ⟨a, b⟩ => ⟨a.trans (two_eq (d' := ⟨4, 3, 0, 0⟩) (e' := 0) (by rfl) (by rfl)), b⟩
theorem k18b (w : World) (hT : Tab w) : Calls Tryd.prog 18 #[.agg #[.int .i64 4, .int .i64 3, .int .i64 0, .int .i64 0], .int .i64 5, .int .i64 9] w fun v w' => v = .returned (.tuple #[.agg #[.int .i64 5, .int .i64 3, .int .i64 0, .int .i64 0], .int .i64 0]) ∧ Below w.heap.size w w' := by
  exact (next_at ⟨4, 3, 0, 0⟩ 5 9 w hT).mono fun v w' ⟨a, b⟩ => ⟨a.trans (two_eq (d' := ⟨5, 3, 0, 0⟩) (e' := 0) (by rfl) (by rfl)), b⟩
theorem k18c (w : World) (hT : Tab w) : Calls Tryd.prog 18 #[.agg #[.int .i64 5, .int .i64 3, .int .i64 0, .int .i64 0], .int .i64 4, .int .i64 1] w fun v w' => v = .returned (.tuple #[.agg #[.int .i64 0, .int .i64 0, .int .i64 0, .int .i64 0], .int .i64 6]) ∧ Below w.heap.size w w' := by
  exact (next_at ⟨5, 3, 0, 0⟩ 4 1 w hT).mono fun v w' ⟨a, b⟩ => ⟨a.trans (two_eq (d' := ⟨0, 0, 0, 0⟩) (e' := 6) (by rfl) (by rfl)), b⟩
theorem k20b (w : World) (hT : Tab w) : Calls Tryd.prog 20 #[.agg #[.int .i64 4, .int .i64 3, .int .i64 0, .int .i64 0], .int .i64 (-1)] w fun v w' => v = .returned (.tuple #[.agg #[.int .i64 0, .int .i64 0, .int .i64 0, .int .i64 0], .int .i64 2]) ∧ Below w.heap.size w w' := by
  exact (ref_at ⟨4, 3, 0, 0⟩ (-1) w hT).mono fun v w' ⟨a, b⟩ => ⟨a.trans (two_eq (d' := ⟨0, 0, 0, 0⟩) (e' := 2) (by rfl) (by rfl)), b⟩
theorem k13a (w : World) (hT : Tab w) : Calls Tryd.prog 13 #[.agg #[.int .i64 4, .int .i64 3, .int .i64 2, .int .i64 0]] w fun v w' => v = .returned (.bool true) ∧ Below w.heap.size w w' := by
  exact (right_at ⟨4, 3, 2, 0⟩ w hT).mono fun v w' ⟨a, b⟩ => ⟨a.trans (by rfl), b⟩
theorem k13b (w : World) (hT : Tab w) : Calls Tryd.prog 13 #[.agg #[.int .i64 0, .int .i64 1, .int .i64 0, .int .i64 0]] w fun v w' => v = .returned (.bool false) ∧ Below w.heap.size w w' := by
  exact (right_at ⟨0, 1, 0, 0⟩ w hT).mono fun v w' ⟨a, b⟩ => ⟨a.trans (by rfl), b⟩
theorem k15a (w : World) (hT : Tab w) : Calls Tryd.prog 15 #[.int .i64 3] w fun v w' => v = .returned (.string ⟨#[116, 97, 98, 108, 101]⟩) ∧ Below w.heap.size w w' := by
  exact (name_at 3 w hT).mono fun v w' ⟨a, b⟩ => ⟨a.trans (by rfl), b⟩
theorem k15b (w : World) (hT : Tab w) : Calls Tryd.prog 15 #[.int .i64 6] w fun v w' => v = .returned (.string ⟨#[]⟩) ∧ Below w.heap.size w w' := by
  exact (name_at 6 w hT).mono fun v w' ⟨a, b⟩ => ⟨a.trans (by rfl), b⟩

set_option maxRecDepth 100000 in
set_option maxHeartbeats 1000000 in
theorem known_yes (w : World) (hT : Tab w) : Calls Tryd.prog 17 #[] w fun v w' => v = .returned (.bool true) ∧ Below w.heap.size w w' := by
  have HT0 := hid hT
  clear hT
  go_enter Tryd.func17, Tryd.ntmps17
  go_wp2_with fail
  refine (k8 _ (HT0.out.alloc _)).mono ?_
  rintro v w1 ⟨rfl, hB⟩
  have a0 := stay hB (heap_alloc_new _ _)
  have HB := hid (bgo (below_one w _) hB)
  have HT := hid (HT0.out.go HB.out)
  clear hB
  have l0 := lt_of_block a0
  obtain ⟨p00, p01, p02, p03, -, -, -, -⟩ := four a0
  have A0 := hid a0
  clear a0
  (try simp only [])
  go_wp2_with fail
  refine (k11a _ HT.out).mono ?_
  rintro v w2 ⟨rfl, hB⟩
  have a0 := stay hB A0.out
  have HBn := hid (bgo HB.out hB)
  clear HB
  have HB := HBn
  clear HBn
  clear A0 l0 p00 p01 p02 p03
  clear HT
  have HT := hid (HT0.out.go HB.out)
  clear hB
  have l0 := lt_of_block a0
  obtain ⟨p00, p01, p02, p03, -, -, -, -⟩ := four a0
  have A0 := hid a0
  clear a0
  (try simp only [])
  go_wp2_with fail
  refine (k11b _ (HT.out.alloc _)).mono ?_
  rintro v w3 ⟨rfl, hB⟩
  have a0 := stay hB (hkeep A0.out _)
  have a3 := stay hB (heap_alloc_new _ _)
  have HBn := hid (bgo (HB.out.alloc HB.out.size _) hB)
  clear HB
  have HB := HBn
  clear HBn
  clear A0 l0 p00 p01 p02 p03
  clear HT
  have HT := hid (HT0.out.go HB.out)
  clear hB
  have l0 := lt_of_block a0
  obtain ⟨p00, p01, p02, p03, -, -, -, -⟩ := four a0
  have A0 := hid a0
  clear a0
  have l3 := lt_of_block a3
  obtain ⟨p30, p31, p32, p33, -, -, -, -⟩ := four a3
  have A3 := hid a3
  clear a3
  (try simp only [])
  go_wp2_with fail
  refine (k18a _ (HT.out.alloc _)).mono ?_
  rintro v w4 ⟨rfl, hB⟩
  have a0 := stay hB (hkeep A0.out _)
  have a3 := stay hB (hkeep A3.out _)
  have a4 := stay hB (heap_alloc_new _ _)
  have HBn := hid (bgo (HB.out.alloc HB.out.size _) hB)
  clear HB
  have HB := HBn
  clear HBn
  clear A0 l0 p00 p01 p02 p03 A3 l3 p30 p31 p32 p33
  clear HT
  have HT := hid (HT0.out.go HB.out)
  clear hB
  have l0 := lt_of_block a0
  obtain ⟨p00, p01, p02, p03, -, -, -, -⟩ := four a0
  have A0 := hid a0
  clear a0
  have l3 := lt_of_block a3
  obtain ⟨p30, p31, p32, p33, -, -, -, -⟩ := four a3
  have A3 := hid a3
  clear a3
  have l4 := lt_of_block a4
  obtain ⟨p40, p41, p42, p43, -, -, -, -⟩ := four a4
  have A4 := hid a4
  clear a4
  (try simp only [])
  go_wp2_with fail
  refine (k20a _ (HT.out.alloc _)).mono ?_
  rintro v w5 ⟨rfl, hB⟩
  have a0 := stay hB (hkeep A0.out _)
  have a3 := stay hB (hkeep A3.out _)
  have a4 := stay hB (hkeep A4.out _)
  have a5 := stay hB (heap_alloc_new _ _)
  have HBn := hid (bgo (HB.out.alloc HB.out.size _) hB)
  clear HB
  have HB := HBn
  clear HBn
  clear A0 l0 p00 p01 p02 p03 A3 l3 p30 p31 p32 p33 A4 l4 p40 p41 p42 p43
  clear HT
  have HT := hid (HT0.out.go HB.out)
  clear hB
  have l0 := lt_of_block a0
  obtain ⟨p00, p01, p02, p03, -, -, -, -⟩ := four a0
  have A0 := hid a0
  clear a0
  have l3 := lt_of_block a3
  obtain ⟨p30, p31, p32, p33, -, -, -, -⟩ := four a3
  have A3 := hid a3
  clear a3
  have l4 := lt_of_block a4
  obtain ⟨p40, p41, p42, p43, -, -, -, -⟩ := four a4
  have A4 := hid a4
  clear a4
  have l5 := lt_of_block a5
  obtain ⟨p50, p51, p52, p53, -, -, -, -⟩ := four a5
  have A5 := hid a5
  clear a5
  (try simp only [])
  go_wp2_with fail
  refine (k18b _ (HT.out.alloc _)).mono ?_
  rintro v w6 ⟨rfl, hB⟩
  have a0 := stay hB (hkeep A0.out _)
  have a3 := stay hB (hkeep A3.out _)
  have a4 := stay hB (hkeep A4.out _)
  have a5 := stay hB (hkeep A5.out _)
  have a6 := stay hB (heap_alloc_new _ _)
  have HBn := hid (bgo (HB.out.alloc HB.out.size _) hB)
  clear HB
  have HB := HBn
  clear HBn
  clear A0 l0 p00 p01 p02 p03 A3 l3 p30 p31 p32 p33 A4 l4 p40 p41 p42 p43 A5 l5 p50 p51 p52 p53
  clear HT
  have HT := hid (HT0.out.go HB.out)
  clear hB
  have l0 := lt_of_block a0
  obtain ⟨p00, p01, p02, p03, -, -, -, -⟩ := four a0
  have A0 := hid a0
  clear a0
  have l3 := lt_of_block a3
  obtain ⟨p30, p31, p32, p33, -, -, -, -⟩ := four a3
  have A3 := hid a3
  clear a3
  have l4 := lt_of_block a4
  obtain ⟨p40, p41, p42, p43, -, -, -, -⟩ := four a4
  have A4 := hid a4
  clear a4
  have l5 := lt_of_block a5
  obtain ⟨p50, p51, p52, p53, -, -, -, -⟩ := four a5
  have A5 := hid a5
  clear a5
  have l6 := lt_of_block a6
  obtain ⟨p60, p61, p62, p63, -, -, -, -⟩ := four a6
  have A6 := hid a6
  clear a6
  (try simp only [])
  go_wp2_with fail
  refine (k18c _ (HT.out.alloc _)).mono ?_
  rintro v w7 ⟨rfl, hB⟩
  have a0 := stay hB (hkeep A0.out _)
  have a3 := stay hB (hkeep A3.out _)
  have a4 := stay hB (hkeep A4.out _)
  have a5 := stay hB (hkeep A5.out _)
  have a6 := stay hB (hkeep A6.out _)
  have a7 := stay hB (heap_alloc_new _ _)
  have HBn := hid (bgo (HB.out.alloc HB.out.size _) hB)
  clear HB
  have HB := HBn
  clear HBn
  clear A0 l0 p00 p01 p02 p03 A3 l3 p30 p31 p32 p33 A4 l4 p40 p41 p42 p43 A5 l5 p50 p51 p52 p53 A6 l6 p60 p61 p62 p63
  clear HT
  have HT := hid (HT0.out.go HB.out)
  clear hB
  have l0 := lt_of_block a0
  obtain ⟨p00, p01, p02, p03, -, -, -, -⟩ := four a0
  have A0 := hid a0
  clear a0
  have l3 := lt_of_block a3
  obtain ⟨p30, p31, p32, p33, -, -, -, -⟩ := four a3
  have A3 := hid a3
  clear a3
  have l4 := lt_of_block a4
  obtain ⟨p40, p41, p42, p43, -, -, -, -⟩ := four a4
  have A4 := hid a4
  clear a4
  have l5 := lt_of_block a5
  obtain ⟨p50, p51, p52, p53, -, -, -, -⟩ := four a5
  have A5 := hid a5
  clear a5
  have l6 := lt_of_block a6
  obtain ⟨p60, p61, p62, p63, -, -, -, -⟩ := four a6
  have A6 := hid a6
  clear a6
  have l7 := lt_of_block a7
  obtain ⟨p70, p71, p72, p73, -, -, -, -⟩ := four a7
  have A7 := hid a7
  clear a7
  (try simp only [])
  go_wp2_with fail
  refine (k20b _ (HT.out.alloc _)).mono ?_
  rintro v w8 ⟨rfl, hB⟩
  have a0 := stay hB (hkeep A0.out _)
  have a3 := stay hB (hkeep A3.out _)
  have a4 := stay hB (hkeep A4.out _)
  have a5 := stay hB (hkeep A5.out _)
  have a6 := stay hB (hkeep A6.out _)
  have a7 := stay hB (hkeep A7.out _)
  have a8 := stay hB (heap_alloc_new _ _)
  have HBn := hid (bgo (HB.out.alloc HB.out.size _) hB)
  clear HB
  have HB := HBn
  clear HBn
  clear A0 l0 p00 p01 p02 p03 A3 l3 p30 p31 p32 p33 A4 l4 p40 p41 p42 p43 A5 l5 p50 p51 p52 p53 A6 l6 p60 p61 p62 p63 A7 l7 p70 p71 p72 p73
  clear HT
  have HT := hid (HT0.out.go HB.out)
  clear hB
  have l0 := lt_of_block a0
  obtain ⟨p00, p01, p02, p03, -, -, -, -⟩ := four a0
  have A0 := hid a0
  clear a0
  have l3 := lt_of_block a3
  obtain ⟨p30, p31, p32, p33, -, -, -, -⟩ := four a3
  have A3 := hid a3
  clear a3
  have l4 := lt_of_block a4
  obtain ⟨p40, p41, p42, p43, -, -, -, -⟩ := four a4
  have A4 := hid a4
  clear a4
  have l5 := lt_of_block a5
  obtain ⟨p50, p51, p52, p53, -, -, -, -⟩ := four a5
  have A5 := hid a5
  clear a5
  have l6 := lt_of_block a6
  obtain ⟨p60, p61, p62, p63, -, -, -, -⟩ := four a6
  have A6 := hid a6
  clear a6
  have l7 := lt_of_block a7
  obtain ⟨p70, p71, p72, p73, -, -, -, -⟩ := four a7
  have A7 := hid a7
  clear a7
  have l8 := lt_of_block a8
  obtain ⟨p80, p81, p82, p83, -, -, -, -⟩ := four a8
  have A8 := hid a8
  clear a8
  (try simp only [])
  go_wp2_with fail
  have HB2 := hid (HB.out.alloc HB.out.size (.cells #[.int .i64 0, .int .i64 0, .int .i64 0, .int .i64 0] 23))
  refine (k13a _ (HT0.out.go HB2.out)).mono ?_
  rintro v w9 ⟨rfl, hB⟩
  have HB3 := hid (bgo HB2.out hB)
  clear HB2 hB
  have HB2 := HB3
  clear HB3
  (try simp only [])
  go_wp2_with fail
  refine (k13b _ (HT0.out.go HB2.out)).mono ?_
  rintro v w9 ⟨rfl, hB⟩
  have HB3 := hid (bgo HB2.out hB)
  clear HB2 hB
  have HB2 := HB3
  clear HB3
  (try simp only [])
  go_wp2_with fail
  refine (k15a _ (HT0.out.go HB2.out)).mono ?_
  rintro v w9 ⟨rfl, hB⟩
  have HB3 := hid (bgo HB2.out hB)
  clear HB2 hB
  have HB2 := HB3
  clear HB3
  (try simp only [])
  go_wp2_with fail
  refine (k15b _ (HT0.out.go HB2.out)).mono ?_
  rintro v w9 ⟨rfl, hB⟩
  have HB3 := hid (bgo HB2.out hB)
  clear HB2 hB
  have HB2 := HB3
  clear HB3
  (try simp only [])
  go_wp2
  go_ret
  exact ⟨rfl, HB2.out⟩
end Go.Proofs.YtacifhfkadnklaaDoor
