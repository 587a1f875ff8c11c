/- The walk of DescKeeps: for every descriptor, every kind and owner, and every number it returns true; nothing that lay before is changed. Condition: the package's two tables lie in their variables. -/
import Derived.Test.YtacifhfkadnklaaDoorL5
namespace Go.Proofs.YtacifhfkadnklaaDoor
open Go.RowKit

theorem rf_zd (b : Int) : rfE ⟨0, 0, 0, 0⟩ b = 6 ∧ rf ⟨0, 0, 0, 0⟩ b = ⟨0, 0, 0, 0⟩ := by
  have e : rfE ⟨0, 0, 0, 0⟩ b = 6 := by
    unfold rfE
    rw [if_pos (show rt ⟨0, 0, 0, 0⟩ = true from rt_zd), if_neg (by simp)]
  exact ⟨e, by unfold rf; rw [if_neg (by omega)]; rfl⟩
theorem rf_back {k o r p b : Int} (h : rfE ⟨k, o, r, p⟩ b = 0) : rf ⟨k, o, r, p⟩ b = ⟨k, o, r + b, p⟩ ∧ (rfE ⟨k, o, r + b, p⟩ (-b) = 0 ∧ rf ⟨k, o, r + b, p⟩ (-b) = ⟨k, o, r, p⟩) ∧ (0 ≤ r ∧ r ≤ 65535 ∧ 0 ≤ r + b ∧ r + b ≤ 65535) := by
  have h1 : rt ⟨k, o, r, p⟩ = true := by
    cases h1 : rt ⟨k, o, r, p⟩
    · unfold rfE at h; rw [h1] at h; simp at h
    · rfl
  have h2 : 2 ≤ k ∧ k ≤ 4 := by
    by_cases h2 : 2 ≤ k ∧ k ≤ 4
    · exact h2
    · unfold rfE at h; rw [if_pos h1, if_neg h2] at h; omega
  have h3 : 0 ≤ r + b ∧ r + b ≤ 65535 := by
    by_cases h3 : 0 ≤ r + b ∧ r + b ≤ 65535
    · exact h3
    · unfold rfE at h; rw [if_pos h1, if_pos h2, if_neg h3] at h; omega
  have hm := (rt_mk k o r p).1 h1
  obtain ⟨m0, m1, m2, m3, m4⟩ := hm
  have g1 : rt ⟨k, o, r + b, p⟩ = true := by
    rw [rt_mk]
    refine ⟨by omega, fun h => ?_, fun h => ?_, m3, fun h => ?_⟩
    · omega
    · exact m2 h
    · omega
  have e : rfE ⟨k, o, r + b, p⟩ (-b) = 0 := by
    unfold rfE
    rw [if_pos g1, if_pos h2, if_pos (show 0 ≤ r + b + -b ∧ r + b + -b ≤ 65535 by omega)]
  refine ⟨by unfold rf; rw [if_pos h], ⟨e, ?_⟩, by omega⟩
  unfold rf
  rw [if_pos e]
  have q : r + b + -b = r := by omega
  simp [q]
theorem nx_facts {k o r p a b : Int} (h : nxE ⟨k, o, r, p⟩ a b = 0) : ∃ n, nx ⟨k, o, r, p⟩ a b = ⟨a, n, 0, 0⟩ ∧ rt ⟨a, n, 0, 0⟩ = true ∧ r = 0 := by
  refine ⟨if a = 5 then o else b, by unfold nx; rw [if_pos h]; rfl, ?_, ?_⟩
  all_goals
    have h1 : rt ⟨k, o, r, p⟩ = true := by
      cases h1 : rt ⟨k, o, r, p⟩
      · unfold nxE at h; rw [h1] at h; simp at h
      · rfl
    have h2 : r = 0 := by
      by_cases h2 : r = 0
      · exact h2
      · unfold nxE at h; rw [if_pos h1, if_neg (show ¬ r = 0 from h2)] at h; omega
  · have h3 : way k a = true := by
      cases h3 : way k a
      · unfold nxE at h; rw [if_pos h1, if_pos (show r = 0 from h2), if_neg (by show ¬ way k a = true; rw [h3]; decide)] at h; omega
      · rfl
    cases h4 : rt ⟨a, if a = 5 then o else b, 0, 0⟩
    · unfold nxE at h; rw [if_pos h1, if_pos (show r = 0 from h2), if_pos (show way k a = true from h3), if_neg (by show ¬ rt ⟨a, if a = 5 then o else b, 0, 0⟩ = true; rw [h4]; decide)] at h; omega
    · rfl
  · exact h2
theorem nx_free {a n : Int} (h : rt ⟨a, n, 0, 0⟩ = true) (ha : ¬ a = 0) : nxE ⟨a, n, 0, 0⟩ 0 0 = 0 ∧ nx ⟨a, n, 0, 0⟩ 0 0 = ⟨0, 0, 0, 0⟩ := by
  have hm := (rt_mk a n 0 0).1 h
  have hw : way a 0 = true := (way_iff a 0 (by omega)).2 (by omega)
  have hn : nxD ⟨a, n, 0, 0⟩ 0 0 = zd := by unfold nxD; rw [if_neg (by omega)]; rfl
  have e : nxE ⟨a, n, 0, 0⟩ 0 0 = 0 := by
    unfold nxE
    rw [if_pos h, if_pos rfl, if_pos (show way a 0 = true from hw), hn, if_pos rt_zd]
  exact ⟨e, by unfold nx; rw [if_pos e, hn]; rfl⟩
theorem nx_not {d : Ds} {k o : Int} (h : ¬ nxE d k o = 0) : nx d k o = ⟨0, 0, 0, 0⟩ := by unfold nx; rw [if_neg h]; rfl
theorem rf_not {d : Ds} {b : Int} (h : ¬ rfE d b = 0) : rf d b = ⟨0, 0, 0, 0⟩ := by unfold rf; rw [if_neg h]; rfl

set_option maxRecDepth 100000 in
set_option maxHeartbeats 2000000 in
theorem keeps_21 (k o r p a b y : Int) (w : World) (hT : Tab w) (hy0 : 0 ≤ y) (hy1 : y ≤ 65535) (n : Int) (h1 : nxE ⟨k, o, r, p⟩ a b = 0) (h2 : nx ⟨k, o, r, p⟩ a b = ⟨a, n, 0, 0⟩) (h3 : rt ⟨a, n, 0, 0⟩ = true) (h4 : ¬ 0 < r) (h5 : (a != 0) = true) (h6 : nxE ⟨a, n, 0, 0⟩ 0 0 = 0) (h7 : nx ⟨a, n, 0, 0⟩ 0 0 = ⟨0, 0, 0, 0⟩) (q1 : rfE ⟨k, o, r, p⟩ y = 0) (q2 : rf ⟨k, o, r, p⟩ y = ⟨k, o, r + y, p⟩) (q3 : rfE ⟨k, o, r + y, p⟩ (-y) = 0) (q4 : rf ⟨k, o, r + y, p⟩ (-y) = ⟨k, o, r, p⟩) (q5 : 0 ≤ r ∧ r ≤ 65535 ∧ 0 ≤ r + y ∧ r + y ≤ 65535) :
    Calls Tryd.prog 6 #[.agg #[.int .i64 k, .int .i64 o, .int .i64 r, .int .i64 p], .agg #[.int .i64 a, .int .i64 b], .int .u16 y] w fun v w' => v = .returned (.bool true) ∧ Below w.heap.size w w' := by
  have HT0 := hid hT
  have Uh1 := hid h1
  have Uh2 := hid h2
  have Uh3 := hid h3
  have Uh6 := hid h6
  have Uh7 := hid h7
  have Uq1 := hid q1
  have Uq2 := hid q2
  have Uq3 := hid q3
  have Uq4 := hid q4
  clear hT h1 h2 h3 h6 h7 q1 q2 q3 q4
  have e5 : (a != a) = false := by simp
  have e1 : (k != k) = false := by simp
  have e2 : (o == o) = true := by simp
  have e3 : (r == r) = true := by simp
  have e4 : (p == p) = true := by simp
  have e6 : (k == k) = true := by simp
  have e7 : (r + y != r + y) = false := by simp
  go_enter Tryd.func6, Tryd.ntmps6
  go_wp2_with fail
  refine (two_at (next_at ⟨k, o, r, p⟩ a b _ ((HT0.out.alloc _).alloc _)) Uh2.out Uh1.out).mono ?_
  rintro v w1 ⟨rfl, hB⟩
  have a3 := stay hB (two_new w _ _).1
  have a4 := stay hB (two_new w _ _).2
  have HB := hid (bgo (btwo w _ _) hB)
  have HT := hid (HT0.out.go HB.out)
  clear hB
  have l3 := lt_of_block a3
  obtain ⟨p30, p31, p32, p33, -, -, -, -⟩ := four a3
  have A3 := hid a3
  clear a3
  have l4 := lt_of_block a4
  have p40 := cell_of (i := 0) a4 rfl
  have p41 := cell_of (i := 1) a4 rfl
  have A4 := hid a4
  clear a4
  (try simp only [])
  go_wp2_with fail
  refine (bl_at (right_at ⟨a, n, 0, 0⟩ _ (HT.out.alloc _)) Uh3.out).mono ?_
  rintro v w2 ⟨rfl, hB⟩
  have a3 := stay hB (hkeep A3.out _)
  have a4 := stay hB (hkeep A4.out _)
  have a7 := stay hB (heap_alloc_new _ _)
  have HBn := hid (bgo (HB.out.alloc HB.out.size _) hB)
  clear HB
  have HB := HBn
  clear HBn
  clear A3 l3 p30 p31 p32 p33 A4 l4 p40 p41
  clear HT
  have HT := hid (HT0.out.go HB.out)
  clear hB
  have l3 := lt_of_block a3
  obtain ⟨p30, p31, p32, p33, -, -, -, -⟩ := four a3
  have A3 := hid a3
  clear a3
  have l4 := lt_of_block a4
  have p40 := cell_of (i := 0) a4 rfl
  have p41 := cell_of (i := 1) a4 rfl
  have A4 := hid a4
  clear a4
  have l7 := lt_of_block a7
  obtain ⟨p70, p71, p72, p73, -, -, -, -⟩ := four a7
  have A7 := hid a7
  clear a7
  (try simp only [])
  go_wp2_with fail
  refine (two_at (ref_at ⟨k, o, r, p⟩ y _ HT.out) Uq2.out Uq1.out).mono ?_
  rintro v w3 ⟨rfl, hB⟩
  have a3 := stay hB A3.out
  have a4 := stay hB A4.out
  have a7 := stay hB A7.out
  have HBn := hid (bgo HB.out hB)
  clear HB
  have HB := HBn
  clear HBn
  clear A3 l3 p30 p31 p32 p33 A4 l4 p40 p41 A7 l7 p70 p71 p72 p73
  clear HT
  have HT := hid (HT0.out.go HB.out)
  clear hB
  have l3 := lt_of_block a3
  obtain ⟨p30, p31, p32, p33, -, -, -, -⟩ := four a3
  have A3 := hid a3
  clear a3
  have l4 := lt_of_block a4
  have p40 := cell_of (i := 0) a4 rfl
  have p41 := cell_of (i := 1) a4 rfl
  have A4 := hid a4
  clear a4
  have l7 := lt_of_block a7
  obtain ⟨p70, p71, p72, p73, -, -, -, -⟩ := four a7
  have A7 := hid a7
  clear a7
  (try simp only [])
  go_wp2_with fail
  refine (two_at (ref_at ⟨k, o, r + y, p⟩ (-y) _ (HT.out.alloc _)) Uq4.out Uq3.out).mono ?_
  rintro v w4 ⟨rfl, hB⟩
  have a3 := stay hB (hkeep A3.out _)
  have a4 := stay hB (hkeep A4.out _)
  have a7 := stay hB (hkeep A7.out _)
  have a9 := stay hB (heap_alloc_new _ _)
  have HBn := hid (bgo (HB.out.alloc HB.out.size _) hB)
  clear HB
  have HB := HBn
  clear HBn
  clear A3 l3 p30 p31 p32 p33 A4 l4 p40 p41 A7 l7 p70 p71 p72 p73
  clear HT
  have HT := hid (HT0.out.go HB.out)
  clear hB
  have l3 := lt_of_block a3
  obtain ⟨p30, p31, p32, p33, -, -, -, -⟩ := four a3
  have A3 := hid a3
  clear a3
  have l4 := lt_of_block a4
  have p40 := cell_of (i := 0) a4 rfl
  have p41 := cell_of (i := 1) a4 rfl
  have A4 := hid a4
  clear a4
  have l7 := lt_of_block a7
  obtain ⟨p70, p71, p72, p73, -, -, -, -⟩ := four a7
  have A7 := hid a7
  clear a7
  have l9 := lt_of_block a9
  obtain ⟨p90, p91, p92, p93, -, -, -, -⟩ := four a9
  have A9 := hid a9
  clear a9
  (try simp only [])
  go_wp2_with fail
  refine (two_at (next_at ⟨a, n, 0, 0⟩ 0 0 _ (HT.out.alloc _)) Uh7.out Uh6.out).mono ?_
  rintro v w5 ⟨rfl, hB⟩
  have a3 := stay hB (hkeep A3.out _)
  have a4 := stay hB (hkeep A4.out _)
  have a7 := stay hB (hkeep A7.out _)
  have a9 := stay hB (hkeep A9.out _)
  have a11 := stay hB (heap_alloc_new _ _)
  have HBn := hid (bgo (HB.out.alloc HB.out.size _) hB)
  clear HB
  have HB := HBn
  clear HBn
  clear A3 l3 p30 p31 p32 p33 A4 l4 p40 p41 A7 l7 p70 p71 p72 p73 A9 l9 p90 p91 p92 p93
  clear HT
  have HT := hid (HT0.out.go HB.out)
  clear hB
  have l3 := lt_of_block a3
  obtain ⟨p30, p31, p32, p33, -, -, -, -⟩ := four a3
  have A3 := hid a3
  clear a3
  have l4 := lt_of_block a4
  have p40 := cell_of (i := 0) a4 rfl
  have p41 := cell_of (i := 1) a4 rfl
  have A4 := hid a4
  clear a4
  have l7 := lt_of_block a7
  obtain ⟨p70, p71, p72, p73, -, -, -, -⟩ := four a7
  have A7 := hid a7
  clear a7
  have l9 := lt_of_block a9
  obtain ⟨p90, p91, p92, p93, -, -, -, -⟩ := four a9
  have A9 := hid a9
  clear a9
  have l11 := lt_of_block a11
  obtain ⟨p110, p111, p112, p113, -, -, -, -⟩ := four a11
  have A11 := hid a11
  clear a11
  (try simp only [])
  go_wp2_with fail
  refine (known_yes _ (HT.out.alloc _)).mono ?_
  rintro v w6 ⟨rfl, hB⟩
  have a3 := stay hB (hkeep A3.out _)
  have a4 := stay hB (hkeep A4.out _)
  have a7 := stay hB (hkeep A7.out _)
  have a9 := stay hB (hkeep A9.out _)
  have a11 := stay hB (hkeep A11.out _)
  have a13 := stay hB (heap_alloc_new _ _)
  have HBn := hid (bgo (HB.out.alloc HB.out.size _) hB)
  clear HB
  have HB := HBn
  clear HBn
  clear A3 l3 p30 p31 p32 p33 A4 l4 p40 p41 A7 l7 p70 p71 p72 p73 A9 l9 p90 p91 p92 p93 A11 l11 p110 p111 p112 p113
  clear HT
  have HT := hid (HT0.out.go HB.out)
  clear hB
  have l3 := lt_of_block a3
  obtain ⟨p30, p31, p32, p33, -, -, -, -⟩ := four a3
  have A3 := hid a3
  clear a3
  have l4 := lt_of_block a4
  have p40 := cell_of (i := 0) a4 rfl
  have p41 := cell_of (i := 1) a4 rfl
  have A4 := hid a4
  clear a4
  have l7 := lt_of_block a7
  obtain ⟨p70, p71, p72, p73, -, -, -, -⟩ := four a7
  have A7 := hid a7
  clear a7
  have l9 := lt_of_block a9
  obtain ⟨p90, p91, p92, p93, -, -, -, -⟩ := four a9
  have A9 := hid a9
  clear a9
  have l11 := lt_of_block a11
  obtain ⟨p110, p111, p112, p113, -, -, -, -⟩ := four a11
  have A11 := hid a11
  clear a11
  have l13 := lt_of_block a13
  obtain ⟨p130, p131, p132, p133, -, -, -, -⟩ := four a13
  have A13 := hid a13
  clear a13
  (try simp only [])
  go_wp2
  go_ret
  exact ⟨rfl, HB.out⟩

set_option maxRecDepth 100000 in
set_option maxHeartbeats 2000000 in
theorem keeps_20 (k o r p a b y : Int) (w : World) (hT : Tab w) (hy0 : 0 ≤ y) (hy1 : y ≤ 65535) (n : Int) (h1 : nxE ⟨k, o, r, p⟩ a b = 0) (h2 : nx ⟨k, o, r, p⟩ a b = ⟨a, n, 0, 0⟩) (h3 : rt ⟨a, n, 0, 0⟩ = true) (h4 : ¬ 0 < r) (h5 : (a != 0) = true) (h6 : nxE ⟨a, n, 0, 0⟩ 0 0 = 0) (h7 : nx ⟨a, n, 0, 0⟩ 0 0 = ⟨0, 0, 0, 0⟩) (F : Int) (q1 : rfE ⟨k, o, r, p⟩ y = F) (q2 : rf ⟨k, o, r, p⟩ y = ⟨0, 0, 0, 0⟩) (q3 : (F == 0) = false) :
    Calls Tryd.prog 6 #[.agg #[.int .i64 k, .int .i64 o, .int .i64 r, .int .i64 p], .agg #[.int .i64 a, .int .i64 b], .int .u16 y] w fun v w' => v = .returned (.bool true) ∧ Below w.heap.size w w' := by
  have HT0 := hid hT
  have Uh1 := hid h1
  have Uh2 := hid h2
  have Uh3 := hid h3
  have Uh6 := hid h6
  have Uh7 := hid h7
  have Uq1 := hid q1
  have Uq2 := hid q2
  clear hT h1 h2 h3 h6 h7 q1 q2
  have e5 : (a != a) = false := by simp
  go_enter Tryd.func6, Tryd.ntmps6
  go_wp2_with fail
  refine (two_at (next_at ⟨k, o, r, p⟩ a b _ ((HT0.out.alloc _).alloc _)) Uh2.out Uh1.out).mono ?_
  rintro v w1 ⟨rfl, hB⟩
  have a3 := stay hB (two_new w _ _).1
  have a4 := stay hB (two_new w _ _).2
  have HB := hid (bgo (btwo w _ _) hB)
  have HT := hid (HT0.out.go HB.out)
  clear hB
  have l3 := lt_of_block a3
  obtain ⟨p30, p31, p32, p33, -, -, -, -⟩ := four a3
  have A3 := hid a3
  clear a3
  have l4 := lt_of_block a4
  have p40 := cell_of (i := 0) a4 rfl
  have p41 := cell_of (i := 1) a4 rfl
  have A4 := hid a4
  clear a4
  (try simp only [])
  go_wp2_with fail
  refine (bl_at (right_at ⟨a, n, 0, 0⟩ _ (HT.out.alloc _)) Uh3.out).mono ?_
  rintro v w2 ⟨rfl, hB⟩
  have a3 := stay hB (hkeep A3.out _)
  have a4 := stay hB (hkeep A4.out _)
  have a7 := stay hB (heap_alloc_new _ _)
  have HBn := hid (bgo (HB.out.alloc HB.out.size _) hB)
  clear HB
  have HB := HBn
  clear HBn
  clear A3 l3 p30 p31 p32 p33 A4 l4 p40 p41
  clear HT
  have HT := hid (HT0.out.go HB.out)
  clear hB
  have l3 := lt_of_block a3
  obtain ⟨p30, p31, p32, p33, -, -, -, -⟩ := four a3
  have A3 := hid a3
  clear a3
  have l4 := lt_of_block a4
  have p40 := cell_of (i := 0) a4 rfl
  have p41 := cell_of (i := 1) a4 rfl
  have A4 := hid a4
  clear a4
  have l7 := lt_of_block a7
  obtain ⟨p70, p71, p72, p73, -, -, -, -⟩ := four a7
  have A7 := hid a7
  clear a7
  (try simp only [])
  go_wp2_with fail
  refine (two_at (ref_at ⟨k, o, r, p⟩ y _ HT.out) Uq2.out Uq1.out).mono ?_
  rintro v w3 ⟨rfl, hB⟩
  have a3 := stay hB A3.out
  have a4 := stay hB A4.out
  have a7 := stay hB A7.out
  have HBn := hid (bgo HB.out hB)
  clear HB
  have HB := HBn
  clear HBn
  clear A3 l3 p30 p31 p32 p33 A4 l4 p40 p41 A7 l7 p70 p71 p72 p73
  clear HT
  have HT := hid (HT0.out.go HB.out)
  clear hB
  have l3 := lt_of_block a3
  obtain ⟨p30, p31, p32, p33, -, -, -, -⟩ := four a3
  have A3 := hid a3
  clear a3
  have l4 := lt_of_block a4
  have p40 := cell_of (i := 0) a4 rfl
  have p41 := cell_of (i := 1) a4 rfl
  have A4 := hid a4
  clear a4
  have l7 := lt_of_block a7
  obtain ⟨p70, p71, p72, p73, -, -, -, -⟩ := four a7
  have A7 := hid a7
  clear a7
  (try simp only [])
  go_wp2_with fail
  refine (two_at (ref_at ⟨0, 0, 0, 0⟩ (-y) _ (HT.out.alloc _)) (rf_zd _).2 (rf_zd _).1).mono ?_
  rintro v w4 ⟨rfl, hB⟩
  have a3 := stay hB (hkeep A3.out _)
  have a4 := stay hB (hkeep A4.out _)
  have a7 := stay hB (hkeep A7.out _)
  have a9 := stay hB (heap_alloc_new _ _)
  have HBn := hid (bgo (HB.out.alloc HB.out.size _) hB)
  clear HB
  have HB := HBn
  clear HBn
  clear A3 l3 p30 p31 p32 p33 A4 l4 p40 p41 A7 l7 p70 p71 p72 p73
  clear HT
  have HT := hid (HT0.out.go HB.out)
  clear hB
  have l3 := lt_of_block a3
  obtain ⟨p30, p31, p32, p33, -, -, -, -⟩ := four a3
  have A3 := hid a3
  clear a3
  have l4 := lt_of_block a4
  have p40 := cell_of (i := 0) a4 rfl
  have p41 := cell_of (i := 1) a4 rfl
  have A4 := hid a4
  clear a4
  have l7 := lt_of_block a7
  obtain ⟨p70, p71, p72, p73, -, -, -, -⟩ := four a7
  have A7 := hid a7
  clear a7
  have l9 := lt_of_block a9
  obtain ⟨p90, p91, p92, p93, -, -, -, -⟩ := four a9
  have A9 := hid a9
  clear a9
  (try simp only [])
  go_wp2_with fail
  refine (two_at (next_at ⟨a, n, 0, 0⟩ 0 0 _ (HT.out.alloc _)) Uh7.out Uh6.out).mono ?_
  rintro v w5 ⟨rfl, hB⟩
  have a3 := stay hB (hkeep A3.out _)
  have a4 := stay hB (hkeep A4.out _)
  have a7 := stay hB (hkeep A7.out _)
  have a9 := stay hB (hkeep A9.out _)
  have a11 := stay hB (heap_alloc_new _ _)
  have HBn := hid (bgo (HB.out.alloc HB.out.size _) hB)
  clear HB
  have HB := HBn
  clear HBn
  clear A3 l3 p30 p31 p32 p33 A4 l4 p40 p41 A7 l7 p70 p71 p72 p73 A9 l9 p90 p91 p92 p93
  clear HT
  have HT := hid (HT0.out.go HB.out)
  clear hB
  have l3 := lt_of_block a3
  obtain ⟨p30, p31, p32, p33, -, -, -, -⟩ := four a3
  have A3 := hid a3
  clear a3
  have l4 := lt_of_block a4
  have p40 := cell_of (i := 0) a4 rfl
  have p41 := cell_of (i := 1) a4 rfl
  have A4 := hid a4
  clear a4
  have l7 := lt_of_block a7
  obtain ⟨p70, p71, p72, p73, -, -, -, -⟩ := four a7
  have A7 := hid a7
  clear a7
  have l9 := lt_of_block a9
  obtain ⟨p90, p91, p92, p93, -, -, -, -⟩ := four a9
  have A9 := hid a9
  clear a9
  have l11 := lt_of_block a11
  obtain ⟨p110, p111, p112, p113, -, -, -, -⟩ := four a11
  have A11 := hid a11
  clear a11
  (try simp only [])
  go_wp2_with fail
  refine (known_yes _ (HT.out.alloc _)).mono ?_
  rintro v w6 ⟨rfl, hB⟩
  have a3 := stay hB (hkeep A3.out _)
  have a4 := stay hB (hkeep A4.out _)
  have a7 := stay hB (hkeep A7.out _)
  have a9 := stay hB (hkeep A9.out _)
  have a11 := stay hB (hkeep A11.out _)
  have a13 := stay hB (heap_alloc_new _ _)
  have HBn := hid (bgo (HB.out.alloc HB.out.size _) hB)
  clear HB
  have HB := HBn
  clear HBn
  clear A3 l3 p30 p31 p32 p33 A4 l4 p40 p41 A7 l7 p70 p71 p72 p73 A9 l9 p90 p91 p92 p93 A11 l11 p110 p111 p112 p113
  clear HT
  have HT := hid (HT0.out.go HB.out)
  clear hB
  have l3 := lt_of_block a3
  obtain ⟨p30, p31, p32, p33, -, -, -, -⟩ := four a3
  have A3 := hid a3
  clear a3
  have l4 := lt_of_block a4
  have p40 := cell_of (i := 0) a4 rfl
  have p41 := cell_of (i := 1) a4 rfl
  have A4 := hid a4
  clear a4
  have l7 := lt_of_block a7
  obtain ⟨p70, p71, p72, p73, -, -, -, -⟩ := four a7
  have A7 := hid a7
  clear a7
  have l9 := lt_of_block a9
  obtain ⟨p90, p91, p92, p93, -, -, -, -⟩ := four a9
  have A9 := hid a9
  clear a9
  have l11 := lt_of_block a11
  obtain ⟨p110, p111, p112, p113, -, -, -, -⟩ := four a11
  have A11 := hid a11
  clear a11
  have l13 := lt_of_block a13
  obtain ⟨p130, p131, p132, p133, -, -, -, -⟩ := four a13
  have A13 := hid a13
  clear a13
  (try simp only [])
  go_wp2
  go_ret
  exact ⟨rfl, HB.out⟩

set_option maxRecDepth 100000 in
set_option maxHeartbeats 2000000 in
theorem keeps_11 (k o r p a b y : Int) (w : World) (hT : Tab w) (hy0 : 0 ≤ y) (hy1 : y ≤ 65535) (n : Int) (h1 : nxE ⟨k, o, r, p⟩ a b = 0) (h2 : nx ⟨k, o, r, p⟩ a b = ⟨a, n, 0, 0⟩) (h3 : rt ⟨a, n, 0, 0⟩ = true) (h4 : ¬ 0 < r) (h5 : (a != 0) = false) (q1 : rfE ⟨k, o, r, p⟩ y = 0) (q2 : rf ⟨k, o, r, p⟩ y = ⟨k, o, r + y, p⟩) (q3 : rfE ⟨k, o, r + y, p⟩ (-y) = 0) (q4 : rf ⟨k, o, r + y, p⟩ (-y) = ⟨k, o, r, p⟩) (q5 : 0 ≤ r ∧ r ≤ 65535 ∧ 0 ≤ r + y ∧ r + y ≤ 65535) :
    Calls Tryd.prog 6 #[.agg #[.int .i64 k, .int .i64 o, .int .i64 r, .int .i64 p], .agg #[.int .i64 a, .int .i64 b], .int .u16 y] w fun v w' => v = .returned (.bool true) ∧ Below w.heap.size w w' := by
  have HT0 := hid hT
  have Uh1 := hid h1
  have Uh2 := hid h2
  have Uh3 := hid h3
  have Uq1 := hid q1
  have Uq2 := hid q2
  have Uq3 := hid q3
  have Uq4 := hid q4
  clear hT h1 h2 h3 q1 q2 q3 q4
  have e5 : (a != a) = false := by simp
  have e1 : (k != k) = false := by simp
  have e2 : (o == o) = true := by simp
  have e3 : (r == r) = true := by simp
  have e4 : (p == p) = true := by simp
  have e6 : (k == k) = true := by simp
  have e7 : (r + y != r + y) = false := by simp
  go_enter Tryd.func6, Tryd.ntmps6
  go_wp2_with fail
  refine (two_at (next_at ⟨k, o, r, p⟩ a b _ ((HT0.out.alloc _).alloc _)) Uh2.out Uh1.out).mono ?_
  rintro v w1 ⟨rfl, hB⟩
  have a3 := stay hB (two_new w _ _).1
  have a4 := stay hB (two_new w _ _).2
  have HB := hid (bgo (btwo w _ _) hB)
  have HT := hid (HT0.out.go HB.out)
  clear hB
  have l3 := lt_of_block a3
  obtain ⟨p30, p31, p32, p33, -, -, -, -⟩ := four a3
  have A3 := hid a3
  clear a3
  have l4 := lt_of_block a4
  have p40 := cell_of (i := 0) a4 rfl
  have p41 := cell_of (i := 1) a4 rfl
  have A4 := hid a4
  clear a4
  (try simp only [])
  go_wp2_with fail
  refine (bl_at (right_at ⟨a, n, 0, 0⟩ _ (HT.out.alloc _)) Uh3.out).mono ?_
  rintro v w2 ⟨rfl, hB⟩
  have a3 := stay hB (hkeep A3.out _)
  have a4 := stay hB (hkeep A4.out _)
  have a7 := stay hB (heap_alloc_new _ _)
  have HBn := hid (bgo (HB.out.alloc HB.out.size _) hB)
  clear HB
  have HB := HBn
  clear HBn
  clear A3 l3 p30 p31 p32 p33 A4 l4 p40 p41
  clear HT
  have HT := hid (HT0.out.go HB.out)
  clear hB
  have l3 := lt_of_block a3
  obtain ⟨p30, p31, p32, p33, -, -, -, -⟩ := four a3
  have A3 := hid a3
  clear a3
  have l4 := lt_of_block a4
  have p40 := cell_of (i := 0) a4 rfl
  have p41 := cell_of (i := 1) a4 rfl
  have A4 := hid a4
  clear a4
  have l7 := lt_of_block a7
  obtain ⟨p70, p71, p72, p73, -, -, -, -⟩ := four a7
  have A7 := hid a7
  clear a7
  (try simp only [])
  go_wp2_with fail
  refine (two_at (ref_at ⟨k, o, r, p⟩ y _ HT.out) Uq2.out Uq1.out).mono ?_
  rintro v w3 ⟨rfl, hB⟩
  have a3 := stay hB A3.out
  have a4 := stay hB A4.out
  have a7 := stay hB A7.out
  have HBn := hid (bgo HB.out hB)
  clear HB
  have HB := HBn
  clear HBn
  clear A3 l3 p30 p31 p32 p33 A4 l4 p40 p41 A7 l7 p70 p71 p72 p73
  clear HT
  have HT := hid (HT0.out.go HB.out)
  clear hB
  have l3 := lt_of_block a3
  obtain ⟨p30, p31, p32, p33, -, -, -, -⟩ := four a3
  have A3 := hid a3
  clear a3
  have l4 := lt_of_block a4
  have p40 := cell_of (i := 0) a4 rfl
  have p41 := cell_of (i := 1) a4 rfl
  have A4 := hid a4
  clear a4
  have l7 := lt_of_block a7
  obtain ⟨p70, p71, p72, p73, -, -, -, -⟩ := four a7
  have A7 := hid a7
  clear a7
  (try simp only [])
  go_wp2_with fail
  refine (two_at (ref_at ⟨k, o, r + y, p⟩ (-y) _ (HT.out.alloc _)) Uq4.out Uq3.out).mono ?_
  rintro v w4 ⟨rfl, hB⟩
  have a3 := stay hB (hkeep A3.out _)
  have a4 := stay hB (hkeep A4.out _)
  have a7 := stay hB (hkeep A7.out _)
  have a9 := stay hB (heap_alloc_new _ _)
  have HBn := hid (bgo (HB.out.alloc HB.out.size _) hB)
  clear HB
  have HB := HBn
  clear HBn
  clear A3 l3 p30 p31 p32 p33 A4 l4 p40 p41 A7 l7 p70 p71 p72 p73
  clear HT
  have HT := hid (HT0.out.go HB.out)
  clear hB
  have l3 := lt_of_block a3
  obtain ⟨p30, p31, p32, p33, -, -, -, -⟩ := four a3
  have A3 := hid a3
  clear a3
  have l4 := lt_of_block a4
  have p40 := cell_of (i := 0) a4 rfl
  have p41 := cell_of (i := 1) a4 rfl
  have A4 := hid a4
  clear a4
  have l7 := lt_of_block a7
  obtain ⟨p70, p71, p72, p73, -, -, -, -⟩ := four a7
  have A7 := hid a7
  clear a7
  have l9 := lt_of_block a9
  obtain ⟨p90, p91, p92, p93, -, -, -, -⟩ := four a9
  have A9 := hid a9
  clear a9
  (try simp only [])
  go_wp2_with fail
  refine (known_yes _ (HT.out.alloc _)).mono ?_
  rintro v w5 ⟨rfl, hB⟩
  have a3 := stay hB (hkeep A3.out _)
  have a4 := stay hB (hkeep A4.out _)
  have a7 := stay hB (hkeep A7.out _)
  have a9 := stay hB (hkeep A9.out _)
  have a11 := stay hB (heap_alloc_new _ _)
  have HBn := hid (bgo (HB.out.alloc HB.out.size _) hB)
  clear HB
  have HB := HBn
  clear HBn
  clear A3 l3 p30 p31 p32 p33 A4 l4 p40 p41 A7 l7 p70 p71 p72 p73 A9 l9 p90 p91 p92 p93
  clear HT
  have HT := hid (HT0.out.go HB.out)
  clear hB
  have l3 := lt_of_block a3
  obtain ⟨p30, p31, p32, p33, -, -, -, -⟩ := four a3
  have A3 := hid a3
  clear a3
  have l4 := lt_of_block a4
  have p40 := cell_of (i := 0) a4 rfl
  have p41 := cell_of (i := 1) a4 rfl
  have A4 := hid a4
  clear a4
  have l7 := lt_of_block a7
  obtain ⟨p70, p71, p72, p73, -, -, -, -⟩ := four a7
  have A7 := hid a7
  clear a7
  have l9 := lt_of_block a9
  obtain ⟨p90, p91, p92, p93, -, -, -, -⟩ := four a9
  have A9 := hid a9
  clear a9
  have l11 := lt_of_block a11
  obtain ⟨p110, p111, p112, p113, -, -, -, -⟩ := four a11
  have A11 := hid a11
  clear a11
  (try simp only [])
  go_wp2
  go_ret
  exact ⟨rfl, HB.out⟩

set_option maxRecDepth 100000 in
set_option maxHeartbeats 2000000 in
theorem keeps_10 (k o r p a b y : Int) (w : World) (hT : Tab w) (hy0 : 0 ≤ y) (hy1 : y ≤ 65535) (n : Int) (h1 : nxE ⟨k, o, r, p⟩ a b = 0) (h2 : nx ⟨k, o, r, p⟩ a b = ⟨a, n, 0, 0⟩) (h3 : rt ⟨a, n, 0, 0⟩ = true) (h4 : ¬ 0 < r) (h5 : (a != 0) = false) (F : Int) (q1 : rfE ⟨k, o, r, p⟩ y = F) (q2 : rf ⟨k, o, r, p⟩ y = ⟨0, 0, 0, 0⟩) (q3 : (F == 0) = false) :
    Calls Tryd.prog 6 #[.agg #[.int .i64 k, .int .i64 o, .int .i64 r, .int .i64 p], .agg #[.int .i64 a, .int .i64 b], .int .u16 y] w fun v w' => v = .returned (.bool true) ∧ Below w.heap.size w w' := by
  have HT0 := hid hT
  have Uh1 := hid h1
  have Uh2 := hid h2
  have Uh3 := hid h3
  have Uq1 := hid q1
  have Uq2 := hid q2
  clear hT h1 h2 h3 q1 q2
  have e5 : (a != a) = false := by simp
  go_enter Tryd.func6, Tryd.ntmps6
  go_wp2_with fail
  refine (two_at (next_at ⟨k, o, r, p⟩ a b _ ((HT0.out.alloc _).alloc _)) Uh2.out Uh1.out).mono ?_
  rintro v w1 ⟨rfl, hB⟩
  have a3 := stay hB (two_new w _ _).1
  have a4 := stay hB (two_new w _ _).2
  have HB := hid (bgo (btwo w _ _) hB)
  have HT := hid (HT0.out.go HB.out)
  clear hB
  have l3 := lt_of_block a3
  obtain ⟨p30, p31, p32, p33, -, -, -, -⟩ := four a3
  have A3 := hid a3
  clear a3
  have l4 := lt_of_block a4
  have p40 := cell_of (i := 0) a4 rfl
  have p41 := cell_of (i := 1) a4 rfl
  have A4 := hid a4
  clear a4
  (try simp only [])
  go_wp2_with fail
  refine (bl_at (right_at ⟨a, n, 0, 0⟩ _ (HT.out.alloc _)) Uh3.out).mono ?_
  rintro v w2 ⟨rfl, hB⟩
  have a3 := stay hB (hkeep A3.out _)
  have a4 := stay hB (hkeep A4.out _)
  have a7 := stay hB (heap_alloc_new _ _)
  have HBn := hid (bgo (HB.out.alloc HB.out.size _) hB)
  clear HB
  have HB := HBn
  clear HBn
  clear A3 l3 p30 p31 p32 p33 A4 l4 p40 p41
  clear HT
  have HT := hid (HT0.out.go HB.out)
  clear hB
  have l3 := lt_of_block a3
  obtain ⟨p30, p31, p32, p33, -, -, -, -⟩ := four a3
  have A3 := hid a3
  clear a3
  have l4 := lt_of_block a4
  have p40 := cell_of (i := 0) a4 rfl
  have p41 := cell_of (i := 1) a4 rfl
  have A4 := hid a4
  clear a4
  have l7 := lt_of_block a7
  obtain ⟨p70, p71, p72, p73, -, -, -, -⟩ := four a7
  have A7 := hid a7
  clear a7
  (try simp only [])
  go_wp2_with fail
  refine (two_at (ref_at ⟨k, o, r, p⟩ y _ HT.out) Uq2.out Uq1.out).mono ?_
  rintro v w3 ⟨rfl, hB⟩
  have a3 := stay hB A3.out
  have a4 := stay hB A4.out
  have a7 := stay hB A7.out
  have HBn := hid (bgo HB.out hB)
  clear HB
  have HB := HBn
  clear HBn
  clear A3 l3 p30 p31 p32 p33 A4 l4 p40 p41 A7 l7 p70 p71 p72 p73
  clear HT
  have HT := hid (HT0.out.go HB.out)
  clear hB
  have l3 := lt_of_block a3
  obtain ⟨p30, p31, p32, p33, -, -, -, -⟩ := four a3
  have A3 := hid a3
  clear a3
  have l4 := lt_of_block a4
  have p40 := cell_of (i := 0) a4 rfl
  have p41 := cell_of (i := 1) a4 rfl
  have A4 := hid a4
  clear a4
  have l7 := lt_of_block a7
  obtain ⟨p70, p71, p72, p73, -, -, -, -⟩ := four a7
  have A7 := hid a7
  clear a7
  (try simp only [])
  go_wp2_with fail
  refine (two_at (ref_at ⟨0, 0, 0, 0⟩ (-y) _ (HT.out.alloc _)) (rf_zd _).2 (rf_zd _).1).mono ?_
  rintro v w4 ⟨rfl, hB⟩
  have a3 := stay hB (hkeep A3.out _)
  have a4 := stay hB (hkeep A4.out _)
  have a7 := stay hB (hkeep A7.out _)
  have a9 := stay hB (heap_alloc_new _ _)
  have HBn := hid (bgo (HB.out.alloc HB.out.size _) hB)
  clear HB
  have HB := HBn
  clear HBn
  clear A3 l3 p30 p31 p32 p33 A4 l4 p40 p41 A7 l7 p70 p71 p72 p73
  clear HT
  have HT := hid (HT0.out.go HB.out)
  clear hB
  have l3 := lt_of_block a3
  obtain ⟨p30, p31, p32, p33, -, -, -, -⟩ := four a3
  have A3 := hid a3
  clear a3
  have l4 := lt_of_block a4
  have p40 := cell_of (i := 0) a4 rfl
  have p41 := cell_of (i := 1) a4 rfl
  have A4 := hid a4
  clear a4
  have l7 := lt_of_block a7
  obtain ⟨p70, p71, p72, p73, -, -, -, -⟩ := four a7
  have A7 := hid a7
  clear a7
  have l9 := lt_of_block a9
  obtain ⟨p90, p91, p92, p93, -, -, -, -⟩ := four a9
  have A9 := hid a9
  clear a9
  (try simp only [])
  go_wp2_with fail
  refine (known_yes _ (HT.out.alloc _)).mono ?_
  rintro v w5 ⟨rfl, hB⟩
  have a3 := stay hB (hkeep A3.out _)
  have a4 := stay hB (hkeep A4.out _)
  have a7 := stay hB (hkeep A7.out _)
  have a9 := stay hB (hkeep A9.out _)
  have a11 := stay hB (heap_alloc_new _ _)
  have HBn := hid (bgo (HB.out.alloc HB.out.size _) hB)
  clear HB
  have HB := HBn
  clear HBn
  clear A3 l3 p30 p31 p32 p33 A4 l4 p40 p41 A7 l7 p70 p71 p72 p73 A9 l9 p90 p91 p92 p93
  clear HT
  have HT := hid (HT0.out.go HB.out)
  clear hB
  have l3 := lt_of_block a3
  obtain ⟨p30, p31, p32, p33, -, -, -, -⟩ := four a3
  have A3 := hid a3
  clear a3
  have l4 := lt_of_block a4
  have p40 := cell_of (i := 0) a4 rfl
  have p41 := cell_of (i := 1) a4 rfl
  have A4 := hid a4
  clear a4
  have l7 := lt_of_block a7
  obtain ⟨p70, p71, p72, p73, -, -, -, -⟩ := four a7
  have A7 := hid a7
  clear a7
  have l9 := lt_of_block a9
  obtain ⟨p90, p91, p92, p93, -, -, -, -⟩ := four a9
  have A9 := hid a9
  clear a9
  have l11 := lt_of_block a11
  obtain ⟨p110, p111, p112, p113, -, -, -, -⟩ := four a11
  have A11 := hid a11
  clear a11
  (try simp only [])
  go_wp2
  go_ret
  exact ⟨rfl, HB.out⟩

set_option maxRecDepth 100000 in
set_option maxHeartbeats 2000000 in
theorem keeps_01 (k o r p a b y : Int) (w : World) (hT : Tab w) (hy0 : 0 ≤ y) (hy1 : y ≤ 65535) (E : Int) (h1 : nxE ⟨k, o, r, p⟩ a b = E) (h2 : nx ⟨k, o, r, p⟩ a b = ⟨0, 0, 0, 0⟩) (h3 : (E == 0) = false) (q1 : rfE ⟨k, o, r, p⟩ y = 0) (q2 : rf ⟨k, o, r, p⟩ y = ⟨k, o, r + y, p⟩) (q3 : rfE ⟨k, o, r + y, p⟩ (-y) = 0) (q4 : rf ⟨k, o, r + y, p⟩ (-y) = ⟨k, o, r, p⟩) (q5 : 0 ≤ r ∧ r ≤ 65535 ∧ 0 ≤ r + y ∧ r + y ≤ 65535) :
    Calls Tryd.prog 6 #[.agg #[.int .i64 k, .int .i64 o, .int .i64 r, .int .i64 p], .agg #[.int .i64 a, .int .i64 b], .int .u16 y] w fun v w' => v = .returned (.bool true) ∧ Below w.heap.size w w' := by
  have HT0 := hid hT
  have Uh1 := hid h1
  have Uh2 := hid h2
  have Uq1 := hid q1
  have Uq2 := hid q2
  have Uq3 := hid q3
  have Uq4 := hid q4
  clear hT h1 h2 q1 q2 q3 q4
  have e1 : (k != k) = false := by simp
  have e2 : (o == o) = true := by simp
  have e3 : (r == r) = true := by simp
  have e4 : (p == p) = true := by simp
  have e6 : (k == k) = true := by simp
  have e7 : (r + y != r + y) = false := by simp
  go_enter Tryd.func6, Tryd.ntmps6
  go_wp2_with fail
  refine (two_at (next_at ⟨k, o, r, p⟩ a b _ ((HT0.out.alloc _).alloc _)) Uh2.out Uh1.out).mono ?_
  rintro v w1 ⟨rfl, hB⟩
  have a3 := stay hB (two_new w _ _).1
  have a4 := stay hB (two_new w _ _).2
  have HB := hid (bgo (btwo w _ _) hB)
  have HT := hid (HT0.out.go HB.out)
  clear hB
  have l3 := lt_of_block a3
  obtain ⟨p30, p31, p32, p33, -, -, -, -⟩ := four a3
  have A3 := hid a3
  clear a3
  have l4 := lt_of_block a4
  have p40 := cell_of (i := 0) a4 rfl
  have p41 := cell_of (i := 1) a4 rfl
  have A4 := hid a4
  clear a4
  (try simp only [])
  go_wp2_with fail
  refine (two_at (ref_at ⟨k, o, r, p⟩ y _ (HT.out.alloc _)) Uq2.out Uq1.out).mono ?_
  rintro v w2 ⟨rfl, hB⟩
  have a3 := stay hB (hkeep A3.out _)
  have a4 := stay hB (hkeep A4.out _)
  have a7 := stay hB (heap_alloc_new _ _)
  have HBn := hid (bgo (HB.out.alloc HB.out.size _) hB)
  clear HB
  have HB := HBn
  clear HBn
  clear A3 l3 p30 p31 p32 p33 A4 l4 p40 p41
  clear HT
  have HT := hid (HT0.out.go HB.out)
  clear hB
  have l3 := lt_of_block a3
  obtain ⟨p30, p31, p32, p33, -, -, -, -⟩ := four a3
  have A3 := hid a3
  clear a3
  have l4 := lt_of_block a4
  have p40 := cell_of (i := 0) a4 rfl
  have p41 := cell_of (i := 1) a4 rfl
  have A4 := hid a4
  clear a4
  have l7 := lt_of_block a7
  obtain ⟨p70, p71, p72, p73, -, -, -, -⟩ := four a7
  have A7 := hid a7
  clear a7
  (try simp only [])
  go_wp2_with fail
  refine (two_at (ref_at ⟨k, o, r + y, p⟩ (-y) _ (HT.out.alloc _)) Uq4.out Uq3.out).mono ?_
  rintro v w3 ⟨rfl, hB⟩
  have a3 := stay hB (hkeep A3.out _)
  have a4 := stay hB (hkeep A4.out _)
  have a7 := stay hB (hkeep A7.out _)
  have a9 := stay hB (heap_alloc_new _ _)
  have HBn := hid (bgo (HB.out.alloc HB.out.size _) hB)
  clear HB
  have HB := HBn
  clear HBn
  clear A3 l3 p30 p31 p32 p33 A4 l4 p40 p41 A7 l7 p70 p71 p72 p73
  clear HT
  have HT := hid (HT0.out.go HB.out)
  clear hB
  have l3 := lt_of_block a3
  obtain ⟨p30, p31, p32, p33, -, -, -, -⟩ := four a3
  have A3 := hid a3
  clear a3
  have l4 := lt_of_block a4
  have p40 := cell_of (i := 0) a4 rfl
  have p41 := cell_of (i := 1) a4 rfl
  have A4 := hid a4
  clear a4
  have l7 := lt_of_block a7
  obtain ⟨p70, p71, p72, p73, -, -, -, -⟩ := four a7
  have A7 := hid a7
  clear a7
  have l9 := lt_of_block a9
  obtain ⟨p90, p91, p92, p93, -, -, -, -⟩ := four a9
  have A9 := hid a9
  clear a9
  (try simp only [])
  go_wp2_with fail
  refine (known_yes _ (HT.out.alloc _)).mono ?_
  rintro v w4 ⟨rfl, hB⟩
  have a3 := stay hB (hkeep A3.out _)
  have a4 := stay hB (hkeep A4.out _)
  have a7 := stay hB (hkeep A7.out _)
  have a9 := stay hB (hkeep A9.out _)
  have a11 := stay hB (heap_alloc_new _ _)
  have HBn := hid (bgo (HB.out.alloc HB.out.size _) hB)
  clear HB
  have HB := HBn
  clear HBn
  clear A3 l3 p30 p31 p32 p33 A4 l4 p40 p41 A7 l7 p70 p71 p72 p73 A9 l9 p90 p91 p92 p93
  clear HT
  have HT := hid (HT0.out.go HB.out)
  clear hB
  have l3 := lt_of_block a3
  obtain ⟨p30, p31, p32, p33, -, -, -, -⟩ := four a3
  have A3 := hid a3
  clear a3
  have l4 := lt_of_block a4
  have p40 := cell_of (i := 0) a4 rfl
  have p41 := cell_of (i := 1) a4 rfl
  have A4 := hid a4
  clear a4
  have l7 := lt_of_block a7
  obtain ⟨p70, p71, p72, p73, -, -, -, -⟩ := four a7
  have A7 := hid a7
  clear a7
  have l9 := lt_of_block a9
  obtain ⟨p90, p91, p92, p93, -, -, -, -⟩ := four a9
  have A9 := hid a9
  clear a9
  have l11 := lt_of_block a11
  obtain ⟨p110, p111, p112, p113, -, -, -, -⟩ := four a11
  have A11 := hid a11
  clear a11
  (try simp only [])
  go_wp2
  go_ret
  exact ⟨rfl, HB.out⟩

set_option maxRecDepth 100000 in
set_option maxHeartbeats 2000000 in
theorem keeps_00 (k o r p a b y : Int) (w : World) (hT : Tab w) (hy0 : 0 ≤ y) (hy1 : y ≤ 65535) (E : Int) (h1 : nxE ⟨k, o, r, p⟩ a b = E) (h2 : nx ⟨k, o, r, p⟩ a b = ⟨0, 0, 0, 0⟩) (h3 : (E == 0) = false) (F : Int) (q1 : rfE ⟨k, o, r, p⟩ y = F) (q2 : rf ⟨k, o, r, p⟩ y = ⟨0, 0, 0, 0⟩) (q3 : (F == 0) = false) :
    Calls Tryd.prog 6 #[.agg #[.int .i64 k, .int .i64 o, .int .i64 r, .int .i64 p], .agg #[.int .i64 a, .int .i64 b], .int .u16 y] w fun v w' => v = .returned (.bool true) ∧ Below w.heap.size w w' := by
  have HT0 := hid hT
  have Uh1 := hid h1
  have Uh2 := hid h2
  have Uq1 := hid q1
  have Uq2 := hid q2
  clear hT h1 h2 q1 q2
  go_enter Tryd.func6, Tryd.ntmps6
  go_wp2_with fail
  refine (two_at (next_at ⟨k, o, r, p⟩ a b _ ((HT0.out.alloc _).alloc _)) Uh2.out Uh1.out).mono ?_
  rintro v w1 ⟨rfl, hB⟩
  have a3 := stay hB (two_new w _ _).1
  have a4 := stay hB (two_new w _ _).2
  have HB := hid (bgo (btwo w _ _) hB)
  have HT := hid (HT0.out.go HB.out)
  clear hB
  have l3 := lt_of_block a3
  obtain ⟨p30, p31, p32, p33, -, -, -, -⟩ := four a3
  have A3 := hid a3
  clear a3
  have l4 := lt_of_block a4
  have p40 := cell_of (i := 0) a4 rfl
  have p41 := cell_of (i := 1) a4 rfl
  have A4 := hid a4
  clear a4
  (try simp only [])
  go_wp2_with fail
  refine (two_at (ref_at ⟨k, o, r, p⟩ y _ (HT.out.alloc _)) Uq2.out Uq1.out).mono ?_
  rintro v w2 ⟨rfl, hB⟩
  have a3 := stay hB (hkeep A3.out _)
  have a4 := stay hB (hkeep A4.out _)
  have a7 := stay hB (heap_alloc_new _ _)
  have HBn := hid (bgo (HB.out.alloc HB.out.size _) hB)
  clear HB
  have HB := HBn
  clear HBn
  clear A3 l3 p30 p31 p32 p33 A4 l4 p40 p41
  clear HT
  have HT := hid (HT0.out.go HB.out)
  clear hB
  have l3 := lt_of_block a3
  obtain ⟨p30, p31, p32, p33, -, -, -, -⟩ := four a3
  have A3 := hid a3
  clear a3
  have l4 := lt_of_block a4
  have p40 := cell_of (i := 0) a4 rfl
  have p41 := cell_of (i := 1) a4 rfl
  have A4 := hid a4
  clear a4
  have l7 := lt_of_block a7
  obtain ⟨p70, p71, p72, p73, -, -, -, -⟩ := four a7
  have A7 := hid a7
  clear a7
  (try simp only [])
  go_wp2_with fail
  refine (two_at (ref_at ⟨0, 0, 0, 0⟩ (-y) _ (HT.out.alloc _)) (rf_zd _).2 (rf_zd _).1).mono ?_
  rintro v w3 ⟨rfl, hB⟩
  have a3 := stay hB (hkeep A3.out _)
  have a4 := stay hB (hkeep A4.out _)
  have a7 := stay hB (hkeep A7.out _)
  have a9 := stay hB (heap_alloc_new _ _)
  have HBn := hid (bgo (HB.out.alloc HB.out.size _) hB)
  clear HB
  have HB := HBn
  clear HBn
  clear A3 l3 p30 p31 p32 p33 A4 l4 p40 p41 A7 l7 p70 p71 p72 p73
  clear HT
  have HT := hid (HT0.out.go HB.out)
  clear hB
  have l3 := lt_of_block a3
  obtain ⟨p30, p31, p32, p33, -, -, -, -⟩ := four a3
  have A3 := hid a3
  clear a3
  have l4 := lt_of_block a4
  have p40 := cell_of (i := 0) a4 rfl
  have p41 := cell_of (i := 1) a4 rfl
  have A4 := hid a4
  clear a4
  have l7 := lt_of_block a7
  obtain ⟨p70, p71, p72, p73, -, -, -, -⟩ := four a7
  have A7 := hid a7
  clear a7
  have l9 := lt_of_block a9
  obtain ⟨p90, p91, p92, p93, -, -, -, -⟩ := four a9
  have A9 := hid a9
  clear a9
  (try simp only [])
  go_wp2_with fail
  refine (known_yes _ (HT.out.alloc _)).mono ?_
  rintro v w4 ⟨rfl, hB⟩
  have a3 := stay hB (hkeep A3.out _)
  have a4 := stay hB (hkeep A4.out _)
  have a7 := stay hB (hkeep A7.out _)
  have a9 := stay hB (hkeep A9.out _)
  have a11 := stay hB (heap_alloc_new _ _)
  have HBn := hid (bgo (HB.out.alloc HB.out.size _) hB)
  clear HB
  have HB := HBn
  clear HBn
  clear A3 l3 p30 p31 p32 p33 A4 l4 p40 p41 A7 l7 p70 p71 p72 p73 A9 l9 p90 p91 p92 p93
  clear HT
  have HT := hid (HT0.out.go HB.out)
  clear hB
  have l3 := lt_of_block a3
  obtain ⟨p30, p31, p32, p33, -, -, -, -⟩ := four a3
  have A3 := hid a3
  clear a3
  have l4 := lt_of_block a4
  have p40 := cell_of (i := 0) a4 rfl
  have p41 := cell_of (i := 1) a4 rfl
  have A4 := hid a4
  clear a4
  have l7 := lt_of_block a7
  obtain ⟨p70, p71, p72, p73, -, -, -, -⟩ := four a7
  have A7 := hid a7
  clear a7
  have l9 := lt_of_block a9
  obtain ⟨p90, p91, p92, p93, -, -, -, -⟩ := four a9
  have A9 := hid a9
  clear a9
  have l11 := lt_of_block a11
  obtain ⟨p110, p111, p112, p113, -, -, -, -⟩ := four a11
  have A11 := hid a11
  clear a11
  (try simp only [])
  go_wp2
  go_ret
  exact ⟨rfl, HB.out⟩

theorem keeps_walk (x : Ds) (a b y : Int) (hy0 : 0 ≤ y) (hy1 : y ≤ 65535) (w : World) (hT : Tab w) :
    Calls Tryd.prog 6 #[dV x, .agg #[.int .i64 a, .int .i64 b], .int .u16 y] w fun v w' => v = .returned (.bool true) ∧ Below w.heap.size w w' := by
  obtain ⟨k, o, r, p⟩ := x
  by_cases hE : nxE ⟨k, o, r, p⟩ a b = 0
  · obtain ⟨n, h2, h3, hr⟩ := nx_facts hE
    have h4 : ¬ 0 < r := by omega
    by_cases ha : a = 0
    · have h5 : (a != 0) = false := by simpa using ha
      by_cases hF : rfE ⟨k, o, r, p⟩ y = 0
      · obtain ⟨q2, ⟨q3, q4⟩, q5⟩ := rf_back hF
        exact keeps_11 k o r p a b y w hT hy0 hy1 n hE h2 h3 h4 h5 hF q2 q3 q4 q5
      · exact keeps_10 k o r p a b y w hT hy0 hy1 n hE h2 h3 h4 h5 _ rfl (rf_not hF) (by simpa using hF)
    · have h5 : (a != 0) = true := by simpa using ha
      have h6 := nx_free h3 ha
      by_cases hF : rfE ⟨k, o, r, p⟩ y = 0
      · obtain ⟨q2, ⟨q3, q4⟩, q5⟩ := rf_back hF
        exact keeps_21 k o r p a b y w hT hy0 hy1 n hE h2 h3 h4 h5 h6.1 h6.2 hF q2 q3 q4 q5
      · exact keeps_20 k o r p a b y w hT hy0 hy1 n hE h2 h3 h4 h5 h6.1 h6.2 _ rfl (rf_not hF) (by simpa using hF)
  · by_cases hF : rfE ⟨k, o, r, p⟩ y = 0
    · obtain ⟨q2, ⟨q3, q4⟩, q5⟩ := rf_back hF
      exact keeps_01 k o r p a b y w hT hy0 hy1 _ rfl (nx_not hE) (by simpa using hE) hF q2 q3 q4 q5
    · exact keeps_00 k o r p a b y w hT hy0 hy1 _ rfl (nx_not hE) (by simpa using hE) _ rfl (rf_not hF) (by simpa using hF)
end Go.Proofs.YtacifhfkadnklaaDoor
