/- The walk of DescBack: for every descriptor and every word it returns true; nothing that lay before is changed. Condition: the package's two tables lie in their variables. -/
import Derived.Test.YtacifhfkadnklaaDoorL7
namespace Go.Proofs.YtacifhfkadnklaaDoor
open Go.RowKit

theorem wt_at {x e x' e' : Int} {fn : FuncId} {args : Array Value} {w : World} (h : Calls Tryd.prog fn args w fun v w' => v = .returned (wtwo x e) ∧ Below w.heap.size w w') (hx : x = x') (he : e = e') :
    Calls Tryd.prog fn args w fun v w' => v = .returned (.tuple #[.int .u64 x', .int .i64 e']) ∧ Below w.heap.size w w' := by
  subst hx he; exact h
theorem pt_at {d : Ds} {k o r p : Int} {b b' : Bool} {fn : FuncId} {args : Array Value} {w : World} (h : Calls Tryd.prog fn args w fun v w' => v = .returned (ptwo d b) ∧ Below w.heap.size w w') (hd : d = ⟨k, o, r, p⟩) (hb : b = b') :
    Calls Tryd.prog fn args w fun v w' => v = .returned (.tuple #[.agg #[.int .i64 k, .int .i64 o, .int .i64 r, .int .i64 p], .bool b']) ∧ Below w.heap.size w w' := by
  subst hd hb; exact h
theorem bl_at {b b' : Bool} {fn : FuncId} {args : Array Value} {w : World} (h : Calls Tryd.prog fn args w fun v w' => v = .returned (.bool b) ∧ Below w.heap.size w w') (hb : b = b') :
    Calls Tryd.prog fn args w fun v w' => v = .returned (.bool b') ∧ Below w.heap.size w w' := by
  subst hb; exact h
theorem pk_yes {d : Ds} (h : rt d = true) : pk d = wd d ∧ pkE d = 0 := by simp [pk, pkE, h]
theorem pk_no {d : Ds} (h : rt d = false) : pk d = 0 ∧ pkE d = 11 := by simp [pk, pkE, h]
theorem pr_zero : prD 0 = ⟨0, 0, 0, 0⟩ ∧ prY 0 = true := ⟨by rfl, by rfl⟩
theorem pr_no {x : Nat} (h : prY x = false) : prD x = ⟨0, 0, 0, 0⟩ := by simp [prD, h]; rfl
theorem pk_zero : pk ⟨0, 0, 0, 0⟩ = 0 ∧ pkE ⟨0, 0, 0, 0⟩ = 0 := ⟨by rfl, by rfl⟩

set_option maxRecDepth 100000 in
set_option maxHeartbeats 1000000 in
theorem back_11 (k o r p : Int) (y : Nat) (hy : y < 18446744073709551616) (w : World) (hT : Tab w) (h1 : rt ⟨k, o, r, p⟩ = true) (n : Nat) (hn : wd ⟨k, o, r, p⟩ = n) (hl : n < 18446744073709551616) (hp : prD n = ⟨k, o, r, p⟩) (hq : prY n = true) (k2 o2 r2 p2 : Int) (g1 : prD y = ⟨k2, o2, r2, p2⟩) (g2 : prY y = true) (g3 : rt ⟨k2, o2, r2, p2⟩ = true) (g4 : wd ⟨k2, o2, r2, p2⟩ = y) :
    Calls Tryd.prog 5 #[.agg #[.int .i64 k, .int .i64 o, .int .i64 r, .int .i64 p], .int .u64 y] w fun v w' => v = .returned (.bool true) ∧ Below w.heap.size w w' := by
  have Uhy := hid hy
  have HT0 := hid hT
  have Uh1 := hid h1
  have Uhn := hid hn
  have Uhl := hid hl
  have Uhp := hid hp
  have Uhq := hid hq
  have Ug1 := hid g1
  have Ug2 := hid g2
  have Ug3 := hid g3
  have Ug4 := hid g4
  clear hy hT h1 hn hl hp hq g1 g2 g3 g4
  have e1 : (k == k) = true := by simp
  have e2 : (o == o) = true := by simp
  have e3 : (r == r) = true := by simp
  have e4 : (p == p) = true := by simp
  have e5 : ((y : Int) == y) = true := by simp
  go_enter Tryd.func5, Tryd.ntmps5
  go_wp2_with fail
  refine (wt_at (pack_at ⟨k, o, r, p⟩ _ (HT0.out.alloc _)) ((pk_yes Uh1.out).1.trans Uhn.out) (pk_yes Uh1.out).2).mono ?_
  rintro v w1 ⟨rfl, hB⟩
  have a2 := stay hB (heap_alloc_new _ _)
  have HB := hid (bgo (below_one w _) hB)
  have HT := hid (HT0.out.go HB.out)
  clear hB
  have l2 := lt_of_block a2
  obtain ⟨p20, p21, p22, p23, -, -, -, -⟩ := four a2
  have A2 := hid a2
  clear a2
  (try simp only [])
  go_wp2_with fail
  refine (pt_at (parse_at n Uhl.out _ HT.out) Uhp.out Uhq.out).mono ?_
  rintro v w2 ⟨rfl, hB⟩
  have a2 := stay hB A2.out
  have HBn := hid (bgo HB.out hB)
  clear HB
  have HB := HBn
  clear HBn
  clear A2 l2 p20 p21 p22 p23
  clear HT
  have HT := hid (HT0.out.go HB.out)
  clear hB
  have l2 := lt_of_block a2
  obtain ⟨p20, p21, p22, p23, -, -, -, -⟩ := four a2
  have A2 := hid a2
  clear a2
  (try simp only [])
  go_wp2_with fail
  refine (pt_at (parse_at y Uhy.out _ (HT.out.alloc _)) Ug1.out Ug2.out).mono ?_
  rintro v w3 ⟨rfl, hB⟩
  have a2 := stay hB (hkeep A2.out _)
  have a7 := stay hB (heap_alloc_new _ _)
  have HBn := hid (bgo (HB.out.alloc HB.out.size _) hB)
  clear HB
  have HB := HBn
  clear HBn
  clear A2 l2 p20 p21 p22 p23
  clear HT
  have HT := hid (HT0.out.go HB.out)
  clear hB
  have l2 := lt_of_block a2
  obtain ⟨p20, p21, p22, p23, -, -, -, -⟩ := four a2
  have A2 := hid a2
  clear a2
  have l7 := lt_of_block a7
  obtain ⟨p70, p71, p72, p73, -, -, -, -⟩ := four a7
  have A7 := hid a7
  clear a7
  (try simp only [])
  go_wp2_with fail
  refine (wt_at (pack_at ⟨k2, o2, r2, p2⟩ _ (HT.out.alloc _)) ((pk_yes Ug3.out).1.trans Ug4.out) (pk_yes Ug3.out).2).mono ?_
  rintro v w4 ⟨rfl, hB⟩
  have a2 := stay hB (hkeep A2.out _)
  have a7 := stay hB (hkeep A7.out _)
  have a9 := stay hB (heap_alloc_new _ _)
  have HBn := hid (bgo (HB.out.alloc HB.out.size _) hB)
  clear HB
  have HB := HBn
  clear HBn
  clear A2 l2 p20 p21 p22 p23 A7 l7 p70 p71 p72 p73
  clear HT
  have HT := hid (HT0.out.go HB.out)
  clear hB
  have l2 := lt_of_block a2
  obtain ⟨p20, p21, p22, p23, -, -, -, -⟩ := four a2
  have A2 := hid a2
  clear a2
  have l7 := lt_of_block a7
  obtain ⟨p70, p71, p72, p73, -, -, -, -⟩ := four a7
  have A7 := hid a7
  clear a7
  have l9 := lt_of_block a9
  obtain ⟨p90, p91, p92, p93, -, -, -, -⟩ := four a9
  have A9 := hid a9
  clear a9
  (try simp only [])
  go_wp2_with fail
  refine (bl_at (right_at ⟨k, o, r, p⟩ _ HT.out) Uh1.out).mono ?_
  rintro v w5 ⟨rfl, hB⟩
  have a2 := stay hB A2.out
  have a7 := stay hB A7.out
  have a9 := stay hB A9.out
  have HBn := hid (bgo HB.out hB)
  clear HB
  have HB := HBn
  clear HBn
  clear A2 l2 p20 p21 p22 p23 A7 l7 p70 p71 p72 p73 A9 l9 p90 p91 p92 p93
  clear HT
  have HT := hid (HT0.out.go HB.out)
  clear hB
  have l2 := lt_of_block a2
  obtain ⟨p20, p21, p22, p23, -, -, -, -⟩ := four a2
  have A2 := hid a2
  clear a2
  have l7 := lt_of_block a7
  obtain ⟨p70, p71, p72, p73, -, -, -, -⟩ := four a7
  have A7 := hid a7
  clear a7
  have l9 := lt_of_block a9
  obtain ⟨p90, p91, p92, p93, -, -, -, -⟩ := four a9
  have A9 := hid a9
  clear a9
  (try simp only [])
  go_wp2_with fail
  refine (bl_at (right_at ⟨k2, o2, r2, p2⟩ _ HT.out) Ug3.out).mono ?_
  rintro v w6 ⟨rfl, hB⟩
  have a2 := stay hB A2.out
  have a7 := stay hB A7.out
  have a9 := stay hB A9.out
  have HBn := hid (bgo HB.out hB)
  clear HB
  have HB := HBn
  clear HBn
  clear A2 l2 p20 p21 p22 p23 A7 l7 p70 p71 p72 p73 A9 l9 p90 p91 p92 p93
  clear HT
  have HT := hid (HT0.out.go HB.out)
  clear hB
  have l2 := lt_of_block a2
  obtain ⟨p20, p21, p22, p23, -, -, -, -⟩ := four a2
  have A2 := hid a2
  clear a2
  have l7 := lt_of_block a7
  obtain ⟨p70, p71, p72, p73, -, -, -, -⟩ := four a7
  have A7 := hid a7
  clear a7
  have l9 := lt_of_block a9
  obtain ⟨p90, p91, p92, p93, -, -, -, -⟩ := four a9
  have A9 := hid a9
  clear a9
  (try simp only [])
  go_wp2_with fail
  refine (known_yes _ HT.out).mono ?_
  rintro v w7 ⟨rfl, hB⟩
  have a2 := stay hB A2.out
  have a7 := stay hB A7.out
  have a9 := stay hB A9.out
  have HBn := hid (bgo HB.out hB)
  clear HB
  have HB := HBn
  clear HBn
  clear A2 l2 p20 p21 p22 p23 A7 l7 p70 p71 p72 p73 A9 l9 p90 p91 p92 p93
  clear HT
  have HT := hid (HT0.out.go HB.out)
  clear hB
  have l2 := lt_of_block a2
  obtain ⟨p20, p21, p22, p23, -, -, -, -⟩ := four a2
  have A2 := hid a2
  clear a2
  have l7 := lt_of_block a7
  obtain ⟨p70, p71, p72, p73, -, -, -, -⟩ := four a7
  have A7 := hid a7
  clear a7
  have l9 := lt_of_block a9
  obtain ⟨p90, p91, p92, p93, -, -, -, -⟩ := four a9
  have A9 := hid a9
  clear a9
  (try simp only [])
  go_wp2
  go_ret
  exact ⟨rfl, HB.out⟩

set_option maxRecDepth 100000 in
set_option maxHeartbeats 1000000 in
theorem back_10 (k o r p : Int) (y : Nat) (hy : y < 18446744073709551616) (w : World) (hT : Tab w) (h1 : rt ⟨k, o, r, p⟩ = true) (n : Nat) (hn : wd ⟨k, o, r, p⟩ = n) (hl : n < 18446744073709551616) (hp : prD n = ⟨k, o, r, p⟩) (hq : prY n = true) (g2 : prY y = false) :
    Calls Tryd.prog 5 #[.agg #[.int .i64 k, .int .i64 o, .int .i64 r, .int .i64 p], .int .u64 y] w fun v w' => v = .returned (.bool true) ∧ Below w.heap.size w w' := by
  have Uhy := hid hy
  have HT0 := hid hT
  have Uh1 := hid h1
  have Uhn := hid hn
  have Uhl := hid hl
  have Uhp := hid hp
  have Uhq := hid hq
  have Ug2 := hid g2
  clear hy hT h1 hn hl hp hq g2
  have e1 : (k == k) = true := by simp
  have e2 : (o == o) = true := by simp
  have e3 : (r == r) = true := by simp
  have e4 : (p == p) = true := by simp
  go_enter Tryd.func5, Tryd.ntmps5
  go_wp2_with fail
  refine (wt_at (pack_at ⟨k, o, r, p⟩ _ (HT0.out.alloc _)) ((pk_yes Uh1.out).1.trans Uhn.out) (pk_yes Uh1.out).2).mono ?_
  rintro v w1 ⟨rfl, hB⟩
  have a2 := stay hB (heap_alloc_new _ _)
  have HB := hid (bgo (below_one w _) hB)
  have HT := hid (HT0.out.go HB.out)
  clear hB
  have l2 := lt_of_block a2
  obtain ⟨p20, p21, p22, p23, -, -, -, -⟩ := four a2
  have A2 := hid a2
  clear a2
  (try simp only [])
  go_wp2_with fail
  refine (pt_at (parse_at n Uhl.out _ HT.out) Uhp.out Uhq.out).mono ?_
  rintro v w2 ⟨rfl, hB⟩
  have a2 := stay hB A2.out
  have HBn := hid (bgo HB.out hB)
  clear HB
  have HB := HBn
  clear HBn
  clear A2 l2 p20 p21 p22 p23
  clear HT
  have HT := hid (HT0.out.go HB.out)
  clear hB
  have l2 := lt_of_block a2
  obtain ⟨p20, p21, p22, p23, -, -, -, -⟩ := four a2
  have A2 := hid a2
  clear a2
  (try simp only [])
  go_wp2_with fail
  refine (pt_at (parse_at y Uhy.out _ (HT.out.alloc _)) (pr_no Ug2.out) Ug2.out).mono ?_
  rintro v w3 ⟨rfl, hB⟩
  have a2 := stay hB (hkeep A2.out _)
  have a7 := stay hB (heap_alloc_new _ _)
  have HBn := hid (bgo (HB.out.alloc HB.out.size _) hB)
  clear HB
  have HB := HBn
  clear HBn
  clear A2 l2 p20 p21 p22 p23
  clear HT
  have HT := hid (HT0.out.go HB.out)
  clear hB
  have l2 := lt_of_block a2
  obtain ⟨p20, p21, p22, p23, -, -, -, -⟩ := four a2
  have A2 := hid a2
  clear a2
  have l7 := lt_of_block a7
  obtain ⟨p70, p71, p72, p73, -, -, -, -⟩ := four a7
  have A7 := hid a7
  clear a7
  (try simp only [])
  go_wp2_with fail
  refine (wt_at (pack_at ⟨0, 0, 0, 0⟩ _ (HT.out.alloc _)) pk_zero.1 pk_zero.2).mono ?_
  rintro v w4 ⟨rfl, hB⟩
  have a2 := stay hB (hkeep A2.out _)
  have a7 := stay hB (hkeep A7.out _)
  have a9 := stay hB (heap_alloc_new _ _)
  have HBn := hid (bgo (HB.out.alloc HB.out.size _) hB)
  clear HB
  have HB := HBn
  clear HBn
  clear A2 l2 p20 p21 p22 p23 A7 l7 p70 p71 p72 p73
  clear HT
  have HT := hid (HT0.out.go HB.out)
  clear hB
  have l2 := lt_of_block a2
  obtain ⟨p20, p21, p22, p23, -, -, -, -⟩ := four a2
  have A2 := hid a2
  clear a2
  have l7 := lt_of_block a7
  obtain ⟨p70, p71, p72, p73, -, -, -, -⟩ := four a7
  have A7 := hid a7
  clear a7
  have l9 := lt_of_block a9
  obtain ⟨p90, p91, p92, p93, -, -, -, -⟩ := four a9
  have A9 := hid a9
  clear a9
  (try simp only [])
  go_wp2_with fail
  refine (bl_at (right_at ⟨k, o, r, p⟩ _ HT.out) Uh1.out).mono ?_
  rintro v w5 ⟨rfl, hB⟩
  have a2 := stay hB A2.out
  have a7 := stay hB A7.out
  have a9 := stay hB A9.out
  have HBn := hid (bgo HB.out hB)
  clear HB
  have HB := HBn
  clear HBn
  clear A2 l2 p20 p21 p22 p23 A7 l7 p70 p71 p72 p73 A9 l9 p90 p91 p92 p93
  clear HT
  have HT := hid (HT0.out.go HB.out)
  clear hB
  have l2 := lt_of_block a2
  obtain ⟨p20, p21, p22, p23, -, -, -, -⟩ := four a2
  have A2 := hid a2
  clear a2
  have l7 := lt_of_block a7
  obtain ⟨p70, p71, p72, p73, -, -, -, -⟩ := four a7
  have A7 := hid a7
  clear a7
  have l9 := lt_of_block a9
  obtain ⟨p90, p91, p92, p93, -, -, -, -⟩ := four a9
  have A9 := hid a9
  clear a9
  (try simp only [])
  go_wp2_with fail
  refine (known_yes _ HT.out).mono ?_
  rintro v w6 ⟨rfl, hB⟩
  have a2 := stay hB A2.out
  have a7 := stay hB A7.out
  have a9 := stay hB A9.out
  have HBn := hid (bgo HB.out hB)
  clear HB
  have HB := HBn
  clear HBn
  clear A2 l2 p20 p21 p22 p23 A7 l7 p70 p71 p72 p73 A9 l9 p90 p91 p92 p93
  clear HT
  have HT := hid (HT0.out.go HB.out)
  clear hB
  have l2 := lt_of_block a2
  obtain ⟨p20, p21, p22, p23, -, -, -, -⟩ := four a2
  have A2 := hid a2
  clear a2
  have l7 := lt_of_block a7
  obtain ⟨p70, p71, p72, p73, -, -, -, -⟩ := four a7
  have A7 := hid a7
  clear a7
  have l9 := lt_of_block a9
  obtain ⟨p90, p91, p92, p93, -, -, -, -⟩ := four a9
  have A9 := hid a9
  clear a9
  (try simp only [])
  go_wp2
  go_ret
  exact ⟨rfl, HB.out⟩

set_option maxRecDepth 100000 in
set_option maxHeartbeats 1000000 in
theorem back_01 (k o r p : Int) (y : Nat) (hy : y < 18446744073709551616) (w : World) (hT : Tab w) (h1 : rt ⟨k, o, r, p⟩ = false) (k2 o2 r2 p2 : Int) (g1 : prD y = ⟨k2, o2, r2, p2⟩) (g2 : prY y = true) (g3 : rt ⟨k2, o2, r2, p2⟩ = true) (g4 : wd ⟨k2, o2, r2, p2⟩ = y) :
    Calls Tryd.prog 5 #[.agg #[.int .i64 k, .int .i64 o, .int .i64 r, .int .i64 p], .int .u64 y] w fun v w' => v = .returned (.bool true) ∧ Below w.heap.size w w' := by
  have Uhy := hid hy
  have HT0 := hid hT
  have Uh1 := hid h1
  have Ug1 := hid g1
  have Ug2 := hid g2
  have Ug3 := hid g3
  have Ug4 := hid g4
  clear hy hT h1 g1 g2 g3 g4
  have e5 : ((y : Int) == y) = true := by simp
  go_enter Tryd.func5, Tryd.ntmps5
  go_wp2_with fail
  refine (wt_at (pack_at ⟨k, o, r, p⟩ _ (HT0.out.alloc _)) (pk_no Uh1.out).1 (pk_no Uh1.out).2).mono ?_
  rintro v w1 ⟨rfl, hB⟩
  have a2 := stay hB (heap_alloc_new _ _)
  have HB := hid (bgo (below_one w _) hB)
  have HT := hid (HT0.out.go HB.out)
  clear hB
  have l2 := lt_of_block a2
  obtain ⟨p20, p21, p22, p23, -, -, -, -⟩ := four a2
  have A2 := hid a2
  clear a2
  (try simp only [])
  go_wp2_with fail
  refine (pt_at (parse_at 0 (by decide) _ HT.out) pr_zero.1 pr_zero.2).mono ?_
  rintro v w2 ⟨rfl, hB⟩
  have a2 := stay hB A2.out
  have HBn := hid (bgo HB.out hB)
  clear HB
  have HB := HBn
  clear HBn
  clear A2 l2 p20 p21 p22 p23
  clear HT
  have HT := hid (HT0.out.go HB.out)
  clear hB
  have l2 := lt_of_block a2
  obtain ⟨p20, p21, p22, p23, -, -, -, -⟩ := four a2
  have A2 := hid a2
  clear a2
  (try simp only [])
  go_wp2_with fail
  refine (pt_at (parse_at y Uhy.out _ (HT.out.alloc _)) Ug1.out Ug2.out).mono ?_
  rintro v w3 ⟨rfl, hB⟩
  have a2 := stay hB (hkeep A2.out _)
  have a7 := stay hB (heap_alloc_new _ _)
  have HBn := hid (bgo (HB.out.alloc HB.out.size _) hB)
  clear HB
  have HB := HBn
  clear HBn
  clear A2 l2 p20 p21 p22 p23
  clear HT
  have HT := hid (HT0.out.go HB.out)
  clear hB
  have l2 := lt_of_block a2
  obtain ⟨p20, p21, p22, p23, -, -, -, -⟩ := four a2
  have A2 := hid a2
  clear a2
  have l7 := lt_of_block a7
  obtain ⟨p70, p71, p72, p73, -, -, -, -⟩ := four a7
  have A7 := hid a7
  clear a7
  (try simp only [])
  go_wp2_with fail
  refine (wt_at (pack_at ⟨k2, o2, r2, p2⟩ _ (HT.out.alloc _)) ((pk_yes Ug3.out).1.trans Ug4.out) (pk_yes Ug3.out).2).mono ?_
  rintro v w4 ⟨rfl, hB⟩
  have a2 := stay hB (hkeep A2.out _)
  have a7 := stay hB (hkeep A7.out _)
  have a9 := stay hB (heap_alloc_new _ _)
  have HBn := hid (bgo (HB.out.alloc HB.out.size _) hB)
  clear HB
  have HB := HBn
  clear HBn
  clear A2 l2 p20 p21 p22 p23 A7 l7 p70 p71 p72 p73
  clear HT
  have HT := hid (HT0.out.go HB.out)
  clear hB
  have l2 := lt_of_block a2
  obtain ⟨p20, p21, p22, p23, -, -, -, -⟩ := four a2
  have A2 := hid a2
  clear a2
  have l7 := lt_of_block a7
  obtain ⟨p70, p71, p72, p73, -, -, -, -⟩ := four a7
  have A7 := hid a7
  clear a7
  have l9 := lt_of_block a9
  obtain ⟨p90, p91, p92, p93, -, -, -, -⟩ := four a9
  have A9 := hid a9
  clear a9
  (try simp only [])
  go_wp2_with fail
  refine (bl_at (right_at ⟨k, o, r, p⟩ _ HT.out) Uh1.out).mono ?_
  rintro v w5 ⟨rfl, hB⟩
  have a2 := stay hB A2.out
  have a7 := stay hB A7.out
  have a9 := stay hB A9.out
  have HBn := hid (bgo HB.out hB)
  clear HB
  have HB := HBn
  clear HBn
  clear A2 l2 p20 p21 p22 p23 A7 l7 p70 p71 p72 p73 A9 l9 p90 p91 p92 p93
  clear HT
  have HT := hid (HT0.out.go HB.out)
  clear hB
  have l2 := lt_of_block a2
  obtain ⟨p20, p21, p22, p23, -, -, -, -⟩ := four a2
  have A2 := hid a2
  clear a2
  have l7 := lt_of_block a7
  obtain ⟨p70, p71, p72, p73, -, -, -, -⟩ := four a7
  have A7 := hid a7
  clear a7
  have l9 := lt_of_block a9
  obtain ⟨p90, p91, p92, p93, -, -, -, -⟩ := four a9
  have A9 := hid a9
  clear a9
  (try simp only [])
  go_wp2_with fail
  refine (bl_at (right_at ⟨k2, o2, r2, p2⟩ _ HT.out) Ug3.out).mono ?_
  rintro v w6 ⟨rfl, hB⟩
  have a2 := stay hB A2.out
  have a7 := stay hB A7.out
  have a9 := stay hB A9.out
  have HBn := hid (bgo HB.out hB)
  clear HB
  have HB := HBn
  clear HBn
  clear A2 l2 p20 p21 p22 p23 A7 l7 p70 p71 p72 p73 A9 l9 p90 p91 p92 p93
  clear HT
  have HT := hid (HT0.out.go HB.out)
  clear hB
  have l2 := lt_of_block a2
  obtain ⟨p20, p21, p22, p23, -, -, -, -⟩ := four a2
  have A2 := hid a2
  clear a2
  have l7 := lt_of_block a7
  obtain ⟨p70, p71, p72, p73, -, -, -, -⟩ := four a7
  have A7 := hid a7
  clear a7
  have l9 := lt_of_block a9
  obtain ⟨p90, p91, p92, p93, -, -, -, -⟩ := four a9
  have A9 := hid a9
  clear a9
  (try simp only [])
  go_wp2_with fail
  refine (known_yes _ HT.out).mono ?_
  rintro v w7 ⟨rfl, hB⟩
  have a2 := stay hB A2.out
  have a7 := stay hB A7.out
  have a9 := stay hB A9.out
  have HBn := hid (bgo HB.out hB)
  clear HB
  have HB := HBn
  clear HBn
  clear A2 l2 p20 p21 p22 p23 A7 l7 p70 p71 p72 p73 A9 l9 p90 p91 p92 p93
  clear HT
  have HT := hid (HT0.out.go HB.out)
  clear hB
  have l2 := lt_of_block a2
  obtain ⟨p20, p21, p22, p23, -, -, -, -⟩ := four a2
  have A2 := hid a2
  clear a2
  have l7 := lt_of_block a7
  obtain ⟨p70, p71, p72, p73, -, -, -, -⟩ := four a7
  have A7 := hid a7
  clear a7
  have l9 := lt_of_block a9
  obtain ⟨p90, p91, p92, p93, -, -, -, -⟩ := four a9
  have A9 := hid a9
  clear a9
  (try simp only [])
  go_wp2
  go_ret
  exact ⟨rfl, HB.out⟩

set_option maxRecDepth 100000 in
set_option maxHeartbeats 1000000 in
theorem back_00 (k o r p : Int) (y : Nat) (hy : y < 18446744073709551616) (w : World) (hT : Tab w) (h1 : rt ⟨k, o, r, p⟩ = false) (g2 : prY y = false) :
    Calls Tryd.prog 5 #[.agg #[.int .i64 k, .int .i64 o, .int .i64 r, .int .i64 p], .int .u64 y] w fun v w' => v = .returned (.bool true) ∧ Below w.heap.size w w' := by
  have Uhy := hid hy
  have HT0 := hid hT
  have Uh1 := hid h1
  have Ug2 := hid g2
  clear hy hT h1 g2
  go_enter Tryd.func5, Tryd.ntmps5
  go_wp2_with fail
  refine (wt_at (pack_at ⟨k, o, r, p⟩ _ (HT0.out.alloc _)) (pk_no Uh1.out).1 (pk_no Uh1.out).2).mono ?_
  rintro v w1 ⟨rfl, hB⟩
  have a2 := stay hB (heap_alloc_new _ _)
  have HB := hid (bgo (below_one w _) hB)
  have HT := hid (HT0.out.go HB.out)
  clear hB
  have l2 := lt_of_block a2
  obtain ⟨p20, p21, p22, p23, -, -, -, -⟩ := four a2
  have A2 := hid a2
  clear a2
  (try simp only [])
  go_wp2_with fail
  refine (pt_at (parse_at 0 (by decide) _ HT.out) pr_zero.1 pr_zero.2).mono ?_
  rintro v w2 ⟨rfl, hB⟩
  have a2 := stay hB A2.out
  have HBn := hid (bgo HB.out hB)
  clear HB
  have HB := HBn
  clear HBn
  clear A2 l2 p20 p21 p22 p23
  clear HT
  have HT := hid (HT0.out.go HB.out)
  clear hB
  have l2 := lt_of_block a2
  obtain ⟨p20, p21, p22, p23, -, -, -, -⟩ := four a2
  have A2 := hid a2
  clear a2
  (try simp only [])
  go_wp2_with fail
  refine (pt_at (parse_at y Uhy.out _ (HT.out.alloc _)) (pr_no Ug2.out) Ug2.out).mono ?_
  rintro v w3 ⟨rfl, hB⟩
  have a2 := stay hB (hkeep A2.out _)
  have a7 := stay hB (heap_alloc_new _ _)
  have HBn := hid (bgo (HB.out.alloc HB.out.size _) hB)
  clear HB
  have HB := HBn
  clear HBn
  clear A2 l2 p20 p21 p22 p23
  clear HT
  have HT := hid (HT0.out.go HB.out)
  clear hB
  have l2 := lt_of_block a2
  obtain ⟨p20, p21, p22, p23, -, -, -, -⟩ := four a2
  have A2 := hid a2
  clear a2
  have l7 := lt_of_block a7
  obtain ⟨p70, p71, p72, p73, -, -, -, -⟩ := four a7
  have A7 := hid a7
  clear a7
  (try simp only [])
  go_wp2_with fail
  refine (wt_at (pack_at ⟨0, 0, 0, 0⟩ _ (HT.out.alloc _)) pk_zero.1 pk_zero.2).mono ?_
  rintro v w4 ⟨rfl, hB⟩
  have a2 := stay hB (hkeep A2.out _)
  have a7 := stay hB (hkeep A7.out _)
  have a9 := stay hB (heap_alloc_new _ _)
  have HBn := hid (bgo (HB.out.alloc HB.out.size _) hB)
  clear HB
  have HB := HBn
  clear HBn
  clear A2 l2 p20 p21 p22 p23 A7 l7 p70 p71 p72 p73
  clear HT
  have HT := hid (HT0.out.go HB.out)
  clear hB
  have l2 := lt_of_block a2
  obtain ⟨p20, p21, p22, p23, -, -, -, -⟩ := four a2
  have A2 := hid a2
  clear a2
  have l7 := lt_of_block a7
  obtain ⟨p70, p71, p72, p73, -, -, -, -⟩ := four a7
  have A7 := hid a7
  clear a7
  have l9 := lt_of_block a9
  obtain ⟨p90, p91, p92, p93, -, -, -, -⟩ := four a9
  have A9 := hid a9
  clear a9
  (try simp only [])
  go_wp2_with fail
  refine (bl_at (right_at ⟨k, o, r, p⟩ _ HT.out) Uh1.out).mono ?_
  rintro v w5 ⟨rfl, hB⟩
  have a2 := stay hB A2.out
  have a7 := stay hB A7.out
  have a9 := stay hB A9.out
  have HBn := hid (bgo HB.out hB)
  clear HB
  have HB := HBn
  clear HBn
  clear A2 l2 p20 p21 p22 p23 A7 l7 p70 p71 p72 p73 A9 l9 p90 p91 p92 p93
  clear HT
  have HT := hid (HT0.out.go HB.out)
  clear hB
  have l2 := lt_of_block a2
  obtain ⟨p20, p21, p22, p23, -, -, -, -⟩ := four a2
  have A2 := hid a2
  clear a2
  have l7 := lt_of_block a7
  obtain ⟨p70, p71, p72, p73, -, -, -, -⟩ := four a7
  have A7 := hid a7
  clear a7
  have l9 := lt_of_block a9
  obtain ⟨p90, p91, p92, p93, -, -, -, -⟩ := four a9
  have A9 := hid a9
  clear a9
  (try simp only [])
  go_wp2_with fail
  refine (known_yes _ HT.out).mono ?_
  rintro v w6 ⟨rfl, hB⟩
  have a2 := stay hB A2.out
  have a7 := stay hB A7.out
  have a9 := stay hB A9.out
  have HBn := hid (bgo HB.out hB)
  clear HB
  have HB := HBn
  clear HBn
  clear A2 l2 p20 p21 p22 p23 A7 l7 p70 p71 p72 p73 A9 l9 p90 p91 p92 p93
  clear HT
  have HT := hid (HT0.out.go HB.out)
  clear hB
  have l2 := lt_of_block a2
  obtain ⟨p20, p21, p22, p23, -, -, -, -⟩ := four a2
  have A2 := hid a2
  clear a2
  have l7 := lt_of_block a7
  obtain ⟨p70, p71, p72, p73, -, -, -, -⟩ := four a7
  have A7 := hid a7
  clear a7
  have l9 := lt_of_block a9
  obtain ⟨p90, p91, p92, p93, -, -, -, -⟩ := four a9
  have A9 := hid a9
  clear a9
  (try simp only [])
  go_wp2
  go_ret
  exact ⟨rfl, HB.out⟩

theorem wd_nat {d : Ds} (h : rt d = true) : ∃ n : Nat, wd d = n ∧ n < 18446744073709551616 ∧ rd n = d := by
  have h' := (rt_iff d).1 h
  obtain ⟨k, o, r, e⟩ := d
  simp only at h'
  obtain ⟨k, rfl⟩ := Int.eq_ofNat_of_zero_le (show 0 ≤ k by omega)
  obtain ⟨o, rfl⟩ := Int.eq_ofNat_of_zero_le (show 0 ≤ o by omega)
  obtain ⟨r, rfl⟩ := Int.eq_ofNat_of_zero_le (show 0 ≤ r by omega)
  obtain ⟨e, rfl⟩ := Int.eq_ofNat_of_zero_le (show 0 ≤ e by omega)
  have a1 : k ≤ 5 := by omega
  have a2 : o ≤ 16 := by omega
  have a3 : r ≤ 65535 := by omega
  have a4 : e ≤ 4294967295 := by omega
  clear h' h
  refine ⟨k + 16 * o + 4096 * r + 4294967296 * e, by unfold wd; simp, by omega, ?_⟩
  unfold rd
  congr 1
  · congr 1; omega
  · congr 1; omega
  · congr 1; omega
  · congr 1; omega

theorem back_walk (x : Ds) (y : Nat) (hy : y < 18446744073709551616) (w : World) (hT : Tab w) :
    Calls Tryd.prog 5 #[dV x, .int .u64 y] w fun v w' => v = .returned (.bool true) ∧ Below w.heap.size w w' := by
  cases g2 : prY y
  · cases h1 : rt x
    · exact back_00 x.k x.o x.r x.e y hy w hT h1 g2
    · obtain ⟨n, hn, hl, hr⟩ := wd_nat h1
      have hq : prY n = true := by unfold prY; rw [hr, h1, hn]; simp
      exact back_10 x.k x.o x.r x.e y hy w hT h1 n hn hl (by simp [prD, hq, hr]) hq g2
  · have g1 : prD y = rd y := by simp [prD, g2]
    have g := g2
    unfold prY at g
    simp only [Bool.and_eq_true, beq_iff_eq] at g
    cases h1 : rt x
    · exact back_01 x.k x.o x.r x.e y hy w hT h1 _ _ _ _ g1 g2 g.1 g.2
    · obtain ⟨n, hn, hl, hr⟩ := wd_nat h1
      have hq : prY n = true := by unfold prY; rw [hr, h1, hn]; simp
      exact back_11 x.k x.o x.r x.e y hy w hT h1 n hn hl (by simp [prD, hq, hr]) hq _ _ _ _ g1 g2 g.1 g.2
end Go.Proofs.YtacifhfkadnklaaDoor
