/- The walk of PteBack: for every entry and every word it returns true; nothing that lay before is changed. Condition: a word is one of 64 bits. -/
import Derived.Test.YtiafnmhmpjhddaaK
namespace Go.Proofs.Ytiafnmhmpjhddaa
open Go.RowKit

theorem wd_nat {e : En} (h : rt e = true) : ∃ n : Nat, wd e = n ∧ n < 18446744073709551616 ∧ rd n = e := by
  obtain ⟨h1, h2, h3, h4⟩ := rt_in h
  obtain ⟨p, r, l, f⟩ := e
  simp only at h1 h2 h3 h4
  obtain ⟨r, rfl⟩ := Int.eq_ofNat_of_zero_le h1
  obtain ⟨f, rfl⟩ := Int.eq_ofNat_of_zero_le h3
  have b1 := bI_lt p
  have b2 := bI_lt l
  refine ⟨bI p + 2 * r + 16 * bI l + 4096 * f, by unfold wd; simp, by omega, ?_⟩
  have k1 : ∀ b : Bool, (((bI b : Nat) : Int) == 1) = b := by intro b; cases b <;> decide
  have m1 : (bI p + 2 * r + 16 * bI l + 4096 * f) % 2 = bI p := by omega
  have m2 : (bI p + 2 * r + 16 * bI l + 4096 * f) / 2 % 8 = r := by omega
  have m3 : (bI p + 2 * r + 16 * bI l + 4096 * f) / 16 % 2 = bI l := by omega
  have m4 : (bI p + 2 * r + 16 * bI l + 4096 * f) / 4096 % 4096 = f := by omega
  unfold rd
  rw [m1, m2, m3, m4, k1, k1]
theorem pr_zero : prD 0 = ⟨false, 0, false, 0⟩ ∧ prY 0 = true := ⟨en_eq (by decide +kernel) (by decide +kernel) (by decide +kernel) (by decide +kernel), by decide +kernel⟩
theorem pk_yes {e : En} (h : rt e = true) : pk e = wd e ∧ pkE e = 0 := by simp [pk, pkE, h]
theorem pk_no {e : En} (h : rt e = false) : pk e = 0 ∧ pkE e = 11 := by simp [pk, pkE, h]
theorem pk_zero : pk ⟨false, 0, false, 0⟩ = 0 ∧ pkE ⟨false, 0, false, 0⟩ = 0 := by decide +kernel
theorem pr_no {y : Nat} (h : prY y = false) : prD y = ⟨false, 0, false, 0⟩ := by simp [prD, h, zd]

set_option maxRecDepth 100000 in
set_option maxHeartbeats 1000000 in
theorem back_11 (p : Bool) (r : Int) (l : Bool) (f : Int) (y : Nat) (hy : y < 18446744073709551616) (w : World) (h1 : rt ⟨p, r, l, f⟩ = true) (n : Nat) (hn : wd ⟨p, r, l, f⟩ = n) (hl : n < 18446744073709551616) (hp : prD n = ⟨p, r, l, f⟩) (hq : prY n = true) (pz : Bool) (rz : Int) (lz : Bool) (fz : Int) (g1 : prD y = ⟨pz, rz, lz, fz⟩) (g2 : prY y = true) (g3 : rt ⟨pz, rz, lz, fz⟩ = true) (g4 : wd ⟨pz, rz, lz, fz⟩ = y) :
    Calls Try.prog 5 #[.agg #[.bool p, .int .i64 r, .bool l, .int .i64 f], .int .u64 y] w fun v w' => v = .returned (.bool true) ∧ Below w.heap.size w w' := by
  have Uy := hid hy
  have U1 := hid h1
  have Uhn := hid hn
  have Uhl := hid hl
  have Uhp := hid hp
  have Uhq := hid hq
  have Ug2 := hid g2
  have Ug1 := hid g1
  have Ug3 := hid g3
  have Ug4 := hid g4
  clear hy h1 hn hl hp hq g2 g1 g3 g4
  have e1 : (p == p) = true := by simp
  have e2 : (r == r) = true := by simp
  have e3 : (l == l) = true := by simp
  have e4 : (f == f) = true := by simp
  have e5 : ((y : Int) == y) = true := by simp
  go_enter Try.func5, Try.ntmps5
  go_wp2_with fail
  refine (pa_at (pack_at ⟨p, r, l, f⟩ _) ((pk_yes U1.out).1.trans Uhn.out) (pk_yes U1.out).2).mono ?_
  rintro v w1 ⟨rfl, hB⟩
  have a2 := stay hB (heap_alloc_new _ _)
  have HB := hid (bgo (below_one w _) hB)
  clear hB
  have l2 := lt_of_block a2
  obtain ⟨p20, p21, p22, p23, -, -, -, -⟩ := four a2
  have A2 := hid a2
  clear a2
  (try simp only [])
  go_wp2_with fail
  refine (pt_at (parse_at n Uhl.out _) Uhp.out Uhq.out).mono ?_
  rintro v w2 ⟨rfl, hB⟩
  have a2 := stay hB A2.out
  have HBn := hid (bgo HB.out hB)
  clear HB
  have HB := HBn
  clear HBn
  clear A2 l2 p20 p21 p22 p23
  clear hB
  have l2 := lt_of_block a2
  obtain ⟨p20, p21, p22, p23, -, -, -, -⟩ := four a2
  have A2 := hid a2
  clear a2
  (try simp only [])
  go_wp2_with fail
  refine (pt_at (parse_at y Uy.out _) Ug1.out Ug2.out).mono ?_
  rintro v w3 ⟨rfl, hB⟩
  have a2 := stay hB (hkeep A2.out _)
  have a7 := stay hB (heap_alloc_new _ _)
  have HBn := hid (bgo (HB.out.alloc HB.out.size _) hB)
  clear HB
  have HB := HBn
  clear HBn
  clear A2 l2 p20 p21 p22 p23
  clear hB
  have l2 := lt_of_block a2
  obtain ⟨p20, p21, p22, p23, -, -, -, -⟩ := four a2
  have A2 := hid a2
  clear a2
  have l7 := lt_of_block a7
  obtain ⟨p70, p71, p72, p73, -, -, -, -⟩ := four a7
  have A7 := hid a7
  clear a7
  (try simp only [])
  go_wp2_with fail
  refine (pa_at (pack_at ⟨pz, rz, lz, fz⟩ _) ((pk_yes Ug3.out).1.trans Ug4.out) (pk_yes Ug3.out).2).mono ?_
  rintro v w4 ⟨rfl, hB⟩
  have a2 := stay hB (hkeep A2.out _)
  have a7 := stay hB (hkeep A7.out _)
  have a9 := stay hB (heap_alloc_new _ _)
  have HBn := hid (bgo (HB.out.alloc HB.out.size _) hB)
  clear HB
  have HB := HBn
  clear HBn
  clear A2 l2 p20 p21 p22 p23 A7 l7 p70 p71 p72 p73
  clear hB
  have l2 := lt_of_block a2
  obtain ⟨p20, p21, p22, p23, -, -, -, -⟩ := four a2
  have A2 := hid a2
  clear a2
  have l7 := lt_of_block a7
  obtain ⟨p70, p71, p72, p73, -, -, -, -⟩ := four a7
  have A7 := hid a7
  clear a7
  have l9 := lt_of_block a9
  obtain ⟨p90, p91, p92, p93, -, -, -, -⟩ := four a9
  have A9 := hid a9
  clear a9
  (try simp only [])
  go_wp2_with fail
  refine (pt_at (parse_at 0 (by decide) _) pr_zero.1 pr_zero.2).mono ?_
  rintro v w5 ⟨rfl, hB⟩
  have a2 := stay hB A2.out
  have a7 := stay hB A7.out
  have a9 := stay hB A9.out
  have HBn := hid (bgo HB.out hB)
  clear HB
  have HB := HBn
  clear HBn
  clear A2 l2 p20 p21 p22 p23 A7 l7 p70 p71 p72 p73 A9 l9 p90 p91 p92 p93
  clear hB
  have l2 := lt_of_block a2
  obtain ⟨p20, p21, p22, p23, -, -, -, -⟩ := four a2
  have A2 := hid a2
  clear a2
  have l7 := lt_of_block a7
  obtain ⟨p70, p71, p72, p73, -, -, -, -⟩ := four a7
  have A7 := hid a7
  clear a7
  have l9 := lt_of_block a9
  obtain ⟨p90, p91, p92, p93, -, -, -, -⟩ := four a9
  have A9 := hid a9
  clear a9
  (try simp only [])
  go_wp2_with fail
  refine (bl_at (right_at ⟨p, r, l, f⟩ _) U1.out).mono ?_
  rintro v w6 ⟨rfl, hB⟩
  have a2 := stay hB (hkeep A2.out _)
  have a7 := stay hB (hkeep A7.out _)
  have a9 := stay hB (hkeep A9.out _)
  have a13 := stay hB (heap_alloc_new _ _)
  have HBn := hid (bgo (HB.out.alloc HB.out.size _) hB)
  clear HB
  have HB := HBn
  clear HBn
  clear A2 l2 p20 p21 p22 p23 A7 l7 p70 p71 p72 p73 A9 l9 p90 p91 p92 p93
  clear hB
  have l2 := lt_of_block a2
  obtain ⟨p20, p21, p22, p23, -, -, -, -⟩ := four a2
  have A2 := hid a2
  clear a2
  have l7 := lt_of_block a7
  obtain ⟨p70, p71, p72, p73, -, -, -, -⟩ := four a7
  have A7 := hid a7
  clear a7
  have l9 := lt_of_block a9
  obtain ⟨p90, p91, p92, p93, -, -, -, -⟩ := four a9
  have A9 := hid a9
  clear a9
  have l13 := lt_of_block a13
  obtain ⟨p130, p131, p132, p133, -, -, -, -⟩ := four a13
  have A13 := hid a13
  clear a13
  (try simp only [])
  go_wp2_with fail
  refine (bl_at (c := false) (allows_at ⟨false, 0, false, 0⟩ 0 (by decide) (by decide) _) (by decide +kernel)).mono ?_
  rintro v w7 ⟨rfl, hB⟩
  have a2 := stay hB A2.out
  have a7 := stay hB A7.out
  have a9 := stay hB A9.out
  have a13 := stay hB A13.out
  have HBn := hid (bgo HB.out hB)
  clear HB
  have HB := HBn
  clear HBn
  clear A2 l2 p20 p21 p22 p23 A7 l7 p70 p71 p72 p73 A9 l9 p90 p91 p92 p93 A13 l13 p130 p131 p132 p133
  clear hB
  have l2 := lt_of_block a2
  obtain ⟨p20, p21, p22, p23, -, -, -, -⟩ := four a2
  have A2 := hid a2
  clear a2
  have l7 := lt_of_block a7
  obtain ⟨p70, p71, p72, p73, -, -, -, -⟩ := four a7
  have A7 := hid a7
  clear a7
  have l9 := lt_of_block a9
  obtain ⟨p90, p91, p92, p93, -, -, -, -⟩ := four a9
  have A9 := hid a9
  clear a9
  have l13 := lt_of_block a13
  obtain ⟨p130, p131, p132, p133, -, -, -, -⟩ := four a13
  have A13 := hid a13
  clear a13
  (try simp only [])
  go_wp2_with fail
  refine (bl_at (c := false) (table_at ⟨false, 0, false, 0⟩ _) (by decide +kernel)).mono ?_
  rintro v w8 ⟨rfl, hB⟩
  have a2 := stay hB A2.out
  have a7 := stay hB A7.out
  have a9 := stay hB A9.out
  have a13 := stay hB A13.out
  have HBn := hid (bgo HB.out hB)
  clear HB
  have HB := HBn
  clear HBn
  clear A2 l2 p20 p21 p22 p23 A7 l7 p70 p71 p72 p73 A9 l9 p90 p91 p92 p93 A13 l13 p130 p131 p132 p133
  clear hB
  have l2 := lt_of_block a2
  obtain ⟨p20, p21, p22, p23, -, -, -, -⟩ := four a2
  have A2 := hid a2
  clear a2
  have l7 := lt_of_block a7
  obtain ⟨p70, p71, p72, p73, -, -, -, -⟩ := four a7
  have A7 := hid a7
  clear a7
  have l9 := lt_of_block a9
  obtain ⟨p90, p91, p92, p93, -, -, -, -⟩ := four a9
  have A9 := hid a9
  clear a9
  have l13 := lt_of_block a13
  obtain ⟨p130, p131, p132, p133, -, -, -, -⟩ := four a13
  have A13 := hid a13
  clear a13
  (try simp only [])
  go_wp2_with fail
  refine (known_yes _).mono ?_
  rintro v w9 ⟨rfl, hB⟩
  have a2 := stay hB A2.out
  have a7 := stay hB A7.out
  have a9 := stay hB A9.out
  have a13 := stay hB A13.out
  have HBn := hid (bgo HB.out hB)
  clear HB
  have HB := HBn
  clear HBn
  clear A2 l2 p20 p21 p22 p23 A7 l7 p70 p71 p72 p73 A9 l9 p90 p91 p92 p93 A13 l13 p130 p131 p132 p133
  clear hB
  have l2 := lt_of_block a2
  obtain ⟨p20, p21, p22, p23, -, -, -, -⟩ := four a2
  have A2 := hid a2
  clear a2
  have l7 := lt_of_block a7
  obtain ⟨p70, p71, p72, p73, -, -, -, -⟩ := four a7
  have A7 := hid a7
  clear a7
  have l9 := lt_of_block a9
  obtain ⟨p90, p91, p92, p93, -, -, -, -⟩ := four a9
  have A9 := hid a9
  clear a9
  have l13 := lt_of_block a13
  obtain ⟨p130, p131, p132, p133, -, -, -, -⟩ := four a13
  have A13 := hid a13
  clear a13
  (try simp only [])
  go_wp2
  go_ret
  exact ⟨rfl, HB.out⟩

set_option maxRecDepth 100000 in
set_option maxHeartbeats 1000000 in
theorem back_10 (p : Bool) (r : Int) (l : Bool) (f : Int) (y : Nat) (hy : y < 18446744073709551616) (w : World) (h1 : rt ⟨p, r, l, f⟩ = true) (n : Nat) (hn : wd ⟨p, r, l, f⟩ = n) (hl : n < 18446744073709551616) (hp : prD n = ⟨p, r, l, f⟩) (hq : prY n = true) (g2 : prY y = false) :
    Calls Try.prog 5 #[.agg #[.bool p, .int .i64 r, .bool l, .int .i64 f], .int .u64 y] w fun v w' => v = .returned (.bool true) ∧ Below w.heap.size w w' := by
  have Uy := hid hy
  have U1 := hid h1
  have Uhn := hid hn
  have Uhl := hid hl
  have Uhp := hid hp
  have Uhq := hid hq
  have Ug2 := hid g2
  clear hy h1 hn hl hp hq g2
  have e1 : (p == p) = true := by simp
  have e2 : (r == r) = true := by simp
  have e3 : (l == l) = true := by simp
  have e4 : (f == f) = true := by simp
  go_enter Try.func5, Try.ntmps5
  go_wp2_with fail
  refine (pa_at (pack_at ⟨p, r, l, f⟩ _) ((pk_yes U1.out).1.trans Uhn.out) (pk_yes U1.out).2).mono ?_
  rintro v w1 ⟨rfl, hB⟩
  have a2 := stay hB (heap_alloc_new _ _)
  have HB := hid (bgo (below_one w _) hB)
  clear hB
  have l2 := lt_of_block a2
  obtain ⟨p20, p21, p22, p23, -, -, -, -⟩ := four a2
  have A2 := hid a2
  clear a2
  (try simp only [])
  go_wp2_with fail
  refine (pt_at (parse_at n Uhl.out _) Uhp.out Uhq.out).mono ?_
  rintro v w2 ⟨rfl, hB⟩
  have a2 := stay hB A2.out
  have HBn := hid (bgo HB.out hB)
  clear HB
  have HB := HBn
  clear HBn
  clear A2 l2 p20 p21 p22 p23
  clear hB
  have l2 := lt_of_block a2
  obtain ⟨p20, p21, p22, p23, -, -, -, -⟩ := four a2
  have A2 := hid a2
  clear a2
  (try simp only [])
  go_wp2_with fail
  refine (pt_at (parse_at y Uy.out _) (pr_no Ug2.out) Ug2.out).mono ?_
  rintro v w3 ⟨rfl, hB⟩
  have a2 := stay hB (hkeep A2.out _)
  have a7 := stay hB (heap_alloc_new _ _)
  have HBn := hid (bgo (HB.out.alloc HB.out.size _) hB)
  clear HB
  have HB := HBn
  clear HBn
  clear A2 l2 p20 p21 p22 p23
  clear hB
  have l2 := lt_of_block a2
  obtain ⟨p20, p21, p22, p23, -, -, -, -⟩ := four a2
  have A2 := hid a2
  clear a2
  have l7 := lt_of_block a7
  obtain ⟨p70, p71, p72, p73, -, -, -, -⟩ := four a7
  have A7 := hid a7
  clear a7
  (try simp only [])
  go_wp2_with fail
  refine (pa_at (pack_at ⟨false, 0, false, 0⟩ _) pk_zero.1 pk_zero.2).mono ?_
  rintro v w4 ⟨rfl, hB⟩
  have a2 := stay hB (hkeep A2.out _)
  have a7 := stay hB (hkeep A7.out _)
  have a9 := stay hB (heap_alloc_new _ _)
  have HBn := hid (bgo (HB.out.alloc HB.out.size _) hB)
  clear HB
  have HB := HBn
  clear HBn
  clear A2 l2 p20 p21 p22 p23 A7 l7 p70 p71 p72 p73
  clear hB
  have l2 := lt_of_block a2
  obtain ⟨p20, p21, p22, p23, -, -, -, -⟩ := four a2
  have A2 := hid a2
  clear a2
  have l7 := lt_of_block a7
  obtain ⟨p70, p71, p72, p73, -, -, -, -⟩ := four a7
  have A7 := hid a7
  clear a7
  have l9 := lt_of_block a9
  obtain ⟨p90, p91, p92, p93, -, -, -, -⟩ := four a9
  have A9 := hid a9
  clear a9
  (try simp only [])
  go_wp2_with fail
  refine (pt_at (parse_at 0 (by decide) _) pr_zero.1 pr_zero.2).mono ?_
  rintro v w5 ⟨rfl, hB⟩
  have a2 := stay hB A2.out
  have a7 := stay hB A7.out
  have a9 := stay hB A9.out
  have HBn := hid (bgo HB.out hB)
  clear HB
  have HB := HBn
  clear HBn
  clear A2 l2 p20 p21 p22 p23 A7 l7 p70 p71 p72 p73 A9 l9 p90 p91 p92 p93
  clear hB
  have l2 := lt_of_block a2
  obtain ⟨p20, p21, p22, p23, -, -, -, -⟩ := four a2
  have A2 := hid a2
  clear a2
  have l7 := lt_of_block a7
  obtain ⟨p70, p71, p72, p73, -, -, -, -⟩ := four a7
  have A7 := hid a7
  clear a7
  have l9 := lt_of_block a9
  obtain ⟨p90, p91, p92, p93, -, -, -, -⟩ := four a9
  have A9 := hid a9
  clear a9
  (try simp only [])
  go_wp2_with fail
  refine (bl_at (right_at ⟨p, r, l, f⟩ _) U1.out).mono ?_
  rintro v w6 ⟨rfl, hB⟩
  have a2 := stay hB (hkeep A2.out _)
  have a7 := stay hB (hkeep A7.out _)
  have a9 := stay hB (hkeep A9.out _)
  have a13 := stay hB (heap_alloc_new _ _)
  have HBn := hid (bgo (HB.out.alloc HB.out.size _) hB)
  clear HB
  have HB := HBn
  clear HBn
  clear A2 l2 p20 p21 p22 p23 A7 l7 p70 p71 p72 p73 A9 l9 p90 p91 p92 p93
  clear hB
  have l2 := lt_of_block a2
  obtain ⟨p20, p21, p22, p23, -, -, -, -⟩ := four a2
  have A2 := hid a2
  clear a2
  have l7 := lt_of_block a7
  obtain ⟨p70, p71, p72, p73, -, -, -, -⟩ := four a7
  have A7 := hid a7
  clear a7
  have l9 := lt_of_block a9
  obtain ⟨p90, p91, p92, p93, -, -, -, -⟩ := four a9
  have A9 := hid a9
  clear a9
  have l13 := lt_of_block a13
  obtain ⟨p130, p131, p132, p133, -, -, -, -⟩ := four a13
  have A13 := hid a13
  clear a13
  (try simp only [])
  go_wp2_with fail
  refine (bl_at (c := false) (allows_at ⟨false, 0, false, 0⟩ 0 (by decide) (by decide) _) (by decide +kernel)).mono ?_
  rintro v w7 ⟨rfl, hB⟩
  have a2 := stay hB A2.out
  have a7 := stay hB A7.out
  have a9 := stay hB A9.out
  have a13 := stay hB A13.out
  have HBn := hid (bgo HB.out hB)
  clear HB
  have HB := HBn
  clear HBn
  clear A2 l2 p20 p21 p22 p23 A7 l7 p70 p71 p72 p73 A9 l9 p90 p91 p92 p93 A13 l13 p130 p131 p132 p133
  clear hB
  have l2 := lt_of_block a2
  obtain ⟨p20, p21, p22, p23, -, -, -, -⟩ := four a2
  have A2 := hid a2
  clear a2
  have l7 := lt_of_block a7
  obtain ⟨p70, p71, p72, p73, -, -, -, -⟩ := four a7
  have A7 := hid a7
  clear a7
  have l9 := lt_of_block a9
  obtain ⟨p90, p91, p92, p93, -, -, -, -⟩ := four a9
  have A9 := hid a9
  clear a9
  have l13 := lt_of_block a13
  obtain ⟨p130, p131, p132, p133, -, -, -, -⟩ := four a13
  have A13 := hid a13
  clear a13
  (try simp only [])
  go_wp2_with fail
  refine (bl_at (c := false) (table_at ⟨false, 0, false, 0⟩ _) (by decide +kernel)).mono ?_
  rintro v w8 ⟨rfl, hB⟩
  have a2 := stay hB A2.out
  have a7 := stay hB A7.out
  have a9 := stay hB A9.out
  have a13 := stay hB A13.out
  have HBn := hid (bgo HB.out hB)
  clear HB
  have HB := HBn
  clear HBn
  clear A2 l2 p20 p21 p22 p23 A7 l7 p70 p71 p72 p73 A9 l9 p90 p91 p92 p93 A13 l13 p130 p131 p132 p133
  clear hB
  have l2 := lt_of_block a2
  obtain ⟨p20, p21, p22, p23, -, -, -, -⟩ := four a2
  have A2 := hid a2
  clear a2
  have l7 := lt_of_block a7
  obtain ⟨p70, p71, p72, p73, -, -, -, -⟩ := four a7
  have A7 := hid a7
  clear a7
  have l9 := lt_of_block a9
  obtain ⟨p90, p91, p92, p93, -, -, -, -⟩ := four a9
  have A9 := hid a9
  clear a9
  have l13 := lt_of_block a13
  obtain ⟨p130, p131, p132, p133, -, -, -, -⟩ := four a13
  have A13 := hid a13
  clear a13
  (try simp only [])
  go_wp2_with fail
  refine (known_yes _).mono ?_
  rintro v w9 ⟨rfl, hB⟩
  have a2 := stay hB A2.out
  have a7 := stay hB A7.out
  have a9 := stay hB A9.out
  have a13 := stay hB A13.out
  have HBn := hid (bgo HB.out hB)
  clear HB
  have HB := HBn
  clear HBn
  clear A2 l2 p20 p21 p22 p23 A7 l7 p70 p71 p72 p73 A9 l9 p90 p91 p92 p93 A13 l13 p130 p131 p132 p133
  clear hB
  have l2 := lt_of_block a2
  obtain ⟨p20, p21, p22, p23, -, -, -, -⟩ := four a2
  have A2 := hid a2
  clear a2
  have l7 := lt_of_block a7
  obtain ⟨p70, p71, p72, p73, -, -, -, -⟩ := four a7
  have A7 := hid a7
  clear a7
  have l9 := lt_of_block a9
  obtain ⟨p90, p91, p92, p93, -, -, -, -⟩ := four a9
  have A9 := hid a9
  clear a9
  have l13 := lt_of_block a13
  obtain ⟨p130, p131, p132, p133, -, -, -, -⟩ := four a13
  have A13 := hid a13
  clear a13
  (try simp only [])
  go_wp2
  go_ret
  exact ⟨rfl, HB.out⟩

set_option maxRecDepth 100000 in
set_option maxHeartbeats 1000000 in
theorem back_01 (p : Bool) (r : Int) (l : Bool) (f : Int) (y : Nat) (hy : y < 18446744073709551616) (w : World) (h1 : rt ⟨p, r, l, f⟩ = false) (pz : Bool) (rz : Int) (lz : Bool) (fz : Int) (g1 : prD y = ⟨pz, rz, lz, fz⟩) (g2 : prY y = true) (g3 : rt ⟨pz, rz, lz, fz⟩ = true) (g4 : wd ⟨pz, rz, lz, fz⟩ = y) :
    Calls Try.prog 5 #[.agg #[.bool p, .int .i64 r, .bool l, .int .i64 f], .int .u64 y] w fun v w' => v = .returned (.bool true) ∧ Below w.heap.size w w' := by
  have Uy := hid hy
  have U1 := hid h1
  have Ug2 := hid g2
  have Ug1 := hid g1
  have Ug3 := hid g3
  have Ug4 := hid g4
  clear hy h1 g2 g1 g3 g4
  have e5 : ((y : Int) == y) = true := by simp
  go_enter Try.func5, Try.ntmps5
  go_wp2_with fail
  refine (pa_at (pack_at ⟨p, r, l, f⟩ _) (pk_no U1.out).1 (pk_no U1.out).2).mono ?_
  rintro v w1 ⟨rfl, hB⟩
  have a2 := stay hB (heap_alloc_new _ _)
  have HB := hid (bgo (below_one w _) hB)
  clear hB
  have l2 := lt_of_block a2
  obtain ⟨p20, p21, p22, p23, -, -, -, -⟩ := four a2
  have A2 := hid a2
  clear a2
  (try simp only [])
  go_wp2_with fail
  refine (pt_at (parse_at 0 (by decide) _) pr_zero.1 pr_zero.2).mono ?_
  rintro v w2 ⟨rfl, hB⟩
  have a2 := stay hB A2.out
  have HBn := hid (bgo HB.out hB)
  clear HB
  have HB := HBn
  clear HBn
  clear A2 l2 p20 p21 p22 p23
  clear hB
  have l2 := lt_of_block a2
  obtain ⟨p20, p21, p22, p23, -, -, -, -⟩ := four a2
  have A2 := hid a2
  clear a2
  (try simp only [])
  go_wp2_with fail
  refine (pt_at (parse_at y Uy.out _) Ug1.out Ug2.out).mono ?_
  rintro v w3 ⟨rfl, hB⟩
  have a2 := stay hB (hkeep A2.out _)
  have a7 := stay hB (heap_alloc_new _ _)
  have HBn := hid (bgo (HB.out.alloc HB.out.size _) hB)
  clear HB
  have HB := HBn
  clear HBn
  clear A2 l2 p20 p21 p22 p23
  clear hB
  have l2 := lt_of_block a2
  obtain ⟨p20, p21, p22, p23, -, -, -, -⟩ := four a2
  have A2 := hid a2
  clear a2
  have l7 := lt_of_block a7
  obtain ⟨p70, p71, p72, p73, -, -, -, -⟩ := four a7
  have A7 := hid a7
  clear a7
  (try simp only [])
  go_wp2_with fail
  refine (pa_at (pack_at ⟨pz, rz, lz, fz⟩ _) ((pk_yes Ug3.out).1.trans Ug4.out) (pk_yes Ug3.out).2).mono ?_
  rintro v w4 ⟨rfl, hB⟩
  have a2 := stay hB (hkeep A2.out _)
  have a7 := stay hB (hkeep A7.out _)
  have a9 := stay hB (heap_alloc_new _ _)
  have HBn := hid (bgo (HB.out.alloc HB.out.size _) hB)
  clear HB
  have HB := HBn
  clear HBn
  clear A2 l2 p20 p21 p22 p23 A7 l7 p70 p71 p72 p73
  clear hB
  have l2 := lt_of_block a2
  obtain ⟨p20, p21, p22, p23, -, -, -, -⟩ := four a2
  have A2 := hid a2
  clear a2
  have l7 := lt_of_block a7
  obtain ⟨p70, p71, p72, p73, -, -, -, -⟩ := four a7
  have A7 := hid a7
  clear a7
  have l9 := lt_of_block a9
  obtain ⟨p90, p91, p92, p93, -, -, -, -⟩ := four a9
  have A9 := hid a9
  clear a9
  (try simp only [])
  go_wp2_with fail
  refine (pt_at (parse_at 0 (by decide) _) pr_zero.1 pr_zero.2).mono ?_
  rintro v w5 ⟨rfl, hB⟩
  have a2 := stay hB A2.out
  have a7 := stay hB A7.out
  have a9 := stay hB A9.out
  have HBn := hid (bgo HB.out hB)
  clear HB
  have HB := HBn
  clear HBn
  clear A2 l2 p20 p21 p22 p23 A7 l7 p70 p71 p72 p73 A9 l9 p90 p91 p92 p93
  clear hB
  have l2 := lt_of_block a2
  obtain ⟨p20, p21, p22, p23, -, -, -, -⟩ := four a2
  have A2 := hid a2
  clear a2
  have l7 := lt_of_block a7
  obtain ⟨p70, p71, p72, p73, -, -, -, -⟩ := four a7
  have A7 := hid a7
  clear a7
  have l9 := lt_of_block a9
  obtain ⟨p90, p91, p92, p93, -, -, -, -⟩ := four a9
  have A9 := hid a9
  clear a9
  (try simp only [])
  go_wp2_with fail
  refine (bl_at (right_at ⟨p, r, l, f⟩ _) U1.out).mono ?_
  rintro v w6 ⟨rfl, hB⟩
  have a2 := stay hB (hkeep A2.out _)
  have a7 := stay hB (hkeep A7.out _)
  have a9 := stay hB (hkeep A9.out _)
  have a13 := stay hB (heap_alloc_new _ _)
  have HBn := hid (bgo (HB.out.alloc HB.out.size _) hB)
  clear HB
  have HB := HBn
  clear HBn
  clear A2 l2 p20 p21 p22 p23 A7 l7 p70 p71 p72 p73 A9 l9 p90 p91 p92 p93
  clear hB
  have l2 := lt_of_block a2
  obtain ⟨p20, p21, p22, p23, -, -, -, -⟩ := four a2
  have A2 := hid a2
  clear a2
  have l7 := lt_of_block a7
  obtain ⟨p70, p71, p72, p73, -, -, -, -⟩ := four a7
  have A7 := hid a7
  clear a7
  have l9 := lt_of_block a9
  obtain ⟨p90, p91, p92, p93, -, -, -, -⟩ := four a9
  have A9 := hid a9
  clear a9
  have l13 := lt_of_block a13
  obtain ⟨p130, p131, p132, p133, -, -, -, -⟩ := four a13
  have A13 := hid a13
  clear a13
  (try simp only [])
  go_wp2_with fail
  refine (bl_at (c := false) (allows_at ⟨false, 0, false, 0⟩ 0 (by decide) (by decide) _) (by decide +kernel)).mono ?_
  rintro v w7 ⟨rfl, hB⟩
  have a2 := stay hB A2.out
  have a7 := stay hB A7.out
  have a9 := stay hB A9.out
  have a13 := stay hB A13.out
  have HBn := hid (bgo HB.out hB)
  clear HB
  have HB := HBn
  clear HBn
  clear A2 l2 p20 p21 p22 p23 A7 l7 p70 p71 p72 p73 A9 l9 p90 p91 p92 p93 A13 l13 p130 p131 p132 p133
  clear hB
  have l2 := lt_of_block a2
  obtain ⟨p20, p21, p22, p23, -, -, -, -⟩ := four a2
  have A2 := hid a2
  clear a2
  have l7 := lt_of_block a7
  obtain ⟨p70, p71, p72, p73, -, -, -, -⟩ := four a7
  have A7 := hid a7
  clear a7
  have l9 := lt_of_block a9
  obtain ⟨p90, p91, p92, p93, -, -, -, -⟩ := four a9
  have A9 := hid a9
  clear a9
  have l13 := lt_of_block a13
  obtain ⟨p130, p131, p132, p133, -, -, -, -⟩ := four a13
  have A13 := hid a13
  clear a13
  (try simp only [])
  go_wp2_with fail
  refine (bl_at (c := false) (table_at ⟨false, 0, false, 0⟩ _) (by decide +kernel)).mono ?_
  rintro v w8 ⟨rfl, hB⟩
  have a2 := stay hB A2.out
  have a7 := stay hB A7.out
  have a9 := stay hB A9.out
  have a13 := stay hB A13.out
  have HBn := hid (bgo HB.out hB)
  clear HB
  have HB := HBn
  clear HBn
  clear A2 l2 p20 p21 p22 p23 A7 l7 p70 p71 p72 p73 A9 l9 p90 p91 p92 p93 A13 l13 p130 p131 p132 p133
  clear hB
  have l2 := lt_of_block a2
  obtain ⟨p20, p21, p22, p23, -, -, -, -⟩ := four a2
  have A2 := hid a2
  clear a2
  have l7 := lt_of_block a7
  obtain ⟨p70, p71, p72, p73, -, -, -, -⟩ := four a7
  have A7 := hid a7
  clear a7
  have l9 := lt_of_block a9
  obtain ⟨p90, p91, p92, p93, -, -, -, -⟩ := four a9
  have A9 := hid a9
  clear a9
  have l13 := lt_of_block a13
  obtain ⟨p130, p131, p132, p133, -, -, -, -⟩ := four a13
  have A13 := hid a13
  clear a13
  (try simp only [])
  go_wp2_with fail
  refine (known_yes _).mono ?_
  rintro v w9 ⟨rfl, hB⟩
  have a2 := stay hB A2.out
  have a7 := stay hB A7.out
  have a9 := stay hB A9.out
  have a13 := stay hB A13.out
  have HBn := hid (bgo HB.out hB)
  clear HB
  have HB := HBn
  clear HBn
  clear A2 l2 p20 p21 p22 p23 A7 l7 p70 p71 p72 p73 A9 l9 p90 p91 p92 p93 A13 l13 p130 p131 p132 p133
  clear hB
  have l2 := lt_of_block a2
  obtain ⟨p20, p21, p22, p23, -, -, -, -⟩ := four a2
  have A2 := hid a2
  clear a2
  have l7 := lt_of_block a7
  obtain ⟨p70, p71, p72, p73, -, -, -, -⟩ := four a7
  have A7 := hid a7
  clear a7
  have l9 := lt_of_block a9
  obtain ⟨p90, p91, p92, p93, -, -, -, -⟩ := four a9
  have A9 := hid a9
  clear a9
  have l13 := lt_of_block a13
  obtain ⟨p130, p131, p132, p133, -, -, -, -⟩ := four a13
  have A13 := hid a13
  clear a13
  (try simp only [])
  go_wp2
  go_ret
  exact ⟨rfl, HB.out⟩

set_option maxRecDepth 100000 in
set_option maxHeartbeats 1000000 in
theorem back_00 (p : Bool) (r : Int) (l : Bool) (f : Int) (y : Nat) (hy : y < 18446744073709551616) (w : World) (h1 : rt ⟨p, r, l, f⟩ = false) (g2 : prY y = false) :
    Calls Try.prog 5 #[.agg #[.bool p, .int .i64 r, .bool l, .int .i64 f], .int .u64 y] w fun v w' => v = .returned (.bool true) ∧ Below w.heap.size w w' := by
  have Uy := hid hy
  have U1 := hid h1
  have Ug2 := hid g2
  clear hy h1 g2
  go_enter Try.func5, Try.ntmps5
  go_wp2_with fail
  refine (pa_at (pack_at ⟨p, r, l, f⟩ _) (pk_no U1.out).1 (pk_no U1.out).2).mono ?_
  rintro v w1 ⟨rfl, hB⟩
  have a2 := stay hB (heap_alloc_new _ _)
  have HB := hid (bgo (below_one w _) hB)
  clear hB
  have l2 := lt_of_block a2
  obtain ⟨p20, p21, p22, p23, -, -, -, -⟩ := four a2
  have A2 := hid a2
  clear a2
  (try simp only [])
  go_wp2_with fail
  refine (pt_at (parse_at 0 (by decide) _) pr_zero.1 pr_zero.2).mono ?_
  rintro v w2 ⟨rfl, hB⟩
  have a2 := stay hB A2.out
  have HBn := hid (bgo HB.out hB)
  clear HB
  have HB := HBn
  clear HBn
  clear A2 l2 p20 p21 p22 p23
  clear hB
  have l2 := lt_of_block a2
  obtain ⟨p20, p21, p22, p23, -, -, -, -⟩ := four a2
  have A2 := hid a2
  clear a2
  (try simp only [])
  go_wp2_with fail
  refine (pt_at (parse_at y Uy.out _) (pr_no Ug2.out) Ug2.out).mono ?_
  rintro v w3 ⟨rfl, hB⟩
  have a2 := stay hB (hkeep A2.out _)
  have a7 := stay hB (heap_alloc_new _ _)
  have HBn := hid (bgo (HB.out.alloc HB.out.size _) hB)
  clear HB
  have HB := HBn
  clear HBn
  clear A2 l2 p20 p21 p22 p23
  clear hB
  have l2 := lt_of_block a2
  obtain ⟨p20, p21, p22, p23, -, -, -, -⟩ := four a2
  have A2 := hid a2
  clear a2
  have l7 := lt_of_block a7
  obtain ⟨p70, p71, p72, p73, -, -, -, -⟩ := four a7
  have A7 := hid a7
  clear a7
  (try simp only [])
  go_wp2_with fail
  refine (pa_at (pack_at ⟨false, 0, false, 0⟩ _) pk_zero.1 pk_zero.2).mono ?_
  rintro v w4 ⟨rfl, hB⟩
  have a2 := stay hB (hkeep A2.out _)
  have a7 := stay hB (hkeep A7.out _)
  have a9 := stay hB (heap_alloc_new _ _)
  have HBn := hid (bgo (HB.out.alloc HB.out.size _) hB)
  clear HB
  have HB := HBn
  clear HBn
  clear A2 l2 p20 p21 p22 p23 A7 l7 p70 p71 p72 p73
  clear hB
  have l2 := lt_of_block a2
  obtain ⟨p20, p21, p22, p23, -, -, -, -⟩ := four a2
  have A2 := hid a2
  clear a2
  have l7 := lt_of_block a7
  obtain ⟨p70, p71, p72, p73, -, -, -, -⟩ := four a7
  have A7 := hid a7
  clear a7
  have l9 := lt_of_block a9
  obtain ⟨p90, p91, p92, p93, -, -, -, -⟩ := four a9
  have A9 := hid a9
  clear a9
  (try simp only [])
  go_wp2_with fail
  refine (pt_at (parse_at 0 (by decide) _) pr_zero.1 pr_zero.2).mono ?_
  rintro v w5 ⟨rfl, hB⟩
  have a2 := stay hB A2.out
  have a7 := stay hB A7.out
  have a9 := stay hB A9.out
  have HBn := hid (bgo HB.out hB)
  clear HB
  have HB := HBn
  clear HBn
  clear A2 l2 p20 p21 p22 p23 A7 l7 p70 p71 p72 p73 A9 l9 p90 p91 p92 p93
  clear hB
  have l2 := lt_of_block a2
  obtain ⟨p20, p21, p22, p23, -, -, -, -⟩ := four a2
  have A2 := hid a2
  clear a2
  have l7 := lt_of_block a7
  obtain ⟨p70, p71, p72, p73, -, -, -, -⟩ := four a7
  have A7 := hid a7
  clear a7
  have l9 := lt_of_block a9
  obtain ⟨p90, p91, p92, p93, -, -, -, -⟩ := four a9
  have A9 := hid a9
  clear a9
  (try simp only [])
  go_wp2_with fail
  refine (bl_at (right_at ⟨p, r, l, f⟩ _) U1.out).mono ?_
  rintro v w6 ⟨rfl, hB⟩
  have a2 := stay hB (hkeep A2.out _)
  have a7 := stay hB (hkeep A7.out _)
  have a9 := stay hB (hkeep A9.out _)
  have a13 := stay hB (heap_alloc_new _ _)
  have HBn := hid (bgo (HB.out.alloc HB.out.size _) hB)
  clear HB
  have HB := HBn
  clear HBn
  clear A2 l2 p20 p21 p22 p23 A7 l7 p70 p71 p72 p73 A9 l9 p90 p91 p92 p93
  clear hB
  have l2 := lt_of_block a2
  obtain ⟨p20, p21, p22, p23, -, -, -, -⟩ := four a2
  have A2 := hid a2
  clear a2
  have l7 := lt_of_block a7
  obtain ⟨p70, p71, p72, p73, -, -, -, -⟩ := four a7
  have A7 := hid a7
  clear a7
  have l9 := lt_of_block a9
  obtain ⟨p90, p91, p92, p93, -, -, -, -⟩ := four a9
  have A9 := hid a9
  clear a9
  have l13 := lt_of_block a13
  obtain ⟨p130, p131, p132, p133, -, -, -, -⟩ := four a13
  have A13 := hid a13
  clear a13
  (try simp only [])
  go_wp2_with fail
  refine (bl_at (c := false) (allows_at ⟨false, 0, false, 0⟩ 0 (by decide) (by decide) _) (by decide +kernel)).mono ?_
  rintro v w7 ⟨rfl, hB⟩
  have a2 := stay hB A2.out
  have a7 := stay hB A7.out
  have a9 := stay hB A9.out
  have a13 := stay hB A13.out
  have HBn := hid (bgo HB.out hB)
  clear HB
  have HB := HBn
  clear HBn
  clear A2 l2 p20 p21 p22 p23 A7 l7 p70 p71 p72 p73 A9 l9 p90 p91 p92 p93 A13 l13 p130 p131 p132 p133
  clear hB
  have l2 := lt_of_block a2
  obtain ⟨p20, p21, p22, p23, -, -, -, -⟩ := four a2
  have A2 := hid a2
  clear a2
  have l7 := lt_of_block a7
  obtain ⟨p70, p71, p72, p73, -, -, -, -⟩ := four a7
  have A7 := hid a7
  clear a7
  have l9 := lt_of_block a9
  obtain ⟨p90, p91, p92, p93, -, -, -, -⟩ := four a9
  have A9 := hid a9
  clear a9
  have l13 := lt_of_block a13
  obtain ⟨p130, p131, p132, p133, -, -, -, -⟩ := four a13
  have A13 := hid a13
  clear a13
  (try simp only [])
  go_wp2_with fail
  refine (bl_at (c := false) (table_at ⟨false, 0, false, 0⟩ _) (by decide +kernel)).mono ?_
  rintro v w8 ⟨rfl, hB⟩
  have a2 := stay hB A2.out
  have a7 := stay hB A7.out
  have a9 := stay hB A9.out
  have a13 := stay hB A13.out
  have HBn := hid (bgo HB.out hB)
  clear HB
  have HB := HBn
  clear HBn
  clear A2 l2 p20 p21 p22 p23 A7 l7 p70 p71 p72 p73 A9 l9 p90 p91 p92 p93 A13 l13 p130 p131 p132 p133
  clear hB
  have l2 := lt_of_block a2
  obtain ⟨p20, p21, p22, p23, -, -, -, -⟩ := four a2
  have A2 := hid a2
  clear a2
  have l7 := lt_of_block a7
  obtain ⟨p70, p71, p72, p73, -, -, -, -⟩ := four a7
  have A7 := hid a7
  clear a7
  have l9 := lt_of_block a9
  obtain ⟨p90, p91, p92, p93, -, -, -, -⟩ := four a9
  have A9 := hid a9
  clear a9
  have l13 := lt_of_block a13
  obtain ⟨p130, p131, p132, p133, -, -, -, -⟩ := four a13
  have A13 := hid a13
  clear a13
  (try simp only [])
  go_wp2_with fail
  refine (known_yes _).mono ?_
  rintro v w9 ⟨rfl, hB⟩
  have a2 := stay hB A2.out
  have a7 := stay hB A7.out
  have a9 := stay hB A9.out
  have a13 := stay hB A13.out
  have HBn := hid (bgo HB.out hB)
  clear HB
  have HB := HBn
  clear HBn
  clear A2 l2 p20 p21 p22 p23 A7 l7 p70 p71 p72 p73 A9 l9 p90 p91 p92 p93 A13 l13 p130 p131 p132 p133
  clear hB
  have l2 := lt_of_block a2
  obtain ⟨p20, p21, p22, p23, -, -, -, -⟩ := four a2
  have A2 := hid a2
  clear a2
  have l7 := lt_of_block a7
  obtain ⟨p70, p71, p72, p73, -, -, -, -⟩ := four a7
  have A7 := hid a7
  clear a7
  have l9 := lt_of_block a9
  obtain ⟨p90, p91, p92, p93, -, -, -, -⟩ := four a9
  have A9 := hid a9
  clear a9
  have l13 := lt_of_block a13
  obtain ⟨p130, p131, p132, p133, -, -, -, -⟩ := four a13
  have A13 := hid a13
  clear a13
  (try simp only [])
  go_wp2
  go_ret
  exact ⟨rfl, HB.out⟩


theorem back_walk (x : En) (y : Nat) (hy : y < 18446744073709551616) (w : World) :
    Calls Try.prog 5 #[eV x, .int .u64 y] w fun v w' => v = .returned (.bool true) ∧ Below w.heap.size w w' := by
  cases g2 : prY y
  · cases h1 : rt x
    · exact back_00 x.p x.r x.l x.f y hy w h1 g2
    · obtain ⟨n, hn, hl, hr⟩ := wd_nat h1
      have hq : prY n = true := by unfold prY; rw [hr, h1, hn]; simp
      exact back_10 x.p x.r x.l x.f y hy w h1 n hn hl (by simp [prD, hq, hr]) hq g2
  · have g1 : prD y = rd y := by simp [prD, g2]
    have g := g2
    unfold prY at g
    simp only [Bool.and_eq_true, beq_iff_eq] at g
    cases h1 : rt x
    · exact back_01 x.p x.r x.l x.f y hy w h1 _ _ _ _ g1 g2 g.1 g.2
    · obtain ⟨n, hn, hl, hr⟩ := wd_nat h1
      have hq : prY n = true := by unfold prY; rw [hr, h1, hn]; simp
      exact back_11 x.p x.r x.l x.f y hy w h1 n hn hl (by simp [prD, hq, hr]) hq _ _ _ _ g1 g2 g.1 g.2
end Go.Proofs.Ytiafnmhmpjhddaa
