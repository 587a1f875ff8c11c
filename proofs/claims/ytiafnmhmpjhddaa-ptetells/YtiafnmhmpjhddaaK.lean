/- That the fixed calls of the statements' own check (known) come out true; nothing that lay before is changed. No conditions. -/
import Derived.Test.YtiafnmhmpjhddaaS5
import Derived.Test.YtiafnmhmpjhddaaS3
namespace Go.Proofs.Ytiafnmhmpjhddaa
open Go.RowKit

theorem pa_at {fn : FuncId} {args : Array Value} {w : World} {x e x' e' : Int} (h : Calls Try.prog fn args w fun v w' => v = .returned (wtwo x e) ∧ Below w.heap.size w w') (hx : x = x') (he : e = e') :
    Calls Try.prog fn args w fun v w' => v = .returned (.tuple #[.int .u64 x', .int .i64 e']) ∧ Below w.heap.size w w' := by
  subst hx he; exact h
theorem pt_at {fn : FuncId} {args : Array Value} {w : World} {d : En} {b c : Bool} {p l : Bool} {r f : Int} (h : Calls Try.prog fn args w fun v w' => v = .returned (ptwo d b) ∧ Below w.heap.size w w') (hd : d = ⟨p, r, l, f⟩) (hb : b = c) :
    Calls Try.prog fn args w fun v w' => v = .returned (.tuple #[.agg #[.bool p, .int .i64 r, .bool l, .int .i64 f], .bool c]) ∧ Below w.heap.size w w' := by
  subst hd hb; exact h
theorem en_eq {d : En} {p l : Bool} {r f : Int} (h1 : d.p = p) (h2 : d.r = r) (h3 : d.l = l) (h4 : d.f = f) : d = ⟨p, r, l, f⟩ := by
  subst h1 h2 h3 h4; rfl

set_option maxRecDepth 100000 in
set_option maxHeartbeats 1000000 in
theorem known_yes (w : World) : Calls Try.prog 20 #[] w fun v w' => v = .returned (.bool true) ∧ Below w.heap.size w w' := by
  go_enter Try.func20, Try.ntmps20
  go_wp2_with fail
  refine (pa_at (x' := 20487) (e' := 0) (pack_at ⟨true, 3, false, 5⟩ _) (by decide +kernel) (by decide +kernel)).mono ?_
  rintro v w1 ⟨rfl, hB⟩
  have a1 := stay hB (heap_alloc_new _ _)
  have HB := hid (bgo (below_one w _) hB)
  clear hB
  have l1 := lt_of_block a1
  obtain ⟨p10, p11, p12, p13, -, -, -, -⟩ := four a1
  have A1 := hid a1
  clear a1
  (try simp only [])
  go_wp2_with fail
  refine (pt_at (p := true) (r := 3) (l := false) (f := 5) (c := true) (parse_at 20487 (by decide) _) (en_eq (by decide +kernel) (by decide +kernel) (by decide +kernel) (by decide +kernel)) (by decide +kernel)).mono ?_
  rintro v w2 ⟨rfl, hB⟩
  have a1 := stay hB A1.out
  have HBn := hid (bgo HB.out hB)
  clear HB
  have HB := HBn
  clear HBn
  clear A1 l1 p10 p11 p12 p13
  clear hB
  have l1 := lt_of_block a1
  obtain ⟨p10, p11, p12, p13, -, -, -, -⟩ := four a1
  have A1 := hid a1
  clear a1
  (try simp only [])
  go_wp2_with fail
  refine (pt_at (p := false) (r := 0) (l := false) (f := 0) (c := false) (parse_at 2 (by decide) _) (en_eq (by decide +kernel) (by decide +kernel) (by decide +kernel) (by decide +kernel)) (by decide +kernel)).mono ?_
  rintro v w3 ⟨rfl, hB⟩
  have a1 := stay hB (hkeep A1.out _)
  have a4 := stay hB (heap_alloc_new _ _)
  have HBn := hid (bgo (HB.out.alloc HB.out.size _) hB)
  clear HB
  have HB := HBn
  clear HBn
  clear A1 l1 p10 p11 p12 p13
  clear hB
  have l1 := lt_of_block a1
  obtain ⟨p10, p11, p12, p13, -, -, -, -⟩ := four a1
  have A1 := hid a1
  clear a1
  have l4 := lt_of_block a4
  obtain ⟨p40, p41, p42, p43, -, -, -, -⟩ := four a4
  have A4 := hid a4
  clear a4
  (try simp only [])
  go_wp2_with fail
  refine (bl_at (c := true) (right_at ⟨true, 3, false, 5⟩ _) (by decide +kernel)).mono ?_
  rintro v w4 ⟨rfl, hB⟩
  have a1 := stay hB (hkeep A1.out _)
  have a4 := stay hB (hkeep A4.out _)
  have HBn := hid (bgo (HB.out.alloc HB.out.size _) hB)
  clear HB
  have HB := HBn
  clear HBn
  clear A1 l1 p10 p11 p12 p13 A4 l4 p40 p41 p42 p43
  clear hB
  have l1 := lt_of_block a1
  obtain ⟨p10, p11, p12, p13, -, -, -, -⟩ := four a1
  have A1 := hid a1
  clear a1
  have l4 := lt_of_block a4
  obtain ⟨p40, p41, p42, p43, -, -, -, -⟩ := four a4
  have A4 := hid a4
  clear a4
  (try simp only [])
  go_wp2_with fail
  refine (bl_at (c := false) (table_at ⟨true, 3, false, 5⟩ _) (by decide +kernel)).mono ?_
  rintro v w5 ⟨rfl, hB⟩
  have a1 := stay hB A1.out
  have a4 := stay hB A4.out
  have HBn := hid (bgo HB.out hB)
  clear HB
  have HB := HBn
  clear HBn
  clear A1 l1 p10 p11 p12 p13 A4 l4 p40 p41 p42 p43
  clear hB
  have l1 := lt_of_block a1
  obtain ⟨p10, p11, p12, p13, -, -, -, -⟩ := four a1
  have A1 := hid a1
  clear a1
  have l4 := lt_of_block a4
  obtain ⟨p40, p41, p42, p43, -, -, -, -⟩ := four a4
  have A4 := hid a4
  clear a4
  (try simp only [])
  go_wp2_with fail
  refine (bl_at (c := true) (table_at ⟨true, 0, false, 9⟩ _) (by decide +kernel)).mono ?_
  rintro v w6 ⟨rfl, hB⟩
  have a1 := stay hB A1.out
  have a4 := stay hB A4.out
  have HBn := hid (bgo HB.out hB)
  clear HB
  have HB := HBn
  clear HBn
  clear A1 l1 p10 p11 p12 p13 A4 l4 p40 p41 p42 p43
  clear hB
  have l1 := lt_of_block a1
  obtain ⟨p10, p11, p12, p13, -, -, -, -⟩ := four a1
  have A1 := hid a1
  clear a1
  have l4 := lt_of_block a4
  obtain ⟨p40, p41, p42, p43, -, -, -, -⟩ := four a4
  have A4 := hid a4
  clear a4
  (try simp only [])
  go_wp2_with fail
  refine (bl_at (c := true) (allows_at ⟨true, 3, false, 5⟩ 2 (by decide) (by decide) _) (by decide +kernel)).mono ?_
  rintro v w7 ⟨rfl, hB⟩
  have a1 := stay hB A1.out
  have a4 := stay hB A4.out
  have HBn := hid (bgo HB.out hB)
  clear HB
  have HB := HBn
  clear HBn
  clear A1 l1 p10 p11 p12 p13 A4 l4 p40 p41 p42 p43
  clear hB
  have l1 := lt_of_block a1
  obtain ⟨p10, p11, p12, p13, -, -, -, -⟩ := four a1
  have A1 := hid a1
  clear a1
  have l4 := lt_of_block a4
  obtain ⟨p40, p41, p42, p43, -, -, -, -⟩ := four a4
  have A4 := hid a4
  clear a4
  (try simp only [])
  go_wp2_with fail
  refine (bl_at (c := false) (allows_at ⟨true, 3, false, 5⟩ 4 (by decide) (by decide) _) (by decide +kernel)).mono ?_
  rintro v w8 ⟨rfl, hB⟩
  have a1 := stay hB A1.out
  have a4 := stay hB A4.out
  have HBn := hid (bgo HB.out hB)
  clear HB
  have HB := HBn
  clear HBn
  clear A1 l1 p10 p11 p12 p13 A4 l4 p40 p41 p42 p43
  clear hB
  have l1 := lt_of_block a1
  obtain ⟨p10, p11, p12, p13, -, -, -, -⟩ := four a1
  have A1 := hid a1
  clear a1
  have l4 := lt_of_block a4
  obtain ⟨p40, p41, p42, p43, -, -, -, -⟩ := four a4
  have A4 := hid a4
  clear a4
  (try simp only [])
  go_wp2_with fail
  refine (n_at (c := 2) (index_at 4660 2 _) (by decide +kernel)).mono ?_
  rintro v w9 ⟨rfl, hw⟩
  rw [hw]
  clear hw w9
  (try simp only [])
  go_wp2_with fail
  refine (n_at (c := 52) (place_at 3 4660 0 _) (by decide +kernel)).mono ?_
  rintro v w10 ⟨rfl, hw⟩
  rw [hw]
  clear hw w10
  (try simp only [])
  go_wp2_with fail
  refine (n_at (c := 4096) (span_at 3 _) (by decide +kernel)).mono ?_
  rintro v w11 ⟨rfl, hw⟩
  rw [hw]
  clear hw w11
  (try simp only [])
  go_wp2_with fail
  refine (n_at (c := -1) (index_at 65536 0 _) (by decide +kernel)).mono ?_
  rintro v w12 ⟨rfl, hw⟩
  rw [hw]
  clear hw w12
  (try simp only [])
  go_wp2_with fail
  refine (n_at (c := -1) (place_at 4096 0 0 _) (by decide +kernel)).mono ?_
  rintro v w13 ⟨rfl, hw⟩
  rw [hw]
  clear hw w13
  (try simp only [])
  go_wp2
  go_ret
  exact ⟨rfl, HB.out⟩

end Go.Proofs.Ytiafnmhmpjhddaa
