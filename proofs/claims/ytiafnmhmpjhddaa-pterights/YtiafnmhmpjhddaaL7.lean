/- The walk of PteRights: for every entry and every two numbers it returns true; nothing that lay before is changed. No conditions but the numbers' sizes. -/
import Derived.Test.YtiafnmhmpjhddaaK
import Derived.Test.YtiafnmhmpjhddaaQ
namespace Go.Proofs.Ytiafnmhmpjhddaa
open Go.RowKit

set_option maxRecDepth 100000 in
set_option maxHeartbeats 1000000 in
theorem rights_000 (p : Bool) (r : Int) (l : Bool) (f : Int) (x y a b : Nat) (e0 : IntKind.i64.wrap (x : Int) = x) (e1 : IntKind.i64.wrap (y : Int) = y) (lx : (x : Int) ≤ 255) (ly : (y : Int) ≤ 255) (xa : (x : Int) % 8 = a) (yb : (y : Int) % 8 = b) (_la : (a : Int) ≤ 7) (_lb : (b : Int) ≤ 7) (w : World)
    (hA : al ⟨p, r, l, f⟩ a = false) (hB : al ⟨p, r, l, f⟩ b = false) (hC : al ⟨p, r, l, f⟩ (bits .or .i64 (a : Int) (b : Int)) = false) (hD : false = true → al ⟨p, r, l, f⟩ (bits .and .i64 (a : Int) (b : Int)) = true) (hT : tb ⟨p, r, l, f⟩ = false) (hZ : false = true → al ⟨p, r, l, f⟩ 0 = false)
    (o : 0 ≤ bits .or .i64 (a : Int) (b : Int) ∧ bits .or .i64 (a : Int) (b : Int) ≤ 7) (n : 0 ≤ bits .and .i64 (a : Int) (b : Int) ∧ bits .and .i64 (a : Int) (b : Int) ≤ 7) :
    Calls Try.prog 7 #[.agg #[.bool p, .int .i64 r, .bool l, .int .i64 f], .agg #[.int .u8 x, .int .u8 y]] w fun v w' => v = .returned (.bool true) ∧ Below w.heap.size w w' := by
  have UhA := hid hA
  have UhB := hid hB
  have UhC := hid hC
  have UhD := hid hD
  have UhT := hid hT
  have UhZ := hid hZ
  have Uo := hid o
  have Un := hid n
  clear hA hB hC hD hT hZ o n
  go_enter Try.func7, Try.ntmps7
  go_wp2_with fail
  refine (bl_at (allows_at ⟨p, r, l, f⟩ a (by omega) (by omega) _) UhA.out).mono ?_
  rintro v w1 ⟨rfl, hB⟩
  have a2 := stay hB (two_new w _ _).1
  have a3 := stay hB (two_new w _ _).2
  have HB := hid (bgo (btwo w _ _) hB)
  clear hB
  have l2 := lt_of_block a2
  obtain ⟨p20, p21, p22, p23, -, -, -, -⟩ := four a2
  have A2 := hid a2
  clear a2
  have l3 := lt_of_block a3
  have p30 := cell_of (i := 0) a3 rfl
  have p31 := cell_of (i := 1) a3 rfl
  have A3 := hid a3
  clear a3
  (try simp only [])
  go_wp2_with fail
  refine (bl_at (allows_at ⟨p, r, l, f⟩ (bits .or .i64 (a : Int) (b : Int)) (by have := Uo.out; omega) (by have := Uo.out; omega) _) UhC.out).mono ?_
  rintro v w2 ⟨rfl, hB⟩
  have a2 := stay hB A2.out
  have a3 := stay hB A3.out
  have HBn := hid (bgo HB.out hB)
  clear HB
  have HB := HBn
  clear HBn
  clear A2 l2 p20 p21 p22 p23 A3 l3 p30 p31
  clear hB
  have l2 := lt_of_block a2
  obtain ⟨p20, p21, p22, p23, -, -, -, -⟩ := four a2
  have A2 := hid a2
  clear a2
  have l3 := lt_of_block a3
  have p30 := cell_of (i := 0) a3 rfl
  have p31 := cell_of (i := 1) a3 rfl
  have A3 := hid a3
  clear a3
  (try simp only [])
  go_wp2_with fail
  refine (bl_at (allows_at ⟨p, r, l, f⟩ a (by omega) (by omega) _) UhA.out).mono ?_
  rintro v w3 ⟨rfl, hB⟩
  have a2 := stay hB A2.out
  have a3 := stay hB A3.out
  have HBn := hid (bgo HB.out hB)
  clear HB
  have HB := HBn
  clear HBn
  clear A2 l2 p20 p21 p22 p23 A3 l3 p30 p31
  clear hB
  have l2 := lt_of_block a2
  obtain ⟨p20, p21, p22, p23, -, -, -, -⟩ := four a2
  have A2 := hid a2
  clear a2
  have l3 := lt_of_block a3
  have p30 := cell_of (i := 0) a3 rfl
  have p31 := cell_of (i := 1) a3 rfl
  have A3 := hid a3
  clear a3
  (try simp only [])
  go_wp2_with fail
  refine (bl_at (table_at ⟨p, r, l, f⟩ _) UhT.out).mono ?_
  rintro v w4 ⟨rfl, hB⟩
  have a2 := stay hB A2.out
  have a3 := stay hB A3.out
  have HBn := hid (bgo HB.out hB)
  clear HB
  have HB := HBn
  clear HBn
  clear A2 l2 p20 p21 p22 p23 A3 l3 p30 p31
  clear hB
  have l2 := lt_of_block a2
  obtain ⟨p20, p21, p22, p23, -, -, -, -⟩ := four a2
  have A2 := hid a2
  clear a2
  have l3 := lt_of_block a3
  have p30 := cell_of (i := 0) a3 rfl
  have p31 := cell_of (i := 1) a3 rfl
  have A3 := hid a3
  clear a3
  (try simp only [])
  go_wp2_with fail
  refine (known_yes _).mono ?_
  rintro v w5 ⟨rfl, hB⟩
  have a2 := stay hB A2.out
  have a3 := stay hB A3.out
  have HBn := hid (bgo HB.out hB)
  clear HB
  have HB := HBn
  clear HBn
  clear A2 l2 p20 p21 p22 p23 A3 l3 p30 p31
  clear hB
  have l2 := lt_of_block a2
  obtain ⟨p20, p21, p22, p23, -, -, -, -⟩ := four a2
  have A2 := hid a2
  clear a2
  have l3 := lt_of_block a3
  have p30 := cell_of (i := 0) a3 rfl
  have p31 := cell_of (i := 1) a3 rfl
  have A3 := hid a3
  clear a3
  (try simp only [])
  go_wp2
  go_ret
  exact ⟨rfl, HB.out⟩

set_option maxRecDepth 100000 in
set_option maxHeartbeats 1000000 in
theorem rights_001 (p : Bool) (r : Int) (l : Bool) (f : Int) (x y a b : Nat) (e0 : IntKind.i64.wrap (x : Int) = x) (e1 : IntKind.i64.wrap (y : Int) = y) (lx : (x : Int) ≤ 255) (ly : (y : Int) ≤ 255) (xa : (x : Int) % 8 = a) (yb : (y : Int) % 8 = b) (_la : (a : Int) ≤ 7) (_lb : (b : Int) ≤ 7) (w : World)
    (hA : al ⟨p, r, l, f⟩ a = false) (hB : al ⟨p, r, l, f⟩ b = false) (hC : al ⟨p, r, l, f⟩ (bits .or .i64 (a : Int) (b : Int)) = false) (hD : false = true → al ⟨p, r, l, f⟩ (bits .and .i64 (a : Int) (b : Int)) = true) (hT : tb ⟨p, r, l, f⟩ = true) (hZ : true = true → al ⟨p, r, l, f⟩ 0 = false)
    (o : 0 ≤ bits .or .i64 (a : Int) (b : Int) ∧ bits .or .i64 (a : Int) (b : Int) ≤ 7) (n : 0 ≤ bits .and .i64 (a : Int) (b : Int) ∧ bits .and .i64 (a : Int) (b : Int) ≤ 7) :
    Calls Try.prog 7 #[.agg #[.bool p, .int .i64 r, .bool l, .int .i64 f], .agg #[.int .u8 x, .int .u8 y]] w fun v w' => v = .returned (.bool true) ∧ Below w.heap.size w w' := by
  have UhA := hid hA
  have UhB := hid hB
  have UhC := hid hC
  have UhD := hid hD
  have UhT := hid hT
  have UhZ := hid hZ
  have Uo := hid o
  have Un := hid n
  clear hA hB hC hD hT hZ o n
  go_enter Try.func7, Try.ntmps7
  go_wp2_with fail
  refine (bl_at (allows_at ⟨p, r, l, f⟩ a (by omega) (by omega) _) UhA.out).mono ?_
  rintro v w1 ⟨rfl, hB⟩
  have a2 := stay hB (two_new w _ _).1
  have a3 := stay hB (two_new w _ _).2
  have HB := hid (bgo (btwo w _ _) hB)
  clear hB
  have l2 := lt_of_block a2
  obtain ⟨p20, p21, p22, p23, -, -, -, -⟩ := four a2
  have A2 := hid a2
  clear a2
  have l3 := lt_of_block a3
  have p30 := cell_of (i := 0) a3 rfl
  have p31 := cell_of (i := 1) a3 rfl
  have A3 := hid a3
  clear a3
  (try simp only [])
  go_wp2_with fail
  refine (bl_at (allows_at ⟨p, r, l, f⟩ (bits .or .i64 (a : Int) (b : Int)) (by have := Uo.out; omega) (by have := Uo.out; omega) _) UhC.out).mono ?_
  rintro v w2 ⟨rfl, hB⟩
  have a2 := stay hB A2.out
  have a3 := stay hB A3.out
  have HBn := hid (bgo HB.out hB)
  clear HB
  have HB := HBn
  clear HBn
  clear A2 l2 p20 p21 p22 p23 A3 l3 p30 p31
  clear hB
  have l2 := lt_of_block a2
  obtain ⟨p20, p21, p22, p23, -, -, -, -⟩ := four a2
  have A2 := hid a2
  clear a2
  have l3 := lt_of_block a3
  have p30 := cell_of (i := 0) a3 rfl
  have p31 := cell_of (i := 1) a3 rfl
  have A3 := hid a3
  clear a3
  (try simp only [])
  go_wp2_with fail
  refine (bl_at (allows_at ⟨p, r, l, f⟩ a (by omega) (by omega) _) UhA.out).mono ?_
  rintro v w3 ⟨rfl, hB⟩
  have a2 := stay hB A2.out
  have a3 := stay hB A3.out
  have HBn := hid (bgo HB.out hB)
  clear HB
  have HB := HBn
  clear HBn
  clear A2 l2 p20 p21 p22 p23 A3 l3 p30 p31
  clear hB
  have l2 := lt_of_block a2
  obtain ⟨p20, p21, p22, p23, -, -, -, -⟩ := four a2
  have A2 := hid a2
  clear a2
  have l3 := lt_of_block a3
  have p30 := cell_of (i := 0) a3 rfl
  have p31 := cell_of (i := 1) a3 rfl
  have A3 := hid a3
  clear a3
  (try simp only [])
  go_wp2_with fail
  refine (bl_at (table_at ⟨p, r, l, f⟩ _) UhT.out).mono ?_
  rintro v w4 ⟨rfl, hB⟩
  have a2 := stay hB A2.out
  have a3 := stay hB A3.out
  have HBn := hid (bgo HB.out hB)
  clear HB
  have HB := HBn
  clear HBn
  clear A2 l2 p20 p21 p22 p23 A3 l3 p30 p31
  clear hB
  have l2 := lt_of_block a2
  obtain ⟨p20, p21, p22, p23, -, -, -, -⟩ := four a2
  have A2 := hid a2
  clear a2
  have l3 := lt_of_block a3
  have p30 := cell_of (i := 0) a3 rfl
  have p31 := cell_of (i := 1) a3 rfl
  have A3 := hid a3
  clear a3
  (try simp only [])
  go_wp2_with fail
  refine (bl_at (allows_at ⟨p, r, l, f⟩ 0 (by decide) (by decide) _) (UhZ.out (by trivial))).mono ?_
  rintro v w5 ⟨rfl, hB⟩
  have a2 := stay hB A2.out
  have a3 := stay hB A3.out
  have HBn := hid (bgo HB.out hB)
  clear HB
  have HB := HBn
  clear HBn
  clear A2 l2 p20 p21 p22 p23 A3 l3 p30 p31
  clear hB
  have l2 := lt_of_block a2
  obtain ⟨p20, p21, p22, p23, -, -, -, -⟩ := four a2
  have A2 := hid a2
  clear a2
  have l3 := lt_of_block a3
  have p30 := cell_of (i := 0) a3 rfl
  have p31 := cell_of (i := 1) a3 rfl
  have A3 := hid a3
  clear a3
  (try simp only [])
  go_wp2_with fail
  refine (known_yes _).mono ?_
  rintro v w6 ⟨rfl, hB⟩
  have a2 := stay hB A2.out
  have a3 := stay hB A3.out
  have HBn := hid (bgo HB.out hB)
  clear HB
  have HB := HBn
  clear HBn
  clear A2 l2 p20 p21 p22 p23 A3 l3 p30 p31
  clear hB
  have l2 := lt_of_block a2
  obtain ⟨p20, p21, p22, p23, -, -, -, -⟩ := four a2
  have A2 := hid a2
  clear a2
  have l3 := lt_of_block a3
  have p30 := cell_of (i := 0) a3 rfl
  have p31 := cell_of (i := 1) a3 rfl
  have A3 := hid a3
  clear a3
  (try simp only [])
  go_wp2
  go_ret
  exact ⟨rfl, HB.out⟩

set_option maxRecDepth 100000 in
set_option maxHeartbeats 1000000 in
theorem rights_010 (p : Bool) (r : Int) (l : Bool) (f : Int) (x y a b : Nat) (e0 : IntKind.i64.wrap (x : Int) = x) (e1 : IntKind.i64.wrap (y : Int) = y) (lx : (x : Int) ≤ 255) (ly : (y : Int) ≤ 255) (xa : (x : Int) % 8 = a) (yb : (y : Int) % 8 = b) (_la : (a : Int) ≤ 7) (_lb : (b : Int) ≤ 7) (w : World)
    (hA : al ⟨p, r, l, f⟩ a = false) (hB : al ⟨p, r, l, f⟩ b = true) (hC : al ⟨p, r, l, f⟩ (bits .or .i64 (a : Int) (b : Int)) = false) (hD : false = true → al ⟨p, r, l, f⟩ (bits .and .i64 (a : Int) (b : Int)) = true) (hT : tb ⟨p, r, l, f⟩ = false) (hZ : false = true → al ⟨p, r, l, f⟩ 0 = false)
    (o : 0 ≤ bits .or .i64 (a : Int) (b : Int) ∧ bits .or .i64 (a : Int) (b : Int) ≤ 7) (n : 0 ≤ bits .and .i64 (a : Int) (b : Int) ∧ bits .and .i64 (a : Int) (b : Int) ≤ 7) :
    Calls Try.prog 7 #[.agg #[.bool p, .int .i64 r, .bool l, .int .i64 f], .agg #[.int .u8 x, .int .u8 y]] w fun v w' => v = .returned (.bool true) ∧ Below w.heap.size w w' := by
  have UhA := hid hA
  have UhB := hid hB
  have UhC := hid hC
  have UhD := hid hD
  have UhT := hid hT
  have UhZ := hid hZ
  have Uo := hid o
  have Un := hid n
  clear hA hB hC hD hT hZ o n
  go_enter Try.func7, Try.ntmps7
  go_wp2_with fail
  refine (bl_at (allows_at ⟨p, r, l, f⟩ a (by omega) (by omega) _) UhA.out).mono ?_
  rintro v w1 ⟨rfl, hB⟩
  have a2 := stay hB (two_new w _ _).1
  have a3 := stay hB (two_new w _ _).2
  have HB := hid (bgo (btwo w _ _) hB)
  clear hB
  have l2 := lt_of_block a2
  obtain ⟨p20, p21, p22, p23, -, -, -, -⟩ := four a2
  have A2 := hid a2
  clear a2
  have l3 := lt_of_block a3
  have p30 := cell_of (i := 0) a3 rfl
  have p31 := cell_of (i := 1) a3 rfl
  have A3 := hid a3
  clear a3
  (try simp only [])
  go_wp2_with fail
  refine (bl_at (allows_at ⟨p, r, l, f⟩ (bits .or .i64 (a : Int) (b : Int)) (by have := Uo.out; omega) (by have := Uo.out; omega) _) UhC.out).mono ?_
  rintro v w2 ⟨rfl, hB⟩
  have a2 := stay hB A2.out
  have a3 := stay hB A3.out
  have HBn := hid (bgo HB.out hB)
  clear HB
  have HB := HBn
  clear HBn
  clear A2 l2 p20 p21 p22 p23 A3 l3 p30 p31
  clear hB
  have l2 := lt_of_block a2
  obtain ⟨p20, p21, p22, p23, -, -, -, -⟩ := four a2
  have A2 := hid a2
  clear a2
  have l3 := lt_of_block a3
  have p30 := cell_of (i := 0) a3 rfl
  have p31 := cell_of (i := 1) a3 rfl
  have A3 := hid a3
  clear a3
  (try simp only [])
  go_wp2_with fail
  refine (bl_at (allows_at ⟨p, r, l, f⟩ a (by omega) (by omega) _) UhA.out).mono ?_
  rintro v w3 ⟨rfl, hB⟩
  have a2 := stay hB A2.out
  have a3 := stay hB A3.out
  have HBn := hid (bgo HB.out hB)
  clear HB
  have HB := HBn
  clear HBn
  clear A2 l2 p20 p21 p22 p23 A3 l3 p30 p31
  clear hB
  have l2 := lt_of_block a2
  obtain ⟨p20, p21, p22, p23, -, -, -, -⟩ := four a2
  have A2 := hid a2
  clear a2
  have l3 := lt_of_block a3
  have p30 := cell_of (i := 0) a3 rfl
  have p31 := cell_of (i := 1) a3 rfl
  have A3 := hid a3
  clear a3
  (try simp only [])
  go_wp2_with fail
  refine (bl_at (table_at ⟨p, r, l, f⟩ _) UhT.out).mono ?_
  rintro v w4 ⟨rfl, hB⟩
  have a2 := stay hB A2.out
  have a3 := stay hB A3.out
  have HBn := hid (bgo HB.out hB)
  clear HB
  have HB := HBn
  clear HBn
  clear A2 l2 p20 p21 p22 p23 A3 l3 p30 p31
  clear hB
  have l2 := lt_of_block a2
  obtain ⟨p20, p21, p22, p23, -, -, -, -⟩ := four a2
  have A2 := hid a2
  clear a2
  have l3 := lt_of_block a3
  have p30 := cell_of (i := 0) a3 rfl
  have p31 := cell_of (i := 1) a3 rfl
  have A3 := hid a3
  clear a3
  (try simp only [])
  go_wp2_with fail
  refine (known_yes _).mono ?_
  rintro v w5 ⟨rfl, hB⟩
  have a2 := stay hB A2.out
  have a3 := stay hB A3.out
  have HBn := hid (bgo HB.out hB)
  clear HB
  have HB := HBn
  clear HBn
  clear A2 l2 p20 p21 p22 p23 A3 l3 p30 p31
  clear hB
  have l2 := lt_of_block a2
  obtain ⟨p20, p21, p22, p23, -, -, -, -⟩ := four a2
  have A2 := hid a2
  clear a2
  have l3 := lt_of_block a3
  have p30 := cell_of (i := 0) a3 rfl
  have p31 := cell_of (i := 1) a3 rfl
  have A3 := hid a3
  clear a3
  (try simp only [])
  go_wp2
  go_ret
  exact ⟨rfl, HB.out⟩

set_option maxRecDepth 100000 in
set_option maxHeartbeats 1000000 in
theorem rights_011 (p : Bool) (r : Int) (l : Bool) (f : Int) (x y a b : Nat) (e0 : IntKind.i64.wrap (x : Int) = x) (e1 : IntKind.i64.wrap (y : Int) = y) (lx : (x : Int) ≤ 255) (ly : (y : Int) ≤ 255) (xa : (x : Int) % 8 = a) (yb : (y : Int) % 8 = b) (_la : (a : Int) ≤ 7) (_lb : (b : Int) ≤ 7) (w : World)
    (hA : al ⟨p, r, l, f⟩ a = false) (hB : al ⟨p, r, l, f⟩ b = true) (hC : al ⟨p, r, l, f⟩ (bits .or .i64 (a : Int) (b : Int)) = false) (hD : false = true → al ⟨p, r, l, f⟩ (bits .and .i64 (a : Int) (b : Int)) = true) (hT : tb ⟨p, r, l, f⟩ = true) (hZ : true = true → al ⟨p, r, l, f⟩ 0 = false)
    (o : 0 ≤ bits .or .i64 (a : Int) (b : Int) ∧ bits .or .i64 (a : Int) (b : Int) ≤ 7) (n : 0 ≤ bits .and .i64 (a : Int) (b : Int) ∧ bits .and .i64 (a : Int) (b : Int) ≤ 7) :
    Calls Try.prog 7 #[.agg #[.bool p, .int .i64 r, .bool l, .int .i64 f], .agg #[.int .u8 x, .int .u8 y]] w fun v w' => v = .returned (.bool true) ∧ Below w.heap.size w w' := by
  have UhA := hid hA
  have UhB := hid hB
  have UhC := hid hC
  have UhD := hid hD
  have UhT := hid hT
  have UhZ := hid hZ
  have Uo := hid o
  have Un := hid n
  clear hA hB hC hD hT hZ o n
  go_enter Try.func7, Try.ntmps7
  go_wp2_with fail
  refine (bl_at (allows_at ⟨p, r, l, f⟩ a (by omega) (by omega) _) UhA.out).mono ?_
  rintro v w1 ⟨rfl, hB⟩
  have a2 := stay hB (two_new w _ _).1
  have a3 := stay hB (two_new w _ _).2
  have HB := hid (bgo (btwo w _ _) hB)
  clear hB
  have l2 := lt_of_block a2
  obtain ⟨p20, p21, p22, p23, -, -, -, -⟩ := four a2
  have A2 := hid a2
  clear a2
  have l3 := lt_of_block a3
  have p30 := cell_of (i := 0) a3 rfl
  have p31 := cell_of (i := 1) a3 rfl
  have A3 := hid a3
  clear a3
  (try simp only [])
  go_wp2_with fail
  refine (bl_at (allows_at ⟨p, r, l, f⟩ (bits .or .i64 (a : Int) (b : Int)) (by have := Uo.out; omega) (by have := Uo.out; omega) _) UhC.out).mono ?_
  rintro v w2 ⟨rfl, hB⟩
  have a2 := stay hB A2.out
  have a3 := stay hB A3.out
  have HBn := hid (bgo HB.out hB)
  clear HB
  have HB := HBn
  clear HBn
  clear A2 l2 p20 p21 p22 p23 A3 l3 p30 p31
  clear hB
  have l2 := lt_of_block a2
  obtain ⟨p20, p21, p22, p23, -, -, -, -⟩ := four a2
  have A2 := hid a2
  clear a2
  have l3 := lt_of_block a3
  have p30 := cell_of (i := 0) a3 rfl
  have p31 := cell_of (i := 1) a3 rfl
  have A3 := hid a3
  clear a3
  (try simp only [])
  go_wp2_with fail
  refine (bl_at (allows_at ⟨p, r, l, f⟩ a (by omega) (by omega) _) UhA.out).mono ?_
  rintro v w3 ⟨rfl, hB⟩
  have a2 := stay hB A2.out
  have a3 := stay hB A3.out
  have HBn := hid (bgo HB.out hB)
  clear HB
  have HB := HBn
  clear HBn
  clear A2 l2 p20 p21 p22 p23 A3 l3 p30 p31
  clear hB
  have l2 := lt_of_block a2
  obtain ⟨p20, p21, p22, p23, -, -, -, -⟩ := four a2
  have A2 := hid a2
  clear a2
  have l3 := lt_of_block a3
  have p30 := cell_of (i := 0) a3 rfl
  have p31 := cell_of (i := 1) a3 rfl
  have A3 := hid a3
  clear a3
  (try simp only [])
  go_wp2_with fail
  refine (bl_at (table_at ⟨p, r, l, f⟩ _) UhT.out).mono ?_
  rintro v w4 ⟨rfl, hB⟩
  have a2 := stay hB A2.out
  have a3 := stay hB A3.out
  have HBn := hid (bgo HB.out hB)
  clear HB
  have HB := HBn
  clear HBn
  clear A2 l2 p20 p21 p22 p23 A3 l3 p30 p31
  clear hB
  have l2 := lt_of_block a2
  obtain ⟨p20, p21, p22, p23, -, -, -, -⟩ := four a2
  have A2 := hid a2
  clear a2
  have l3 := lt_of_block a3
  have p30 := cell_of (i := 0) a3 rfl
  have p31 := cell_of (i := 1) a3 rfl
  have A3 := hid a3
  clear a3
  (try simp only [])
  go_wp2_with fail
  refine (bl_at (allows_at ⟨p, r, l, f⟩ 0 (by decide) (by decide) _) (UhZ.out (by trivial))).mono ?_
  rintro v w5 ⟨rfl, hB⟩
  have a2 := stay hB A2.out
  have a3 := stay hB A3.out
  have HBn := hid (bgo HB.out hB)
  clear HB
  have HB := HBn
  clear HBn
  clear A2 l2 p20 p21 p22 p23 A3 l3 p30 p31
  clear hB
  have l2 := lt_of_block a2
  obtain ⟨p20, p21, p22, p23, -, -, -, -⟩ := four a2
  have A2 := hid a2
  clear a2
  have l3 := lt_of_block a3
  have p30 := cell_of (i := 0) a3 rfl
  have p31 := cell_of (i := 1) a3 rfl
  have A3 := hid a3
  clear a3
  (try simp only [])
  go_wp2_with fail
  refine (known_yes _).mono ?_
  rintro v w6 ⟨rfl, hB⟩
  have a2 := stay hB A2.out
  have a3 := stay hB A3.out
  have HBn := hid (bgo HB.out hB)
  clear HB
  have HB := HBn
  clear HBn
  clear A2 l2 p20 p21 p22 p23 A3 l3 p30 p31
  clear hB
  have l2 := lt_of_block a2
  obtain ⟨p20, p21, p22, p23, -, -, -, -⟩ := four a2
  have A2 := hid a2
  clear a2
  have l3 := lt_of_block a3
  have p30 := cell_of (i := 0) a3 rfl
  have p31 := cell_of (i := 1) a3 rfl
  have A3 := hid a3
  clear a3
  (try simp only [])
  go_wp2
  go_ret
  exact ⟨rfl, HB.out⟩

set_option maxRecDepth 100000 in
set_option maxHeartbeats 1000000 in
theorem rights_100 (p : Bool) (r : Int) (l : Bool) (f : Int) (x y a b : Nat) (e0 : IntKind.i64.wrap (x : Int) = x) (e1 : IntKind.i64.wrap (y : Int) = y) (lx : (x : Int) ≤ 255) (ly : (y : Int) ≤ 255) (xa : (x : Int) % 8 = a) (yb : (y : Int) % 8 = b) (_la : (a : Int) ≤ 7) (_lb : (b : Int) ≤ 7) (w : World)
    (hA : al ⟨p, r, l, f⟩ a = true) (hB : al ⟨p, r, l, f⟩ b = false) (hC : al ⟨p, r, l, f⟩ (bits .or .i64 (a : Int) (b : Int)) = false) (hD : true = true → al ⟨p, r, l, f⟩ (bits .and .i64 (a : Int) (b : Int)) = true) (hT : tb ⟨p, r, l, f⟩ = false) (hZ : false = true → al ⟨p, r, l, f⟩ 0 = false)
    (o : 0 ≤ bits .or .i64 (a : Int) (b : Int) ∧ bits .or .i64 (a : Int) (b : Int) ≤ 7) (n : 0 ≤ bits .and .i64 (a : Int) (b : Int) ∧ bits .and .i64 (a : Int) (b : Int) ≤ 7) :
    Calls Try.prog 7 #[.agg #[.bool p, .int .i64 r, .bool l, .int .i64 f], .agg #[.int .u8 x, .int .u8 y]] w fun v w' => v = .returned (.bool true) ∧ Below w.heap.size w w' := by
  have UhA := hid hA
  have UhB := hid hB
  have UhC := hid hC
  have UhD := hid hD
  have UhT := hid hT
  have UhZ := hid hZ
  have Uo := hid o
  have Un := hid n
  clear hA hB hC hD hT hZ o n
  go_enter Try.func7, Try.ntmps7
  go_wp2_with fail
  refine (bl_at (allows_at ⟨p, r, l, f⟩ a (by omega) (by omega) _) UhA.out).mono ?_
  rintro v w1 ⟨rfl, hB⟩
  have a2 := stay hB (two_new w _ _).1
  have a3 := stay hB (two_new w _ _).2
  have HB := hid (bgo (btwo w _ _) hB)
  clear hB
  have l2 := lt_of_block a2
  obtain ⟨p20, p21, p22, p23, -, -, -, -⟩ := four a2
  have A2 := hid a2
  clear a2
  have l3 := lt_of_block a3
  have p30 := cell_of (i := 0) a3 rfl
  have p31 := cell_of (i := 1) a3 rfl
  have A3 := hid a3
  clear a3
  (try simp only [])
  go_wp2_with fail
  refine (bl_at (allows_at ⟨p, r, l, f⟩ b (by omega) (by omega) _) UhB.out).mono ?_
  rintro v w2 ⟨rfl, hB⟩
  have a2 := stay hB A2.out
  have a3 := stay hB A3.out
  have HBn := hid (bgo HB.out hB)
  clear HB
  have HB := HBn
  clear HBn
  clear A2 l2 p20 p21 p22 p23 A3 l3 p30 p31
  clear hB
  have l2 := lt_of_block a2
  obtain ⟨p20, p21, p22, p23, -, -, -, -⟩ := four a2
  have A2 := hid a2
  clear a2
  have l3 := lt_of_block a3
  have p30 := cell_of (i := 0) a3 rfl
  have p31 := cell_of (i := 1) a3 rfl
  have A3 := hid a3
  clear a3
  (try simp only [])
  go_wp2_with fail
  refine (bl_at (allows_at ⟨p, r, l, f⟩ (bits .or .i64 (a : Int) (b : Int)) (by have := Uo.out; omega) (by have := Uo.out; omega) _) UhC.out).mono ?_
  rintro v w3 ⟨rfl, hB⟩
  have a2 := stay hB A2.out
  have a3 := stay hB A3.out
  have HBn := hid (bgo HB.out hB)
  clear HB
  have HB := HBn
  clear HBn
  clear A2 l2 p20 p21 p22 p23 A3 l3 p30 p31
  clear hB
  have l2 := lt_of_block a2
  obtain ⟨p20, p21, p22, p23, -, -, -, -⟩ := four a2
  have A2 := hid a2
  clear a2
  have l3 := lt_of_block a3
  have p30 := cell_of (i := 0) a3 rfl
  have p31 := cell_of (i := 1) a3 rfl
  have A3 := hid a3
  clear a3
  (try simp only [])
  go_wp2_with fail
  refine (bl_at (allows_at ⟨p, r, l, f⟩ a (by omega) (by omega) _) UhA.out).mono ?_
  rintro v w4 ⟨rfl, hB⟩
  have a2 := stay hB A2.out
  have a3 := stay hB A3.out
  have HBn := hid (bgo HB.out hB)
  clear HB
  have HB := HBn
  clear HBn
  clear A2 l2 p20 p21 p22 p23 A3 l3 p30 p31
  clear hB
  have l2 := lt_of_block a2
  obtain ⟨p20, p21, p22, p23, -, -, -, -⟩ := four a2
  have A2 := hid a2
  clear a2
  have l3 := lt_of_block a3
  have p30 := cell_of (i := 0) a3 rfl
  have p31 := cell_of (i := 1) a3 rfl
  have A3 := hid a3
  clear a3
  (try simp only [])
  go_wp2_with fail
  refine (bl_at (allows_at ⟨p, r, l, f⟩ (bits .and .i64 (a : Int) (b : Int)) (by have := Un.out; omega) (by have := Un.out; omega) _) (UhD.out (by trivial))).mono ?_
  rintro v w5 ⟨rfl, hB⟩
  have a2 := stay hB A2.out
  have a3 := stay hB A3.out
  have HBn := hid (bgo HB.out hB)
  clear HB
  have HB := HBn
  clear HBn
  clear A2 l2 p20 p21 p22 p23 A3 l3 p30 p31
  clear hB
  have l2 := lt_of_block a2
  obtain ⟨p20, p21, p22, p23, -, -, -, -⟩ := four a2
  have A2 := hid a2
  clear a2
  have l3 := lt_of_block a3
  have p30 := cell_of (i := 0) a3 rfl
  have p31 := cell_of (i := 1) a3 rfl
  have A3 := hid a3
  clear a3
  (try simp only [])
  go_wp2_with fail
  refine (bl_at (table_at ⟨p, r, l, f⟩ _) UhT.out).mono ?_
  rintro v w6 ⟨rfl, hB⟩
  have a2 := stay hB A2.out
  have a3 := stay hB A3.out
  have HBn := hid (bgo HB.out hB)
  clear HB
  have HB := HBn
  clear HBn
  clear A2 l2 p20 p21 p22 p23 A3 l3 p30 p31
  clear hB
  have l2 := lt_of_block a2
  obtain ⟨p20, p21, p22, p23, -, -, -, -⟩ := four a2
  have A2 := hid a2
  clear a2
  have l3 := lt_of_block a3
  have p30 := cell_of (i := 0) a3 rfl
  have p31 := cell_of (i := 1) a3 rfl
  have A3 := hid a3
  clear a3
  (try simp only [])
  go_wp2_with fail
  refine (known_yes _).mono ?_
  rintro v w7 ⟨rfl, hB⟩
  have a2 := stay hB A2.out
  have a3 := stay hB A3.out
  have HBn := hid (bgo HB.out hB)
  clear HB
  have HB := HBn
  clear HBn
  clear A2 l2 p20 p21 p22 p23 A3 l3 p30 p31
  clear hB
  have l2 := lt_of_block a2
  obtain ⟨p20, p21, p22, p23, -, -, -, -⟩ := four a2
  have A2 := hid a2
  clear a2
  have l3 := lt_of_block a3
  have p30 := cell_of (i := 0) a3 rfl
  have p31 := cell_of (i := 1) a3 rfl
  have A3 := hid a3
  clear a3
  (try simp only [])
  go_wp2
  go_ret
  exact ⟨rfl, HB.out⟩

set_option maxRecDepth 100000 in
set_option maxHeartbeats 1000000 in
theorem rights_101 (p : Bool) (r : Int) (l : Bool) (f : Int) (x y a b : Nat) (e0 : IntKind.i64.wrap (x : Int) = x) (e1 : IntKind.i64.wrap (y : Int) = y) (lx : (x : Int) ≤ 255) (ly : (y : Int) ≤ 255) (xa : (x : Int) % 8 = a) (yb : (y : Int) % 8 = b) (_la : (a : Int) ≤ 7) (_lb : (b : Int) ≤ 7) (w : World)
    (hA : al ⟨p, r, l, f⟩ a = true) (hB : al ⟨p, r, l, f⟩ b = false) (hC : al ⟨p, r, l, f⟩ (bits .or .i64 (a : Int) (b : Int)) = false) (hD : true = true → al ⟨p, r, l, f⟩ (bits .and .i64 (a : Int) (b : Int)) = true) (hT : tb ⟨p, r, l, f⟩ = true) (hZ : true = true → al ⟨p, r, l, f⟩ 0 = false)
    (o : 0 ≤ bits .or .i64 (a : Int) (b : Int) ∧ bits .or .i64 (a : Int) (b : Int) ≤ 7) (n : 0 ≤ bits .and .i64 (a : Int) (b : Int) ∧ bits .and .i64 (a : Int) (b : Int) ≤ 7) :
    Calls Try.prog 7 #[.agg #[.bool p, .int .i64 r, .bool l, .int .i64 f], .agg #[.int .u8 x, .int .u8 y]] w fun v w' => v = .returned (.bool true) ∧ Below w.heap.size w w' := by
  have UhA := hid hA
  have UhB := hid hB
  have UhC := hid hC
  have UhD := hid hD
  have UhT := hid hT
  have UhZ := hid hZ
  have Uo := hid o
  have Un := hid n
  clear hA hB hC hD hT hZ o n
  go_enter Try.func7, Try.ntmps7
  go_wp2_with fail
  refine (bl_at (allows_at ⟨p, r, l, f⟩ a (by omega) (by omega) _) UhA.out).mono ?_
  rintro v w1 ⟨rfl, hB⟩
  have a2 := stay hB (two_new w _ _).1
  have a3 := stay hB (two_new w _ _).2
  have HB := hid (bgo (btwo w _ _) hB)
  clear hB
  have l2 := lt_of_block a2
  obtain ⟨p20, p21, p22, p23, -, -, -, -⟩ := four a2
  have A2 := hid a2
  clear a2
  have l3 := lt_of_block a3
  have p30 := cell_of (i := 0) a3 rfl
  have p31 := cell_of (i := 1) a3 rfl
  have A3 := hid a3
  clear a3
  (try simp only [])
  go_wp2_with fail
  refine (bl_at (allows_at ⟨p, r, l, f⟩ b (by omega) (by omega) _) UhB.out).mono ?_
  rintro v w2 ⟨rfl, hB⟩
  have a2 := stay hB A2.out
  have a3 := stay hB A3.out
  have HBn := hid (bgo HB.out hB)
  clear HB
  have HB := HBn
  clear HBn
  clear A2 l2 p20 p21 p22 p23 A3 l3 p30 p31
  clear hB
  have l2 := lt_of_block a2
  obtain ⟨p20, p21, p22, p23, -, -, -, -⟩ := four a2
  have A2 := hid a2
  clear a2
  have l3 := lt_of_block a3
  have p30 := cell_of (i := 0) a3 rfl
  have p31 := cell_of (i := 1) a3 rfl
  have A3 := hid a3
  clear a3
  (try simp only [])
  go_wp2_with fail
  refine (bl_at (allows_at ⟨p, r, l, f⟩ (bits .or .i64 (a : Int) (b : Int)) (by have := Uo.out; omega) (by have := Uo.out; omega) _) UhC.out).mono ?_
  rintro v w3 ⟨rfl, hB⟩
  have a2 := stay hB A2.out
  have a3 := stay hB A3.out
  have HBn := hid (bgo HB.out hB)
  clear HB
  have HB := HBn
  clear HBn
  clear A2 l2 p20 p21 p22 p23 A3 l3 p30 p31
  clear hB
  have l2 := lt_of_block a2
  obtain ⟨p20, p21, p22, p23, -, -, -, -⟩ := four a2
  have A2 := hid a2
  clear a2
  have l3 := lt_of_block a3
  have p30 := cell_of (i := 0) a3 rfl
  have p31 := cell_of (i := 1) a3 rfl
  have A3 := hid a3
  clear a3
  (try simp only [])
  go_wp2_with fail
  refine (bl_at (allows_at ⟨p, r, l, f⟩ a (by omega) (by omega) _) UhA.out).mono ?_
  rintro v w4 ⟨rfl, hB⟩
  have a2 := stay hB A2.out
  have a3 := stay hB A3.out
  have HBn := hid (bgo HB.out hB)
  clear HB
  have HB := HBn
  clear HBn
  clear A2 l2 p20 p21 p22 p23 A3 l3 p30 p31
  clear hB
  have l2 := lt_of_block a2
  obtain ⟨p20, p21, p22, p23, -, -, -, -⟩ := four a2
  have A2 := hid a2
  clear a2
  have l3 := lt_of_block a3
  have p30 := cell_of (i := 0) a3 rfl
  have p31 := cell_of (i := 1) a3 rfl
  have A3 := hid a3
  clear a3
  (try simp only [])
  go_wp2_with fail
  refine (bl_at (allows_at ⟨p, r, l, f⟩ (bits .and .i64 (a : Int) (b : Int)) (by have := Un.out; omega) (by have := Un.out; omega) _) (UhD.out (by trivial))).mono ?_
  rintro v w5 ⟨rfl, hB⟩
  have a2 := stay hB A2.out
  have a3 := stay hB A3.out
  have HBn := hid (bgo HB.out hB)
  clear HB
  have HB := HBn
  clear HBn
  clear A2 l2 p20 p21 p22 p23 A3 l3 p30 p31
  clear hB
  have l2 := lt_of_block a2
  obtain ⟨p20, p21, p22, p23, -, -, -, -⟩ := four a2
  have A2 := hid a2
  clear a2
  have l3 := lt_of_block a3
  have p30 := cell_of (i := 0) a3 rfl
  have p31 := cell_of (i := 1) a3 rfl
  have A3 := hid a3
  clear a3
  (try simp only [])
  go_wp2_with fail
  refine (bl_at (table_at ⟨p, r, l, f⟩ _) UhT.out).mono ?_
  rintro v w6 ⟨rfl, hB⟩
  have a2 := stay hB A2.out
  have a3 := stay hB A3.out
  have HBn := hid (bgo HB.out hB)
  clear HB
  have HB := HBn
  clear HBn
  clear A2 l2 p20 p21 p22 p23 A3 l3 p30 p31
  clear hB
  have l2 := lt_of_block a2
  obtain ⟨p20, p21, p22, p23, -, -, -, -⟩ := four a2
  have A2 := hid a2
  clear a2
  have l3 := lt_of_block a3
  have p30 := cell_of (i := 0) a3 rfl
  have p31 := cell_of (i := 1) a3 rfl
  have A3 := hid a3
  clear a3
  (try simp only [])
  go_wp2_with fail
  refine (bl_at (allows_at ⟨p, r, l, f⟩ 0 (by decide) (by decide) _) (UhZ.out (by trivial))).mono ?_
  rintro v w7 ⟨rfl, hB⟩
  have a2 := stay hB A2.out
  have a3 := stay hB A3.out
  have HBn := hid (bgo HB.out hB)
  clear HB
  have HB := HBn
  clear HBn
  clear A2 l2 p20 p21 p22 p23 A3 l3 p30 p31
  clear hB
  have l2 := lt_of_block a2
  obtain ⟨p20, p21, p22, p23, -, -, -, -⟩ := four a2
  have A2 := hid a2
  clear a2
  have l3 := lt_of_block a3
  have p30 := cell_of (i := 0) a3 rfl
  have p31 := cell_of (i := 1) a3 rfl
  have A3 := hid a3
  clear a3
  (try simp only [])
  go_wp2_with fail
  refine (known_yes _).mono ?_
  rintro v w8 ⟨rfl, hB⟩
  have a2 := stay hB A2.out
  have a3 := stay hB A3.out
  have HBn := hid (bgo HB.out hB)
  clear HB
  have HB := HBn
  clear HBn
  clear A2 l2 p20 p21 p22 p23 A3 l3 p30 p31
  clear hB
  have l2 := lt_of_block a2
  obtain ⟨p20, p21, p22, p23, -, -, -, -⟩ := four a2
  have A2 := hid a2
  clear a2
  have l3 := lt_of_block a3
  have p30 := cell_of (i := 0) a3 rfl
  have p31 := cell_of (i := 1) a3 rfl
  have A3 := hid a3
  clear a3
  (try simp only [])
  go_wp2
  go_ret
  exact ⟨rfl, HB.out⟩

set_option maxRecDepth 100000 in
set_option maxHeartbeats 1000000 in
theorem rights_110 (p : Bool) (r : Int) (l : Bool) (f : Int) (x y a b : Nat) (e0 : IntKind.i64.wrap (x : Int) = x) (e1 : IntKind.i64.wrap (y : Int) = y) (lx : (x : Int) ≤ 255) (ly : (y : Int) ≤ 255) (xa : (x : Int) % 8 = a) (yb : (y : Int) % 8 = b) (_la : (a : Int) ≤ 7) (_lb : (b : Int) ≤ 7) (w : World)
    (hA : al ⟨p, r, l, f⟩ a = true) (hB : al ⟨p, r, l, f⟩ b = true) (hC : al ⟨p, r, l, f⟩ (bits .or .i64 (a : Int) (b : Int)) = true) (hD : true = true → al ⟨p, r, l, f⟩ (bits .and .i64 (a : Int) (b : Int)) = true) (hT : tb ⟨p, r, l, f⟩ = false) (hZ : false = true → al ⟨p, r, l, f⟩ 0 = false)
    (o : 0 ≤ bits .or .i64 (a : Int) (b : Int) ∧ bits .or .i64 (a : Int) (b : Int) ≤ 7) (n : 0 ≤ bits .and .i64 (a : Int) (b : Int) ∧ bits .and .i64 (a : Int) (b : Int) ≤ 7) :
    Calls Try.prog 7 #[.agg #[.bool p, .int .i64 r, .bool l, .int .i64 f], .agg #[.int .u8 x, .int .u8 y]] w fun v w' => v = .returned (.bool true) ∧ Below w.heap.size w w' := by
  have UhA := hid hA
  have UhB := hid hB
  have UhC := hid hC
  have UhD := hid hD
  have UhT := hid hT
  have UhZ := hid hZ
  have Uo := hid o
  have Un := hid n
  clear hA hB hC hD hT hZ o n
  go_enter Try.func7, Try.ntmps7
  go_wp2_with fail
  refine (bl_at (allows_at ⟨p, r, l, f⟩ a (by omega) (by omega) _) UhA.out).mono ?_
  rintro v w1 ⟨rfl, hB⟩
  have a2 := stay hB (two_new w _ _).1
  have a3 := stay hB (two_new w _ _).2
  have HB := hid (bgo (btwo w _ _) hB)
  clear hB
  have l2 := lt_of_block a2
  obtain ⟨p20, p21, p22, p23, -, -, -, -⟩ := four a2
  have A2 := hid a2
  clear a2
  have l3 := lt_of_block a3
  have p30 := cell_of (i := 0) a3 rfl
  have p31 := cell_of (i := 1) a3 rfl
  have A3 := hid a3
  clear a3
  (try simp only [])
  go_wp2_with fail
  refine (bl_at (allows_at ⟨p, r, l, f⟩ b (by omega) (by omega) _) UhB.out).mono ?_
  rintro v w2 ⟨rfl, hB⟩
  have a2 := stay hB A2.out
  have a3 := stay hB A3.out
  have HBn := hid (bgo HB.out hB)
  clear HB
  have HB := HBn
  clear HBn
  clear A2 l2 p20 p21 p22 p23 A3 l3 p30 p31
  clear hB
  have l2 := lt_of_block a2
  obtain ⟨p20, p21, p22, p23, -, -, -, -⟩ := four a2
  have A2 := hid a2
  clear a2
  have l3 := lt_of_block a3
  have p30 := cell_of (i := 0) a3 rfl
  have p31 := cell_of (i := 1) a3 rfl
  have A3 := hid a3
  clear a3
  (try simp only [])
  go_wp2_with fail
  refine (bl_at (allows_at ⟨p, r, l, f⟩ (bits .or .i64 (a : Int) (b : Int)) (by have := Uo.out; omega) (by have := Uo.out; omega) _) UhC.out).mono ?_
  rintro v w3 ⟨rfl, hB⟩
  have a2 := stay hB A2.out
  have a3 := stay hB A3.out
  have HBn := hid (bgo HB.out hB)
  clear HB
  have HB := HBn
  clear HBn
  clear A2 l2 p20 p21 p22 p23 A3 l3 p30 p31
  clear hB
  have l2 := lt_of_block a2
  obtain ⟨p20, p21, p22, p23, -, -, -, -⟩ := four a2
  have A2 := hid a2
  clear a2
  have l3 := lt_of_block a3
  have p30 := cell_of (i := 0) a3 rfl
  have p31 := cell_of (i := 1) a3 rfl
  have A3 := hid a3
  clear a3
  (try simp only [])
  go_wp2_with fail
  refine (bl_at (allows_at ⟨p, r, l, f⟩ a (by omega) (by omega) _) UhA.out).mono ?_
  rintro v w4 ⟨rfl, hB⟩
  have a2 := stay hB A2.out
  have a3 := stay hB A3.out
  have HBn := hid (bgo HB.out hB)
  clear HB
  have HB := HBn
  clear HBn
  clear A2 l2 p20 p21 p22 p23 A3 l3 p30 p31
  clear hB
  have l2 := lt_of_block a2
  obtain ⟨p20, p21, p22, p23, -, -, -, -⟩ := four a2
  have A2 := hid a2
  clear a2
  have l3 := lt_of_block a3
  have p30 := cell_of (i := 0) a3 rfl
  have p31 := cell_of (i := 1) a3 rfl
  have A3 := hid a3
  clear a3
  (try simp only [])
  go_wp2_with fail
  refine (bl_at (allows_at ⟨p, r, l, f⟩ (bits .and .i64 (a : Int) (b : Int)) (by have := Un.out; omega) (by have := Un.out; omega) _) (UhD.out (by trivial))).mono ?_
  rintro v w5 ⟨rfl, hB⟩
  have a2 := stay hB A2.out
  have a3 := stay hB A3.out
  have HBn := hid (bgo HB.out hB)
  clear HB
  have HB := HBn
  clear HBn
  clear A2 l2 p20 p21 p22 p23 A3 l3 p30 p31
  clear hB
  have l2 := lt_of_block a2
  obtain ⟨p20, p21, p22, p23, -, -, -, -⟩ := four a2
  have A2 := hid a2
  clear a2
  have l3 := lt_of_block a3
  have p30 := cell_of (i := 0) a3 rfl
  have p31 := cell_of (i := 1) a3 rfl
  have A3 := hid a3
  clear a3
  (try simp only [])
  go_wp2_with fail
  refine (bl_at (table_at ⟨p, r, l, f⟩ _) UhT.out).mono ?_
  rintro v w6 ⟨rfl, hB⟩
  have a2 := stay hB A2.out
  have a3 := stay hB A3.out
  have HBn := hid (bgo HB.out hB)
  clear HB
  have HB := HBn
  clear HBn
  clear A2 l2 p20 p21 p22 p23 A3 l3 p30 p31
  clear hB
  have l2 := lt_of_block a2
  obtain ⟨p20, p21, p22, p23, -, -, -, -⟩ := four a2
  have A2 := hid a2
  clear a2
  have l3 := lt_of_block a3
  have p30 := cell_of (i := 0) a3 rfl
  have p31 := cell_of (i := 1) a3 rfl
  have A3 := hid a3
  clear a3
  (try simp only [])
  go_wp2_with fail
  refine (known_yes _).mono ?_
  rintro v w7 ⟨rfl, hB⟩
  have a2 := stay hB A2.out
  have a3 := stay hB A3.out
  have HBn := hid (bgo HB.out hB)
  clear HB
  have HB := HBn
  clear HBn
  clear A2 l2 p20 p21 p22 p23 A3 l3 p30 p31
  clear hB
  have l2 := lt_of_block a2
  obtain ⟨p20, p21, p22, p23, -, -, -, -⟩ := four a2
  have A2 := hid a2
  clear a2
  have l3 := lt_of_block a3
  have p30 := cell_of (i := 0) a3 rfl
  have p31 := cell_of (i := 1) a3 rfl
  have A3 := hid a3
  clear a3
  (try simp only [])
  go_wp2
  go_ret
  exact ⟨rfl, HB.out⟩

set_option maxRecDepth 100000 in
set_option maxHeartbeats 1000000 in
theorem rights_111 (p : Bool) (r : Int) (l : Bool) (f : Int) (x y a b : Nat) (e0 : IntKind.i64.wrap (x : Int) = x) (e1 : IntKind.i64.wrap (y : Int) = y) (lx : (x : Int) ≤ 255) (ly : (y : Int) ≤ 255) (xa : (x : Int) % 8 = a) (yb : (y : Int) % 8 = b) (_la : (a : Int) ≤ 7) (_lb : (b : Int) ≤ 7) (w : World)
    (hA : al ⟨p, r, l, f⟩ a = true) (hB : al ⟨p, r, l, f⟩ b = true) (hC : al ⟨p, r, l, f⟩ (bits .or .i64 (a : Int) (b : Int)) = true) (hD : true = true → al ⟨p, r, l, f⟩ (bits .and .i64 (a : Int) (b : Int)) = true) (hT : tb ⟨p, r, l, f⟩ = true) (hZ : true = true → al ⟨p, r, l, f⟩ 0 = false)
    (o : 0 ≤ bits .or .i64 (a : Int) (b : Int) ∧ bits .or .i64 (a : Int) (b : Int) ≤ 7) (n : 0 ≤ bits .and .i64 (a : Int) (b : Int) ∧ bits .and .i64 (a : Int) (b : Int) ≤ 7) :
    Calls Try.prog 7 #[.agg #[.bool p, .int .i64 r, .bool l, .int .i64 f], .agg #[.int .u8 x, .int .u8 y]] w fun v w' => v = .returned (.bool true) ∧ Below w.heap.size w w' := by
  have UhA := hid hA
  have UhB := hid hB
  have UhC := hid hC
  have UhD := hid hD
  have UhT := hid hT
  have UhZ := hid hZ
  have Uo := hid o
  have Un := hid n
  clear hA hB hC hD hT hZ o n
  go_enter Try.func7, Try.ntmps7
  go_wp2_with fail
  refine (bl_at (allows_at ⟨p, r, l, f⟩ a (by omega) (by omega) _) UhA.out).mono ?_
  rintro v w1 ⟨rfl, hB⟩
  have a2 := stay hB (two_new w _ _).1
  have a3 := stay hB (two_new w _ _).2
  have HB := hid (bgo (btwo w _ _) hB)
  clear hB
  have l2 := lt_of_block a2
  obtain ⟨p20, p21, p22, p23, -, -, -, -⟩ := four a2
  have A2 := hid a2
  clear a2
  have l3 := lt_of_block a3
  have p30 := cell_of (i := 0) a3 rfl
  have p31 := cell_of (i := 1) a3 rfl
  have A3 := hid a3
  clear a3
  (try simp only [])
  go_wp2_with fail
  refine (bl_at (allows_at ⟨p, r, l, f⟩ b (by omega) (by omega) _) UhB.out).mono ?_
  rintro v w2 ⟨rfl, hB⟩
  have a2 := stay hB A2.out
  have a3 := stay hB A3.out
  have HBn := hid (bgo HB.out hB)
  clear HB
  have HB := HBn
  clear HBn
  clear A2 l2 p20 p21 p22 p23 A3 l3 p30 p31
  clear hB
  have l2 := lt_of_block a2
  obtain ⟨p20, p21, p22, p23, -, -, -, -⟩ := four a2
  have A2 := hid a2
  clear a2
  have l3 := lt_of_block a3
  have p30 := cell_of (i := 0) a3 rfl
  have p31 := cell_of (i := 1) a3 rfl
  have A3 := hid a3
  clear a3
  (try simp only [])
  go_wp2_with fail
  refine (bl_at (allows_at ⟨p, r, l, f⟩ (bits .or .i64 (a : Int) (b : Int)) (by have := Uo.out; omega) (by have := Uo.out; omega) _) UhC.out).mono ?_
  rintro v w3 ⟨rfl, hB⟩
  have a2 := stay hB A2.out
  have a3 := stay hB A3.out
  have HBn := hid (bgo HB.out hB)
  clear HB
  have HB := HBn
  clear HBn
  clear A2 l2 p20 p21 p22 p23 A3 l3 p30 p31
  clear hB
  have l2 := lt_of_block a2
  obtain ⟨p20, p21, p22, p23, -, -, -, -⟩ := four a2
  have A2 := hid a2
  clear a2
  have l3 := lt_of_block a3
  have p30 := cell_of (i := 0) a3 rfl
  have p31 := cell_of (i := 1) a3 rfl
  have A3 := hid a3
  clear a3
  (try simp only [])
  go_wp2_with fail
  refine (bl_at (allows_at ⟨p, r, l, f⟩ a (by omega) (by omega) _) UhA.out).mono ?_
  rintro v w4 ⟨rfl, hB⟩
  have a2 := stay hB A2.out
  have a3 := stay hB A3.out
  have HBn := hid (bgo HB.out hB)
  clear HB
  have HB := HBn
  clear HBn
  clear A2 l2 p20 p21 p22 p23 A3 l3 p30 p31
  clear hB
  have l2 := lt_of_block a2
  obtain ⟨p20, p21, p22, p23, -, -, -, -⟩ := four a2
  have A2 := hid a2
  clear a2
  have l3 := lt_of_block a3
  have p30 := cell_of (i := 0) a3 rfl
  have p31 := cell_of (i := 1) a3 rfl
  have A3 := hid a3
  clear a3
  (try simp only [])
  go_wp2_with fail
  refine (bl_at (allows_at ⟨p, r, l, f⟩ (bits .and .i64 (a : Int) (b : Int)) (by have := Un.out; omega) (by have := Un.out; omega) _) (UhD.out (by trivial))).mono ?_
  rintro v w5 ⟨rfl, hB⟩
  have a2 := stay hB A2.out
  have a3 := stay hB A3.out
  have HBn := hid (bgo HB.out hB)
  clear HB
  have HB := HBn
  clear HBn
  clear A2 l2 p20 p21 p22 p23 A3 l3 p30 p31
  clear hB
  have l2 := lt_of_block a2
  obtain ⟨p20, p21, p22, p23, -, -, -, -⟩ := four a2
  have A2 := hid a2
  clear a2
  have l3 := lt_of_block a3
  have p30 := cell_of (i := 0) a3 rfl
  have p31 := cell_of (i := 1) a3 rfl
  have A3 := hid a3
  clear a3
  (try simp only [])
  go_wp2_with fail
  refine (bl_at (table_at ⟨p, r, l, f⟩ _) UhT.out).mono ?_
  rintro v w6 ⟨rfl, hB⟩
  have a2 := stay hB A2.out
  have a3 := stay hB A3.out
  have HBn := hid (bgo HB.out hB)
  clear HB
  have HB := HBn
  clear HBn
  clear A2 l2 p20 p21 p22 p23 A3 l3 p30 p31
  clear hB
  have l2 := lt_of_block a2
  obtain ⟨p20, p21, p22, p23, -, -, -, -⟩ := four a2
  have A2 := hid a2
  clear a2
  have l3 := lt_of_block a3
  have p30 := cell_of (i := 0) a3 rfl
  have p31 := cell_of (i := 1) a3 rfl
  have A3 := hid a3
  clear a3
  (try simp only [])
  go_wp2_with fail
  refine (bl_at (allows_at ⟨p, r, l, f⟩ 0 (by decide) (by decide) _) (UhZ.out (by trivial))).mono ?_
  rintro v w7 ⟨rfl, hB⟩
  have a2 := stay hB A2.out
  have a3 := stay hB A3.out
  have HBn := hid (bgo HB.out hB)
  clear HB
  have HB := HBn
  clear HBn
  clear A2 l2 p20 p21 p22 p23 A3 l3 p30 p31
  clear hB
  have l2 := lt_of_block a2
  obtain ⟨p20, p21, p22, p23, -, -, -, -⟩ := four a2
  have A2 := hid a2
  clear a2
  have l3 := lt_of_block a3
  have p30 := cell_of (i := 0) a3 rfl
  have p31 := cell_of (i := 1) a3 rfl
  have A3 := hid a3
  clear a3
  (try simp only [])
  go_wp2_with fail
  refine (known_yes _).mono ?_
  rintro v w8 ⟨rfl, hB⟩
  have a2 := stay hB A2.out
  have a3 := stay hB A3.out
  have HBn := hid (bgo HB.out hB)
  clear HB
  have HB := HBn
  clear HBn
  clear A2 l2 p20 p21 p22 p23 A3 l3 p30 p31
  clear hB
  have l2 := lt_of_block a2
  obtain ⟨p20, p21, p22, p23, -, -, -, -⟩ := four a2
  have A2 := hid a2
  clear a2
  have l3 := lt_of_block a3
  have p30 := cell_of (i := 0) a3 rfl
  have p31 := cell_of (i := 1) a3 rfl
  have A3 := hid a3
  clear a3
  (try simp only [])
  go_wp2
  go_ret
  exact ⟨rfl, HB.out⟩


theorem rights_walk (e : En) (x y : Nat) (hx : x ≤ 255) (hy : y ≤ 255) (w : World) :
    Calls Try.prog 7 #[eV e, .agg #[.int .u8 x, .int .u8 y]] w fun v w' => v = .returned (.bool true) ∧ Below w.heap.size w w' := by
  have e0 : IntKind.i64.wrap (x : Int) = x := by rw [IntKind.wrap_i64]; omega
  have e1 : IntKind.i64.wrap (y : Int) = y := by rw [IntKind.wrap_i64]; omega
  have lx : (x : Int) ≤ 255 := by omega
  have ly : (y : Int) ≤ 255 := by omega
  have xa : (x : Int) % 8 = (x % 8 : Nat) := by omega
  have yb : (y : Int) % 8 = (y % 8 : Nat) := by omega
  have la : ((x % 8 : Nat) : Int) ≤ 7 := by omega
  have lb : ((y % 8 : Nat) : Int) ≤ 7 := by omega
  have hor := al_or e ⟨x % 8, by omega⟩ ⟨y % 8, by omega⟩
  have hand := al_and e ⟨x % 8, by omega⟩ ⟨y % 8, by omega⟩
  have hr := rng_fin ⟨x % 8, by omega⟩ ⟨y % 8, by omega⟩
  simp only at hor hand hr
  have hz := al_tb e
  cases hA : al e (x % 8 : Nat) <;> cases hB : al e (y % 8 : Nat) <;> cases hT : tb e
  · exact rights_000 e.p e.r e.l e.f x y (x % 8) (y % 8) e0 e1 lx ly xa yb la lb w hA hB (by rw [hA, hB] at hor; exact hor.symm) (fun h => by cases h) hT (fun h => by cases h) hr.2 hr.1
  · exact rights_001 e.p e.r e.l e.f x y (x % 8) (y % 8) e0 e1 lx ly xa yb la lb w hA hB (by rw [hA, hB] at hor; exact hor.symm) (fun h => by cases h) hT (fun h => hz hT) hr.2 hr.1
  · exact rights_010 e.p e.r e.l e.f x y (x % 8) (y % 8) e0 e1 lx ly xa yb la lb w hA hB (by rw [hA, hB] at hor; exact hor.symm) (fun h => by cases h) hT (fun h => by cases h) hr.2 hr.1
  · exact rights_011 e.p e.r e.l e.f x y (x % 8) (y % 8) e0 e1 lx ly xa yb la lb w hA hB (by rw [hA, hB] at hor; exact hor.symm) (fun h => by cases h) hT (fun h => hz hT) hr.2 hr.1
  · exact rights_100 e.p e.r e.l e.f x y (x % 8) (y % 8) e0 e1 lx ly xa yb la lb w hA hB (by rw [hA, hB] at hor; exact hor.symm) (fun h => hand hA) hT (fun h => by cases h) hr.2 hr.1
  · exact rights_101 e.p e.r e.l e.f x y (x % 8) (y % 8) e0 e1 lx ly xa yb la lb w hA hB (by rw [hA, hB] at hor; exact hor.symm) (fun h => hand hA) hT (fun h => hz hT) hr.2 hr.1
  · exact rights_110 e.p e.r e.l e.f x y (x % 8) (y % 8) e0 e1 lx ly xa yb la lb w hA hB (by rw [hA, hB] at hor; exact hor.symm) (fun h => hand hA) hT (fun h => by cases h) hr.2 hr.1
  · exact rights_111 e.p e.r e.l e.f x y (x % 8) (y % 8) e0 e1 lx ly xa yb la lb w hA hB (by rw [hA, hB] at hor; exact hor.symm) (fun h => hand hA) hT (fun h => hz hT) hr.2 hr.1
end Go.Proofs.Ytiafnmhmpjhddaa
