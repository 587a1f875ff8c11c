/- What Show of package act returns: an act's text. Condition: the tables stand in their variables. -/
import Derived.Test.YtoeopapnegjooaaDoorG
namespace Go.Proofs.YtoeopapnegjooaaDoor
open Go.RowKit

/-- What stands while an act is shown. -/
structure Sh (w0 w : World) (g1 g2 g3 : Nat) (x : Ac) (F : Array Value) : Prop where
  ac : IsAc w g1 x
  fo : w.heap[g2]? = some (.cells F 74 (0, 0))
  tw : IsTwo w g3 x.a x.b
  std : Std w
  bel : Below w0.heap.size w0 w
theorem IsTwo.below {w w' : World} {g : Nat} {a b : Int} (h : IsTwo w g a b) (k : Below w.heap.size w w') : IsTwo w' g a b := (k.block _ (lt_of_block h)).trans h
theorem IsTwo.c0 {w : World} {g : Nat} {a b : Int} (h : IsTwo w g a b) : w.cell? ⟨g, 0, none⟩ = some (.int .u64 a) := cell_of h rfl
theorem IsTwo.c1 {w : World} {g : Nat} {a b : Int} (h : IsTwo w g a b) : w.cell? ⟨g, 1, none⟩ = some (.int .u64 b) := cell_of h rfl
theorem Sh.below {w0 w w' : World} {g1 g2 g3 : Nat} {x : Ac} {F : Array Value} (h : Sh w0 w g1 g2 g3 x F) (k : Below w.heap.size w w') : Sh w0 w' g1 g2 g3 x F :=
  ⟨h.ac.below k, (k.block _ (lt_of_block h.fo)).trans h.fo, h.tw.below k, h.std.below k, bel_trans h.bel k⟩

/-- A number's digits. -/
def dg (n : Nat) : ByteArray := ⟨(Lib.decDigits n).toArray⟩
theorem dg_size (n : Nat) (h : n < 18446744073709551616) : (dg n).size ≤ 20 := by
  show (Lib.decDigits n).toArray.size ≤ 20
  simp only [List.size_toArray, Lib.decDigits_length]
  by_cases h1 : 1 ≤ n
  · have := Lib.numDigits_eq n h1 h; split at this <;> omega
  · have : n = 0 := by omega
    subst this
    rw [Lib.nDigits_small (by decide)]
    decide

/-- The place of an act is told. -/
theorem show_itoa {w0 : World} {g1 g2 g3 : Nat} {F : Array Value} {k a b : Int} {n : Nat} (hn : n ≤ 9223372036854775807) {u : ByteArray} {w : World}
    (h : (w.cell? ⟨g2, 1, none⟩ = some (.string u) ∧ w.cell? ⟨g1, 1, none⟩ = some (.int .i64 n)) ∧ Sh w0 w g1 g2 g3 ⟨k, n, a, b⟩ F) :
    Calls Tryd.prog 39 #[.int .i64 n] w fun e w' => e = .returned (.string (dg n)) ∧ ((w'.cell? ⟨g2, 1, none⟩ = some (.string u) ∧ w'.cell? ⟨g1, 1, none⟩ = some (.int .i64 n)) ∧ Sh w0 w' g1 g2 g3 ⟨k, n, a, b⟩ F) := by
  refine (itoa_at n hn w h.2.std.tab).mono ?_
  rintro e w' ⟨rfl, K⟩
  have l2 := lt_of_block h.2.fo
  have l1 := h.2.ac.lt
  exact ⟨rfl, ⟨(K.cell (p := ⟨g2, 1, none⟩) l2).trans h.1.1, (K.cell (p := ⟨g1, 1, none⟩) l1).trans h.1.2⟩, h.2.below K⟩
theorem show_fuint {w0 : World} {g1 g2 g3 : Nat} {F : Array Value} {x : Ac} {n : Nat} (hn : n < 18446744073709551616) {w : World} (h : Sh w0 w g1 g2 g3 x F) :
    Calls Tryd.prog 40 #[.int .u64 n, .int .i64 10] w fun e w' => e = .returned (.string (dg n)) ∧ Sh w0 w' g1 g2 g3 x F := by
  refine (fuint_at n hn w h.std.tab).mono ?_
  rintro e w' ⟨rfl, K⟩
  exact ⟨rfl, h.below K⟩

set_option maxRecDepth 100000 in
set_option maxHeartbeats 2000000 in
theorem show_1 (n : Nat) (hn : n ≤ 9223372036854775807) (w : World) (h : Std w) :
    Calls Tryd.prog 23 #[acV ⟨1, n, 0, 0⟩] w fun e w' => e = .returned (.string (((⟨#[108, 111, 97, 100]⟩ : ByteArray) ++ ⟨#[32]⟩) ++ dg n)) ∧ Below w.heap.size w w' := by
  have HS := Lib.hid h
  have HN := Lib.hid hn
  have zn := dg_size n (by omega)
  have y0 : ¬ 9223372036854775807 < 5 + (dg n).size := by omega
  have dd : decide ((n : Int) < 0) = false := by simp
  clear h
  go_enter Tryd.func23, Tryd.ntmps23
  go_wp2_with fail
  have hA0 : IsAc (w.alloc (.cells (acC ⟨1, n, 0, 0⟩) 40)) w.heap.size ⟨1, n, 0, 0⟩ := IsAc.new w _
  refine (fok_1 _ (HS.out.below (below_alloc w _)).forms).mono ?_
  rintro e w2 ⟨rfl, K2⟩
  have hA2 := hA0.below K2
  have HB2 := Lib.hid (bel_trans (below_alloc w _) K2)
  clear K2 hA0
  have c0 := hA2.c0
  have c1 := hA2.c1
  have c2 := hA2.c2
  have c3 := hA2.c3
  simp only [] at c0 c1 c2 c3
  have hlt2 := hA2.lt
  have HA2 := Lib.hid hA2
  clear hA2
  unfold str wLoad
  simp only []
  go_wp2_with fail
  refine (shown_0 _ _ 1 n 0 0 rfl rfl _).mono ?_
  rintro e w3 ⟨g, rfl, hTw, K3⟩
  have hF : (w2.alloc (.cells #[.int .i64 1, .string ⟨#[108, 111, 97, 100]⟩, .int .i64 0] 74)).heap[w2.heap.size]? = some (.cells #[.int .i64 1, .string ⟨#[108, 111, 97, 100]⟩, .int .i64 0] 74 (0, 0)) := heap_alloc_new _ _
  have H3 : Sh w w3 w.heap.size w2.heap.size g ⟨1, n, 0, 0⟩ #[.int .i64 1, .string ⟨#[108, 111, 97, 100]⟩, .int .i64 0] :=
    ⟨(HA2.out.below (below_alloc w2 _)).below K3, (K3.block _ (lt_of_block hF)).trans hF, hTw, (HS.out.below HB2.out).below (bel_trans (below_alloc w2 _) K3), bel_trans HB2.out (bel_trans (below_alloc w2 _) K3)⟩
  have HH3 := Lib.hid H3
  have e1 : w3.cell? ⟨w2.heap.size, 1, none⟩ = some (.string ⟨#[108, 111, 97, 100]⟩) := cell_of H3.fo rfl
  have e2 : w3.cell? ⟨w.heap.size, 1, none⟩ = some (.int .i64 n) := H3.ac.c1
  clear K3 hF H3 hTw c0 c1 c2 c3
  have hS0 : (w3.drew.cell? ⟨w2.heap.size, 1, none⟩ = some (.string ⟨#[108, 111, 97, 100]⟩) ∧ w3.drew.cell? ⟨w.heap.size, 1, none⟩ = some (.int .i64 n)) ∧ Sh w w3.drew w.heap.size w2.heap.size g ⟨1, n, 0, 0⟩ #[.int .i64 1, .string ⟨#[108, 111, 97, 100]⟩, .int .i64 0] := ⟨⟨e1, e2⟩, HH3.out.below (Below.refl _ _).drew⟩
  go_wp2_with fail
  go_region_held3 (fun w' => (w'.cell? ⟨w2.heap.size, 1, none⟩ = some (.string ⟨#[108, 111, 97, 100]⟩) ∧ w'.cell? ⟨w.heap.size, 1, none⟩ = some (.int .i64 n)) ∧ Sh w w' w.heap.size w2.heap.size g ⟨1, n, 0, 0⟩ #[.int .i64 1, .string ⟨#[108, 111, 97, 100]⟩, .int .i64 0]) (first | exact hS0 | assumption)
    (first
      | (go_at_call 39; refine (show_itoa HN.out (by assumption)).mono ?_; rintro e w4 ⟨rfl, hw4⟩))
  rename_i hHeld
  clear hHeld hS0 e1 e2 HH3
  have HH4 := Lib.hid hw4.2
  clear hw4
  go_wp2
  refine wp_loop_rounds 1 ?_
  rw [rounds_succ]
  go_wp2
  go_ret
  exact ⟨rfl, HH4.out.bel⟩
set_option maxRecDepth 100000 in
set_option maxHeartbeats 2000000 in
theorem show_2 (n : Nat) (hn : n ≤ 9223372036854775807) (a : Nat) (ha : a < 18446744073709551616) (w : World) (h : Std w) :
    Calls Tryd.prog 23 #[acV ⟨2, n, a, 0⟩] w fun e w' => e = .returned (.string ((((⟨#[115, 116, 111, 114, 101]⟩ : ByteArray) ++ ⟨#[32]⟩) ++ dg n) ++ (⟨#[32]⟩ ++ dg a))) ∧ Below w.heap.size w w' := by
  have HS := Lib.hid h
  have HN := Lib.hid hn
  have zn := dg_size n (by omega)
  have za := dg_size a ha
  have y0 : ¬ 9223372036854775807 < 6 + (dg n).size := by omega
  have y1 : ¬ 9223372036854775807 < 1 + (dg a).size := by omega
  have y2 : ¬ 9223372036854775807 < 6 + (dg n).size + (1 + (dg a).size) := by omega
  have dd : decide ((n : Int) < 0) = false := by simp
  clear h
  go_enter Tryd.func23, Tryd.ntmps23
  go_wp2_with fail
  have hA0 : IsAc (w.alloc (.cells (acC ⟨2, n, a, 0⟩) 40)) w.heap.size ⟨2, n, a, 0⟩ := IsAc.new w _
  refine (fok_2 _ (HS.out.below (below_alloc w _)).forms).mono ?_
  rintro e w2 ⟨rfl, K2⟩
  have hA2 := hA0.below K2
  have HB2 := Lib.hid (bel_trans (below_alloc w _) K2)
  clear K2 hA0
  have c0 := hA2.c0
  have c1 := hA2.c1
  have c2 := hA2.c2
  have c3 := hA2.c3
  simp only [] at c0 c1 c2 c3
  have hlt2 := hA2.lt
  have HA2 := Lib.hid hA2
  clear hA2
  unfold str wStore
  simp only []
  go_wp2_with fail
  refine (shown_1 _ _ 2 n a 0 rfl _).mono ?_
  rintro e w3 ⟨g, rfl, hTw, K3⟩
  have hF : (w2.alloc (.cells #[.int .i64 2, .string ⟨#[115, 116, 111, 114, 101]⟩, .int .i64 1] 74)).heap[w2.heap.size]? = some (.cells #[.int .i64 2, .string ⟨#[115, 116, 111, 114, 101]⟩, .int .i64 1] 74 (0, 0)) := heap_alloc_new _ _
  have H3 : Sh w w3 w.heap.size w2.heap.size g ⟨2, n, a, 0⟩ #[.int .i64 2, .string ⟨#[115, 116, 111, 114, 101]⟩, .int .i64 1] :=
    ⟨(HA2.out.below (below_alloc w2 _)).below K3, (K3.block _ (lt_of_block hF)).trans hF, hTw, (HS.out.below HB2.out).below (bel_trans (below_alloc w2 _) K3), bel_trans HB2.out (bel_trans (below_alloc w2 _) K3)⟩
  have HH3 := Lib.hid H3
  have e1 : w3.cell? ⟨w2.heap.size, 1, none⟩ = some (.string ⟨#[115, 116, 111, 114, 101]⟩) := cell_of H3.fo rfl
  have e2 : w3.cell? ⟨w.heap.size, 1, none⟩ = some (.int .i64 n) := H3.ac.c1
  clear K3 hF H3 hTw c0 c1 c2 c3
  have hS0 : (w3.drew.cell? ⟨w2.heap.size, 1, none⟩ = some (.string ⟨#[115, 116, 111, 114, 101]⟩) ∧ w3.drew.cell? ⟨w.heap.size, 1, none⟩ = some (.int .i64 n)) ∧ Sh w w3.drew w.heap.size w2.heap.size g ⟨2, n, a, 0⟩ #[.int .i64 2, .string ⟨#[115, 116, 111, 114, 101]⟩, .int .i64 1] := ⟨⟨e1, e2⟩, HH3.out.below (Below.refl _ _).drew⟩
  go_wp2_with fail
  go_region_held3 (fun w' => (w'.cell? ⟨w2.heap.size, 1, none⟩ = some (.string ⟨#[115, 116, 111, 114, 101]⟩) ∧ w'.cell? ⟨w.heap.size, 1, none⟩ = some (.int .i64 n)) ∧ Sh w w' w.heap.size w2.heap.size g ⟨2, n, a, 0⟩ #[.int .i64 2, .string ⟨#[115, 116, 111, 114, 101]⟩, .int .i64 1]) (first | exact hS0 | assumption)
    (first
      | (go_at_call 39; refine (show_itoa HN.out (by assumption)).mono ?_; rintro e w4 ⟨rfl, hw4⟩))
  rename_i hHeld
  clear hHeld hS0 e1 e2 HH3
  have HH4 := Lib.hid hw4.2
  clear hw4
  have m0 := HH4.out.tw.c0
  go_wp2
  refine wp_loop_rounds 2 ?_
  rw [rounds_succ]
  go_wp2_with fail
  refine (show_fuint ha HH4.out).mono ?_
  rintro e w5 ⟨rfl, hw5⟩
  have HH5 := Lib.hid hw5
  clear hw5 m0
  go_wp2
  rw [rounds_succ]
  go_wp2
  go_ret
  exact ⟨rfl, HH5.out.bel⟩
set_option maxRecDepth 100000 in
set_option maxHeartbeats 2000000 in
theorem show_3 (n : Nat) (hn : n ≤ 9223372036854775807) (a : Nat) (ha : a < 18446744073709551616) (b : Nat) (hb : b < 18446744073709551616) (w : World) (h : Std w) :
    Calls Tryd.prog 23 #[acV ⟨3, n, a, b⟩] w fun e w' => e = .returned (.string (((((⟨#[99, 97, 115]⟩ : ByteArray) ++ ⟨#[32]⟩) ++ dg n) ++ (⟨#[32]⟩ ++ dg a)) ++ (⟨#[32]⟩ ++ dg b))) ∧ Below w.heap.size w w' := by
  have HS := Lib.hid h
  have HN := Lib.hid hn
  have zn := dg_size n (by omega)
  have za := dg_size a ha
  have zb := dg_size b hb
  have y0 : ¬ 9223372036854775807 < 4 + (dg n).size := by omega
  have y1 : ¬ 9223372036854775807 < 1 + (dg a).size := by omega
  have y2 : ¬ 9223372036854775807 < 4 + (dg n).size + (1 + (dg a).size) := by omega
  have y3 : ¬ 9223372036854775807 < 1 + (dg b).size := by omega
  have y4 : ¬ 9223372036854775807 < 4 + (dg n).size + (1 + (dg a).size) + (1 + (dg b).size) := by omega
  have dd : decide ((n : Int) < 0) = false := by simp
  clear h
  go_enter Tryd.func23, Tryd.ntmps23
  go_wp2_with fail
  have hA0 : IsAc (w.alloc (.cells (acC ⟨3, n, a, b⟩) 40)) w.heap.size ⟨3, n, a, b⟩ := IsAc.new w _
  refine (fok_3 _ (HS.out.below (below_alloc w _)).forms).mono ?_
  rintro e w2 ⟨rfl, K2⟩
  have hA2 := hA0.below K2
  have HB2 := Lib.hid (bel_trans (below_alloc w _) K2)
  clear K2 hA0
  have c0 := hA2.c0
  have c1 := hA2.c1
  have c2 := hA2.c2
  have c3 := hA2.c3
  simp only [] at c0 c1 c2 c3
  have hlt2 := hA2.lt
  have HA2 := Lib.hid hA2
  clear hA2
  unfold str wCas
  simp only []
  go_wp2_with fail
  refine (shown_2 _ _ 3 n a b _).mono ?_
  rintro e w3 ⟨g, rfl, hTw, K3⟩
  have hF : (w2.alloc (.cells #[.int .i64 3, .string ⟨#[99, 97, 115]⟩, .int .i64 2] 74)).heap[w2.heap.size]? = some (.cells #[.int .i64 3, .string ⟨#[99, 97, 115]⟩, .int .i64 2] 74 (0, 0)) := heap_alloc_new _ _
  have H3 : Sh w w3 w.heap.size w2.heap.size g ⟨3, n, a, b⟩ #[.int .i64 3, .string ⟨#[99, 97, 115]⟩, .int .i64 2] :=
    ⟨(HA2.out.below (below_alloc w2 _)).below K3, (K3.block _ (lt_of_block hF)).trans hF, hTw, (HS.out.below HB2.out).below (bel_trans (below_alloc w2 _) K3), bel_trans HB2.out (bel_trans (below_alloc w2 _) K3)⟩
  have HH3 := Lib.hid H3
  have e1 : w3.cell? ⟨w2.heap.size, 1, none⟩ = some (.string ⟨#[99, 97, 115]⟩) := cell_of H3.fo rfl
  have e2 : w3.cell? ⟨w.heap.size, 1, none⟩ = some (.int .i64 n) := H3.ac.c1
  clear K3 hF H3 hTw c0 c1 c2 c3
  have hS0 : (w3.drew.cell? ⟨w2.heap.size, 1, none⟩ = some (.string ⟨#[99, 97, 115]⟩) ∧ w3.drew.cell? ⟨w.heap.size, 1, none⟩ = some (.int .i64 n)) ∧ Sh w w3.drew w.heap.size w2.heap.size g ⟨3, n, a, b⟩ #[.int .i64 3, .string ⟨#[99, 97, 115]⟩, .int .i64 2] := ⟨⟨e1, e2⟩, HH3.out.below (Below.refl _ _).drew⟩
  go_wp2_with fail
  go_region_held3 (fun w' => (w'.cell? ⟨w2.heap.size, 1, none⟩ = some (.string ⟨#[99, 97, 115]⟩) ∧ w'.cell? ⟨w.heap.size, 1, none⟩ = some (.int .i64 n)) ∧ Sh w w' w.heap.size w2.heap.size g ⟨3, n, a, b⟩ #[.int .i64 3, .string ⟨#[99, 97, 115]⟩, .int .i64 2]) (first | exact hS0 | assumption)
    (first
      | (go_at_call 39; refine (show_itoa HN.out (by assumption)).mono ?_; rintro e w4 ⟨rfl, hw4⟩))
  rename_i hHeld
  clear hHeld hS0 e1 e2 HH3
  have HH4 := Lib.hid hw4.2
  clear hw4
  have m0 := HH4.out.tw.c0
  have m1 := HH4.out.tw.c1
  go_wp2
  refine wp_loop_rounds 3 ?_
  rw [rounds_succ]
  go_wp2_with fail
  refine (show_fuint ha HH4.out).mono ?_
  rintro e w5 ⟨rfl, hw5⟩
  have HH5 := Lib.hid hw5
  clear hw5 m0
  clear m1
  have m1 := HH5.out.tw.c1
  go_wp2
  rw [rounds_succ]
  go_wp2_with fail
  refine (show_fuint hb HH5.out).mono ?_
  rintro e w6 ⟨rfl, hw6⟩
  have HH6 := Lib.hid hw6
  clear hw6 m1
  go_wp2
  rw [rounds_succ]
  go_wp2
  go_ret
  exact ⟨rfl, HH6.out.bel⟩
set_option maxRecDepth 100000 in
set_option maxHeartbeats 2000000 in
theorem show_4 (n : Nat) (hn : n ≤ 9223372036854775807) (a : Nat) (ha : a < 18446744073709551616) (w : World) (h : Std w) :
    Calls Tryd.prog 23 #[acV ⟨4, n, a, 0⟩] w fun e w' => e = .returned (.string ((((⟨#[97, 100, 100]⟩ : ByteArray) ++ ⟨#[32]⟩) ++ dg n) ++ (⟨#[32]⟩ ++ dg a))) ∧ Below w.heap.size w w' := by
  have HS := Lib.hid h
  have HN := Lib.hid hn
  have zn := dg_size n (by omega)
  have za := dg_size a ha
  have y0 : ¬ 9223372036854775807 < 4 + (dg n).size := by omega
  have y1 : ¬ 9223372036854775807 < 1 + (dg a).size := by omega
  have y2 : ¬ 9223372036854775807 < 4 + (dg n).size + (1 + (dg a).size) := by omega
  have dd : decide ((n : Int) < 0) = false := by simp
  clear h
  go_enter Tryd.func23, Tryd.ntmps23
  go_wp2_with fail
  have hA0 : IsAc (w.alloc (.cells (acC ⟨4, n, a, 0⟩) 40)) w.heap.size ⟨4, n, a, 0⟩ := IsAc.new w _
  refine (fok_4 _ (HS.out.below (below_alloc w _)).forms).mono ?_
  rintro e w2 ⟨rfl, K2⟩
  have hA2 := hA0.below K2
  have HB2 := Lib.hid (bel_trans (below_alloc w _) K2)
  clear K2 hA0
  have c0 := hA2.c0
  have c1 := hA2.c1
  have c2 := hA2.c2
  have c3 := hA2.c3
  simp only [] at c0 c1 c2 c3
  have hlt2 := hA2.lt
  have HA2 := Lib.hid hA2
  clear hA2
  unfold str wAdd
  simp only []
  go_wp2_with fail
  refine (shown_1 _ _ 4 n a 0 rfl _).mono ?_
  rintro e w3 ⟨g, rfl, hTw, K3⟩
  have hF : (w2.alloc (.cells #[.int .i64 4, .string ⟨#[97, 100, 100]⟩, .int .i64 1] 74)).heap[w2.heap.size]? = some (.cells #[.int .i64 4, .string ⟨#[97, 100, 100]⟩, .int .i64 1] 74 (0, 0)) := heap_alloc_new _ _
  have H3 : Sh w w3 w.heap.size w2.heap.size g ⟨4, n, a, 0⟩ #[.int .i64 4, .string ⟨#[97, 100, 100]⟩, .int .i64 1] :=
    ⟨(HA2.out.below (below_alloc w2 _)).below K3, (K3.block _ (lt_of_block hF)).trans hF, hTw, (HS.out.below HB2.out).below (bel_trans (below_alloc w2 _) K3), bel_trans HB2.out (bel_trans (below_alloc w2 _) K3)⟩
  have HH3 := Lib.hid H3
  have e1 : w3.cell? ⟨w2.heap.size, 1, none⟩ = some (.string ⟨#[97, 100, 100]⟩) := cell_of H3.fo rfl
  have e2 : w3.cell? ⟨w.heap.size, 1, none⟩ = some (.int .i64 n) := H3.ac.c1
  clear K3 hF H3 hTw c0 c1 c2 c3
  have hS0 : (w3.drew.cell? ⟨w2.heap.size, 1, none⟩ = some (.string ⟨#[97, 100, 100]⟩) ∧ w3.drew.cell? ⟨w.heap.size, 1, none⟩ = some (.int .i64 n)) ∧ Sh w w3.drew w.heap.size w2.heap.size g ⟨4, n, a, 0⟩ #[.int .i64 4, .string ⟨#[97, 100, 100]⟩, .int .i64 1] := ⟨⟨e1, e2⟩, HH3.out.below (Below.refl _ _).drew⟩
  go_wp2_with fail
  go_region_held3 (fun w' => (w'.cell? ⟨w2.heap.size, 1, none⟩ = some (.string ⟨#[97, 100, 100]⟩) ∧ w'.cell? ⟨w.heap.size, 1, none⟩ = some (.int .i64 n)) ∧ Sh w w' w.heap.size w2.heap.size g ⟨4, n, a, 0⟩ #[.int .i64 4, .string ⟨#[97, 100, 100]⟩, .int .i64 1]) (first | exact hS0 | assumption)
    (first
      | (go_at_call 39; refine (show_itoa HN.out (by assumption)).mono ?_; rintro e w4 ⟨rfl, hw4⟩))
  rename_i hHeld
  clear hHeld hS0 e1 e2 HH3
  have HH4 := Lib.hid hw4.2
  clear hw4
  have m0 := HH4.out.tw.c0
  go_wp2
  refine wp_loop_rounds 2 ?_
  rw [rounds_succ]
  go_wp2_with fail
  refine (show_fuint ha HH4.out).mono ?_
  rintro e w5 ⟨rfl, hw5⟩
  have HH5 := Lib.hid hw5
  clear hw5 m0
  go_wp2
  rw [rounds_succ]
  go_wp2
  go_ret
  exact ⟨rfl, HH5.out.bel⟩
set_option maxRecDepth 100000 in
set_option maxHeartbeats 2000000 in
theorem show_1neg (d xa xb : Int) (hd : d < 0) (w : World) (h : Std w) :
    Calls Tryd.prog 23 #[acV ⟨1, d, xa, xb⟩] w fun e w' => e = .returned (.string ⟨#[]⟩) ∧ Below w.heap.size w w' := by
  have HS := Lib.hid h
  have dd : decide (d < 0) = true := by simpa using hd
  clear h hd
  go_enter Tryd.func23, Tryd.ntmps23
  go_wp2_with fail
  have hA0 : IsAc (w.alloc (.cells (acC ⟨1, d, xa, xb⟩) 40)) w.heap.size ⟨1, d, xa, xb⟩ := IsAc.new w _
  refine (fok_1 _ (HS.out.below (below_alloc w _)).forms).mono ?_
  rintro e w2 ⟨rfl, K2⟩
  have hA2 := hA0.below K2
  have HB2 := Lib.hid (bel_trans (below_alloc w _) K2)
  clear K2 hA0
  have c0 := hA2.c0
  have c1 := hA2.c1
  have c2 := hA2.c2
  have c3 := hA2.c3
  simp only [] at c0 c1 c2 c3
  have hlt2 := hA2.lt
  clear hA2
  unfold str wLoad
  simp only []
  go_wp2
  go_ret
  exact ⟨rfl, bel_trans HB2.out (below_alloc _ _)⟩
set_option maxRecDepth 100000 in
set_option maxHeartbeats 2000000 in
theorem show_2neg (d xa xb : Int) (hd : d < 0) (w : World) (h : Std w) :
    Calls Tryd.prog 23 #[acV ⟨2, d, xa, xb⟩] w fun e w' => e = .returned (.string ⟨#[]⟩) ∧ Below w.heap.size w w' := by
  have HS := Lib.hid h
  have dd : decide (d < 0) = true := by simpa using hd
  clear h hd
  go_enter Tryd.func23, Tryd.ntmps23
  go_wp2_with fail
  have hA0 : IsAc (w.alloc (.cells (acC ⟨2, d, xa, xb⟩) 40)) w.heap.size ⟨2, d, xa, xb⟩ := IsAc.new w _
  refine (fok_2 _ (HS.out.below (below_alloc w _)).forms).mono ?_
  rintro e w2 ⟨rfl, K2⟩
  have hA2 := hA0.below K2
  have HB2 := Lib.hid (bel_trans (below_alloc w _) K2)
  clear K2 hA0
  have c0 := hA2.c0
  have c1 := hA2.c1
  have c2 := hA2.c2
  have c3 := hA2.c3
  simp only [] at c0 c1 c2 c3
  have hlt2 := hA2.lt
  clear hA2
  unfold str wStore
  simp only []
  go_wp2
  go_ret
  exact ⟨rfl, bel_trans HB2.out (below_alloc _ _)⟩
set_option maxRecDepth 100000 in
set_option maxHeartbeats 2000000 in
theorem show_3neg (d xa xb : Int) (hd : d < 0) (w : World) (h : Std w) :
    Calls Tryd.prog 23 #[acV ⟨3, d, xa, xb⟩] w fun e w' => e = .returned (.string ⟨#[]⟩) ∧ Below w.heap.size w w' := by
  have HS := Lib.hid h
  have dd : decide (d < 0) = true := by simpa using hd
  clear h hd
  go_enter Tryd.func23, Tryd.ntmps23
  go_wp2_with fail
  have hA0 : IsAc (w.alloc (.cells (acC ⟨3, d, xa, xb⟩) 40)) w.heap.size ⟨3, d, xa, xb⟩ := IsAc.new w _
  refine (fok_3 _ (HS.out.below (below_alloc w _)).forms).mono ?_
  rintro e w2 ⟨rfl, K2⟩
  have hA2 := hA0.below K2
  have HB2 := Lib.hid (bel_trans (below_alloc w _) K2)
  clear K2 hA0
  have c0 := hA2.c0
  have c1 := hA2.c1
  have c2 := hA2.c2
  have c3 := hA2.c3
  simp only [] at c0 c1 c2 c3
  have hlt2 := hA2.lt
  clear hA2
  unfold str wCas
  simp only []
  go_wp2
  go_ret
  exact ⟨rfl, bel_trans HB2.out (below_alloc _ _)⟩
set_option maxRecDepth 100000 in
set_option maxHeartbeats 2000000 in
theorem show_4neg (d xa xb : Int) (hd : d < 0) (w : World) (h : Std w) :
    Calls Tryd.prog 23 #[acV ⟨4, d, xa, xb⟩] w fun e w' => e = .returned (.string ⟨#[]⟩) ∧ Below w.heap.size w w' := by
  have HS := Lib.hid h
  have dd : decide (d < 0) = true := by simpa using hd
  clear h hd
  go_enter Tryd.func23, Tryd.ntmps23
  go_wp2_with fail
  have hA0 : IsAc (w.alloc (.cells (acC ⟨4, d, xa, xb⟩) 40)) w.heap.size ⟨4, d, xa, xb⟩ := IsAc.new w _
  refine (fok_4 _ (HS.out.below (below_alloc w _)).forms).mono ?_
  rintro e w2 ⟨rfl, K2⟩
  have hA2 := hA0.below K2
  have HB2 := Lib.hid (bel_trans (below_alloc w _) K2)
  clear K2 hA0
  have c0 := hA2.c0
  have c1 := hA2.c1
  have c2 := hA2.c2
  have c3 := hA2.c3
  simp only [] at c0 c1 c2 c3
  have hlt2 := hA2.lt
  clear hA2
  unfold str wAdd
  simp only []
  go_wp2
  go_ret
  exact ⟨rfl, bel_trans HB2.out (below_alloc _ _)⟩
set_option maxRecDepth 100000 in
set_option maxHeartbeats 2000000 in
theorem show_1n (d xa xb : Int) (hd : 0 ≤ d) (hx : xa ≠ 0) (w : World) (h : Std w) :
    Calls Tryd.prog 23 #[acV ⟨1, d, xa, xb⟩] w fun e w' => e = .returned (.string ⟨#[]⟩) ∧ Below w.heap.size w w' := by
  have HS := Lib.hid h
  have dd : decide (d < 0) = false := by simp; omega
  have HX := Lib.hid hx
  clear hx
  clear h hd
  go_enter Tryd.func23, Tryd.ntmps23
  go_wp2_with fail
  have hA0 : IsAc (w.alloc (.cells (acC ⟨1, d, xa, xb⟩) 40)) w.heap.size ⟨1, d, xa, xb⟩ := IsAc.new w _
  refine (fok_1 _ (HS.out.below (below_alloc w _)).forms).mono ?_
  rintro e w2 ⟨rfl, K2⟩
  have hA2 := hA0.below K2
  have HB2 := Lib.hid (bel_trans (below_alloc w _) K2)
  clear K2 hA0
  have c0 := hA2.c0
  have c1 := hA2.c1
  have c2 := hA2.c2
  have c3 := hA2.c3
  simp only [] at c0 c1 c2 c3
  have hlt2 := hA2.lt
  clear hA2
  unfold str wLoad
  simp only []
  go_wp2_with fail
  refine (shown_0n _ _ 1 d xa xb HX.out _).mono ?_
  rintro e w3 ⟨rfl, K3⟩
  go_wp2
  go_ret
  exact ⟨rfl, bel_trans HB2.out (bel_trans (below_alloc _ _) K3)⟩
set_option maxRecDepth 100000 in
set_option maxHeartbeats 2000000 in
theorem show_1m (d xa xb : Int) (hd : 0 ≤ d) (ha : xa = 0) (hx : xb ≠ 0) (w : World) (h : Std w) :
    Calls Tryd.prog 23 #[acV ⟨1, d, xa, xb⟩] w fun e w' => e = .returned (.string ⟨#[]⟩) ∧ Below w.heap.size w w' := by
  have HS := Lib.hid h
  have dd : decide (d < 0) = false := by simp; omega
  have HX := Lib.hid hx
  clear hx
  have HZ := Lib.hid ha
  clear ha
  clear h hd
  go_enter Tryd.func23, Tryd.ntmps23
  go_wp2_with fail
  have hA0 : IsAc (w.alloc (.cells (acC ⟨1, d, xa, xb⟩) 40)) w.heap.size ⟨1, d, xa, xb⟩ := IsAc.new w _
  refine (fok_1 _ (HS.out.below (below_alloc w _)).forms).mono ?_
  rintro e w2 ⟨rfl, K2⟩
  have hA2 := hA0.below K2
  have HB2 := Lib.hid (bel_trans (below_alloc w _) K2)
  clear K2 hA0
  have c0 := hA2.c0
  have c1 := hA2.c1
  have c2 := hA2.c2
  have c3 := hA2.c3
  simp only [] at c0 c1 c2 c3
  have hlt2 := hA2.lt
  clear hA2
  unfold str wLoad
  simp only []
  go_wp2_with fail
  refine (shown_0m _ _ 1 d xa xb HZ.out HX.out _).mono ?_
  rintro e w3 ⟨rfl, K3⟩
  go_wp2
  go_ret
  exact ⟨rfl, bel_trans HB2.out (bel_trans (below_alloc _ _) K3)⟩
set_option maxRecDepth 100000 in
set_option maxHeartbeats 2000000 in
theorem show_2b (d xa xb : Int) (hd : 0 ≤ d) (hx : xb ≠ 0) (w : World) (h : Std w) :
    Calls Tryd.prog 23 #[acV ⟨2, d, xa, xb⟩] w fun e w' => e = .returned (.string ⟨#[]⟩) ∧ Below w.heap.size w w' := by
  have HS := Lib.hid h
  have dd : decide (d < 0) = false := by simp; omega
  have HX := Lib.hid hx
  clear hx
  clear h hd
  go_enter Tryd.func23, Tryd.ntmps23
  go_wp2_with fail
  have hA0 : IsAc (w.alloc (.cells (acC ⟨2, d, xa, xb⟩) 40)) w.heap.size ⟨2, d, xa, xb⟩ := IsAc.new w _
  refine (fok_2 _ (HS.out.below (below_alloc w _)).forms).mono ?_
  rintro e w2 ⟨rfl, K2⟩
  have hA2 := hA0.below K2
  have HB2 := Lib.hid (bel_trans (below_alloc w _) K2)
  clear K2 hA0
  have c0 := hA2.c0
  have c1 := hA2.c1
  have c2 := hA2.c2
  have c3 := hA2.c3
  simp only [] at c0 c1 c2 c3
  have hlt2 := hA2.lt
  clear hA2
  unfold str wStore
  simp only []
  go_wp2_with fail
  refine (shown_1n _ _ 2 d xa xb HX.out _).mono ?_
  rintro e w3 ⟨rfl, K3⟩
  go_wp2
  go_ret
  exact ⟨rfl, bel_trans HB2.out (bel_trans (below_alloc _ _) K3)⟩
set_option maxRecDepth 100000 in
set_option maxHeartbeats 2000000 in
theorem show_4b (d xa xb : Int) (hd : 0 ≤ d) (hx : xb ≠ 0) (w : World) (h : Std w) :
    Calls Tryd.prog 23 #[acV ⟨4, d, xa, xb⟩] w fun e w' => e = .returned (.string ⟨#[]⟩) ∧ Below w.heap.size w w' := by
  have HS := Lib.hid h
  have dd : decide (d < 0) = false := by simp; omega
  have HX := Lib.hid hx
  clear hx
  clear h hd
  go_enter Tryd.func23, Tryd.ntmps23
  go_wp2_with fail
  have hA0 : IsAc (w.alloc (.cells (acC ⟨4, d, xa, xb⟩) 40)) w.heap.size ⟨4, d, xa, xb⟩ := IsAc.new w _
  refine (fok_4 _ (HS.out.below (below_alloc w _)).forms).mono ?_
  rintro e w2 ⟨rfl, K2⟩
  have hA2 := hA0.below K2
  have HB2 := Lib.hid (bel_trans (below_alloc w _) K2)
  clear K2 hA0
  have c0 := hA2.c0
  have c1 := hA2.c1
  have c2 := hA2.c2
  have c3 := hA2.c3
  simp only [] at c0 c1 c2 c3
  have hlt2 := hA2.lt
  clear hA2
  unfold str wAdd
  simp only []
  go_wp2_with fail
  refine (shown_1n _ _ 4 d xa xb HX.out _).mono ?_
  rintro e w3 ⟨rfl, K3⟩
  go_wp2
  go_ret
  exact ⟨rfl, bel_trans HB2.out (bel_trans (below_alloc _ _) K3)⟩
set_option maxRecDepth 100000 in
set_option maxHeartbeats 2000000 in
theorem show_none (kd d xa xb : Int) (h1 : kd ≠ 1) (h2 : kd ≠ 2) (h3 : kd ≠ 3) (h4 : kd ≠ 4) (w : World) (h : Std w) :
    Calls Tryd.prog 23 #[acV ⟨kd, d, xa, xb⟩] w fun e w' => e = .returned (.string ⟨#[]⟩) ∧ Below w.heap.size w w' := by
  have HS := Lib.hid h
  have HF := Lib.hid (fun w => fok_none kd h1 h2 h3 h4 w)
  clear h h1 h2 h3 h4
  go_enter Tryd.func23, Tryd.ntmps23
  go_wp2_with fail
  refine (HF.out _ (HS.out.below (below_alloc w _)).forms).mono ?_
  rintro e w2 ⟨rfl, K2⟩
  have HB2 := Lib.hid (bel_trans (below_alloc w _) K2)
  clear K2
  unfold str
  simp only []
  go_wp2
  go_ret
  exact ⟨rfl, bel_trans HB2.out (below_alloc _ _)⟩

/-- An act's text. -/
def showB (x : Ac) : ByteArray :=
  if x.ad < 0 then ⟨#[]⟩
  else if x.kd = 1 then (if x.a = 0 ∧ x.b = 0 then ((⟨#[108, 111, 97, 100]⟩ : ByteArray) ++ ⟨#[32]⟩) ++ dg x.ad.toNat else ⟨#[]⟩)
  else if x.kd = 2 then (if x.b = 0 then (((⟨#[115, 116, 111, 114, 101]⟩ : ByteArray) ++ ⟨#[32]⟩) ++ dg x.ad.toNat) ++ (⟨#[32]⟩ ++ dg x.a.toNat) else ⟨#[]⟩)
  else if x.kd = 3 then ((((⟨#[99, 97, 115]⟩ : ByteArray) ++ ⟨#[32]⟩) ++ dg x.ad.toNat) ++ (⟨#[32]⟩ ++ dg x.a.toNat)) ++ (⟨#[32]⟩ ++ dg x.b.toNat)
  else if x.kd = 4 then (if x.b = 0 then (((⟨#[97, 100, 100]⟩ : ByteArray) ++ ⟨#[32]⟩) ++ dg x.ad.toNat) ++ (⟨#[32]⟩ ++ dg x.a.toNat) else ⟨#[]⟩)
  else ⟨#[]⟩

/-- An act as one may be handed over. -/
structure Ac.Ok (x : Ac) : Prop where
  d1 : x.ad ≤ 9223372036854775807
  a0 : 0 ≤ x.a
  a1 : x.a < 18446744073709551616
  b0 : 0 ≤ x.b
  b1 : x.b < 18446744073709551616

theorem show_at (x : Ac) (ho : x.Ok) (w : World) (h : Std w) :
    Calls Tryd.prog 23 #[acV x] w fun e w' => e = .returned (.string (showB x)) ∧ Below w.heap.size w w' := by
  obtain ⟨kd, d, a, b⟩ := x
  obtain ⟨hd1, ha0, ha1, hb0, hb1⟩ := ho
  simp only [] at hd1 ha0 ha1 hb0 hb1
  by_cases hd : d < 0
  · have e : showB ⟨kd, d, a, b⟩ = ⟨#[]⟩ := by simp [showB, hd]
    rw [e]
    by_cases h1 : kd = 1
    · subst h1; exact show_1neg d a b hd w h
    · by_cases h2 : kd = 2
      · subst h2; exact show_2neg d a b hd w h
      · by_cases h3 : kd = 3
        · subst h3; exact show_3neg d a b hd w h
        · by_cases h4 : kd = 4
          · subst h4; exact show_4neg d a b hd w h
          · exact show_none kd d a b h1 h2 h3 h4 w h
  · by_cases h1 : kd = 1
    · subst h1
      by_cases hz : a = 0
      · by_cases hy : b = 0
        · subst hz hy
          obtain ⟨n, rfl⟩ := Int.eq_ofNat_of_zero_le (show 0 ≤ d by omega)
          have e : showB ⟨1, n, 0, 0⟩ = ((⟨#[108, 111, 97, 100]⟩ : ByteArray) ++ ⟨#[32]⟩) ++ dg n := by simp [showB]; intro hh; omega
          rw [e]
          exact show_1 n (by omega) w h
        · have e : showB ⟨1, d, a, b⟩ = ⟨#[]⟩ := by simp [showB, hy]
          rw [e]; exact show_1m d a b (by omega) hz hy w h
      · have e : showB ⟨1, d, a, b⟩ = ⟨#[]⟩ := by simp [showB, hz]
        rw [e]; exact show_1n d a b (by omega) hz w h
    · by_cases h2 : kd = 2
      · subst h2
        by_cases hy : b = 0
        · subst hy
          obtain ⟨n, rfl⟩ := Int.eq_ofNat_of_zero_le (show 0 ≤ d by omega)
          obtain ⟨m, rfl⟩ := Int.eq_ofNat_of_zero_le ha0
          have e : showB ⟨2, n, m, 0⟩ = (((⟨#[115, 116, 111, 114, 101]⟩ : ByteArray) ++ ⟨#[32]⟩) ++ dg n) ++ (⟨#[32]⟩ ++ dg m) := by simp [showB]; intro hh; omega
          rw [e]
          exact show_2 n (by omega) m (by omega) w h
        · have e : showB ⟨2, d, a, b⟩ = ⟨#[]⟩ := by simp [showB, hy]
          rw [e]; exact show_2b d a b (by omega) hy w h
      · by_cases h3 : kd = 3
        · subst h3
          obtain ⟨n, rfl⟩ := Int.eq_ofNat_of_zero_le (show 0 ≤ d by omega)
          obtain ⟨m, rfl⟩ := Int.eq_ofNat_of_zero_le ha0
          obtain ⟨j, rfl⟩ := Int.eq_ofNat_of_zero_le hb0
          have e : showB ⟨3, n, m, j⟩ = ((((⟨#[99, 97, 115]⟩ : ByteArray) ++ ⟨#[32]⟩) ++ dg n) ++ (⟨#[32]⟩ ++ dg m)) ++ (⟨#[32]⟩ ++ dg j) := by simp [showB]; intro hh; omega
          rw [e]
          exact show_3 n (by omega) m (by omega) j (by omega) w h
        · by_cases h4 : kd = 4
          · subst h4
            by_cases hy : b = 0
            · subst hy
              obtain ⟨n, rfl⟩ := Int.eq_ofNat_of_zero_le (show 0 ≤ d by omega)
              obtain ⟨m, rfl⟩ := Int.eq_ofNat_of_zero_le ha0
              have e : showB ⟨4, n, m, 0⟩ = (((⟨#[97, 100, 100]⟩ : ByteArray) ++ ⟨#[32]⟩) ++ dg n) ++ (⟨#[32]⟩ ++ dg m) := by simp [showB]; intro hh; omega
              rw [e]
              exact show_4 n (by omega) m (by omega) w h
            · have e : showB ⟨4, d, a, b⟩ = ⟨#[]⟩ := by simp [showB, hy]
              rw [e]; exact show_4b d a b (by omega) hy w h
          · have e : showB ⟨kd, d, a, b⟩ = ⟨#[]⟩ := by simp [showB, h1, h2, h3, h4]
            rw [e]; exact show_none kd d a b h1 h2 h3 h4 w h
end Go.Proofs.YtoeopapnegjooaaDoor
