/- The walk of PteTells: for every entry, word and number it returns true; nothing that lay before is changed. No conditions but the word's and the number's sizes. -/
import Derived.Test.YtiafnmhmpjhddaaK
import Derived.Deep.RegionHeld3
namespace Go.Proofs.Ytiafnmhmpjhddaa
open Go.RowKit

/-- What the last statement loads: three blocks. -/
abbrev ST (g2 g9 g11 : Nat) (p : Bool) (r : Int) (l : Bool) (f : Int) (p' : Bool) (r' : Int) (l' : Bool) (f' : Int) (w' : World) : Prop :=
  (w'.cell? ⟨g2, 0, none⟩ = some (.bool p) ∧ w'.cell? ⟨g2, 1, none⟩ = some (.int .i64 r) ∧ w'.cell? ⟨g2, 2, none⟩ = some (.bool l) ∧ w'.cell? ⟨g2, 3, none⟩ = some (.int .i64 f)) ∧ (w'.cell? ⟨g9, 0, none⟩ = some (.bool p') ∧ w'.cell? ⟨g9, 1, none⟩ = some (.int .i64 r') ∧ w'.cell? ⟨g9, 2, none⟩ = some (.bool l') ∧ w'.cell? ⟨g9, 3, none⟩ = some (.int .i64 f')) ∧ (w'.cell? ⟨g11, 0, none⟩ = some (.bool p') ∧ w'.cell? ⟨g11, 1, none⟩ = some (.int .i64 r') ∧ w'.cell? ⟨g11, 2, none⟩ = some (.bool l') ∧ w'.cell? ⟨g11, 3, none⟩ = some (.int .i64 f'))
theorem ST.of {g2 g9 g11 : Nat} {p l p' l' : Bool} {r f r' f' : Int} {w' : World} (h2 : w'.heap[g2]? = some (.cells #[.bool p, .int .i64 r, .bool l, .int .i64 f] 23 (0, 0)))
    (h9 : w'.heap[g9]? = some (.cells #[.bool p', .int .i64 r', .bool l', .int .i64 f'] 23 (0, 0))) (h11 : w'.heap[g11]? = some (.cells #[.bool p', .int .i64 r', .bool l', .int .i64 f'] 29 (0, 0))) : ST g2 g9 g11 p r l f p' r' l' f' w' :=
  ⟨⟨cell_of h2 rfl, cell_of h2 rfl, cell_of h2 rfl, cell_of h2 rfl⟩, ⟨cell_of h9 rfl, cell_of h9 rfl, cell_of h9 rfl, cell_of h9 rfl⟩, cell_of h11 rfl, cell_of h11 rfl, cell_of h11 rfl, cell_of h11 rfl⟩

set_option maxRecDepth 100000 in
set_option maxHeartbeats 4000000 in
theorem tells_core (p : Bool) (r : Int) (l : Bool) (f : Int) (y : Nat) (z : Int) (N E : Int) (ap : Bool) (ar : Int) (ab : Bool) (af : Int) (q R T A : Bool) (w : World) (hy : y < 18446744073709551616) (l1 : -9223372036854775808 ≤ z) (l2 : z ≤ 9223372036854775807)
    (h1 : pk ⟨p, r, l, f⟩ = N) (h2 : pkE ⟨p, r, l, f⟩ = E) (h3 : prD y = ⟨ap, ar, ab, af⟩) (h4 : prY y = q) (h5 : rt ⟨p, r, l, f⟩ = R) (h6 : tb ⟨p, r, l, f⟩ = T) (h7 : al ⟨p, r, l, f⟩ z = A) :
    Calls Try.prog 3 #[.agg #[.bool p, .int .i64 r, .bool l, .int .i64 f], .int .u64 y, .int .i64 z] w fun v w' => v = .returned (.bool true) ∧ Below w.heap.size w w' := by
  have UY := hid hy
  have L1 := hid l1
  have L2 := hid l2
  have U1 := hid h1
  have U2 := hid h2
  have U3 := hid h3
  have U4 := hid h4
  have U5 := hid h5
  have U6 := hid h6
  have U7 := hid h7
  clear hy l1 l2 h1 h2 h3 h4 h5 h6 h7
  go_enter Try.func3, Try.ntmps3
  go_wp2_with fail
  refine (pa_at (pack_at ⟨p, r, l, f⟩ _) U1.out U2.out).mono ?_
  rintro v w1 ⟨rfl, hB⟩
  have a2 := stay hB (heap_alloc_new _ _)
  have HB := hid (bgo (below_one w _) hB)
  clear hB
  have l2 := lt_of_block a2
  obtain ⟨p20, p21, p22, p23, -, -, -, -⟩ := four a2
  have A2 := hid a2
  clear a2
  (try simp only [])
  go_wp2_with fail
  refine (plain_at ⟨p, r, l, f⟩ _).mono ?_
  rintro v w2 ⟨rfl, hB⟩
  have a2 := stay hB A2.out
  have HBn := hid (bgo HB.out hB)
  clear HB
  have HB := HBn
  clear HBn
  clear A2 l2 p20 p21 p22 p23
  clear hB
  have l2 := lt_of_block a2
  obtain ⟨p20, p21, p22, p23, -, -, -, -⟩ := four a2
  have A2 := hid a2
  clear a2
  (try simp only [])
  go_wp2_with fail
  refine (pa_at (rpack_at ⟨p, r, l, f⟩ _) U1.out U2.out).mono ?_
  rintro v w3 ⟨rfl, hB⟩
  have a2 := stay hB A2.out
  have HBn := hid (bgo HB.out hB)
  clear HB
  have HB := HBn
  clear HBn
  clear A2 l2 p20 p21 p22 p23
  clear hB
  have l2 := lt_of_block a2
  obtain ⟨p20, p21, p22, p23, -, -, -, -⟩ := four a2
  have A2 := hid a2
  clear a2
  (try simp only [])
  go_wp2_with fail
  refine (pt_at (parse_at y UY.out _) U3.out U4.out).mono ?_
  rintro v w4 ⟨rfl, hB⟩
  have a2 := stay hB A2.out
  have HBn := hid (bgo HB.out hB)
  clear HB
  have HB := HBn
  clear HBn
  clear A2 l2 p20 p21 p22 p23
  clear hB
  have l2 := lt_of_block a2
  obtain ⟨p20, p21, p22, p23, -, -, -, -⟩ := four a2
  have A2 := hid a2
  clear a2
  (try simp only [])
  go_wp2_with fail
  refine (pt_at (rparse_at y UY.out _) U3.out U4.out).mono ?_
  rintro v w5 ⟨rfl, hB⟩
  have a2 := stay hB (hkeep A2.out _)
  have a9 := stay hB (heap_alloc_new _ _)
  have HBn := hid (bgo (HB.out.alloc HB.out.size _) hB)
  clear HB
  have HB := HBn
  clear HBn
  clear A2 l2 p20 p21 p22 p23
  clear hB
  have l2 := lt_of_block a2
  obtain ⟨p20, p21, p22, p23, -, -, -, -⟩ := four a2
  have A2 := hid a2
  clear a2
  have l9 := lt_of_block a9
  obtain ⟨p90, p91, p92, p93, -, -, -, -⟩ := four a9
  have A9 := hid a9
  clear a9
  (try simp only [])
  go_wp2_with fail
  have HBV := hid (HB.out.alloc HB.out.size (.cells #[.bool ap, .int .i64 ar, .bool ab, .int .i64 af] 29))
  have C2 := hid (hkeep A2.out (.cells #[.bool ap, .int .i64 ar, .bool ab, .int .i64 af] 29))
  have C9 := hid (hkeep A9.out (.cells #[.bool ap, .int .i64 ar, .bool ab, .int .i64 af] 29))
  have C11 := hid (heap_alloc_new w5 (.cells #[.bool ap, .int .i64 ar, .bool ab, .int .i64 af] 29))
  generalize w5.alloc (.cells #[.bool ap, .int .i64 ar, .bool ab, .int .i64 af] 29) = V at *
  generalize w5.heap.size = g11 at *
  clear A2 A9 l2 l9 p20 p21 p22 p23 p90 p91 p92 p93 HB
  generalize w4.heap.size = g9 at *
  generalize hg2 : w.heap.size = g2 at C2 ⊢
  have HD0 := hid (show Below V.heap.size V V.drew from (Below.refl V.heap.size V).drew)
  have hS0 := ST.of (p := p) (r := r) (l := l) (f := f) (p' := ap) (r' := ar) (l' := ab) (f' := af) (stay HD0.out C2.out) (stay HD0.out C9.out) (stay HD0.out C11.out)
  have HST := hid (fun (w' : World) (h : Below V.heap.size V w') => ST.of (stay h C2.out) (stay h C9.out) (stay h C11.out))
  have H11 := hid (fun (p1 : Bool) (r1 : Int) (l1 : Bool) (f1 : Int) (w' : World) (hm : Hid (Below V.heap.size V w')) => (plain_at ⟨p1, r1, l1, f1⟩ w').mono (R' := fun e w'' => e = .returned (.agg #[.bool p1, .int .i64 r1, .bool l1, .int .i64 f1]) ∧ Hid (Below V.heap.size V w'') ∧ ST g2 g9 g11 p r l f ap ar ab af w'') (fun _ _ ⟨he, K⟩ => ⟨he, hid (bgo hm.out K), HST.out _ (bgo hm.out K)⟩))
  have H14 := hid (fun (w' : World) (hm : Hid (Below V.heap.size V w')) => (bl_at (right_at ⟨p, r, l, f⟩ w') U5.out).mono (R' := fun e w'' => e = .returned (.bool R) ∧ Hid (Below V.heap.size V w'') ∧ ST g2 g9 g11 p r l f ap ar ab af w'') (fun _ _ ⟨he, K⟩ => ⟨he, hid (bgo hm.out K), HST.out _ (bgo hm.out K)⟩))
  have H15 := hid (fun (w' : World) (hm : Hid (Below V.heap.size V w')) => (bl_at (rright_at ⟨p, r, l, f⟩ w') U5.out).mono (R' := fun e w'' => e = .returned (.bool R) ∧ Hid (Below V.heap.size V w'') ∧ ST g2 g9 g11 p r l f ap ar ab af w'') (fun _ _ ⟨he, K⟩ => ⟨he, hid (bgo hm.out K), HST.out _ (bgo hm.out K)⟩))
  have H16 := hid (fun (w' : World) (hm : Hid (Below V.heap.size V w')) => (bl_at (table_at ⟨p, r, l, f⟩ w') U6.out).mono (R' := fun e w'' => e = .returned (.bool T) ∧ Hid (Below V.heap.size V w'') ∧ ST g2 g9 g11 p r l f ap ar ab af w'') (fun _ _ ⟨he, K⟩ => ⟨he, hid (bgo hm.out K), HST.out _ (bgo hm.out K)⟩))
  have H17 := hid (fun (w' : World) (hm : Hid (Below V.heap.size V w')) => (bl_at (rtable_at ⟨p, r, l, f⟩ w') U6.out).mono (R' := fun e w'' => e = .returned (.bool T) ∧ Hid (Below V.heap.size V w'') ∧ ST g2 g9 g11 p r l f ap ar ab af w'') (fun _ _ ⟨he, K⟩ => ⟨he, hid (bgo hm.out K), HST.out _ (bgo hm.out K)⟩))
  have H18 := hid (fun (w' : World) (hm : Hid (Below V.heap.size V w')) => (bl_at (allows_at ⟨p, r, l, f⟩ z L1.out L2.out w') U7.out).mono (R' := fun e w'' => e = .returned (.bool A) ∧ Hid (Below V.heap.size V w'') ∧ ST g2 g9 g11 p r l f ap ar ab af w'') (fun _ _ ⟨he, K⟩ => ⟨he, hid (bgo hm.out K), HST.out _ (bgo hm.out K)⟩))
  have H19 := hid (fun (w' : World) (hm : Hid (Below V.heap.size V w')) => (bl_at (rallows_at ⟨p, r, l, f⟩ z w') U7.out).mono (R' := fun e w'' => e = .returned (.bool A) ∧ Hid (Below V.heap.size V w'') ∧ ST g2 g9 g11 p r l f ap ar ab af w'') (fun _ _ ⟨he, K⟩ => ⟨he, hid (bgo hm.out K), HST.out _ (bgo hm.out K)⟩))
  have H20 := hid (fun (w' : World) (hm : Hid (Below V.heap.size V w')) => (known_yes w').mono (R' := fun e w'' => e = .returned (.bool true) ∧ Hid (Below V.heap.size V w'') ∧ ST g2 g9 g11 p r l f ap ar ab af w'') (fun _ _ ⟨he, K⟩ => ⟨he, hid (bgo hm.out K), HST.out _ (bgo hm.out K)⟩))
  simp only [ST] at H11 H14 H15 H16 H17 H18 H19 H20 hS0
  clear HST C2 C9 C11
  have eN : (N == N) = true := by simp
  have eE : (E == E) = true := by simp
  have eap : (ap == ap) = true := by simp
  have ear : (ar == ar) = true := by simp
  have eab : (ab == ab) = true := by simp
  have eaf : (af == af) = true := by simp
  have eR : (R == R) = true := by simp
  have eT : (T == T) = true := by simp
  have eA : (A == A) = true := by simp
  have eq : (q == q) = true := by simp
  go_region_held3 (fun w' => (w'.cell? ⟨g2, 0, none⟩ = some (.bool p) ∧ w'.cell? ⟨g2, 1, none⟩ = some (.int .i64 r) ∧ w'.cell? ⟨g2, 2, none⟩ = some (.bool l) ∧ w'.cell? ⟨g2, 3, none⟩ = some (.int .i64 f)) ∧ (w'.cell? ⟨g9, 0, none⟩ = some (.bool ap) ∧ w'.cell? ⟨g9, 1, none⟩ = some (.int .i64 ar) ∧ w'.cell? ⟨g9, 2, none⟩ = some (.bool ab) ∧ w'.cell? ⟨g9, 3, none⟩ = some (.int .i64 af)) ∧ (w'.cell? ⟨g11, 0, none⟩ = some (.bool ap) ∧ w'.cell? ⟨g11, 1, none⟩ = some (.int .i64 ar) ∧ w'.cell? ⟨g11, 2, none⟩ = some (.bool ab) ∧ w'.cell? ⟨g11, 3, none⟩ = some (.int .i64 af))) (first | with_reducible exact hS0 | with_reducible assumption)
    (first
      | (go_at_call 11; refine (H11.out _ _ _ _ _ (by assumption)).mono ?_; rintro e v' ⟨rfl, hm', hw'⟩)
      | (go_at_call 14; refine (H14.out _ (by assumption)).mono ?_; rintro e v' ⟨rfl, hm', hw'⟩)
      | (go_at_call 15; refine (H15.out _ (by assumption)).mono ?_; rintro e v' ⟨rfl, hm', hw'⟩)
      | (go_at_call 16; refine (H16.out _ (by assumption)).mono ?_; rintro e v' ⟨rfl, hm', hw'⟩)
      | (go_at_call 17; refine (H17.out _ (by assumption)).mono ?_; rintro e v' ⟨rfl, hm', hw'⟩)
      | (go_at_call 18; refine (H18.out _ (by assumption)).mono ?_; rintro e v' ⟨rfl, hm', hw'⟩)
      | (go_at_call 19; refine (H19.out _ (by assumption)).mono ?_; rintro e v' ⟨rfl, hm', hw'⟩)
      | (go_at_call 20; refine (H20.out _ (by assumption)).mono ?_; rintro e v' ⟨rfl, hm', hw'⟩))
  all_goals go_wp2
  all_goals go_ret
  all_goals exact ⟨rfl, bgo HBV.out (show Below V.heap.size V _ from Hid.out (by assumption))⟩

theorem tells_walk (x : En) (y : Nat) (hy : y < 18446744073709551616) (z : Int) (l1 : -9223372036854775808 ≤ z) (l2 : z ≤ 9223372036854775807) (w : World) :
    Calls Try.prog 3 #[eV x, .int .u64 y, .int .i64 z] w fun v w' => v = .returned (.bool true) ∧ Below w.heap.size w w' :=
  tells_core x.p x.r x.l x.f y z _ _ _ _ _ _ _ _ _ _ w hy l1 l2 rfl rfl rfl rfl rfl rfl rfl
end Go.Proofs.Ytiafnmhmpjhddaa
