/- The walk of DescTells: for every descriptor and every word it returns true; nothing that lay before is changed. Condition: the package's two tables lie in their variables. -/
import Derived.Test.YtacifhfkadnklaaDoorL5
import Derived.Deep.RegionHeld3
namespace Go.Proofs.YtacifhfkadnklaaDoor
open Go.RowKit

theorem st_at {s s' : ByteArray} {fn : FuncId} {args : Array Value} {w : World} (h : Calls Tryd.prog fn args w fun v w' => v = .returned (.string s) ∧ Below w.heap.size w w') (hs : s = s') :
    Calls Tryd.prog fn args w fun v w' => v = .returned (.string s') ∧ Below w.heap.size w w' := by
  subst hs; exact h
theorem eq_bytes (s : ByteArray) : (s == s) = true := by
  obtain ⟨a⟩ := s
  show (a == a) = true
  simp
/-- What the last statement loads: three blocks. -/
abbrev ST (g2 g9 g11 : Nat) (k o r p k' o' r' p' : Int) (w' : World) : Prop :=
  (w'.cell? ⟨g2, 0, none⟩ = some (.int .i64 k) ∧ w'.cell? ⟨g2, 1, none⟩ = some (.int .i64 o) ∧ w'.cell? ⟨g2, 2, none⟩ = some (.int .i64 r) ∧ w'.cell? ⟨g2, 3, none⟩ = some (.int .i64 p)) ∧ (w'.cell? ⟨g9, 0, none⟩ = some (.int .i64 k') ∧ w'.cell? ⟨g9, 1, none⟩ = some (.int .i64 o') ∧ w'.cell? ⟨g9, 2, none⟩ = some (.int .i64 r') ∧ w'.cell? ⟨g9, 3, none⟩ = some (.int .i64 p')) ∧ (w'.cell? ⟨g11, 0, none⟩ = some (.int .i64 k') ∧ w'.cell? ⟨g11, 1, none⟩ = some (.int .i64 o') ∧ w'.cell? ⟨g11, 2, none⟩ = some (.int .i64 r') ∧ w'.cell? ⟨g11, 3, none⟩ = some (.int .i64 p'))
theorem ST.of {g2 g9 g11 : Nat} {k o r p k' o' r' p' : Int} {w' : World} (h2 : w'.heap[g2]? = some (.cells #[.int .i64 k, .int .i64 o, .int .i64 r, .int .i64 p] 23 (0, 0)))
    (h9 : w'.heap[g9]? = some (.cells #[.int .i64 k', .int .i64 o', .int .i64 r', .int .i64 p'] 23 (0, 0))) (h11 : w'.heap[g11]? = some (.cells #[.int .i64 k', .int .i64 o', .int .i64 r', .int .i64 p'] 29 (0, 0))) : ST g2 g9 g11 k o r p k' o' r' p' w' :=
  ⟨⟨cell_of h2 rfl, cell_of h2 rfl, cell_of h2 rfl, cell_of h2 rfl⟩, ⟨cell_of h9 rfl, cell_of h9 rfl, cell_of h9 rfl, cell_of h9 rfl⟩, cell_of h11 rfl, cell_of h11 rfl, cell_of h11 rfl, cell_of h11 rfl⟩

set_option maxRecDepth 100000 in
set_option maxHeartbeats 4000000 in
theorem tells_core (k o r p : Int) (y : Nat) (N E ak ao ar ap : Int) (q R : Bool) (t : ByteArray) (w : World) (hT : Tab w) (hy : y < 18446744073709551616) (h1 : pk ⟨k, o, r, p⟩ = N) (h2 : pkE ⟨k, o, r, p⟩ = E) (h3 : prD y = ⟨ak, ao, ar, ap⟩) (h4 : prY y = q) (h5 : rt ⟨k, o, r, p⟩ = R) (h6 : nmOf k = t) :
    Calls Tryd.prog 3 #[.agg #[.int .i64 k, .int .i64 o, .int .i64 r, .int .i64 p], .int .u64 y] w fun v w' => v = .returned (.bool true) ∧ Below w.heap.size w w' := by
  have HT0 := hid hT
  have UY := hid hy
  have U1 := hid h1
  have U2 := hid h2
  have U3 := hid h3
  have U4 := hid h4
  have U5 := hid h5
  have U6 := hid h6
  clear hT hy h1 h2 h3 h4 h5 h6
  go_enter Tryd.func3, Tryd.ntmps3
  go_wp2_with fail
  refine (wt_at (pack_at ⟨k, o, r, p⟩ _ (HT0.out.alloc _)) U1.out U2.out).mono ?_
  rintro v w1 ⟨rfl, hB⟩
  have a2 := stay hB (heap_alloc_new _ _)
  have HB := hid (bgo (below_one w _) hB)
  have HT := hid (HT0.out.go HB.out)
  clear hB
  have l2 := lt_of_block a2
  obtain ⟨p20, p21, p22, p23, -, -, -, -⟩ := four a2
  have A2 := hid a2
  clear a2
  (try simp only [])
  go_wp2_with fail
  refine (plain_at ⟨k, o, r, p⟩ _).mono ?_
  rintro v w2 ⟨rfl, hB⟩
  have a2 := stay hB A2.out
  have HBn := hid (bgo HB.out hB)
  clear HB
  have HB := HBn
  clear HBn
  clear A2 l2 p20 p21 p22 p23
  clear HT
  have HT := hid (HT0.out.go HB.out)
  clear hB
  have l2 := lt_of_block a2
  obtain ⟨p20, p21, p22, p23, -, -, -, -⟩ := four a2
  have A2 := hid a2
  clear a2
  (try simp only [])
  go_wp2_with fail
  refine (wt_at (rpack_at ⟨k, o, r, p⟩ _) U1.out U2.out).mono ?_
  rintro v w3 ⟨rfl, hB⟩
  have a2 := stay hB A2.out
  have HBn := hid (bgo HB.out hB)
  clear HB
  have HB := HBn
  clear HBn
  clear A2 l2 p20 p21 p22 p23
  clear HT
  have HT := hid (HT0.out.go HB.out)
  clear hB
  have l2 := lt_of_block a2
  obtain ⟨p20, p21, p22, p23, -, -, -, -⟩ := four a2
  have A2 := hid a2
  clear a2
  (try simp only [])
  go_wp2_with fail
  refine (pt_at (parse_at y UY.out _ HT.out) U3.out U4.out).mono ?_
  rintro v w4 ⟨rfl, hB⟩
  have a2 := stay hB A2.out
  have HBn := hid (bgo HB.out hB)
  clear HB
  have HB := HBn
  clear HBn
  clear A2 l2 p20 p21 p22 p23
  clear HT
  have HT := hid (HT0.out.go HB.out)
  clear hB
  have l2 := lt_of_block a2
  obtain ⟨p20, p21, p22, p23, -, -, -, -⟩ := four a2
  have A2 := hid a2
  clear a2
  (try simp only [])
  go_wp2_with fail
  refine (pt_at (rparse_at y UY.out _) U3.out U4.out).mono ?_
  rintro v w5 ⟨rfl, hB⟩
  have a2 := stay hB (hkeep A2.out _)
  have a9 := stay hB (heap_alloc_new _ _)
  have HBn := hid (bgo (HB.out.alloc HB.out.size _) hB)
  clear HB
  have HB := HBn
  clear HBn
  clear A2 l2 p20 p21 p22 p23
  clear HT
  have HT := hid (HT0.out.go HB.out)
  clear hB
  have l2 := lt_of_block a2
  obtain ⟨p20, p21, p22, p23, -, -, -, -⟩ := four a2
  have A2 := hid a2
  clear a2
  have l9 := lt_of_block a9
  obtain ⟨p90, p91, p92, p93, -, -, -, -⟩ := four a9
  have A9 := hid a9
  clear a9
  (try simp only [])
  go_wp2_with fail
  have HBV := hid (HB.out.alloc HB.out.size (.cells #[.int .i64 ak, .int .i64 ao, .int .i64 ar, .int .i64 ap] 29))
  have C2 := hid (hkeep A2.out (.cells #[.int .i64 ak, .int .i64 ao, .int .i64 ar, .int .i64 ap] 29))
  have C9 := hid (hkeep A9.out (.cells #[.int .i64 ak, .int .i64 ao, .int .i64 ar, .int .i64 ap] 29))
  have C11 := hid (heap_alloc_new w5 (.cells #[.int .i64 ak, .int .i64 ao, .int .i64 ar, .int .i64 ap] 29))
  generalize w5.alloc (.cells #[.int .i64 ak, .int .i64 ao, .int .i64 ar, .int .i64 ap] 29) = V at *
  generalize w5.heap.size = g11 at *
  clear A2 A9 l2 l9 p20 p21 p22 p23 p90 p91 p92 p93 HB HT
  generalize w4.heap.size = g9 at *
  generalize hg2 : w.heap.size = g2 at C2 ⊢
  have HD0 := hid (show Below V.heap.size V V.drew from (Below.refl V.heap.size V).drew)
  have hS0 := ST.of (k := k) (o := o) (r := r) (p := p) (k' := ak) (o' := ao) (r' := ar) (p' := ap) (stay HD0.out C2.out) (stay HD0.out C9.out) (stay HD0.out C11.out)
  have HST := hid (fun (w' : World) (h : Below V.heap.size V w') => ST.of (stay h C2.out) (stay h C9.out) (stay h C11.out))
  have H10 := hid (fun (k1 o1 r1 p1 : Int) (w' : World) (hm : Hid (Below V.heap.size V w')) => (plain_at ⟨k1, o1, r1, p1⟩ w').mono (R' := fun e w'' => e = .returned (.agg #[.int .i64 k1, .int .i64 o1, .int .i64 r1, .int .i64 p1]) ∧ Hid (Below V.heap.size V w'') ∧ ST g2 g9 g11 k o r p ak ao ar ap w'') (fun _ _ ⟨he, K⟩ => ⟨he, hid (bgo hm.out K), HST.out _ (bgo hm.out K)⟩))
  have H13 := hid (fun (w' : World) (hm : Hid (Below V.heap.size V w')) => (bl_at (right_at ⟨k, o, r, p⟩ w' (HT0.out.go (bgo HBV.out hm.out))) U5.out).mono (R' := fun e w'' => e = .returned (.bool R) ∧ Hid (Below V.heap.size V w'') ∧ ST g2 g9 g11 k o r p ak ao ar ap w'') (fun _ _ ⟨he, K⟩ => ⟨he, hid (bgo hm.out K), HST.out _ (bgo hm.out K)⟩))
  have H14 := hid (fun (w' : World) (hm : Hid (Below V.heap.size V w')) => (bl_at (rright_at ⟨k, o, r, p⟩ w') U5.out).mono (R' := fun e w'' => e = .returned (.bool R) ∧ Hid (Below V.heap.size V w'') ∧ ST g2 g9 g11 k o r p ak ao ar ap w'') (fun _ _ ⟨he, K⟩ => ⟨he, hid (bgo hm.out K), HST.out _ (bgo hm.out K)⟩))
  have H15 := hid (fun (w' : World) (hm : Hid (Below V.heap.size V w')) => (st_at (name_at k w' (HT0.out.go (bgo HBV.out hm.out))) U6.out).mono (R' := fun e w'' => e = .returned (.string t) ∧ Hid (Below V.heap.size V w'') ∧ ST g2 g9 g11 k o r p ak ao ar ap w'') (fun _ _ ⟨he, K⟩ => ⟨he, hid (bgo hm.out K), HST.out _ (bgo hm.out K)⟩))
  have H16 := hid (fun (w' : World) (hm : Hid (Below V.heap.size V w')) => (st_at (rname_at k w') U6.out).mono (R' := fun e w'' => e = .returned (.string t) ∧ Hid (Below V.heap.size V w'') ∧ ST g2 g9 g11 k o r p ak ao ar ap w'') (fun _ _ ⟨he, K⟩ => ⟨he, hid (bgo hm.out K), HST.out _ (bgo hm.out K)⟩))
  have H17 := hid (fun (w' : World) (hm : Hid (Below V.heap.size V w')) => (known_yes w' (HT0.out.go (bgo HBV.out hm.out))).mono (R' := fun e w'' => e = .returned (.bool true) ∧ Hid (Below V.heap.size V w'') ∧ ST g2 g9 g11 k o r p ak ao ar ap w'') (fun _ _ ⟨he, K⟩ => ⟨he, hid (bgo hm.out K), HST.out _ (bgo hm.out K)⟩))
  simp only [ST] at H10 H13 H14 H15 H16 H17 hS0
  clear HST C2 C9 C11
  have eN : (N == N) = true := by simp
  have eE : (E == E) = true := by simp
  have eak : (ak == ak) = true := by simp
  have eao : (ao == ao) = true := by simp
  have ear : (ar == ar) = true := by simp
  have eap : (ap == ap) = true := by simp
  have eR : (R == R) = true := by simp
  have eq : (q == q) = true := by simp
  have et := eq_bytes t
  go_region_held3 (fun w' => (w'.cell? ⟨g2, 0, none⟩ = some (.int .i64 k) ∧ w'.cell? ⟨g2, 1, none⟩ = some (.int .i64 o) ∧ w'.cell? ⟨g2, 2, none⟩ = some (.int .i64 r) ∧ w'.cell? ⟨g2, 3, none⟩ = some (.int .i64 p)) ∧ (w'.cell? ⟨g9, 0, none⟩ = some (.int .i64 ak) ∧ w'.cell? ⟨g9, 1, none⟩ = some (.int .i64 ao) ∧ w'.cell? ⟨g9, 2, none⟩ = some (.int .i64 ar) ∧ w'.cell? ⟨g9, 3, none⟩ = some (.int .i64 ap)) ∧ (w'.cell? ⟨g11, 0, none⟩ = some (.int .i64 ak) ∧ w'.cell? ⟨g11, 1, none⟩ = some (.int .i64 ao) ∧ w'.cell? ⟨g11, 2, none⟩ = some (.int .i64 ar) ∧ w'.cell? ⟨g11, 3, none⟩ = some (.int .i64 ap))) (first | with_reducible exact hS0 | with_reducible assumption)
    (first
      | (go_at_call 10; refine (H10.out _ _ _ _ _ (by assumption)).mono ?_; rintro e v' ⟨rfl, hm', hw'⟩)
      | (go_at_call 13; refine (H13.out _ (by assumption)).mono ?_; rintro e v' ⟨rfl, hm', hw'⟩)
      | (go_at_call 14; refine (H14.out _ (by assumption)).mono ?_; rintro e v' ⟨rfl, hm', hw'⟩)
      | (go_at_call 15; refine (H15.out _ (by assumption)).mono ?_; rintro e v' ⟨rfl, hm', hw'⟩)
      | (go_at_call 16; refine (H16.out _ (by assumption)).mono ?_; rintro e v' ⟨rfl, hm', hw'⟩)
      | (go_at_call 17; refine (H17.out _ (by assumption)).mono ?_; rintro e v' ⟨rfl, hm', hw'⟩))
  all_goals go_wp2
  all_goals go_ret
  all_goals exact ⟨rfl, bgo HBV.out (show Below V.heap.size V _ from Hid.out (by assumption))⟩

theorem tells_walk (x : Ds) (y : Nat) (hy : y < 18446744073709551616) (w : World) (hT : Tab w) :
    Calls Tryd.prog 3 #[dV x, .int .u64 y] w fun v w' => v = .returned (.bool true) ∧ Below w.heap.size w w' :=
  tells_core x.k x.o x.r x.e y _ _ _ _ _ _ _ _ _ w hT hy rfl rfl rfl rfl rfl rfl
end Go.Proofs.YtacifhfkadnklaaDoor
