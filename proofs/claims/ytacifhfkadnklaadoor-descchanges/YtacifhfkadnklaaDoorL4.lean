/- The walk of DescChanges: for every descriptor, every kind and owner, and every number it returns true; nothing that lay before is changed. Condition: the package's two tables lie in their variables. -/
import Derived.Test.YtacifhfkadnklaaDoorL5
import Derived.Deep.RegionHeld3
namespace Go.Proofs.YtacifhfkadnklaaDoor
open Go.RowKit

/-- What a region loads of a descriptor's block and of a pair's. -/
abbrev SD (g3 g4 : Nat) (k o r p a b : Int) (w' : World) : Prop :=
  (w'.cell? ⟨g3, 0, none⟩ = some (.int .i64 k) ∧ w'.cell? ⟨g3, 1, none⟩ = some (.int .i64 o) ∧ w'.cell? ⟨g3, 2, none⟩ = some (.int .i64 r) ∧ w'.cell? ⟨g3, 3, none⟩ = some (.int .i64 p)) ∧ (w'.cell? ⟨g4, 0, none⟩ = some (.int .i64 a) ∧ w'.cell? ⟨g4, 1, none⟩ = some (.int .i64 b))
theorem SD.of {g3 g4 : Nat} {k o r p a b : Int} {w' : World} (h3 : w'.heap[g3]? = some (.cells #[.int .i64 k, .int .i64 o, .int .i64 r, .int .i64 p] 23 (0, 0))) (h4 : w'.heap[g4]? = some (.cells #[.int .i64 a, .int .i64 b] 40 (0, 0))) : SD g3 g4 k o r p a b w' :=
  ⟨⟨cell_of h3 rfl, cell_of h3 rfl, cell_of h3 rfl, cell_of h3 rfl⟩, cell_of h4 rfl, cell_of h4 rfl⟩
theorem keep4 {w : World} {g q : Nat} {ob : Obj} (h : w.heap[g]? = some ob) (hg : g < q) (x y z u : Value) : ((((w.setCell ⟨q, 0, none⟩ x).setCell ⟨q, 1, none⟩ y).setCell ⟨q, 2, none⟩ z).setCell ⟨q, 3, none⟩ u).heap[g]? = some ob := by
  rw [Below.heap_setCell _ _ _ _ (by show g ≠ q; omega), Below.heap_setCell _ _ _ _ (by show g ≠ q; omega), Below.heap_setCell _ _ _ _ (by show g ≠ q; omega), Below.heap_setCell _ _ _ _ (by show g ≠ q; omega)]
  exact h
/-- What the last statement loads: four blocks. -/
abbrev SC (g7 g9 g11 g13 : Nat) (k o r p k' o' r' p' : Int) (w' : World) : Prop :=
  (w'.cell? ⟨g7, 0, none⟩ = some (.int .i64 k') ∧ w'.cell? ⟨g7, 1, none⟩ = some (.int .i64 o') ∧ w'.cell? ⟨g7, 2, none⟩ = some (.int .i64 r') ∧ w'.cell? ⟨g7, 3, none⟩ = some (.int .i64 p')) ∧ (w'.cell? ⟨g9, 0, none⟩ = some (.int .i64 k') ∧ w'.cell? ⟨g9, 1, none⟩ = some (.int .i64 o') ∧ w'.cell? ⟨g9, 2, none⟩ = some (.int .i64 r') ∧ w'.cell? ⟨g9, 3, none⟩ = some (.int .i64 p')) ∧ (w'.cell? ⟨g11, 0, none⟩ = some (.int .i64 k) ∧ w'.cell? ⟨g11, 1, none⟩ = some (.int .i64 o) ∧ w'.cell? ⟨g11, 2, none⟩ = some (.int .i64 r) ∧ w'.cell? ⟨g11, 3, none⟩ = some (.int .i64 p)) ∧ (w'.cell? ⟨g13, 0, none⟩ = some (.int .i64 k) ∧ w'.cell? ⟨g13, 1, none⟩ = some (.int .i64 o) ∧ w'.cell? ⟨g13, 2, none⟩ = some (.int .i64 r) ∧ w'.cell? ⟨g13, 3, none⟩ = some (.int .i64 p))
theorem SC.of {g7 g9 g11 g13 : Nat} {k o r p k' o' r' p' : Int} {w' : World} (h7 : w'.heap[g7]? = some (.cells #[.int .i64 k', .int .i64 o', .int .i64 r', .int .i64 p'] 23 (0, 0))) (h9 : w'.heap[g9]? = some (.cells #[.int .i64 k', .int .i64 o', .int .i64 r', .int .i64 p'] 29 (0, 0)))
    (h11 : w'.heap[g11]? = some (.cells #[.int .i64 k, .int .i64 o, .int .i64 r, .int .i64 p] 23 (0, 0))) (h13 : w'.heap[g13]? = some (.cells #[.int .i64 k, .int .i64 o, .int .i64 r, .int .i64 p] 29 (0, 0))) : SC g7 g9 g11 g13 k o r p k' o' r' p' w' :=
  ⟨⟨cell_of h7 rfl, cell_of h7 rfl, cell_of h7 rfl, cell_of h7 rfl⟩, ⟨cell_of h9 rfl, cell_of h9 rfl, cell_of h9 rfl, cell_of h9 rfl⟩, ⟨cell_of h11 rfl, cell_of h11 rfl, cell_of h11 rfl, cell_of h11 rfl⟩, cell_of h13 rfl, cell_of h13 rfl, cell_of h13 rfl, cell_of h13 rfl⟩
abbrev z29 : Obj := .cells #[.int .i64 0, .int .i64 0, .int .i64 0, .int .i64 0] 29

set_option maxRecDepth 100000 in
set_option maxHeartbeats 2000000 in
theorem changes_core (k o r p a b y ak ao ar ap E ck co cr cp F : Int) (w : World) (hT : Tab w) (h1 : nx ⟨k, o, r, p⟩ a b = ⟨ak, ao, ar, ap⟩) (h2 : nxE ⟨k, o, r, p⟩ a b = E) (q1 : rf ⟨k, o, r, p⟩ y = ⟨ck, co, cr, cp⟩) (q2 : rfE ⟨k, o, r, p⟩ y = F) :
    Calls Tryd.prog 4 #[.agg #[.int .i64 k, .int .i64 o, .int .i64 r, .int .i64 p], .agg #[.int .i64 a, .int .i64 b], .int .i64 y] w fun v w' => v = .returned (.bool true) ∧ Below w.heap.size w w' := by
  have HT0 := hid hT
  have U1 := hid h1
  have U2 := hid h2
  have U3 := hid q1
  have U4 := hid q2
  clear hT h1 h2 q1 q2
  go_enter Tryd.func4, Tryd.ntmps4
  go_wp2_with fail
  refine (two_at (next_at ⟨k, o, r, p⟩ a b _ ((HT0.out.alloc _).alloc _)) U1.out U2.out).mono ?_
  rintro v w1 ⟨rfl, hB⟩
  have a3 := stay hB (two_new w _ _).1
  have a4 := stay hB (two_new w _ _).2
  have HB := hid (bgo (btwo w _ _) hB)
  have HT := hid (HT0.out.go HB.out)
  clear hB
  have l3 := lt_of_block a3
  obtain ⟨p30, p31, p32, p33, -, -, -, -⟩ := four a3
  have A3 := hid a3
  clear a3
  have l4 := lt_of_block a4
  have p40 := cell_of (i := 0) a4 rfl
  have p41 := cell_of (i := 1) a4 rfl
  have A4 := hid a4
  clear a4
  (try simp only [])
  go_wp2_with fail
  have HB7 := hid (HB.out.alloc HB.out.size (.cells #[.int .i64 ak, .int .i64 ao, .int .i64 ar, .int .i64 ap] 23))
  have B3 := hid (hkeep A3.out (.cells #[.int .i64 ak, .int .i64 ao, .int .i64 ar, .int .i64 ap] 23))
  have B4 := hid (hkeep A4.out (.cells #[.int .i64 ak, .int .i64 ao, .int .i64 ar, .int .i64 ap] 23))
  have B7 := hid (heap_alloc_new w1 (.cells #[.int .i64 ak, .int .i64 ao, .int .i64 ar, .int .i64 ap] 23))
  generalize hW : w1.alloc (.cells #[.int .i64 ak, .int .i64 ao, .int .i64 ar, .int .i64 ap] 23) = W at *
  clear hW A3 A4 l3 l4 p30 p31 p32 p33 p40 p41
  have hS0 := SD.of (stay (Below.refl W.heap.size W).drew B3.out) (stay (Below.refl W.heap.size W).drew B4.out)
  have hS1 := SD.of (stay (below_one W z29).drew B3.out) (stay (below_one W z29).drew B4.out)
  generalize w.heap.size + 1 = g4 at *
  generalize hg3 : w.heap.size = g3 at hS0 hS1 B3 ⊢
  go_region_held3 (fun w' => (w'.cell? ⟨g3, 0, none⟩ = some (.int .i64 k) ∧ w'.cell? ⟨g3, 1, none⟩ = some (.int .i64 o) ∧ w'.cell? ⟨g3, 2, none⟩ = some (.int .i64 r) ∧ w'.cell? ⟨g3, 3, none⟩ = some (.int .i64 p)) ∧ (w'.cell? ⟨g4, 0, none⟩ = some (.int .i64 a) ∧ w'.cell? ⟨g4, 1, none⟩ = some (.int .i64 b))) (first | with_reducible exact hS0 | with_reducible exact hS1 | with_reducible assumption)
    (first
      | (go_at_call 10; refine (plain_at ⟨k, o, r, p⟩ W.drew).mono ?_; rintro e4 w4 ⟨rfl, hB4⟩; have C3 := hid (stay hB4 B3.out); have C4 := hid (stay hB4 B4.out); have hS4 := SD.of C3.out C4.out; have hS5 := SD.of (hkeep C3.out z29) (hkeep C4.out z29); have HB4 := hid (bgo (Below.refl W.heap.size W).drew hB4); clear hB4)
      | (go_at_call 10; refine (plain_at ⟨k, o, r, p⟩ (W.alloc z29).drew).mono ?_; rintro e4 w4 ⟨rfl, hB4⟩; have C3 := hid (stay hB4 (hkeep B3.out z29)); have C4 := hid (stay hB4 (hkeep B4.out z29)); have hS4 := SD.of C3.out C4.out; have HQ := hid (stay hB4 (heap_alloc_new W z29)); have HB4 := hid (bgo (below_one W z29).drew hB4); clear hB4)
      | (go_at_call 19; refine (two_at (rnext_at ⟨k, o, r, p⟩ a b w4) U1.out U2.out).mono ?_; rintro e5 w5 ⟨rfl, hB5⟩; have HQ5 := hid (stay hB5 HQ.out); obtain ⟨d0, d1, d2, d3, f0, f1, f2, f3⟩ := four HQ5.out; have hS6 := SD.of (stay hB5 C3.out) (stay hB5 C4.out); have hS9 := SD.of (keep4 (stay hB5 C3.out) (lt_of_block B3.out) (.int .i64 ak) (.int .i64 ao) (.int .i64 ar) (.int .i64 ap)) (keep4 (stay hB5 C4.out) (lt_of_block B4.out) (.int .i64 ak) (.int .i64 ao) (.int .i64 ar) (.int .i64 ap)); have HB5 := hid hB5; clear hB5)
      | (go_at_call 19; refine (two_at (rnext_at ⟨k, o, r, p⟩ a b w4) U1.out U2.out).mono ?_; rintro e5 w5 ⟨rfl, hB5⟩; have hS6 := SD.of (stay hB5 C3.out) (stay hB5 C4.out); have hS7 := SD.of (hkeep (stay hB5 C3.out) z29) (hkeep (stay hB5 C4.out) z29); have hS8 := SD.of (hkeep (stay hB5 C3.out) (.cells #[.int .i64 ak, .int .i64 ao, .int .i64 ar, .int .i64 ap] 29)) (hkeep (stay hB5 C4.out) (.cells #[.int .i64 ak, .int .i64 ao, .int .i64 ar, .int .i64 ap] 29)); have HB5 := hid hB5; clear hB5)
      | (go_at_call 19; refine (two_at (rnext_at ⟨k, o, r, p⟩ a b (w4.alloc z29)) U1.out U2.out).mono ?_; rintro e5 w5 ⟨rfl, hB5⟩; have HQ5 := hid (stay hB5 (heap_alloc_new w4 z29)); obtain ⟨d0, d1, d2, d3, f0, f1, f2, f3⟩ := four HQ5.out; have hS6 := SD.of (stay hB5 (hkeep C3.out z29)) (stay hB5 (hkeep C4.out z29)); have hS9 := SD.of (keep4 (stay hB5 (hkeep C3.out z29)) (lt_of_block C3.out) (.int .i64 ak) (.int .i64 ao) (.int .i64 ar) (.int .i64 ap)) (keep4 (stay hB5 (hkeep C4.out z29)) (lt_of_block C4.out) (.int .i64 ak) (.int .i64 ao) (.int .i64 ar) (.int .i64 ap)); have HB5 := hid (bgo (below_one w4 z29) hB5); clear hB5))
  · have Y9 := hid (heap_alloc_new w5 (.cells #[.int .i64 ak, .int .i64 ao, .int .i64 ar, .int .i64 ap] 29))
    have Y7 := hid (hkeep (stay HB5.out (stay HB4.out B7.out)) (.cells #[.int .i64 ak, .int .i64 ao, .int .i64 ar, .int .i64 ap] 29))
    have Y3 := hid (hkeep (stay HB5.out C3.out) (.cells #[.int .i64 ak, .int .i64 ao, .int .i64 ar, .int .i64 ap] 29))
    have YB := hid ((bgo (bgo HB7.out HB4.out) HB5.out).alloc (bgo (bgo HB7.out HB4.out) HB5.out).size (.cells #[.int .i64 ak, .int .i64 ao, .int .i64 ar, .int .i64 ap] 29))
    generalize w5.alloc (.cells #[.int .i64 ak, .int .i64 ao, .int .i64 ar, .int .i64 ap] 29) = X at *
    generalize w5.heap.size = g9 at *
    clear hS0 hS1 hS4 hS6
    (try clear hS5)
    (try clear hS7)
    (try clear hS8)
    (try clear hS9)
    (try clear d0 d1 d2 d3 f0 f1 f2 f3)
    (try clear HQ)
    (try clear HQ5)
    clear HB4 HB5 HB7 C3 C4 B3 B4 B7 HB HT
    (try clear hHeld)
    have HB := YB
    have HT := hid (HT0.out.go HB.out)
    have A3 := Y3
    have A7 := Y7
    have A9 := Y9
    clear Y3 Y7 Y9 YB
    have l3 := lt_of_block A3.out
    obtain ⟨p30, p31, p32, p33, -, -, -, -⟩ := four A3.out
    have l7 := lt_of_block A7.out
    obtain ⟨p70, p71, p72, p73, -, -, -, -⟩ := four A7.out
    have l9 := lt_of_block A9.out
    obtain ⟨p90, p91, p92, p93, -, -, -, -⟩ := four A9.out
    go_wp2_with fail
    refine (two_at (ref_at ⟨k, o, r, p⟩ y _ HT.out) U3.out U4.out).mono ?_
    rintro v w6 ⟨rfl, hB⟩
    have a3 := stay hB A3.out
    have a7 := stay hB A7.out
    have a9 := stay hB A9.out
    have HBn := hid (bgo HB.out hB)
    clear HB
    have HB := HBn
    clear HBn
    clear A3 l3 p30 p31 p32 p33 A7 l7 p70 p71 p72 p73 A9 l9 p90 p91 p92 p93
    clear HT
    have HT := hid (HT0.out.go HB.out)
    clear hB
    have l3 := lt_of_block a3
    obtain ⟨p30, p31, p32, p33, -, -, -, -⟩ := four a3
    have A3 := hid a3
    clear a3
    have l7 := lt_of_block a7
    obtain ⟨p70, p71, p72, p73, -, -, -, -⟩ := four a7
    have A7 := hid a7
    clear a7
    have l9 := lt_of_block a9
    obtain ⟨p90, p91, p92, p93, -, -, -, -⟩ := four a9
    have A9 := hid a9
    clear a9
    (try simp only [])
    go_wp2_with fail
    refine (plain_at ⟨k, o, r, p⟩ _).mono ?_
    rintro v w7 ⟨rfl, hB⟩
    have a3 := stay hB (hkeep A3.out _)
    have a7 := stay hB (hkeep A7.out _)
    have a9 := stay hB (hkeep A9.out _)
    have a11 := stay hB (heap_alloc_new _ _)
    have HBn := hid (bgo (HB.out.alloc HB.out.size _) hB)
    clear HB
    have HB := HBn
    clear HBn
    clear A3 l3 p30 p31 p32 p33 A7 l7 p70 p71 p72 p73 A9 l9 p90 p91 p92 p93
    clear HT
    have HT := hid (HT0.out.go HB.out)
    clear hB
    have l3 := lt_of_block a3
    obtain ⟨p30, p31, p32, p33, -, -, -, -⟩ := four a3
    have A3 := hid a3
    clear a3
    have l7 := lt_of_block a7
    obtain ⟨p70, p71, p72, p73, -, -, -, -⟩ := four a7
    have A7 := hid a7
    clear a7
    have l9 := lt_of_block a9
    obtain ⟨p90, p91, p92, p93, -, -, -, -⟩ := four a9
    have A9 := hid a9
    clear a9
    have l11 := lt_of_block a11
    obtain ⟨p110, p111, p112, p113, -, -, -, -⟩ := four a11
    have A11 := hid a11
    clear a11
    (try simp only [])
    go_wp2_with fail
    refine (two_at (rref_at ⟨k, o, r, p⟩ y _) U3.out U4.out).mono ?_
    rintro v w8 ⟨rfl, hB⟩
    have a3 := stay hB A3.out
    have a7 := stay hB A7.out
    have a9 := stay hB A9.out
    have a11 := stay hB A11.out
    have HBn := hid (bgo HB.out hB)
    clear HB
    have HB := HBn
    clear HBn
    clear A3 l3 p30 p31 p32 p33 A7 l7 p70 p71 p72 p73 A9 l9 p90 p91 p92 p93 A11 l11 p110 p111 p112 p113
    clear HT
    have HT := hid (HT0.out.go HB.out)
    clear hB
    have l3 := lt_of_block a3
    obtain ⟨p30, p31, p32, p33, -, -, -, -⟩ := four a3
    have A3 := hid a3
    clear a3
    have l7 := lt_of_block a7
    obtain ⟨p70, p71, p72, p73, -, -, -, -⟩ := four a7
    have A7 := hid a7
    clear a7
    have l9 := lt_of_block a9
    obtain ⟨p90, p91, p92, p93, -, -, -, -⟩ := four a9
    have A9 := hid a9
    clear a9
    have l11 := lt_of_block a11
    obtain ⟨p110, p111, p112, p113, -, -, -, -⟩ := four a11
    have A11 := hid a11
    clear a11
    (try simp only [])
    go_wp2_with fail
    have HBV := hid (HB.out.alloc HB.out.size (.cells #[.int .i64 ck, .int .i64 co, .int .i64 cr, .int .i64 cp] 29))
    have C7 := hid (hkeep A7.out (.cells #[.int .i64 ck, .int .i64 co, .int .i64 cr, .int .i64 cp] 29))
    have C9 := hid (hkeep A9.out (.cells #[.int .i64 ck, .int .i64 co, .int .i64 cr, .int .i64 cp] 29))
    have C11 := hid (hkeep A11.out (.cells #[.int .i64 ck, .int .i64 co, .int .i64 cr, .int .i64 cp] 29))
    have C13 := hid (heap_alloc_new w8 (.cells #[.int .i64 ck, .int .i64 co, .int .i64 cr, .int .i64 cp] 29))
    generalize w8.alloc (.cells #[.int .i64 ck, .int .i64 co, .int .i64 cr, .int .i64 cp] 29) = V at *
    generalize w8.heap.size = g13 at *
    clear A7 A9 A11 l7 l9 l11 p70 p71 p72 p73 p90 p91 p92 p93 p110 p111 p112 p113 A3 l3 p30 p31 p32 p33 HB HT
    generalize w6.heap.size = g11 at *
    generalize w1.heap.size = g7 at *
    have HD0 := hid (show Below V.heap.size V V.drew from (Below.refl V.heap.size V).drew)
    have hS0 := SC.of (k := ck) (o := co) (r := cr) (p := cp) (k' := ak) (o' := ao) (r' := ar) (p' := ap) (stay HD0.out C7.out) (stay HD0.out C9.out) (stay HD0.out C11.out) (stay HD0.out C13.out)
    have HSC := hid (fun (w' : World) (h : Below V.heap.size V w') => SC.of (stay h C7.out) (stay h C9.out) (stay h C11.out) (stay h C13.out))
    have H10 := hid (fun (k o r p : Int) (w' : World) (hm : Hid (Below V.heap.size V w')) => (plain_at ⟨k, o, r, p⟩ w').mono (R' := fun e w'' => e = .returned (.agg #[.int .i64 k, .int .i64 o, .int .i64 r, .int .i64 p]) ∧ Hid (Below V.heap.size V w'') ∧ SC g7 g9 g11 g13 ck co cr cp ak ao ar ap w'') (fun _ _ ⟨he, K⟩ => ⟨he, hid (bgo hm.out K), HSC.out _ (bgo hm.out K)⟩))
    have H17 := hid (fun (w' : World) (hm : Hid (Below V.heap.size V w')) => (known_yes w' (HT0.out.go (bgo HBV.out hm.out))).mono (R' := fun e w'' => e = .returned (.bool true) ∧ Hid (Below V.heap.size V w'') ∧ SC g7 g9 g11 g13 ck co cr cp ak ao ar ap w'') (fun _ _ ⟨he, K⟩ => ⟨he, hid (bgo hm.out K), HSC.out _ (bgo hm.out K)⟩))
    simp only [SC] at H10 H17 hS0
    clear HSC C7 C9 C11 C13
    have eak : (ak == ak) = true := by simp
    have eao : (ao == ao) = true := by simp
    have ear : (ar == ar) = true := by simp
    have eap : (ap == ap) = true := by simp
    have eck : (ck == ck) = true := by simp
    have eco : (co == co) = true := by simp
    have ecr : (cr == cr) = true := by simp
    have ecp : (cp == cp) = true := by simp
    have eE : (E == E) = true := by simp
    have eF : (F == F) = true := by simp
    go_region_held3 (fun w' => (w'.cell? ⟨g7, 0, none⟩ = some (.int .i64 ak) ∧ w'.cell? ⟨g7, 1, none⟩ = some (.int .i64 ao) ∧ w'.cell? ⟨g7, 2, none⟩ = some (.int .i64 ar) ∧ w'.cell? ⟨g7, 3, none⟩ = some (.int .i64 ap)) ∧ (w'.cell? ⟨g9, 0, none⟩ = some (.int .i64 ak) ∧ w'.cell? ⟨g9, 1, none⟩ = some (.int .i64 ao) ∧ w'.cell? ⟨g9, 2, none⟩ = some (.int .i64 ar) ∧ w'.cell? ⟨g9, 3, none⟩ = some (.int .i64 ap)) ∧ (w'.cell? ⟨g11, 0, none⟩ = some (.int .i64 ck) ∧ w'.cell? ⟨g11, 1, none⟩ = some (.int .i64 co) ∧ w'.cell? ⟨g11, 2, none⟩ = some (.int .i64 cr) ∧ w'.cell? ⟨g11, 3, none⟩ = some (.int .i64 cp)) ∧ (w'.cell? ⟨g13, 0, none⟩ = some (.int .i64 ck) ∧ w'.cell? ⟨g13, 1, none⟩ = some (.int .i64 co) ∧ w'.cell? ⟨g13, 2, none⟩ = some (.int .i64 cr) ∧ w'.cell? ⟨g13, 3, none⟩ = some (.int .i64 cp))) (first | with_reducible exact hS0 | with_reducible assumption)
      (first
        | (go_at_call 10; refine (H10.out _ _ _ _ _ (by assumption)).mono ?_; rintro e v' ⟨rfl, hm', hw'⟩)
        | (go_at_call 17; refine (H17.out _ (by assumption)).mono ?_; rintro e v' ⟨rfl, hm', hw'⟩))
    all_goals go_wp2
    all_goals go_ret
    all_goals exact ⟨rfl, bgo HBV.out (show Below V.heap.size V _ from Hid.out (by assumption))⟩
  · have Y9 := hid (put4 HQ5.out (.int .i64 ak) (.int .i64 ao) (.int .i64 ar) (.int .i64 ap))
    have Y7 := hid (keep4 (stay HB5.out (stay HB4.out B7.out)) (lt_of_block (stay HB4.out B7.out)) (.int .i64 ak) (.int .i64 ao) (.int .i64 ar) (.int .i64 ap))
    have Y3 := hid (keep4 (stay HB5.out C3.out) (lt_of_block C3.out) (.int .i64 ak) (.int .i64 ao) (.int .i64 ar) (.int .i64 ap))
    have YB := hid (bput (bgo (bgo HB7.out HB4.out) HB5.out) (bgo HB7.out HB4.out).size (.int .i64 ak) (.int .i64 ao) (.int .i64 ar) (.int .i64 ap))
    generalize ((((w5.setCell ⟨w4.heap.size, 0, none⟩ (.int .i64 ak)).setCell ⟨w4.heap.size, 1, none⟩ (.int .i64 ao)).setCell ⟨w4.heap.size, 2, none⟩ (.int .i64 ar)).setCell ⟨w4.heap.size, 3, none⟩ (.int .i64 ap)) = X at *
    generalize w4.heap.size = g9 at *
    clear hS0 hS1 hS4 hS6
    (try clear hS5)
    (try clear hS7)
    (try clear hS8)
    (try clear hS9)
    (try clear d0 d1 d2 d3 f0 f1 f2 f3)
    (try clear HQ)
    (try clear HQ5)
    clear HB4 HB5 HB7 C3 C4 B3 B4 B7 HB HT
    (try clear hHeld)
    have HB := YB
    have HT := hid (HT0.out.go HB.out)
    have A3 := Y3
    have A7 := Y7
    have A9 := Y9
    clear Y3 Y7 Y9 YB
    have l3 := lt_of_block A3.out
    obtain ⟨p30, p31, p32, p33, -, -, -, -⟩ := four A3.out
    have l7 := lt_of_block A7.out
    obtain ⟨p70, p71, p72, p73, -, -, -, -⟩ := four A7.out
    have l9 := lt_of_block A9.out
    obtain ⟨p90, p91, p92, p93, -, -, -, -⟩ := four A9.out
    go_wp2_with fail
    refine (two_at (ref_at ⟨k, o, r, p⟩ y _ HT.out) U3.out U4.out).mono ?_
    rintro v w6 ⟨rfl, hB⟩
    have a3 := stay hB A3.out
    have a7 := stay hB A7.out
    have a9 := stay hB A9.out
    have HBn := hid (bgo HB.out hB)
    clear HB
    have HB := HBn
    clear HBn
    clear A3 l3 p30 p31 p32 p33 A7 l7 p70 p71 p72 p73 A9 l9 p90 p91 p92 p93
    clear HT
    have HT := hid (HT0.out.go HB.out)
    clear hB
    have l3 := lt_of_block a3
    obtain ⟨p30, p31, p32, p33, -, -, -, -⟩ := four a3
    have A3 := hid a3
    clear a3
    have l7 := lt_of_block a7
    obtain ⟨p70, p71, p72, p73, -, -, -, -⟩ := four a7
    have A7 := hid a7
    clear a7
    have l9 := lt_of_block a9
    obtain ⟨p90, p91, p92, p93, -, -, -, -⟩ := four a9
    have A9 := hid a9
    clear a9
    (try simp only [])
    go_wp2_with fail
    refine (plain_at ⟨k, o, r, p⟩ _).mono ?_
    rintro v w7 ⟨rfl, hB⟩
    have a3 := stay hB (hkeep A3.out _)
    have a7 := stay hB (hkeep A7.out _)
    have a9 := stay hB (hkeep A9.out _)
    have a11 := stay hB (heap_alloc_new _ _)
    have HBn := hid (bgo (HB.out.alloc HB.out.size _) hB)
    clear HB
    have HB := HBn
    clear HBn
    clear A3 l3 p30 p31 p32 p33 A7 l7 p70 p71 p72 p73 A9 l9 p90 p91 p92 p93
    clear HT
    have HT := hid (HT0.out.go HB.out)
    clear hB
    have l3 := lt_of_block a3
    obtain ⟨p30, p31, p32, p33, -, -, -, -⟩ := four a3
    have A3 := hid a3
    clear a3
    have l7 := lt_of_block a7
    obtain ⟨p70, p71, p72, p73, -, -, -, -⟩ := four a7
    have A7 := hid a7
    clear a7
    have l9 := lt_of_block a9
    obtain ⟨p90, p91, p92, p93, -, -, -, -⟩ := four a9
    have A9 := hid a9
    clear a9
    have l11 := lt_of_block a11
    obtain ⟨p110, p111, p112, p113, -, -, -, -⟩ := four a11
    have A11 := hid a11
    clear a11
    (try simp only [])
    go_wp2_with fail
    refine (two_at (rref_at ⟨k, o, r, p⟩ y _) U3.out U4.out).mono ?_
    rintro v w8 ⟨rfl, hB⟩
    have a3 := stay hB A3.out
    have a7 := stay hB A7.out
    have a9 := stay hB A9.out
    have a11 := stay hB A11.out
    have HBn := hid (bgo HB.out hB)
    clear HB
    have HB := HBn
    clear HBn
    clear A3 l3 p30 p31 p32 p33 A7 l7 p70 p71 p72 p73 A9 l9 p90 p91 p92 p93 A11 l11 p110 p111 p112 p113
    clear HT
    have HT := hid (HT0.out.go HB.out)
    clear hB
    have l3 := lt_of_block a3
    obtain ⟨p30, p31, p32, p33, -, -, -, -⟩ := four a3
    have A3 := hid a3
    clear a3
    have l7 := lt_of_block a7
    obtain ⟨p70, p71, p72, p73, -, -, -, -⟩ := four a7
    have A7 := hid a7
    clear a7
    have l9 := lt_of_block a9
    obtain ⟨p90, p91, p92, p93, -, -, -, -⟩ := four a9
    have A9 := hid a9
    clear a9
    have l11 := lt_of_block a11
    obtain ⟨p110, p111, p112, p113, -, -, -, -⟩ := four a11
    have A11 := hid a11
    clear a11
    (try simp only [])
    go_wp2_with fail
    have HBV := hid (HB.out.alloc HB.out.size (.cells #[.int .i64 ck, .int .i64 co, .int .i64 cr, .int .i64 cp] 29))
    have C7 := hid (hkeep A7.out (.cells #[.int .i64 ck, .int .i64 co, .int .i64 cr, .int .i64 cp] 29))
    have C9 := hid (hkeep A9.out (.cells #[.int .i64 ck, .int .i64 co, .int .i64 cr, .int .i64 cp] 29))
    have C11 := hid (hkeep A11.out (.cells #[.int .i64 ck, .int .i64 co, .int .i64 cr, .int .i64 cp] 29))
    have C13 := hid (heap_alloc_new w8 (.cells #[.int .i64 ck, .int .i64 co, .int .i64 cr, .int .i64 cp] 29))
    generalize w8.alloc (.cells #[.int .i64 ck, .int .i64 co, .int .i64 cr, .int .i64 cp] 29) = V at *
    generalize w8.heap.size = g13 at *
    clear A7 A9 A11 l7 l9 l11 p70 p71 p72 p73 p90 p91 p92 p93 p110 p111 p112 p113 A3 l3 p30 p31 p32 p33 HB HT
    generalize w6.heap.size = g11 at *
    generalize w1.heap.size = g7 at *
    have HD0 := hid (show Below V.heap.size V V.drew from (Below.refl V.heap.size V).drew)
    have hS0 := SC.of (k := ck) (o := co) (r := cr) (p := cp) (k' := ak) (o' := ao) (r' := ar) (p' := ap) (stay HD0.out C7.out) (stay HD0.out C9.out) (stay HD0.out C11.out) (stay HD0.out C13.out)
    have HSC := hid (fun (w' : World) (h : Below V.heap.size V w') => SC.of (stay h C7.out) (stay h C9.out) (stay h C11.out) (stay h C13.out))
    have H10 := hid (fun (k o r p : Int) (w' : World) (hm : Hid (Below V.heap.size V w')) => (plain_at ⟨k, o, r, p⟩ w').mono (R' := fun e w'' => e = .returned (.agg #[.int .i64 k, .int .i64 o, .int .i64 r, .int .i64 p]) ∧ Hid (Below V.heap.size V w'') ∧ SC g7 g9 g11 g13 ck co cr cp ak ao ar ap w'') (fun _ _ ⟨he, K⟩ => ⟨he, hid (bgo hm.out K), HSC.out _ (bgo hm.out K)⟩))
    have H17 := hid (fun (w' : World) (hm : Hid (Below V.heap.size V w')) => (known_yes w' (HT0.out.go (bgo HBV.out hm.out))).mono (R' := fun e w'' => e = .returned (.bool true) ∧ Hid (Below V.heap.size V w'') ∧ SC g7 g9 g11 g13 ck co cr cp ak ao ar ap w'') (fun _ _ ⟨he, K⟩ => ⟨he, hid (bgo hm.out K), HSC.out _ (bgo hm.out K)⟩))
    simp only [SC] at H10 H17 hS0
    clear HSC C7 C9 C11 C13
    have eak : (ak == ak) = true := by simp
    have eao : (ao == ao) = true := by simp
    have ear : (ar == ar) = true := by simp
    have eap : (ap == ap) = true := by simp
    have eck : (ck == ck) = true := by simp
    have eco : (co == co) = true := by simp
    have ecr : (cr == cr) = true := by simp
    have ecp : (cp == cp) = true := by simp
    have eE : (E == E) = true := by simp
    have eF : (F == F) = true := by simp
    go_region_held3 (fun w' => (w'.cell? ⟨g7, 0, none⟩ = some (.int .i64 ak) ∧ w'.cell? ⟨g7, 1, none⟩ = some (.int .i64 ao) ∧ w'.cell? ⟨g7, 2, none⟩ = some (.int .i64 ar) ∧ w'.cell? ⟨g7, 3, none⟩ = some (.int .i64 ap)) ∧ (w'.cell? ⟨g9, 0, none⟩ = some (.int .i64 ak) ∧ w'.cell? ⟨g9, 1, none⟩ = some (.int .i64 ao) ∧ w'.cell? ⟨g9, 2, none⟩ = some (.int .i64 ar) ∧ w'.cell? ⟨g9, 3, none⟩ = some (.int .i64 ap)) ∧ (w'.cell? ⟨g11, 0, none⟩ = some (.int .i64 ck) ∧ w'.cell? ⟨g11, 1, none⟩ = some (.int .i64 co) ∧ w'.cell? ⟨g11, 2, none⟩ = some (.int .i64 cr) ∧ w'.cell? ⟨g11, 3, none⟩ = some (.int .i64 cp)) ∧ (w'.cell? ⟨g13, 0, none⟩ = some (.int .i64 ck) ∧ w'.cell? ⟨g13, 1, none⟩ = some (.int .i64 co) ∧ w'.cell? ⟨g13, 2, none⟩ = some (.int .i64 cr) ∧ w'.cell? ⟨g13, 3, none⟩ = some (.int .i64 cp))) (first | with_reducible exact hS0 | with_reducible assumption)
      (first
        | (go_at_call 10; refine (H10.out _ _ _ _ _ (by assumption)).mono ?_; rintro e v' ⟨rfl, hm', hw'⟩)
        | (go_at_call 17; refine (H17.out _ (by assumption)).mono ?_; rintro e v' ⟨rfl, hm', hw'⟩))
    all_goals go_wp2
    all_goals go_ret
    all_goals exact ⟨rfl, bgo HBV.out (show Below V.heap.size V _ from Hid.out (by assumption))⟩
  · have Y9 := hid (put4 HQ5.out (.int .i64 ak) (.int .i64 ao) (.int .i64 ar) (.int .i64 ap))
    have Y7 := hid (keep4 (stay HB5.out (stay HB4.out B7.out)) (lt_of_block B7.out) (.int .i64 ak) (.int .i64 ao) (.int .i64 ar) (.int .i64 ap))
    have Y3 := hid (keep4 (stay HB5.out C3.out) (lt_of_block B3.out) (.int .i64 ak) (.int .i64 ao) (.int .i64 ar) (.int .i64 ap))
    have YB := hid (bput (bgo (bgo HB7.out HB4.out) HB5.out) HB7.out.size (.int .i64 ak) (.int .i64 ao) (.int .i64 ar) (.int .i64 ap))
    generalize ((((w5.setCell ⟨W.heap.size, 0, none⟩ (.int .i64 ak)).setCell ⟨W.heap.size, 1, none⟩ (.int .i64 ao)).setCell ⟨W.heap.size, 2, none⟩ (.int .i64 ar)).setCell ⟨W.heap.size, 3, none⟩ (.int .i64 ap)) = X at *
    generalize W.heap.size = g9 at *
    clear hS0 hS1 hS4 hS6
    (try clear hS5)
    (try clear hS7)
    (try clear hS8)
    (try clear hS9)
    (try clear d0 d1 d2 d3 f0 f1 f2 f3)
    (try clear HQ)
    (try clear HQ5)
    clear HB4 HB5 HB7 C3 C4 B3 B4 B7 HB HT
    (try clear hHeld)
    have HB := YB
    have HT := hid (HT0.out.go HB.out)
    have A3 := Y3
    have A7 := Y7
    have A9 := Y9
    clear Y3 Y7 Y9 YB
    have l3 := lt_of_block A3.out
    obtain ⟨p30, p31, p32, p33, -, -, -, -⟩ := four A3.out
    have l7 := lt_of_block A7.out
    obtain ⟨p70, p71, p72, p73, -, -, -, -⟩ := four A7.out
    have l9 := lt_of_block A9.out
    obtain ⟨p90, p91, p92, p93, -, -, -, -⟩ := four A9.out
    go_wp2_with fail
    refine (two_at (ref_at ⟨k, o, r, p⟩ y _ HT.out) U3.out U4.out).mono ?_
    rintro v w6 ⟨rfl, hB⟩
    have a3 := stay hB A3.out
    have a7 := stay hB A7.out
    have a9 := stay hB A9.out
    have HBn := hid (bgo HB.out hB)
    clear HB
    have HB := HBn
    clear HBn
    clear A3 l3 p30 p31 p32 p33 A7 l7 p70 p71 p72 p73 A9 l9 p90 p91 p92 p93
    clear HT
    have HT := hid (HT0.out.go HB.out)
    clear hB
    have l3 := lt_of_block a3
    obtain ⟨p30, p31, p32, p33, -, -, -, -⟩ := four a3
    have A3 := hid a3
    clear a3
    have l7 := lt_of_block a7
    obtain ⟨p70, p71, p72, p73, -, -, -, -⟩ := four a7
    have A7 := hid a7
    clear a7
    have l9 := lt_of_block a9
    obtain ⟨p90, p91, p92, p93, -, -, -, -⟩ := four a9
    have A9 := hid a9
    clear a9
    (try simp only [])
    go_wp2_with fail
    refine (plain_at ⟨k, o, r, p⟩ _).mono ?_
    rintro v w7 ⟨rfl, hB⟩
    have a3 := stay hB (hkeep A3.out _)
    have a7 := stay hB (hkeep A7.out _)
    have a9 := stay hB (hkeep A9.out _)
    have a11 := stay hB (heap_alloc_new _ _)
    have HBn := hid (bgo (HB.out.alloc HB.out.size _) hB)
    clear HB
    have HB := HBn
    clear HBn
    clear A3 l3 p30 p31 p32 p33 A7 l7 p70 p71 p72 p73 A9 l9 p90 p91 p92 p93
    clear HT
    have HT := hid (HT0.out.go HB.out)
    clear hB
    have l3 := lt_of_block a3
    obtain ⟨p30, p31, p32, p33, -, -, -, -⟩ := four a3
    have A3 := hid a3
    clear a3
    have l7 := lt_of_block a7
    obtain ⟨p70, p71, p72, p73, -, -, -, -⟩ := four a7
    have A7 := hid a7
    clear a7
    have l9 := lt_of_block a9
    obtain ⟨p90, p91, p92, p93, -, -, -, -⟩ := four a9
    have A9 := hid a9
    clear a9
    have l11 := lt_of_block a11
    obtain ⟨p110, p111, p112, p113, -, -, -, -⟩ := four a11
    have A11 := hid a11
    clear a11
    (try simp only [])
    go_wp2_with fail
    refine (two_at (rref_at ⟨k, o, r, p⟩ y _) U3.out U4.out).mono ?_
    rintro v w8 ⟨rfl, hB⟩
    have a3 := stay hB A3.out
    have a7 := stay hB A7.out
    have a9 := stay hB A9.out
    have a11 := stay hB A11.out
    have HBn := hid (bgo HB.out hB)
    clear HB
    have HB := HBn
    clear HBn
    clear A3 l3 p30 p31 p32 p33 A7 l7 p70 p71 p72 p73 A9 l9 p90 p91 p92 p93 A11 l11 p110 p111 p112 p113
    clear HT
    have HT := hid (HT0.out.go HB.out)
    clear hB
    have l3 := lt_of_block a3
    obtain ⟨p30, p31, p32, p33, -, -, -, -⟩ := four a3
    have A3 := hid a3
    clear a3
    have l7 := lt_of_block a7
    obtain ⟨p70, p71, p72, p73, -, -, -, -⟩ := four a7
    have A7 := hid a7
    clear a7
    have l9 := lt_of_block a9
    obtain ⟨p90, p91, p92, p93, -, -, -, -⟩ := four a9
    have A9 := hid a9
    clear a9
    have l11 := lt_of_block a11
    obtain ⟨p110, p111, p112, p113, -, -, -, -⟩ := four a11
    have A11 := hid a11
    clear a11
    (try simp only [])
    go_wp2_with fail
    have HBV := hid (HB.out.alloc HB.out.size (.cells #[.int .i64 ck, .int .i64 co, .int .i64 cr, .int .i64 cp] 29))
    have C7 := hid (hkeep A7.out (.cells #[.int .i64 ck, .int .i64 co, .int .i64 cr, .int .i64 cp] 29))
    have C9 := hid (hkeep A9.out (.cells #[.int .i64 ck, .int .i64 co, .int .i64 cr, .int .i64 cp] 29))
    have C11 := hid (hkeep A11.out (.cells #[.int .i64 ck, .int .i64 co, .int .i64 cr, .int .i64 cp] 29))
    have C13 := hid (heap_alloc_new w8 (.cells #[.int .i64 ck, .int .i64 co, .int .i64 cr, .int .i64 cp] 29))
    generalize w8.alloc (.cells #[.int .i64 ck, .int .i64 co, .int .i64 cr, .int .i64 cp] 29) = V at *
    generalize w8.heap.size = g13 at *
    clear A7 A9 A11 l7 l9 l11 p70 p71 p72 p73 p90 p91 p92 p93 p110 p111 p112 p113 A3 l3 p30 p31 p32 p33 HB HT
    generalize w6.heap.size = g11 at *
    generalize w1.heap.size = g7 at *
    have HD0 := hid (show Below V.heap.size V V.drew from (Below.refl V.heap.size V).drew)
    have hS0 := SC.of (k := ck) (o := co) (r := cr) (p := cp) (k' := ak) (o' := ao) (r' := ar) (p' := ap) (stay HD0.out C7.out) (stay HD0.out C9.out) (stay HD0.out C11.out) (stay HD0.out C13.out)
    have HSC := hid (fun (w' : World) (h : Below V.heap.size V w') => SC.of (stay h C7.out) (stay h C9.out) (stay h C11.out) (stay h C13.out))
    have H10 := hid (fun (k o r p : Int) (w' : World) (hm : Hid (Below V.heap.size V w')) => (plain_at ⟨k, o, r, p⟩ w').mono (R' := fun e w'' => e = .returned (.agg #[.int .i64 k, .int .i64 o, .int .i64 r, .int .i64 p]) ∧ Hid (Below V.heap.size V w'') ∧ SC g7 g9 g11 g13 ck co cr cp ak ao ar ap w'') (fun _ _ ⟨he, K⟩ => ⟨he, hid (bgo hm.out K), HSC.out _ (bgo hm.out K)⟩))
    have H17 := hid (fun (w' : World) (hm : Hid (Below V.heap.size V w')) => (known_yes w' (HT0.out.go (bgo HBV.out hm.out))).mono (R' := fun e w'' => e = .returned (.bool true) ∧ Hid (Below V.heap.size V w'') ∧ SC g7 g9 g11 g13 ck co cr cp ak ao ar ap w'') (fun _ _ ⟨he, K⟩ => ⟨he, hid (bgo hm.out K), HSC.out _ (bgo hm.out K)⟩))
    simp only [SC] at H10 H17 hS0
    clear HSC C7 C9 C11 C13
    have eak : (ak == ak) = true := by simp
    have eao : (ao == ao) = true := by simp
    have ear : (ar == ar) = true := by simp
    have eap : (ap == ap) = true := by simp
    have eck : (ck == ck) = true := by simp
    have eco : (co == co) = true := by simp
    have ecr : (cr == cr) = true := by simp
    have ecp : (cp == cp) = true := by simp
    have eE : (E == E) = true := by simp
    have eF : (F == F) = true := by simp
    go_region_held3 (fun w' => (w'.cell? ⟨g7, 0, none⟩ = some (.int .i64 ak) ∧ w'.cell? ⟨g7, 1, none⟩ = some (.int .i64 ao) ∧ w'.cell? ⟨g7, 2, none⟩ = some (.int .i64 ar) ∧ w'.cell? ⟨g7, 3, none⟩ = some (.int .i64 ap)) ∧ (w'.cell? ⟨g9, 0, none⟩ = some (.int .i64 ak) ∧ w'.cell? ⟨g9, 1, none⟩ = some (.int .i64 ao) ∧ w'.cell? ⟨g9, 2, none⟩ = some (.int .i64 ar) ∧ w'.cell? ⟨g9, 3, none⟩ = some (.int .i64 ap)) ∧ (w'.cell? ⟨g11, 0, none⟩ = some (.int .i64 ck) ∧ w'.cell? ⟨g11, 1, none⟩ = some (.int .i64 co) ∧ w'.cell? ⟨g11, 2, none⟩ = some (.int .i64 cr) ∧ w'.cell? ⟨g11, 3, none⟩ = some (.int .i64 cp)) ∧ (w'.cell? ⟨g13, 0, none⟩ = some (.int .i64 ck) ∧ w'.cell? ⟨g13, 1, none⟩ = some (.int .i64 co) ∧ w'.cell? ⟨g13, 2, none⟩ = some (.int .i64 cr) ∧ w'.cell? ⟨g13, 3, none⟩ = some (.int .i64 cp))) (first | with_reducible exact hS0 | with_reducible assumption)
      (first
        | (go_at_call 10; refine (H10.out _ _ _ _ _ (by assumption)).mono ?_; rintro e v' ⟨rfl, hm', hw'⟩)
        | (go_at_call 17; refine (H17.out _ (by assumption)).mono ?_; rintro e v' ⟨rfl, hm', hw'⟩))
    all_goals go_wp2
    all_goals go_ret
    all_goals exact ⟨rfl, bgo HBV.out (show Below V.heap.size V _ from Hid.out (by assumption))⟩

theorem changes_walk (x : Ds) (a b y : Int) (w : World) (hT : Tab w) :
    Calls Tryd.prog 4 #[dV x, .agg #[.int .i64 a, .int .i64 b], .int .i64 y] w fun v w' => v = .returned (.bool true) ∧ Below w.heap.size w w' :=
  changes_core x.k x.o x.r x.e a b y _ _ _ _ _ _ _ _ _ _ w hT rfl rfl rfl rfl
end Go.Proofs.YtacifhfkadnklaaDoor
