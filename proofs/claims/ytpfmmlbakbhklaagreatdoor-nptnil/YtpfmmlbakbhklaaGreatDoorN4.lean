/- What stop returns, for every table and page. Conditions: the words and frames lie in memory. -/
import Derived.Test.YtpfmmlbakbhklaaGreatDoorN3
namespace Go.Proofs.YtpfmmlbakbhklaaGreatDoor
open Go.RowKit
theorem seven {w : World} {g : Nat} {a b c d e f h : Value} {t : TypeId} (hh : w.heap[g]? = some (.cells #[a, b, c, d, e, f, h] t (0, 0))) :
    w.cell? ⟨g, 0, none⟩ = some a ∧ w.cell? ⟨g, 1, none⟩ = some b ∧ w.cell? ⟨g, 2, none⟩ = some c ∧ w.cell? ⟨g, 3, none⟩ = some d ∧ w.cell? ⟨g, 4, none⟩ = some e ∧ w.cell? ⟨g, 5, none⟩ = some f ∧ w.cell? ⟨g, 6, none⟩ = some h :=
  ⟨P.cell_of hh rfl, P.cell_of hh rfl, P.cell_of hh rfl, P.cell_of hh rfl, P.cell_of hh rfl, P.cell_of hh rfl, P.cell_of hh rfl⟩
theorem put7 {w2 : World} {g : Nat} {a b c d e f h : Value} {t : TypeId} (hg : w2.heap[g]? = some (.cells #[a, b, c, d, e, f, h] t (0, 0))) (a' b' c' d' e' f' h' : Value) :
    (((((((w2.setCell ⟨g, 0, none⟩ a').setCell ⟨g, 1, none⟩ b').setCell ⟨g, 2, none⟩ c').setCell ⟨g, 3, none⟩ d').setCell ⟨g, 4, none⟩ e').setCell ⟨g, 5, none⟩ f').setCell ⟨g, 6, none⟩ h').heap[g]? = some (.cells #[a', b', c', d', e', f', h'] t (0, 0)) := by
  have h0 : (w2.setCell ⟨g, 0, none⟩ a').heap[g]? = some (.cells #[a', b, c, d, e, f, h] t (0, 0)) := P.heap_setCell_self hg _
  have h1 : ((w2.setCell ⟨g, 0, none⟩ a').setCell ⟨g, 1, none⟩ b').heap[g]? = some (.cells #[a', b', c, d, e, f, h] t (0, 0)) := P.heap_setCell_self h0 _
  have h2 : (((w2.setCell ⟨g, 0, none⟩ a').setCell ⟨g, 1, none⟩ b').setCell ⟨g, 2, none⟩ c').heap[g]? = some (.cells #[a', b', c', d, e, f, h] t (0, 0)) := P.heap_setCell_self h1 _
  have h3 : ((((w2.setCell ⟨g, 0, none⟩ a').setCell ⟨g, 1, none⟩ b').setCell ⟨g, 2, none⟩ c').setCell ⟨g, 3, none⟩ d').heap[g]? = some (.cells #[a', b', c', d', e, f, h] t (0, 0)) := P.heap_setCell_self h2 _
  have h4 : (((((w2.setCell ⟨g, 0, none⟩ a').setCell ⟨g, 1, none⟩ b').setCell ⟨g, 2, none⟩ c').setCell ⟨g, 3, none⟩ d').setCell ⟨g, 4, none⟩ e').heap[g]? = some (.cells #[a', b', c', d', e', f, h] t (0, 0)) := P.heap_setCell_self h3 _
  have h5 : ((((((w2.setCell ⟨g, 0, none⟩ a').setCell ⟨g, 1, none⟩ b').setCell ⟨g, 2, none⟩ c').setCell ⟨g, 3, none⟩ d').setCell ⟨g, 4, none⟩ e').setCell ⟨g, 5, none⟩ f').heap[g]? = some (.cells #[a', b', c', d', e', f', h] t (0, 0)) := P.heap_setCell_self h4 _
  have h6 : (((((((w2.setCell ⟨g, 0, none⟩ a').setCell ⟨g, 1, none⟩ b').setCell ⟨g, 2, none⟩ c').setCell ⟨g, 3, none⟩ d').setCell ⟨g, 4, none⟩ e').setCell ⟨g, 5, none⟩ f').setCell ⟨g, 6, none⟩ h').heap[g]? = some (.cells #[a', b', c', d', e', f', h'] t (0, 0)) := P.heap_setCell_self h5 _
  exact h6
theorem bput7 {n g : Nat} {A B : World} (h : Below n A B) (hg : n ≤ g) (a' b' c' d' e' f' h' : Value) :
    Below n A (((((((B.setCell ⟨g, 0, none⟩ a').setCell ⟨g, 1, none⟩ b').setCell ⟨g, 2, none⟩ c').setCell ⟨g, 3, none⟩ d').setCell ⟨g, 4, none⟩ e').setCell ⟨g, 5, none⟩ f').setCell ⟨g, 6, none⟩ h') :=
  ((((((h.setCell (p := ⟨g, 0, none⟩) hg _).setCell (p := ⟨g, 1, none⟩) hg _).setCell (p := ⟨g, 2, none⟩) hg _).setCell (p := ⟨g, 3, none⟩) hg _).setCell (p := ⟨g, 4, none⟩) hg _).setCell (p := ⟨g, 5, none⟩) hg _).setCell (p := ⟨g, 6, none⟩) hg _
theorem free7 {w : World} {g : Nat} {c : Array Value} {t : TypeId} (h : w.heap[g]? = some (.cells c t (0, 0))) :
    w.frozen? ⟨g, 0, none⟩ = false ∧ w.frozen? ⟨g, 1, none⟩ = false ∧ w.frozen? ⟨g, 2, none⟩ = false ∧ w.frozen? ⟨g, 3, none⟩ = false ∧ w.frozen? ⟨g, 4, none⟩ = false ∧ w.frozen? ⟨g, 5, none⟩ = false ∧ w.frozen? ⟨g, 6, none⟩ = false :=
  ⟨P.free_of h, P.free_of h, P.free_of h, P.free_of h, P.free_of h, P.free_of h, P.free_of h⟩
theorem oth4 {W : World} {m g : Nat} {o : Obj} (h : W.heap[m]? = some o) (hne : m ≠ g) (i j k l : Nat) (a b c d : Value) :
    ((((W.setCell ⟨g, i, none⟩ a).setCell ⟨g, j, none⟩ b).setCell ⟨g, k, none⟩ c).setCell ⟨g, l, none⟩ d).heap[m]? = some o := by
  rw [Below.heap_setCell _ _ _ _ hne, Below.heap_setCell _ _ _ _ hne, Below.heap_setCell _ _ _ _ hne, Below.heap_setCell _ _ _ _ hne]
  exact h
theorem prD_zero : P.prD (Int.toNat 0) = P.zd := by
  unfold P.prD
  rw [if_pos (by decide +kernel)]
  rfl
section
variable {u : Si} {w : World} {t : Nat} {st o root : Int} {s : Sm} {k : Nat}
set_option maxHeartbeats 1000000 in
theorem stop_out (hT : IsT u w t st o root) (h : Wo u w s k) (fr v pg : Int) (hA : allB s.xs.length (P.at' fr pg v) 1 = false) :
    Calls Tryz.prog 136 #[.pointer (some ⟨t, 0, none⟩), .agg (tbC fr v), .int .i64 pg] w fun r w' => r = .returned (.agg (stC fr v (P.at' fr pg v) P.zd)) ∧ Below w.heap.size w w' := by
  have hP := hid (fun w => P.place_at fr pg v w)
  obtain ⟨n1, n2⟩ := P.two_new w (.cells #[.int .i64 fr, .int .i64 v] 93) (.cells #[.int .i64 0, .int .i64 0, .int .i64 0, .bool false, .int .i64 0, .bool false, .int .i64 0] 97)
  have b0 := P.btwo w (.cells #[.int .i64 fr, .int .i64 v] 93) (.cells #[.int .i64 0, .int .i64 0, .int .i64 0, .bool false, .int .i64 0, .bool false, .int .i64 0] 97)
  obtain ⟨W0, hW0⟩ : ∃ W0, ((w.alloc (.cells #[.int .i64 fr, .int .i64 v] 93)).alloc (.cells #[.int .i64 0, .int .i64 0, .int .i64 0, .bool false, .int .i64 0, .bool false, .int .i64 0] 97)) = W0 := ⟨_, rfl⟩
  rw [hW0] at n1 n2 b0
  have hs0 : W0.heap.size = w.heap.size + 1 + 1 := by rw [← hW0]; simp
  have c0 : W0.drew.cell? ⟨w.heap.size, 0, none⟩ = some (.int .i64 fr) := P.cell_of n1 rfl
  have c1 : W0.drew.cell? ⟨w.heap.size, 1, none⟩ = some (.int .i64 v) := P.cell_of n1 rfl
  have hS : ∀ o, (W0.drew.alloc o).cell? ⟨w.heap.size, 0, none⟩ = some (.int .i64 fr) ∧ (W0.drew.alloc o).cell? ⟨w.heap.size, 1, none⟩ = some (.int .i64 v) := fun o =>
    ⟨((below_alloc W0.drew o).cell (p := ⟨w.heap.size, 0, none⟩) (by show w.heap.size < W0.heap.size; omega)).trans c0, ((below_alloc W0.drew o).cell (p := ⟨w.heap.size, 1, none⟩) (by show w.heap.size < W0.heap.size; omega)).trans c1⟩
  have HS := hid hS
  have n3 : (W0.alloc (.cells #[.int .i64 fr, .int .i64 v, .int .i64 (P.at' fr pg v), .bool false, .int .i64 0, .bool false, .int .i64 0] 97)).drew.heap[w.heap.size + 1 + 1]? = some (.cells #[.int .i64 fr, .int .i64 v, .int .i64 (P.at' fr pg v), .bool false, .int .i64 0, .bool false, .int .i64 0] 97 (0, 0)) := by rw [← hs0]; exact heap_alloc_new W0 _
  have m3 := P.hkeep n2 (.cells #[.int .i64 fr, .int .i64 v, .int .i64 (P.at' fr pg v), .bool false, .int .i64 0, .bool false, .int .i64 0] 97)
  have b3 : Below w.heap.size w (W0.alloc (.cells #[.int .i64 fr, .int .i64 v, .int .i64 (P.at' fr pg v), .bool false, .int .i64 0, .bool false, .int .i64 0] 97)).drew := (b0.alloc b0.size _).drew
  obtain ⟨W3, hW3⟩ : ∃ W3, (W0.alloc (.cells #[.int .i64 fr, .int .i64 v, .int .i64 (P.at' fr pg v), .bool false, .int .i64 0, .bool false, .int .i64 0] 97)).drew = W3 := ⟨_, rfl⟩
  have m3 : W3.heap[w.heap.size + 1]? = some (.cells #[.int .i64 0, .int .i64 0, .int .i64 0, .bool false, .int .i64 0, .bool false, .int .i64 0] 97 (0, 0)) := by rw [← hW3]; exact m3
  rw [hW3] at n3 b3
  have HW3 := hid hW3
  clear hW3
  have T3 := hT.below b3
  obtain ⟨-, d1, -⟩ := T3.cells
  have k2 := (seven n3).2.2.1
  obtain ⟨dd, ll, hm, -⟩ := h.mem
  have HN : Hid (∀ n, Calls Tryz.prog 29 #[.pointer (some ⟨u.mp, 0, none⟩), .int .i64 (P.at' fr pg v), .int .i64 1] (W3.drewN n) fun e w' => e = .returned (.slice none 0 0) ∧ w' = W3.drewN n) := hid fun n => words_no (hm.below (below_drewN b3 n)) _ 1 (by decide) hA
  have HM := hid (fun n => P.stay (below_drewN (Below.refl W3.heap.size W3) n) m3)
  have HB := hid b3
  have HN3 := hid n3
  have HM3 := hid m3
  show Calls Tryz.prog 136 #[.pointer (some ⟨t, 0, none⟩), .agg #[.int .i64 fr, .int .i64 v], .int .i64 pg] w _
  generalize P.at' fr pg v = a at *
  clear hS h hT n1 n2 b0 hm T3 m3 b3 n3 hA
  go_enter Tryz.func136, Tryz.ntmps136
  go_wp2
  try rw [hW0]
  go_region_held3 (fun w' => w'.cell? ⟨w.heap.size, 0, none⟩ = some (.int .i64 fr) ∧ w'.cell? ⟨w.heap.size, 1, none⟩ = some (.int .i64 v)) (first | exact ⟨c0, c1⟩ | assumption | exact HS.out _)
    (first | (go_at_call 103; refine (hP.out _).mono ?_; rintro e w' ⟨rfl, hw'⟩; rw [hw']; clear hw' w'))
  all_goals (try rw [HW3.out])
  all_goals clear hW0 c0 c1 HS hP
  all_goals go_wp2
  all_goals (try rw [HW3.out])
  all_goals go_quiet ((go_at_call 29; exact Calls.quiet_of_same (HN.out _)))
  all_goals go_wp2
  all_goals
    obtain ⟨g0, g1, g2, g3, g4, g5, g6⟩ := seven HN3.out
    obtain ⟨x0, x1, x2, x3, x4, x5, x6⟩ := seven HM3.out
    obtain ⟨y0, y1, y2, y3, y4, y5, y6⟩ := free7 HM3.out
    clear k2
    refine wp_loop_rounds 1 ?_
    rw [rounds_succ]
    go_wp2
    refine bodyPost_ret (results_cell_row rfl _ _ (w.heap.size + 1) 97 _ (0, 0) _ rfl (put7 (HM.out _) _ _ _ _ _ _ _) Tryz.underlying97 rfl size97) rfl ?_
    exact ⟨rfl, bput7 (below_drewN HB.out _) (by omega) _ _ _ _ _ _ _⟩
set_option maxHeartbeats 1000000 in
theorem stop_in (hT : IsT u w t st o root) (h : Wo u w s k) (fr v pg : Int) (i : Nat) (hA : P.at' fr pg v = i) (hi : i < s.xs.length) (x : Nat) (hx : s.xs.getD i 0 = x) (hx' : x < 18446744073709551616) :
    Calls Tryz.prog 136 #[.pointer (some ⟨t, 0, none⟩), .agg (tbC fr v), .int .i64 pg] w fun r w' => r = .returned (.agg (stC fr v (P.at' fr pg v) (P.prD x))) ∧ Below w.heap.size w w' := by
  have hP := hid (fun w => P.place_at fr pg v w)
  obtain ⟨n1, n2⟩ := P.two_new w (.cells #[.int .i64 fr, .int .i64 v] 93) (.cells #[.int .i64 0, .int .i64 0, .int .i64 0, .bool false, .int .i64 0, .bool false, .int .i64 0] 97)
  have b0 := P.btwo w (.cells #[.int .i64 fr, .int .i64 v] 93) (.cells #[.int .i64 0, .int .i64 0, .int .i64 0, .bool false, .int .i64 0, .bool false, .int .i64 0] 97)
  obtain ⟨W0, hW0⟩ : ∃ W0, ((w.alloc (.cells #[.int .i64 fr, .int .i64 v] 93)).alloc (.cells #[.int .i64 0, .int .i64 0, .int .i64 0, .bool false, .int .i64 0, .bool false, .int .i64 0] 97)) = W0 := ⟨_, rfl⟩
  rw [hW0] at n1 n2 b0
  have hs0 : W0.heap.size = w.heap.size + 1 + 1 := by rw [← hW0]; simp
  have c0 : W0.drew.cell? ⟨w.heap.size, 0, none⟩ = some (.int .i64 fr) := P.cell_of n1 rfl
  have c1 : W0.drew.cell? ⟨w.heap.size, 1, none⟩ = some (.int .i64 v) := P.cell_of n1 rfl
  have hS : ∀ o, (W0.drew.alloc o).cell? ⟨w.heap.size, 0, none⟩ = some (.int .i64 fr) ∧ (W0.drew.alloc o).cell? ⟨w.heap.size, 1, none⟩ = some (.int .i64 v) := fun o =>
    ⟨((below_alloc W0.drew o).cell (p := ⟨w.heap.size, 0, none⟩) (by show w.heap.size < W0.heap.size; omega)).trans c0, ((below_alloc W0.drew o).cell (p := ⟨w.heap.size, 1, none⟩) (by show w.heap.size < W0.heap.size; omega)).trans c1⟩
  have HS := hid hS
  have n3 : (W0.alloc (.cells #[.int .i64 fr, .int .i64 v, .int .i64 (P.at' fr pg v), .bool false, .int .i64 0, .bool false, .int .i64 0] 97)).drew.heap[w.heap.size + 1 + 1]? = some (.cells #[.int .i64 fr, .int .i64 v, .int .i64 (P.at' fr pg v), .bool false, .int .i64 0, .bool false, .int .i64 0] 97 (0, 0)) := by rw [← hs0]; exact heap_alloc_new W0 _
  have m3 := P.hkeep n2 (.cells #[.int .i64 fr, .int .i64 v, .int .i64 (P.at' fr pg v), .bool false, .int .i64 0, .bool false, .int .i64 0] 97)
  have b3 : Below w.heap.size w (W0.alloc (.cells #[.int .i64 fr, .int .i64 v, .int .i64 (P.at' fr pg v), .bool false, .int .i64 0, .bool false, .int .i64 0] 97)).drew := (b0.alloc b0.size _).drew
  obtain ⟨W3, hW3⟩ : ∃ W3, (W0.alloc (.cells #[.int .i64 fr, .int .i64 v, .int .i64 (P.at' fr pg v), .bool false, .int .i64 0, .bool false, .int .i64 0] 97)).drew = W3 := ⟨_, rfl⟩
  have m3 : W3.heap[w.heap.size + 1]? = some (.cells #[.int .i64 0, .int .i64 0, .int .i64 0, .bool false, .int .i64 0, .bool false, .int .i64 0] 97 (0, 0)) := by rw [← hW3]; exact m3
  rw [hW3] at n3 b3
  have HW3 := hid hW3
  clear hW3
  have T3 := hT.below b3
  obtain ⟨-, d1, -⟩ := T3.cells
  have k2 := (seven n3).2.2.1
  obtain ⟨dd, ll, hm, -⟩ := h.mem
  have hC := words_yes (hm.below b3.drew) i 1 (by decide) (by omega)
  have hcut : cut s.xs i 1 = [(x : Int)] := by
    unfold cut
    rw [List.drop_eq_getElem_cons hi, List.take_succ_cons, List.take_zero]
    have : s.xs[i] = x := by rw [← hx]; simp [List.getD, hi]
    rw [this]
  rw [hcut, ← hA] at hC
  have HC := hid hC
  have HM3 := hid m3
  have HB := hid b3
  have HN3 := hid n3
  have HR := hid (fun W => P.parse_at x hx' W)
  have hS2 : ∀ w2, Below W3.drew.heap.size W3.drew w2 → w2.cell? ⟨t, 1, none⟩ = some (.pointer (some ⟨u.mp, 0, none⟩)) ∧ w2.cell? ⟨w.heap.size + 1 + 1, 2, none⟩ = some (.int .i64 (P.at' fr pg v)) := fun w2 b =>
    ⟨(b.cell (p := ⟨t, 1, none⟩) T3.lt).trans d1, (b.cell (p := ⟨w.heap.size + 1 + 1, 2, none⟩) (lt_of_block n3)).trans k2⟩
  have HS2 := hid hS2
  have d1' : W3.drew.cell? ⟨t, 1, none⟩ = some (.pointer (some ⟨u.mp, 0, none⟩)) := d1
  have k2' : W3.drew.cell? ⟨w.heap.size + 1 + 1, 2, none⟩ = some (.int .i64 (P.at' fr pg v)) := k2
  have HD := hid d1'
  have HK := hid k2'
  unfold P.ptwo P.eV at HR
  show Calls Tryz.prog 136 #[.pointer (some ⟨t, 0, none⟩), .agg #[.int .i64 fr, .int .i64 v], .int .i64 pg] w _
  generalize P.at' fr pg v = a at *
  generalize P.prY x = py at *
  generalize P.prD x = d at *
  obtain ⟨dp, dr, dl, df⟩ := d
  simp only at HR
  clear hS h hT n1 n2 b0 hm T3 m3 b3 n3 hA hcut hC hS2 hi hx hx'
  go_enter Tryz.func136, Tryz.ntmps136
  go_wp2
  try rw [hW0]
  go_region_held3 (fun w' => w'.cell? ⟨w.heap.size, 0, none⟩ = some (.int .i64 fr) ∧ w'.cell? ⟨w.heap.size, 1, none⟩ = some (.int .i64 v)) (first | exact ⟨c0, c1⟩ | assumption | exact HS.out _)
    (first | (go_at_call 103; refine (hP.out _).mono ?_; rintro e w' ⟨rfl, hw'⟩; rw [hw']; clear hw' w'))
  all_goals (try rw [HW3.out])
  all_goals clear hW0 c0 c1 HS hP
  all_goals go_wp2
  all_goals (try rw [HW3.out])
  all_goals go_region_held3 (fun w' => w'.cell? ⟨t, 1, none⟩ = some (.pointer (some ⟨u.mp, 0, none⟩)) ∧ w'.cell? ⟨w.heap.size + 1 + 1, 2, none⟩ = some (.int .i64 a)) (first | exact ⟨HD.out, HK.out⟩ | assumption)
    (first | (go_at_call 29; refine HC.out.mono ?_; rintro e w2 ⟨rfl, hR2, hB2⟩; have HB2 := hid hB2; have HR2 := hid hR2; have hS2 := HS2.out _ hB2; clear hB2 hR2))
  all_goals go_wp2
  all_goals
    have e1 : Below W3.heap.size W3 w2 := (Below.refl _ _).drew.trans HB2.out
    have HE1 := hid e1
    have r0 := IsRow.cell HR2.out 0 (by simp)
    rw [show W3.drew.heap.size = W3.heap.size from rfl] at r0
    simp only [List.getD_cons_zero] at r0
    clear e1 hS2 k2 k2' d1 d1' HC HS2 HK HD
    refine wp_loop_rounds 2 ?_
    rw [rounds_succ]
    go_wp2_with fail
    refine (HR.out _).mono ?_
    rintro r w3 ⟨rfl, hB3⟩
    have e3 := P.bgo HE1.out hB3
    have HG := hid (P.stay e3 HN3.out)
    have HM := hid (P.stay e3 HM3.out)
    have HB3 := hid (HB.out.trans (e3.mono HB.out.size))
    clear hB3 r0 e3
    obtain ⟨g0, g1, g2, g3, g4, g5, g6⟩ := seven HG.out
    obtain ⟨z0, z1, z2, z3, z4, z5, z6⟩ := free7 HG.out
    obtain ⟨x0, x1, x2, x3, x4, x5, x6⟩ := seven HM.out
    obtain ⟨y0, y1, y2, y3, y4, y5, y6⟩ := free7 HM.out
    go_wp2
    rw [rounds_succ]
    go_wp2
    refine bodyPost_ret (results_cell_row rfl _ _ (w.heap.size + 1) 97 _ (0, 0) _ rfl (put7 (oth4 HM.out (by omega) _ _ _ _ _ _ _ _) _ _ _ _ _ _ _) Tryz.underlying97 rfl size97) rfl ?_
    exact ⟨rfl, bput7 ((((HB3.out.setCell (p := ⟨_, 3, none⟩) (by simp; omega) _).setCell (p := ⟨_, 4, none⟩) (by simp; omega) _).setCell (p := ⟨_, 5, none⟩) (by simp; omega) _).setCell (p := ⟨_, 6, none⟩) (by simp; omega) _) (by omega) _ _ _ _ _ _ _⟩
/-- What stop tells. -/
theorem stop_at (hT : IsT u w t st o root) (h : Wo u w s k) (fr pg : Int) (v : Nat) :
    Calls Tryz.prog 136 #[.pointer (some ⟨t, 0, none⟩), .agg (tbC fr v), .int .i64 pg] w fun r w' => r = .returned (.agg (stC fr v (P.at' fr pg v) (en s.xs pg fr v))) ∧ Below w.heap.size w w' := by
  cases hA : allB s.xs.length (P.at' fr pg v) 1
  · have hz : en s.xs pg fr v = P.zd := by
      have : inB s.xs.length (P.at' fr pg v) = false := by
        have := allB_no.1 hA
        rw [inB_no]; omega
      unfold en wordAt
      rw [this, if_neg (by decide)]
      exact prD_zero
    rw [hz]
    exact stop_out hT h fr v pg hA
  · have ⟨_, h2, h3⟩ := allB_yes.1 hA
    obtain ⟨i, hi⟩ := Int.eq_ofNat_of_zero_le h2
    have hl : i < s.xs.length := by omega
    obtain ⟨x, hx, hx'⟩ := h.u64.at (P.at' fr pg v)
    have hb : inB s.xs.length (P.at' fr pg v) = true := inB_yes.2 (by omega)
    have hx2 : s.xs.getD i 0 = x := by
      rw [← hx]
      unfold wordAt
      rw [hb, if_pos rfl, hi]
      rfl
    have he : en s.xs pg fr v = P.prD x := by unfold en; rw [hx]; rfl
    rw [he]
    exact stop_in hT h fr v pg i hi hl x hx2 hx'
end
end Go.Proofs.YtpfmmlbakbhklaaGreatDoor
