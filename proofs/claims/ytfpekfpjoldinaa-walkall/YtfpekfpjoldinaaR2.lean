/- The document's walker as it lies in memory, and what the calls that end it leave. No conditions but that it is a walker. -/
import Derived.Test.YtfpekfpjoldinaaS6
import Derived.Deep.AppendLies
namespace Go.Proofs.Ytfpekfpjoldinaa
open Go.RowKit

structure Wr where
  f : Int
  pg : Int
  wt : Int
  lv : Int
  dn : Bool
  fd : Fd
abbrev wrC (y : Wr) (pv : Value) : Array Value := #[.int .i64 y.f, .int .i64 y.pg, .int .i64 y.wt, .int .i64 y.lv, .bool y.dn, .int .i64 y.fd.f, .int .i64 y.fd.r, .int .i64 y.fd.v, .int .i64 y.fd.e, pv]
def IsR (w : World) (g : Nat) (y : Wr) (pv : Value) : Prop := w.heap[g]? = some (.cells (wrC y pv) 69 (0, 0))
theorem IsR.lt {w : World} {g : Nat} {y : Wr} {pv : Value} (h : IsR w g y pv) : g < w.heap.size := lt_of_block h
theorem IsR.below {w w' : World} {g : Nat} {y : Wr} {pv : Value} (h : IsR w g y pv) (k : Below w.heap.size w w') : IsR w' g y pv := (k.block _ h.lt).trans h
theorem IsR.but {w w' : World} {g p b : Nat} {y : Wr} {pv : Value} (h : IsR w g y pv) (k : But p b w w') (h1 : g ≠ p) (h2 : g ≠ b) : IsR w' g y pv := (k.block _ h.lt h1 h2).trans h
theorem IsR.free {w : World} {g : Nat} {y : Wr} {pv : Value} (h : IsR w g y pv) (i : Nat) : w.frozen? ⟨g, i, none⟩ = false := free_of h
theorem IsR.c0 {w : World} {g : Nat} {y : Wr} {pv : Value} (h : IsR w g y pv) : w.cell? ⟨g, 0, none⟩ = some (.int .i64 y.f) := cell_of h rfl
theorem IsR.c1 {w : World} {g : Nat} {y : Wr} {pv : Value} (h : IsR w g y pv) : w.cell? ⟨g, 1, none⟩ = some (.int .i64 y.pg) := cell_of h rfl
theorem IsR.c2 {w : World} {g : Nat} {y : Wr} {pv : Value} (h : IsR w g y pv) : w.cell? ⟨g, 2, none⟩ = some (.int .i64 y.wt) := cell_of h rfl
theorem IsR.c3 {w : World} {g : Nat} {y : Wr} {pv : Value} (h : IsR w g y pv) : w.cell? ⟨g, 3, none⟩ = some (.int .i64 y.lv) := cell_of h rfl
theorem IsR.c4 {w : World} {g : Nat} {y : Wr} {pv : Value} (h : IsR w g y pv) : w.cell? ⟨g, 4, none⟩ = some (.bool y.dn) := cell_of h rfl
theorem IsR.c5 {w : World} {g : Nat} {y : Wr} {pv : Value} (h : IsR w g y pv) : w.cell? ⟨g, 5, none⟩ = some (.int .i64 y.fd.f) := cell_of h rfl
theorem IsR.c6 {w : World} {g : Nat} {y : Wr} {pv : Value} (h : IsR w g y pv) : w.cell? ⟨g, 6, none⟩ = some (.int .i64 y.fd.r) := cell_of h rfl
theorem IsR.c7 {w : World} {g : Nat} {y : Wr} {pv : Value} (h : IsR w g y pv) : w.cell? ⟨g, 7, none⟩ = some (.int .i64 y.fd.v) := cell_of h rfl
theorem IsR.c8 {w : World} {g : Nat} {y : Wr} {pv : Value} (h : IsR w g y pv) : w.cell? ⟨g, 8, none⟩ = some (.int .i64 y.fd.e) := cell_of h rfl
theorem IsR.c9 {w : World} {g : Nat} {y : Wr} {pv : Value} (h : IsR w g y pv) : w.cell? ⟨g, 9, none⟩ = some pv := cell_of h rfl

/-- Done, with what is found. -/
def finR (y : Wr) (d : Fd) : Wr := { y with dn := true, fd := d }
set_option maxHeartbeats 400000 in
theorem rend_at {w : World} {g : Nat} {y : Wr} {pv : Value} (h : IsR w g y pv) (e0 : Int) :
    Calls Try.prog 39 #[.pointer (some ⟨g, 0, none⟩), .int .i64 e0] w fun e w' => e = .returned (.tuple #[]) ∧ IsR w' g (finR y ⟨0, 0, y.lv, e0⟩) pv ∧ But g g w w' := by
  have hl := h.lt
  have c3 := h.c3
  have c4 := h.c4
  have c5 := h.c5
  have c6 := h.c6
  have c7 := h.c7
  have c8 := h.c8
  have f4 := h.free 4
  have f5 := h.free 5
  have f6 := h.free 6
  have f7 := h.free 7
  have f8 := h.free 8
  have H := hid h
  clear h
  obtain ⟨f, pg, wt, lv, dn, ⟨a1, a2, a3, a4⟩⟩ := y
  go_enter Try.func39, Try.ntmps39
  go_wp2
  go_end0
  refine ⟨rfl, ?_, ?_⟩
  · exact heap_setCell_self (heap_setCell_self (heap_setCell_self (heap_setCell_self (heap_setCell_self H.out _) _) _) _) _
  · exact ((((((But.refl g g w).own _).own _).own _).own _).own _)

abbrev Sq (W0 : World) (g k : Nat) (dp : Bool) (dr : Int) (dl : Bool) (df z : Int) (w' : World) : Prop :=
  w'.cell? ⟨k, 0, none⟩ = some (.bool dp) ∧ w'.cell? ⟨k, 1, none⟩ = some (.int .i64 dr) ∧ w'.cell? ⟨k, 2, none⟩ = some (.bool dl) ∧ w'.cell? ⟨k, 3, none⟩ = some (.int .i64 df) ∧ w'.cell? ⟨g, 2, none⟩ = some (.int .i64 z) ∧ Below W0.heap.size W0 w'
theorem Sq.step {W0 w' w2 : World} {g k : Nat} {dp : Bool} {dr : Int} {dl : Bool} {df z : Int} (h : Sq W0 g k dp dr dl df z w') (hB : Below w'.heap.size w' w2) : Sq W0 g k dp dr dl df z w2 := by
  obtain ⟨a, b, c, d, e, f⟩ := h
  have lt : ∀ {q j : Nat} {v : Value}, w'.cell? ⟨q, j, none⟩ = some v → q < w'.heap.size := fun h => World.block_lt_of_cell? w' ⟨_, _, none⟩ h
  exact ⟨(hB.cell (p := ⟨k, 0, none⟩) (lt a)).trans a, (hB.cell (p := ⟨k, 1, none⟩) (lt b)).trans b, (hB.cell (p := ⟨k, 2, none⟩) (lt c)).trans c, (hB.cell (p := ⟨k, 3, none⟩) (lt d)).trans d, (hB.cell (p := ⟨g, 2, none⟩) (lt e)).trans e, f.trans (hB.mono f.size)⟩

set_option maxHeartbeats 2000000 in
theorem rin_at {w : World} {g : Nat} {y : Wr} {pv : Value} (h : IsR w g y pv) (d : P.En) (f : Int) :
    Calls Try.prog 41 #[.pointer (some ⟨g, 0, none⟩), .int .i64 f, P.eV d] w fun e w' => e = .returned (.tuple #[]) ∧ IsR w' g (finR y (arr d y.wt y.lv f)) pv ∧ But g g w w' := by
  have hl := h.lt
  by_cases hf : 4096 ≤ f
  · have e1 : arr d y.wt y.lv f = ⟨0, 0, y.lv, 11⟩ := by unfold arr; rw [if_pos hf]
    rw [e1]
    have H := hid h
    have hf' : 4095 < f := by omega
    clear h e1 hf
    obtain ⟨dp, dr, dl, df⟩ := d
    show Calls Try.prog 41 #[.pointer (some ⟨g, 0, none⟩), .int .i64 f, .agg #[.bool dp, .int .i64 dr, .bool dl, .int .i64 df]] w _
    go_enter Try.func41, Try.ntmps41
    go_wp2_with fail
    refine (rend_at (H.out.below (below_alloc _ _)) 11).mono ?_
    rintro e w1 ⟨rfl, h1, h2⟩
    have H1 := hid h1
    have H2 := hid ((But.of_below (below_alloc w _)).trans h2)
    clear h1 h2
    go_wp2
    first | go_end0 | (refine bodyPost_ret (results_none rfl _ _ _) rfl ?_)
    exact ⟨rfl, H1.out, H2.out⟩
  · have e1 : arr d y.wt y.lv f = ⟨f, d.r, y.lv, if P.al d y.wt = true then 0 else 7⟩ := by unfold arr; rw [if_neg hf]
    rw [e1]
    have hA := hid (fun W => P.rallows_at d y.wt W)
    obtain ⟨bb, hb⟩ : ∃ bb, P.al d y.wt = bb := ⟨_, rfl⟩
    rw [hb] at hA ⊢
    have hf' : ¬ 4095 < f := by omega
    obtain ⟨dp, dr, dl, df⟩ := d
    have c2 := h.c2
    have c3 := h.c3
    have c4 := h.c4
    have c5 := h.c5
    have c6 := h.c6
    have c7 := h.c7
    have c8 := h.c8
    have f4 := h.free 4
    have f5 := h.free 5
    have f6 := h.free 6
    have f7 := h.free 7
    have f8 := h.free 8
    have H := hid h
    clear h e1 hb hf
    obtain ⟨yf, pg, wt, lv, dn, ⟨a1, a2, a3, a4⟩⟩ := y
    simp only at *
    have m1 : IsR ((((((w.setCell ⟨g, 4, none⟩ (.bool true)).setCell ⟨g, 5, none⟩ (.int .i64 f)).setCell ⟨g, 6, none⟩ (.int .i64 dr)).setCell ⟨g, 7, none⟩ (.int .i64 lv)).setCell ⟨g, 8, none⟩ (.int .i64 0)).alloc (.cells #[.bool dp, .int .i64 dr, .bool dl, .int .i64 df] 90)).drew g (finR ⟨yf, pg, wt, lv, dn, ⟨a1, a2, a3, a4⟩⟩ ⟨f, dr, lv, 0⟩) pv :=
      P.stay ((Below.refl _ ((((((w.setCell ⟨g, 4, none⟩ (.bool true)).setCell ⟨g, 5, none⟩ (.int .i64 f)).setCell ⟨g, 6, none⟩ (.int .i64 dr)).setCell ⟨g, 7, none⟩ (.int .i64 lv)).setCell ⟨g, 8, none⟩ (.int .i64 0)).alloc (.cells #[.bool dp, .int .i64 dr, .bool dl, .int .i64 df] 90))).drew) (P.hkeep (heap_setCell_self (heap_setCell_self (heap_setCell_self (heap_setCell_self (heap_setCell_self H.out _) _) _) _) _) (.cells #[.bool dp, .int .i64 dr, .bool dl, .int .i64 df] 90))
    have m2 : ((((((w.setCell ⟨g, 4, none⟩ (.bool true)).setCell ⟨g, 5, none⟩ (.int .i64 f)).setCell ⟨g, 6, none⟩ (.int .i64 dr)).setCell ⟨g, 7, none⟩ (.int .i64 lv)).setCell ⟨g, 8, none⟩ (.int .i64 0)).alloc (.cells #[.bool dp, .int .i64 dr, .bool dl, .int .i64 df] 90)).drew.heap[w.heap.size]? = some (.cells #[.bool dp, .int .i64 dr, .bool dl, .int .i64 df] 90 (0, 0)) := by
      have hs : (((((w.setCell ⟨g, 4, none⟩ (.bool true)).setCell ⟨g, 5, none⟩ (.int .i64 f)).setCell ⟨g, 6, none⟩ (.int .i64 dr)).setCell ⟨g, 7, none⟩ (.int .i64 lv)).setCell ⟨g, 8, none⟩ (.int .i64 0)).heap.size = w.heap.size := by simp [World.setCell]
      have := P.stay ((Below.refl _ ((((((w.setCell ⟨g, 4, none⟩ (.bool true)).setCell ⟨g, 5, none⟩ (.int .i64 f)).setCell ⟨g, 6, none⟩ (.int .i64 dr)).setCell ⟨g, 7, none⟩ (.int .i64 lv)).setCell ⟨g, 8, none⟩ (.int .i64 0)).alloc (.cells #[.bool dp, .int .i64 dr, .bool dl, .int .i64 df] 90))).drew) (heap_alloc_new (((((w.setCell ⟨g, 4, none⟩ (.bool true)).setCell ⟨g, 5, none⟩ (.int .i64 f)).setCell ⟨g, 6, none⟩ (.int .i64 dr)).setCell ⟨g, 7, none⟩ (.int .i64 lv)).setCell ⟨g, 8, none⟩ (.int .i64 0)) (.cells #[.bool dp, .int .i64 dr, .bool dl, .int .i64 df] 90))
      rw [hs] at this
      exact this
    have m3 : But g g w ((((((w.setCell ⟨g, 4, none⟩ (.bool true)).setCell ⟨g, 5, none⟩ (.int .i64 f)).setCell ⟨g, 6, none⟩ (.int .i64 dr)).setCell ⟨g, 7, none⟩ (.int .i64 lv)).setCell ⟨g, 8, none⟩ (.int .i64 0)).alloc (.cells #[.bool dp, .int .i64 dr, .bool dl, .int .i64 df] 90)).drew := ((((((But.refl g g w).own _).own _).own _).own _).own _).trans (But.of_below (((Below.refl _ _).alloc (Nat.le_refl _) _).drew))
    have hW := hid (rfl : ((((((w.setCell ⟨g, 4, none⟩ (.bool true)).setCell ⟨g, 5, none⟩ (.int .i64 f)).setCell ⟨g, 6, none⟩ (.int .i64 dr)).setCell ⟨g, 7, none⟩ (.int .i64 lv)).setCell ⟨g, 8, none⟩ (.int .i64 0)).alloc (.cells #[.bool dp, .int .i64 dr, .bool dl, .int .i64 df] 90)).drew = ((((((w.setCell ⟨g, 4, none⟩ (.bool true)).setCell ⟨g, 5, none⟩ (.int .i64 f)).setCell ⟨g, 6, none⟩ (.int .i64 dr)).setCell ⟨g, 7, none⟩ (.int .i64 lv)).setCell ⟨g, 8, none⟩ (.int .i64 0)).alloc (.cells #[.bool dp, .int .i64 dr, .bool dl, .int .i64 df] 90)).drew)
    clear hW
    cases bb
    · show Calls Try.prog 41 #[.pointer (some ⟨g, 0, none⟩), .int .i64 f, .agg #[.bool dp, .int .i64 dr, .bool dl, .int .i64 df]] w _
      go_enter Try.func41, Try.ntmps41
      go_wp2_with fail
      go_region
      clear c2 c3 c4 c5 c6 c7 c8 f4 f5 f6 f7 f8
      generalize ((((((w.setCell ⟨g, 4, none⟩ (.bool true)).setCell ⟨g, 5, none⟩ (.int .i64 f)).setCell ⟨g, 6, none⟩ (.int .i64 dr)).setCell ⟨g, 7, none⟩ (.int .i64 lv)).setCell ⟨g, 8, none⟩ (.int .i64 0)).alloc (.cells #[.bool dp, .int .i64 dr, .bool dl, .int .i64 df] 90)).drew = W3 at *
      have hS0 : Sq W3 g w.heap.size dp dr dl df wt W3.drew := ⟨cell_of m2 rfl, cell_of m2 rfl, cell_of m2 rfl, cell_of m2 rfl, m1.c2, (Below.refl _ _).drew⟩
      have UM1 := hid m1
      have UM3 := hid m3
      clear m1 m2 m3
      go_wp2_with fail
      go_region_held3 (Sq W3 g w.heap.size dp dr dl df wt) (first | exact hS0 | assumption)
        (first
          | (go_at_call 53; refine (hA.out _).mono ?_; rintro e v' ⟨rfl, hB⟩; have hS' := Sq.step (by assumption) hB))
      rename_i hHeld
      clear hHeld hS0
      have HB : Hid (Below W3.heap.size W3 v') := hid hS'.2.2.2.2.2
      clear hS'
      clear hB
      have m1 := UM1.out.below HB.out
      have c8 := m1.c8
      have f8 := m1.free 8
      have hl3 := m1.lt
      have HM := hid m1
      clear m1
      go_wp2
      go_end0
      exact ⟨rfl, heap_setCell_self HM.out _, ((UM3.out.trans (But.of_below HB.out)).own _)⟩
    · show Calls Try.prog 41 #[.pointer (some ⟨g, 0, none⟩), .int .i64 f, .agg #[.bool dp, .int .i64 dr, .bool dl, .int .i64 df]] w _
      go_enter Try.func41, Try.ntmps41
      go_wp2_with fail
      go_region
      clear c2 c3 c4 c5 c6 c7 c8 f4 f5 f6 f7 f8
      generalize ((((((w.setCell ⟨g, 4, none⟩ (.bool true)).setCell ⟨g, 5, none⟩ (.int .i64 f)).setCell ⟨g, 6, none⟩ (.int .i64 dr)).setCell ⟨g, 7, none⟩ (.int .i64 lv)).setCell ⟨g, 8, none⟩ (.int .i64 0)).alloc (.cells #[.bool dp, .int .i64 dr, .bool dl, .int .i64 df] 90)).drew = W3 at *
      have hS0 : Sq W3 g w.heap.size dp dr dl df wt W3.drew := ⟨cell_of m2 rfl, cell_of m2 rfl, cell_of m2 rfl, cell_of m2 rfl, m1.c2, (Below.refl _ _).drew⟩
      have UM1 := hid m1
      have UM3 := hid m3
      clear m1 m2 m3
      go_wp2_with fail
      go_region_held3 (Sq W3 g w.heap.size dp dr dl df wt) (first | exact hS0 | assumption)
        (first
          | (go_at_call 53; refine (hA.out _).mono ?_; rintro e v' ⟨rfl, hB⟩; have hS' := Sq.step (by assumption) hB))
      rename_i hHeld
      clear hHeld hS0
      have HB : Hid (Below W3.heap.size W3 v') := hid hS'.2.2.2.2.2
      clear hS'
      clear hB
      go_wp2
      go_end0
      exact ⟨rfl, UM1.out.below HB.out, UM3.out.trans (But.of_below HB.out)⟩
end Go.Proofs.Ytfpekfpjoldinaa
