/- A walker as it lies in memory, and what each small call of package walk that changes it returns and leaves. No conditions but that it is a walker. -/
import Derived.Test.YtpfmmlbakbhklaaGreatDoorQ
import Derived.Test.YtpfmmlbakbhklaaGreatDoorD2
namespace Go.Proofs.YtpfmmlbakbhklaaGreatDoor
open Go.RowKit

theorem i64w {x : Int} (h0 : -9223372036854775808 ≤ x) (h1 : x ≤ 9223372036854775807) : IntKind.i64.wrap x = x := by
  simp [IntKind.wrap, IntKind.signed, IntKind.bits]
  omega

structure Wk where
  st : Int
  pg : Int
  wt : Int
  fr : Int
  lv : Int
  p0 : Int
  p1 : Int
  p2 : Int
  p3 : Int
  ld : Int
  fd : Fd
abbrev wkC (x : Wk) : Array Value := #[.int .i64 x.st, .int .i64 x.pg, .int .i64 x.wt, .int .i64 x.fr, .int .i64 x.lv, .int .i64 x.p0, .int .i64 x.p1, .int .i64 x.p2, .int .i64 x.p3, .int .i64 x.ld, .int .i64 x.fd.f, .int .i64 x.fd.r, .int .i64 x.fd.v, .int .i64 x.fd.e]
def IsWk (w : World) (g : Nat) (x : Wk) : Prop := w.heap[g]? = some (.cells (wkC x) 169 (0, 0))
theorem IsWk.lt {w : World} {g : Nat} {x : Wk} (h : IsWk w g x) : g < w.heap.size := lt_of_block h
theorem IsWk.below {w w' : World} {g : Nat} {x : Wk} (h : IsWk w g x) (k : Below w.heap.size w w') : IsWk w' g x := (k.block _ h.lt).trans h
theorem IsWk.free {w : World} {g : Nat} {x : Wk} (h : IsWk w g x) (i : Nat) : w.frozen? ⟨g, i, none⟩ = false := free_of h
theorem IsWk.c0 {w : World} {g : Nat} {x : Wk} (h : IsWk w g x) : w.cell? ⟨g, 0, none⟩ = some (.int .i64 x.st) := cell_of h rfl
theorem IsWk.c1 {w : World} {g : Nat} {x : Wk} (h : IsWk w g x) : w.cell? ⟨g, 1, none⟩ = some (.int .i64 x.pg) := cell_of h rfl
theorem IsWk.c2 {w : World} {g : Nat} {x : Wk} (h : IsWk w g x) : w.cell? ⟨g, 2, none⟩ = some (.int .i64 x.wt) := cell_of h rfl
theorem IsWk.c3 {w : World} {g : Nat} {x : Wk} (h : IsWk w g x) : w.cell? ⟨g, 3, none⟩ = some (.int .i64 x.fr) := cell_of h rfl
theorem IsWk.c4 {w : World} {g : Nat} {x : Wk} (h : IsWk w g x) : w.cell? ⟨g, 4, none⟩ = some (.int .i64 x.lv) := cell_of h rfl
theorem IsWk.c9 {w : World} {g : Nat} {x : Wk} (h : IsWk w g x) : w.cell? ⟨g, 9, none⟩ = some (.int .i64 x.ld) := cell_of h rfl
theorem IsWk.c10 {w : World} {g : Nat} {x : Wk} (h : IsWk w g x) : w.cell? ⟨g, 10, none⟩ = some (.int .i64 x.fd.f) := cell_of h rfl
theorem IsWk.c11 {w : World} {g : Nat} {x : Wk} (h : IsWk w g x) : w.cell? ⟨g, 11, none⟩ = some (.int .i64 x.fd.r) := cell_of h rfl
theorem IsWk.c12 {w : World} {g : Nat} {x : Wk} (h : IsWk w g x) : w.cell? ⟨g, 12, none⟩ = some (.int .i64 x.fd.v) := cell_of h rfl
theorem IsWk.c13 {w : World} {g : Nat} {x : Wk} (h : IsWk w g x) : w.cell? ⟨g, 13, none⟩ = some (.int .i64 x.fd.e) := cell_of h rfl
theorem IsWk.but {w w' : World} {g p b : Nat} {x : Wk} (h : IsWk w g x) (k : But p b w w') (h1 : g ≠ p) (h2 : g ≠ b) : IsWk w' g x := (k.block _ h.lt h1 h2).trans h
theorem But.fresh {p b k i : Nat} {w w' : World} (h : But p b w w') (hk : w.heap.size ≤ k) (v : Value) : But p b w (w'.setCell ⟨k, i, none⟩ v) :=
  ⟨h.os, h.tape, h.output, by have := h.size; simpa [World.setCell] using this, fun j hj h1 h2 => by
    rw [Below.heap_setCell _ _ _ _ (by simp; omega)]
    exact h.block j hj h1 h2⟩
theorem But.own {g i : Nat} {w w' : World} (h : But g g w w') (v : Value) : But g g w (w'.setCell ⟨g, i, none⟩ v) :=
  ⟨h.os, h.tape, h.output, by have := h.size; simpa [World.setCell] using this, fun j hj h1 h2 => by
    rw [Below.heap_setCell _ _ _ _ (by simp; omega)]
    exact h.block j hj h1 h2⟩
theorem hoff {w : World} {g k i : Nat} (h : g ≠ k) (v : Value) : (w.setCell ⟨k, i, none⟩ v).heap[g]? = w.heap[g]? := Below.heap_setCell _ _ _ _ (by simp; omega)

/-- Done, with what is found but for the level, which is where it stands. -/
def endW (x : Wk) (d : Fd) : Wk := { x with st := 2, fd := { d with v := x.lv } }

set_option maxHeartbeats 400000 in
theorem end_at {w : World} {g : Nat} {x : Wk} (h : IsWk w g x) (d : Fd) :
    Calls Tryz.prog 173 #[.pointer (some ⟨g, 0, none⟩), fdV d] w fun e w' => e = .returned (.tuple #[]) ∧ IsWk w' g (endW x d) ∧ But g g w w' := by
  obtain ⟨df, dr, dv, de⟩ := d
  have hl := h.lt
  have c0 := h.c0
  have c4 := h.c4
  have c10 := h.c10
  have c11 := h.c11
  have c12 := h.c12
  have c13 := h.c13
  have f0 := h.free 0
  have f10 := h.free 10
  have f11 := h.free 11
  have f12 := h.free 12
  have f13 := h.free 13
  have hne : g ≠ w.heap.size := by omega
  have hne' : w.heap.size ≠ g := by omega
  have H := hid h
  clear h
  obtain ⟨st, pg, wt, fr, lv, p0, p1, p2, p3, ld, ⟨ff, fr', fv, fe⟩⟩ := x
  show Calls Tryz.prog 173 #[.pointer (some ⟨g, 0, none⟩), .agg #[.int .i64 df, .int .i64 dr, .int .i64 dv, .int .i64 de]] w _
  go_enter Tryz.func173, Tryz.ntmps173
  go_wp2
  go_end0
  refine ⟨rfl, ?_, ?_⟩
  · exact P.hkeep (heap_setCell_self (heap_setCell_self (heap_setCell_self (heap_setCell_self (heap_setCell_self H.out _) _) _) _) _) _
  · exact ((((((But.refl g g w).own _).own _).own _).own _).own _).trans (But.of_below (below_alloc _ _))

set_option maxHeartbeats 400000 in
theorem fail_at {w : World} {g : Nat} {x : Wk} (h : IsWk w g x) (e0 : Int) :
    Calls Tryz.prog 147 #[.pointer (some ⟨g, 0, none⟩), .int .i64 e0] w fun e w' => e = .returned (.tuple #[]) ∧ IsWk w' g (endW x ⟨0, 0, 0, e0⟩) ∧ But g g w w' := by
  have H := hid h
  clear h
  go_enter Tryz.func147, Tryz.ntmps147
  go_wp2_with fail
  refine (end_at H.out ⟨0, 0, 0, e0⟩).mono ?_
  rintro e w1 ⟨rfl, h1⟩
  have H1 := hid h1
  clear h1
  go_wp2
  go_end0
  exact ⟨rfl, H1.out⟩

set_option maxHeartbeats 400000 in
theorem findNone_at {w : World} {g : Nat} {x : Wk} (h : IsWk w g x) (d : P.En) :
    Calls Tryz.prog 175 #[.pointer (some ⟨g, 0, none⟩), P.eV d] w fun e w' => e = .returned (.tuple #[]) ∧ IsWk w' g (endW x ⟨0, 0, 0, 4⟩) ∧ But g g w w' := by
  have H := hid h
  clear h
  obtain ⟨dp, dr, dl, df⟩ := d
  show Calls Tryz.prog 175 #[.pointer (some ⟨g, 0, none⟩), .agg #[.bool dp, .int .i64 dr, .bool dl, .int .i64 df]] w _
  go_enter Tryz.func175, Tryz.ntmps175
  go_wp2_with fail
  refine (fail_at (H.out.below (below_alloc _ _)) 4).mono ?_
  rintro e w1 ⟨rfl, h1, h2⟩
  have H1 := hid h1
  have H2 := hid ((But.of_below (below_alloc w _)).trans h2)
  clear h1 h2
  go_wp2
  go_end0
  exact ⟨rfl, H1.out, H2.out⟩

set_option maxHeartbeats 400000 in
theorem findWrong_at {w : World} {g : Nat} {x : Wk} (h : IsWk w g x) (d : P.En) :
    Calls Tryz.prog 183 #[.pointer (some ⟨g, 0, none⟩), P.eV d] w fun e w' => e = .returned (.tuple #[]) ∧ IsWk w' g (endW x ⟨0, 0, 0, 11⟩) ∧ But g g w w' := by
  have H := hid h
  clear h
  obtain ⟨dp, dr, dl, df⟩ := d
  show Calls Tryz.prog 183 #[.pointer (some ⟨g, 0, none⟩), .agg #[.bool dp, .int .i64 dr, .bool dl, .int .i64 df]] w _
  go_enter Tryz.func183, Tryz.ntmps183
  go_wp2_with fail
  refine (fail_at (H.out.below (below_alloc _ _)) 11).mono ?_
  rintro e w1 ⟨rfl, h1, h2⟩
  have H1 := hid h1
  have H2 := hid ((But.of_below (below_alloc w _)).trans h2)
  clear h1 h2
  go_wp2
  go_end0
  exact ⟨rfl, H1.out, H2.out⟩

def downW (x : Wk) (f : Int) : Wk := { x with fr := f, lv := x.lv - 1 }
set_option maxHeartbeats 400000 in
theorem goDown_at {w : World} {g : Nat} {x : Wk} (h : IsWk w g x) (d : P.En) (l0 : 0 ≤ x.lv) (l1 : x.lv ≤ 3) :
    Calls Tryz.prog 177 #[.pointer (some ⟨g, 0, none⟩), P.eV d] w fun e w' => e = .returned (.tuple #[]) ∧ IsWk w' g (downW x d.f) ∧ But g g w w' := by
  obtain ⟨dp, dr, dl, df⟩ := d
  have hl := h.lt
  have c3 := h.c3
  have c4 := h.c4
  have f3 := h.free 3
  have f4 := h.free 4
  have hw : IntKind.i64.wrap (x.lv - 1) = x.lv - 1 := i64w (by omega) (by omega)
  have hne : g ≠ w.heap.size := by omega
  have hne' : w.heap.size ≠ g := by omega
  have H := hid h
  clear h
  obtain ⟨st, pg, wt, fr, lv, p0, p1, p2, p3, ld, fd⟩ := x
  show Calls Tryz.prog 177 #[.pointer (some ⟨g, 0, none⟩), .agg #[.bool dp, .int .i64 dr, .bool dl, .int .i64 df]] w _
  go_enter Tryz.func177, Tryz.ntmps177
  go_wp2
  go_end0
  refine ⟨rfl, ?_, ?_⟩
  · exact P.hkeep (heap_setCell_self (heap_setCell_self H.out _) _) _
  · exact (((But.refl g g w).own _).own _).trans (But.of_below (below_alloc _ _))

/-- Done in a frame. -/
def arrW (x : Wk) (d : P.En) (f : Int) : Wk := endW x (arr d x.wt x.lv f)
/-- What is asked for while an entry's box and a walker are read. -/
abbrev Sr (W0 : World) (g k i : Nat) (dp : Bool) (dr : Int) (dl : Bool) (df z : Int) (w' : World) : Prop :=
  w'.cell? ⟨k, 0, none⟩ = some (.bool dp) ∧ w'.cell? ⟨k, 1, none⟩ = some (.int .i64 dr) ∧ w'.cell? ⟨k, 2, none⟩ = some (.bool dl) ∧ w'.cell? ⟨k, 3, none⟩ = some (.int .i64 df) ∧ w'.cell? ⟨g, i, none⟩ = some (.int .i64 z) ∧ Below W0.heap.size W0 w'
theorem Sr.of {W0 w' : World} {g k i : Nat} {dp : Bool} {dr : Int} {dl : Bool} {df z : Int} {x : Wk} (hx : IsWk W0 g x) (hz : (wkC x)[i]? = some (.int .i64 z)) (hk : W0.heap[k]? = some (.cells #[.bool dp, .int .i64 dr, .bool dl, .int .i64 df] 95 (0, 0))) (hB : Below W0.heap.size W0 w') : Sr W0 g k i dp dr dl df z w' := by
  have h1 := P.stay hB hk
  exact ⟨cell_of h1 rfl, cell_of h1 rfl, cell_of h1 rfl, cell_of h1 rfl, cell_of (hx.below hB) hz, hB⟩
theorem Sr.step {W0 w' w2 : World} {g k i : Nat} {dp : Bool} {dr : Int} {dl : Bool} {df z : Int} (h : Sr W0 g k i dp dr dl df z w') (hB : Below w'.heap.size w' w2) : Sr W0 g k i dp dr dl df z w2 := by
  obtain ⟨a, b, c, d, e, f⟩ := h
  have lt : ∀ {q j : Nat} {v : Value}, w'.cell? ⟨q, j, none⟩ = some v → q < w'.heap.size := fun h => World.block_lt_of_cell? w' ⟨_, _, none⟩ h
  exact ⟨(hB.cell (p := ⟨k, 0, none⟩) (lt a)).trans a, (hB.cell (p := ⟨k, 1, none⟩) (lt b)).trans b, (hB.cell (p := ⟨k, 2, none⟩) (lt c)).trans c, (hB.cell (p := ⟨k, 3, none⟩) (lt d)).trans d, (hB.cell (p := ⟨g, i, none⟩) (lt e)).trans e, f.trans (hB.mono f.size)⟩
set_option maxHeartbeats 1000000 in
theorem arrive_at {w : World} {g : Nat} {x : Wk} (h : IsWk w g x) (d : P.En) (f : Int) (w0 : 0 ≤ x.wt) (w1 : x.wt ≤ 7) :
    Calls Tryz.prog 194 #[.pointer (some ⟨g, 0, none⟩), P.eV d, .int .i64 f] w fun e w' => e = .returned (.tuple #[]) ∧ IsWk w' g (arrW x d f) ∧ But g g w w' := by
  have hl := h.lt
  by_cases hf : 4096 ≤ f
  · have e1 : arrW x d f = endW x ⟨0, 0, 0, 11⟩ := by unfold arrW arr; rw [if_pos hf]; rfl
    rw [e1]
    have H := hid h
    clear h e1
    obtain ⟨dp, dr, dl, df⟩ := d
    show Calls Tryz.prog 194 #[.pointer (some ⟨g, 0, none⟩), .agg #[.bool dp, .int .i64 dr, .bool dl, .int .i64 df], .int .i64 f] w _
    go_enter Tryz.func194, Tryz.ntmps194
    go_wp2_with fail
    refine (fail_at (H.out.below (below_alloc _ _)) 11).mono ?_
    rintro e w1 ⟨rfl, h1, h2⟩
    have H1 := hid h1
    have H2 := hid ((But.of_below (below_alloc w _)).trans h2)
    clear h1 h2
    go_wp2
    first | go_end0 | (refine bodyPost_ret (results_none rfl _ _ _) rfl ?_)
    exact ⟨rfl, H1.out, H2.out⟩
  · have e1 : arrW x d f = endW x ⟨f, d.r, 0, if P.al d x.wt = true then 0 else 7⟩ := by unfold arrW arr; rw [if_neg hf]; rfl
    rw [e1]
    have hA := hid (fun W => P.allows_at d x.wt (by omega) (by omega) W)
    obtain ⟨bb, hb⟩ : ∃ bb, P.al d x.wt = bb := ⟨_, rfl⟩
    rw [hb] at hA ⊢
    obtain ⟨dp, dr, dl, df⟩ := d
    have hS0 : Sr (w.alloc (.cells #[.bool dp, .int .i64 dr, .bool dl, .int .i64 df] 95)) g w.heap.size 2 dp dr dl df x.wt (w.alloc (.cells #[.bool dp, .int .i64 dr, .bool dl, .int .i64 df] 95)).drew :=
      Sr.of (h.below (below_alloc _ _)) rfl (heap_alloc_new _ _) (Below.refl _ _).drew
    have H := hid h
    clear h e1 hb w0 w1
    generalize x.wt = wt at hA hS0
    cases bb
    all_goals
      show Calls Tryz.prog 194 #[.pointer (some ⟨g, 0, none⟩), .agg #[.bool dp, .int .i64 dr, .bool dl, .int .i64 df], .int .i64 f] w _
      go_enter Tryz.func194, Tryz.ntmps194
      go_wp2_with fail
      go_region_held3 (Sr (w.alloc (.cells #[.bool dp, .int .i64 dr, .bool dl, .int .i64 df] 95)) g w.heap.size 2 dp dr dl df wt) (first | exact hS0 | assumption)
        (first
          | (go_at_call 201; refine (hA.out _).mono ?_; rintro e w' ⟨rfl, hB⟩; have hS' := Sr.step (by assumption) hB))
      rename_i hHeld
      clear hHeld hS0
      have hB : Below (w.alloc (.cells #[.bool dp, .int .i64 dr, .bool dl, .int .i64 df] 95)).heap.size (w.alloc (.cells #[.bool dp, .int .i64 dr, .bool dl, .int .i64 df] 95)) _ := hS'.2.2.2.2.2
      have HB := hid ((below_alloc w _).trans (hB.mono (by simp)))
      have p1 := hS'.2.1
      clear hS' hB
      go_wp2_with fail
      refine (end_at (H.out.below HB.out) ⟨_, _, 0, _⟩).mono ?_
      rintro e w3 ⟨rfl, h1, h2⟩
      have H1 := hid h1
      have H2 := hid ((But.of_below HB.out).trans h2)
      clear h1 h2
      go_wp2
      go_end0
      exact ⟨rfl, H1.out, H2.out⟩
end Go.Proofs.YtpfmmlbakbhklaaGreatDoor
