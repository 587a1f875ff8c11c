/- The blocks in which holders lie; what the small calls of package ticket return. Conditions: a holder is one that Lock.Holder gave. -/
import Derived.Test.YtidgajjahpbbdaaD2
import Derived.BigRegion
import Derived.RegionTactic
import Derived.WalkMore
import Derived.ScopeJumps
namespace Go.Proofs.Ytidgajjahpbbdaa
open Go.RowKit

theorem i64w {x : Int} (h0 : -9223372036854775808 ≤ x) (h1 : x ≤ 9223372036854775807) : IntKind.i64.wrap x = x := by
  simp [IntKind.wrap, IntKind.signed, IntKind.bits]
  omega

/-- A holder: the lock's place, whether it wants to leave, its state, its ticket. -/
structure Ho where
  ad : Int
  lv : Bool
  st : Int
  tk : Int
abbrev hoC (x : Ho) : Array Value := #[.int .i64 x.ad, .bool true, .bool x.lv, .int .i64 x.st, .int .u64 x.tk]
def IsHo (w : World) (g : Nat) (x : Ho) : Prop := w.heap[g]? = some (.cells (hoC x) 64 (0, 0))
theorem IsHo.lt {w : World} {g : Nat} {x : Ho} (h : IsHo w g x) : g < w.heap.size := lt_of_block h
theorem IsHo.keep {w w' : World} {g : Nat} {x : Ho} (h : IsHo w g x) (e : w'.heap[g]? = w.heap[g]?) : IsHo w' g x := e.trans h
theorem IsHo.below {w w' : World} {g : Nat} {x : Ho} (h : IsHo w g x) (k : Below w.heap.size w w') : IsHo w' g x := h.keep (k.block _ h.lt)
structure Hc (w : World) (g : Nat) (x : Ho) : Prop where
  c0 : w.cell? ⟨g, 0, none⟩ = some (.int .i64 x.ad)
  c1 : w.cell? ⟨g, 1, none⟩ = some (.bool true)
  c2 : w.cell? ⟨g, 2, none⟩ = some (.bool x.lv)
  c3 : w.cell? ⟨g, 3, none⟩ = some (.int .i64 x.st)
  c4 : w.cell? ⟨g, 4, none⟩ = some (.int .u64 x.tk)
theorem IsHo.hc {w : World} {g : Nat} {x : Ho} (h : IsHo w g x) : Hc w g x := ⟨cell_of h rfl, cell_of h rfl, cell_of h rfl, cell_of h rfl, cell_of h rfl⟩
theorem IsHo.free {w : World} {g : Nat} {x : Ho} (h : IsHo w g x) (i : Nat) : w.frozen? ⟨g, i, none⟩ = false := free_of h
theorem IsHo.setL {w : World} {g : Nat} {x : Ho} (h : IsHo w g x) (l : Bool) : IsHo (w.setCell ⟨g, 2, none⟩ (.bool l)) g { x with lv := l } := by
  unfold IsHo; rw [heap_setCell_self h]; rfl
theorem IsHo.setS {w : World} {g : Nat} {x : Ho} (h : IsHo w g x) (t : Int) : IsHo (w.setCell ⟨g, 3, none⟩ (.int .i64 t)) g { x with st := t } := by
  unfold IsHo; rw [heap_setCell_self h]; rfl
theorem IsHo.setK {w : World} {g : Nat} {x : Ho} (h : IsHo w g x) (t : Int) : IsHo (w.setCell ⟨g, 4, none⟩ (.int .u64 t)) g { x with tk := t } := by
  unfold IsHo; rw [heap_setCell_self h]; rfl
theorem but_box {g : Nat} {w : World} (o : Obj) {w' : World} (h : But g g (w.alloc o) w') : But g g w w' := (But.of_below (below_alloc w o)).trans h
theorem but_set (g i : Nat) (w : World) (u : Value) : But g g w (w.setCell ⟨g, i, none⟩ u) := But.setCell g g w _ _ (Or.inl rfl)

set_option maxHeartbeats 400000 in
theorem hNone_at {w : World} {g : Nat} {x : Ho} (h : IsHo w g x) :
    Calls Try.prog 23 #[.pointer (some ⟨g, 0, none⟩)] w fun e w' => e = .returned (.bool false) ∧ w' = w := by
  obtain ⟨c0, c1, c2, c3, c4⟩ := h.hc
  clear h
  go_enter Try.func23, Try.ntmps23
  go_wp2
  go_ret
  exact ⟨rfl, rfl⟩
set_option maxHeartbeats 400000 in
theorem hNone_nil (w : World) :
    Calls Try.prog 23 #[.pointer none] w fun e w' => e = .returned (.bool true) ∧ w' = w := by
  go_enter Try.func23, Try.ntmps23
  go_wp2
  go_ret
  exact ⟨rfl, rfl⟩
set_option maxHeartbeats 400000 in
theorem served_at (w : World) (ad : Int) (h0 : 0 ≤ ad) (h1 : ad ≤ 65000) :
    Calls Try.prog 24 #[.agg #[.int .i64 ad]] w fun e w' => e = .returned (.int .i64 (ad + 1)) ∧ Below w.heap.size w w' := by
  go_enter Try.func24, Try.ntmps24
  go_wp2
  go_ret
  exact ⟨rfl, below_alloc _ _⟩
set_option maxHeartbeats 400000 in
theorem holder_at (w : World) (ad : Int) (h0 : 0 ≤ ad) (h1 : ad ≤ 65000) :
    Calls Try.prog 22 #[.agg #[.int .i64 ad]] w fun e w' => e = .returned (.pointer (some ⟨w.heap.size + 1, 0, none⟩)) ∧ IsHo w' (w.heap.size + 1) ⟨ad, false, 0, 0⟩ ∧ Below w.heap.size w w' := by
  go_enter Try.func22, Try.ntmps22
  go_wp2
  go_ret
  refine ⟨by simp, ?_, bel_trans (below_alloc _ _) (below_alloc _ _)⟩
  have := heap_alloc_new (w.alloc (.cells #[.int .i64 ad] 61)) (.cells (hoC ⟨ad, false, 0, 0⟩) 64)
  simpa [IsHo] using this
set_option maxHeartbeats 400000 in
theorem holder_no (w : World) (ad : Int) (h0 : ad < 0) :
    Calls Try.prog 22 #[.agg #[.int .i64 ad]] w fun e w' => e = .returned (.pointer none) ∧ Below w.heap.size w w' := by
  go_enter Try.func22, Try.ntmps22
  go_wp2
  go_ret
  exact ⟨rfl, below_alloc _ _⟩
set_option maxHeartbeats 400000 in
theorem state_at {w : World} {g : Nat} {x : Ho} (h : IsHo w g x) :
    Calls Try.prog 18 #[.pointer (some ⟨g, 0, none⟩)] w fun e w' => e = .returned (.tuple #[.int .i64 x.st, .int .u64 x.tk]) ∧ ∃ m, w' = w.drewN m := by
  have HH := hid h
  obtain ⟨c0, c1, c2, c3, c4⟩ := h.hc
  clear h
  go_enter Try.func18, Try.ntmps18
  go_wp2_with fail
  refine (hNone_at HH.out).mono ?_
  rintro e w2 ⟨rfl, hw2⟩
  rw [hw2]
  clear hw2
  go_wp2
  go_quiet (fail)
  go_wp2
  go_ret2
  exact ⟨rfl, _, rfl⟩
set_option maxHeartbeats 400000 in
theorem state_nil (w : World) :
    Calls Try.prog 18 #[.pointer none] w fun e w' => e = .returned (.tuple #[.int .i64 0, .int .u64 0]) ∧ w' = w := by
  go_enter Try.func18, Try.ntmps18
  go_wp2_with fail
  refine (hNone_nil w).mono ?_
  rintro e w2 ⟨rfl, hw2⟩
  rw [hw2]
  clear hw2
  go_wp2
  go_ret2
  exact ⟨rfl, rfl⟩

/-- Leave: what it tells, and what the holder is then. -/
def lvV (x : Ho) : Bool := x.st == 2 && !x.lv
def lvT (x : Ho) : Ho := if lvV x then { x with lv := true } else x
set_option maxHeartbeats 400000 in
theorem leave_at {w : World} {g : Nat} {x : Ho} (h : IsHo w g x) :
    Calls Try.prog 12 #[.pointer (some ⟨g, 0, none⟩)] w fun e w' => e = .returned (.bool (lvV x)) ∧ IsHo w' g (lvT x) ∧ But g g w w' := by
  have HH := hid h
  obtain ⟨c0, c1, c2, c3, c4⟩ := h.hc
  have f2 := h.free 2
  obtain ⟨ad, lv, st, tk⟩ := x
  simp only [] at c2 c3
  clear h c0 c4
  by_cases h2 : st = 2
  · subst h2
    cases lv
    · have q : lvV ⟨ad, false, 2, tk⟩ = true := rfl
      have q2 : lvT ⟨ad, false, 2, tk⟩ = ⟨ad, true, 2, tk⟩ := rfl
      rw [q, q2]
      clear q q2
      go_enter Try.func12, Try.ntmps12
      go_wp2_with fail
      refine (hNone_at HH.out).mono ?_
      rintro e w2 ⟨rfl, hw2⟩
      rw [hw2]
      clear hw2
      go_wp2
      go_ret
      exact ⟨rfl, HH.out.setL true, but_set _ _ _ _⟩
    · have q : lvV ⟨ad, true, 2, tk⟩ = false := rfl
      have q2 : lvT ⟨ad, true, 2, tk⟩ = ⟨ad, true, 2, tk⟩ := rfl
      rw [q, q2]
      clear q q2
      go_enter Try.func12, Try.ntmps12
      go_wp2_with fail
      refine (hNone_at HH.out).mono ?_
      rintro e w2 ⟨rfl, hw2⟩
      rw [hw2]
      clear hw2
      go_wp2
      go_ret
      exact ⟨rfl, HH.out, But.refl _ _ _⟩
  · have hb : (st != 2) = true := by simp [h2]
    have q : lvV ⟨ad, lv, st, tk⟩ = false := by simp [lvV, h2]
    have q2 : lvT ⟨ad, lv, st, tk⟩ = ⟨ad, lv, st, tk⟩ := by simp [lvT, q]
    rw [q, q2]
    clear q q2 h2
    go_enter Try.func12, Try.ntmps12
    go_wp2_with fail
    refine (hNone_at HH.out).mono ?_
    rintro e w2 ⟨rfl, hw2⟩
    rw [hw2]
    clear hw2
    go_wp2
    go_ret
    exact ⟨rfl, HH.out, But.refl _ _ _⟩
set_option maxHeartbeats 400000 in
theorem leave_nil (w : World) :
    Calls Try.prog 12 #[.pointer none] w fun e w' => e = .returned (.bool false) ∧ w' = w := by
  go_enter Try.func12, Try.ntmps12
  go_wp2_with fail
  refine (hNone_nil w).mono ?_
  rintro e w2 ⟨rfl, hw2⟩
  rw [hw2]
  clear hw2
  go_wp2
  go_ret
  exact ⟨rfl, rfl⟩
end Go.Proofs.Ytidgajjahpbbdaa
