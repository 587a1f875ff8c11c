/- What an entry is, as two bools and two numbers: when it is right, when it leads to a table, what it allows; and what each small call of package pte (areRights, isFrame, isPage, isLevel, Right, Table, Allows), and of the document's answer, returns, for every argument; the world's old blocks are as they were. No conditions but that a number that is wanted is one of 64 bits. -/
import Derived.Test.YtpfmmlbakbhklaaGreatDoorPW3
import Derived.Laws.StructEq
import Derived.Laws.ResultCell
namespace Go.Proofs.YtpfmmlbakbhklaaGreatDoor.P
open Go.RowKit

theorem hid {p : Prop} (h : p) : Hid p := h
structure En where
  p : Bool
  r : Int
  l : Bool
  f : Int
def eV (e : En) : Value := .agg #[.bool e.p, .int .i64 e.r, .bool e.l, .int .i64 e.f]
def btw (n a b : Int) : Bool := decide (a ≤ n ∧ n ≤ b)
theorem btw_yes {n a b : Int} : btw n a b = true ↔ a ≤ n ∧ n ≤ b := by simp [btw]
theorem btw_no {n a b : Int} : btw n a b = false ↔ ¬ (a ≤ n ∧ n ≤ b) := by rw [← btw_yes]; simp
theorem btw_t {n a b : Int} (h1 : a ≤ n) (h2 : n ≤ b) : btw n a b = true := btw_yes.2 ⟨h1, h2⟩
theorem btw_f1 {n a b : Int} (h : ¬ a ≤ n) : btw n a b = false := btw_no.2 fun h' => h h'.1
theorem btw_f2 {n a b : Int} (h : ¬ n ≤ b) : btw n a b = false := btw_no.2 fun h' => h h'.2
/-- An entry is right. -/
def rt (e : En) : Bool := if e.p = true then btw e.r 0 7 && btw e.f 0 4095 && (!e.l || decide (0 < e.r)) else e.r == 0 && !e.l && e.f == 0
theorem bel0 (w : World) : Below w.heap.size w w := Below.refl _ _
theorem hkeep {W : World} {g : Nat} {o : Obj} (h : W.heap[g]? = some o) (o' : Obj) : (W.alloc o').heap[g]? = some o := (Below.heap_alloc W o' g (lt_of_block h)).trans h
theorem stay {A B : World} {g : Nat} {o : Obj} (h : Below A.heap.size A B) (a : A.heap[g]? = some o) : B.heap[g]? = some o := (h.block g (lt_of_block a)).trans a
theorem bgo {A B C : World} (h : Below A.heap.size A B) (h' : Below B.heap.size B C) : Below A.heap.size A C := h.trans (h'.mono h.size)
theorem cell_of {w : World} {g i : Nat} {c : Array Value} {t : TypeId} {v : Value} (h : w.heap[g]? = some (.cells c t (0, 0))) (hv : c[i]? = some v) : w.cell? ⟨g, i, none⟩ = some v := by
  simp [World.cell?, h, hv]
theorem free_of {w : World} {g i : Nat} {c : Array Value} {t : TypeId} (h : w.heap[g]? = some (.cells c t (0, 0))) : w.frozen? ⟨g, i, none⟩ = false := by
  simp [World.frozen?, h]
theorem below_one (w : World) (o : Obj) : Below w.heap.size w (w.alloc o) := (Below.refl _ _).alloc (Nat.le_refl _) o
theorem two_new (w : World) (A B : Obj) : ((w.alloc A).alloc B).heap[w.heap.size]? = some A ∧ ((w.alloc A).alloc B).heap[w.heap.size + 1]? = some B := by
  refine ⟨hkeep (heap_alloc_new _ _) _, ?_⟩
  have := heap_alloc_new (w.alloc A) B
  simpa using this
theorem btwo (w : World) (A B : Obj) : Below w.heap.size w ((w.alloc A).alloc B) := (below_one w A).alloc (by simp) B
theorem heap_setCell_self {w : World} {g i : Nat} {cs : Array Value} {t : TypeId} (h : w.heap[g]? = some (.cells cs t (0, 0))) (u : Value) :
    (w.setCell ⟨g, i, none⟩ u).heap[g]? = some (.cells (cs.setIfInBounds i u) t (0, 0)) := by
  have hlt := lt_of_block h
  have h' : w.heap[g] = .cells cs t (0, 0) := by simpa [Array.getElem?_eq_getElem hlt] using h
  show (w.heap.modify g _)[g]? = _
  rw [Array.getElem?_eq_getElem (by simpa using hlt), Array.getElem_modify_self, h']
  rfl
/-- A block's four cells, free to be written. -/
theorem four {w : World} {g : Nat} {a b c d : Value} {t : TypeId} (h : w.heap[g]? = some (.cells #[a, b, c, d] t (0, 0))) :
    w.cell? ⟨g, 0, none⟩ = some a ∧ w.cell? ⟨g, 1, none⟩ = some b ∧ w.cell? ⟨g, 2, none⟩ = some c ∧ w.cell? ⟨g, 3, none⟩ = some d ∧
    w.frozen? ⟨g, 0, none⟩ = false ∧ w.frozen? ⟨g, 1, none⟩ = false ∧ w.frozen? ⟨g, 2, none⟩ = false ∧ w.frozen? ⟨g, 3, none⟩ = false :=
  ⟨cell_of h rfl, cell_of h rfl, cell_of h rfl, cell_of h rfl, free_of h, free_of h, free_of h, free_of h⟩
theorem put4 {w2 : World} {g : Nat} {x y z u : Value} {t : TypeId} (hg : w2.heap[g]? = some (.cells #[x, y, z, u] t (0, 0))) (x' y' z' u' : Value) :
    ((((w2.setCell ⟨g, 0, none⟩ x').setCell ⟨g, 1, none⟩ y').setCell ⟨g, 2, none⟩ z').setCell ⟨g, 3, none⟩ u').heap[g]? = some (.cells #[x', y', z', u'] t (0, 0)) := by
  rw [heap_setCell_self (heap_setCell_self (heap_setCell_self (heap_setCell_self hg _) _) _) _]
  rfl
theorem bput {n g : Nat} {A B : World} (h : Below n A B) (hg : n ≤ g) (x y z u : Value) : Below n A ((((B.setCell ⟨g, 0, none⟩ x).setCell ⟨g, 1, none⟩ y).setCell ⟨g, 2, none⟩ z).setCell ⟨g, 3, none⟩ u) :=
  (((h.setCell hg x).setCell hg y).setCell hg z).setCell hg u
theorem results_row_tmp {fn : Func} {p u : Tmp} {ty : TypeId} (h : fn.results = #[.cell p ty, .tmp u]) (tmps : Array Value) (w : World) (g : Nat) (cs : Array Value)
    (hp : tmps.getD p undef = .pointer (some ⟨g, 0, none⟩)) (hl : (loadVar ty ⟨g, 0, none⟩).run Tryz.prog w = .ok (.agg cs) w) :
    (results fn tmps).run Tryz.prog w = .ok (.tuple #[.agg cs, tmps.getD u undef]) w := by
  rw [results_cell_tmp h, hp]
  simp [asAddr, Result.andThen, hl]
theorem size95 : (Tryz.prog.info? 95).map (·.size) = some 4 := by kernel_rfl
theorem size102 : (Tryz.prog.info? 102).map (·.size) = some 4 := by kernel_rfl

set_option maxHeartbeats 400000 in
theorem areRights_at (n : Int) (w : World) : Calls Tryz.prog 167 #[.int .i64 n] w fun v w' => v = .returned (.bool (btw n 0 7)) ∧ w' = w := by
  by_cases h1 : 0 ≤ n
  · by_cases h2 : n ≤ 7
    · rw [btw_t h1 h2]
      go_enter Tryz.func167, Tryz.ntmps167
      go_wp2
      go_ret
      exact ⟨rfl, rfl⟩
    · rw [btw_f2 h2]
      go_enter Tryz.func167, Tryz.ntmps167
      go_wp2
      go_ret
      exact ⟨rfl, rfl⟩
  · rw [btw_f1 h1]
    go_enter Tryz.func167, Tryz.ntmps167
    go_wp2
    go_ret
    exact ⟨rfl, rfl⟩
set_option maxHeartbeats 400000 in
theorem isFrame_at (n : Int) (w : World) : Calls Tryz.prog 146 #[.int .i64 n] w fun v w' => v = .returned (.bool (btw n 0 4095)) ∧ w' = w := by
  by_cases h1 : 0 ≤ n
  · by_cases h2 : n ≤ 4095
    · rw [btw_t h1 h2]
      have h3 : n < 4096 := by omega
      go_enter Tryz.func146, Tryz.ntmps146
      go_wp2
      go_ret
      exact ⟨rfl, rfl⟩
    · rw [btw_f2 h2]
      have h3 : ¬ n < 4096 := by omega
      go_enter Tryz.func146, Tryz.ntmps146
      go_wp2
      go_ret
      exact ⟨rfl, rfl⟩
  · rw [btw_f1 h1]
    go_enter Tryz.func146, Tryz.ntmps146
    go_wp2
    go_ret
    exact ⟨rfl, rfl⟩
set_option maxHeartbeats 400000 in
theorem isPage_at (n : Int) (w : World) : Calls Tryz.prog 172 #[.int .i64 n] w fun v w' => v = .returned (.bool (btw n 0 65535)) ∧ w' = w := by
  by_cases h1 : 0 ≤ n
  · by_cases h2 : n ≤ 65535
    · rw [btw_t h1 h2]
      have h3 : n < 65536 := by omega
      go_enter Tryz.func172, Tryz.ntmps172
      go_wp2
      go_ret
      exact ⟨rfl, rfl⟩
    · rw [btw_f2 h2]
      have h3 : ¬ n < 65536 := by omega
      go_enter Tryz.func172, Tryz.ntmps172
      go_wp2
      go_ret
      exact ⟨rfl, rfl⟩
  · rw [btw_f1 h1]
    go_enter Tryz.func172, Tryz.ntmps172
    go_wp2
    go_ret
    exact ⟨rfl, rfl⟩
set_option maxHeartbeats 400000 in
theorem isLevel_at (n : Int) (w : World) : Calls Tryz.prog 118 #[.int .i64 n] w fun v w' => v = .returned (.bool (btw n 0 3)) ∧ w' = w := by
  by_cases h1 : 0 ≤ n
  · by_cases h2 : n ≤ 3
    · rw [btw_t h1 h2]
      have h3 : n < 4 := by omega
      go_enter Tryz.func118, Tryz.ntmps118
      go_wp2
      go_ret
      exact ⟨rfl, rfl⟩
    · rw [btw_f2 h2]
      have h3 : ¬ n < 4 := by omega
      go_enter Tryz.func118, Tryz.ntmps118
      go_wp2
      go_ret
      exact ⟨rfl, rfl⟩
  · rw [btw_f1 h1]
    go_enter Tryz.func118, Tryz.ntmps118
    go_wp2
    go_ret
    exact ⟨rfl, rfl⟩

theorem it_at {fn : FuncId} {args : Array Value} {w : World} {b c : Bool} (h : Calls Tryz.prog fn args w fun v w' => v = .returned (.bool b) ∧ w' = w) (hb : b = c) :
    Calls Tryz.prog fn args w fun v w' => v = .returned (.bool c) ∧ w' = w := by
  subst hb; exact h

set_option maxRecDepth 100000 in
set_option maxHeartbeats 400000 in
theorem right_n (r : Int) (l : Bool) (f : Int) (w : World) :
    Calls Tryz.prog 137 #[.agg #[.bool false, .int .i64 r, .bool l, .int .i64 f]] w fun v w' => v = .returned (.bool (r == 0 && !l && f == 0)) ∧ Below w.heap.size w w' := by
  cases e1 : (r == 0)
  · go_enter Tryz.func137, Tryz.ntmps137
    go_wp2
    go_ret
    exact ⟨rfl, below_one _ _⟩
  · cases l
    · cases e2 : (f == 0)
      · go_enter Tryz.func137, Tryz.ntmps137
        go_wp2
        go_ret
        exact ⟨rfl, below_one _ _⟩
      · go_enter Tryz.func137, Tryz.ntmps137
        go_wp2
        go_ret
        exact ⟨rfl, below_one _ _⟩
    · go_enter Tryz.func137, Tryz.ntmps137
      go_wp2
      go_ret
      exact ⟨rfl, below_one _ _⟩

set_option maxRecDepth 100000 in
set_option maxHeartbeats 400000 in
theorem right_y (r : Int) (l : Bool) (f : Int) (w : World) :
    Calls Tryz.prog 137 #[.agg #[.bool true, .int .i64 r, .bool l, .int .i64 f]] w fun v w' => v = .returned (.bool (btw r 0 7 && btw f 0 4095 && (!l || decide (0 < r)))) ∧ Below w.heap.size w w' := by
  cases e1 : btw r 0 7
  · have U1 := hid e1
    clear e1
    go_enter Tryz.func137, Tryz.ntmps137
    go_wp2_with fail
    refine (it_at (areRights_at _ _) U1.out).mono ?_
    rintro v w1 ⟨rfl, hw⟩
    rw [hw]
    clear hw w1
    go_wp2
    go_ret
    exact ⟨rfl, below_one _ _⟩
  · have U1 := hid e1
    clear e1
    cases e2 : btw f 0 4095
    · have U2 := hid e2
      clear e2
      go_enter Tryz.func137, Tryz.ntmps137
      go_wp2_with fail
      refine (it_at (areRights_at _ _) U1.out).mono ?_
      rintro v w1 ⟨rfl, hw⟩
      rw [hw]
      clear hw w1
      go_wp2_with fail
      refine (it_at (isFrame_at _ _) U2.out).mono ?_
      rintro v w1 ⟨rfl, hw⟩
      rw [hw]
      clear hw w1
      go_wp2
      go_ret
      exact ⟨rfl, below_one _ _⟩
    · have U2 := hid e2
      clear e2
      cases l
      · 
        go_enter Tryz.func137, Tryz.ntmps137
        go_wp2_with fail
        refine (it_at (areRights_at _ _) U1.out).mono ?_
        rintro v w1 ⟨rfl, hw⟩
        rw [hw]
        clear hw w1
        go_wp2_with fail
        refine (it_at (isFrame_at _ _) U2.out).mono ?_
        rintro v w1 ⟨rfl, hw⟩
        rw [hw]
        clear hw w1
        go_wp2
        go_ret
        exact ⟨rfl, below_one _ _⟩
      · cases e3 : decide (0 < r)
        · 
          go_enter Tryz.func137, Tryz.ntmps137
          go_wp2_with fail
          refine (it_at (areRights_at _ _) U1.out).mono ?_
          rintro v w1 ⟨rfl, hw⟩
          rw [hw]
          clear hw w1
          go_wp2_with fail
          refine (it_at (isFrame_at _ _) U2.out).mono ?_
          rintro v w1 ⟨rfl, hw⟩
          rw [hw]
          clear hw w1
          go_wp2
          go_ret
          exact ⟨rfl, below_one _ _⟩
        · 
          go_enter Tryz.func137, Tryz.ntmps137
          go_wp2_with fail
          refine (it_at (areRights_at _ _) U1.out).mono ?_
          rintro v w1 ⟨rfl, hw⟩
          rw [hw]
          clear hw w1
          go_wp2_with fail
          refine (it_at (isFrame_at _ _) U2.out).mono ?_
          rintro v w1 ⟨rfl, hw⟩
          rw [hw]
          clear hw w1
          go_wp2
          go_ret
          exact ⟨rfl, below_one _ _⟩

theorem right_at (e : En) (w : World) : Calls Tryz.prog 137 #[eV e] w fun v w' => v = .returned (.bool (rt e)) ∧ Below w.heap.size w w' := by
  obtain ⟨p, r, l, f⟩ := e
  cases p
  · exact right_n r l f w
  · exact right_y r l f w

set_option maxRecDepth 100000 in
set_option maxHeartbeats 400000 in
theorem rright_n (r : Int) (l : Bool) (f : Int) (w : World) :
    Calls Tryz.prog 133 #[.agg #[.bool false, .int .i64 r, .bool l, .int .i64 f]] w fun v w' => v = .returned (.bool (r == 0 && !l && f == 0)) ∧ Below w.heap.size w w' := by
  cases e1 : (r == 0)
  · 
    go_enter Tryz.func133, Tryz.ntmps133
    go_wp2
    go_ret
    exact ⟨rfl, below_one _ _⟩
  · cases l
    · cases e2 : (f == 0)
      · 
        go_enter Tryz.func133, Tryz.ntmps133
        go_wp2
        go_ret
        exact ⟨rfl, below_one _ _⟩
      · 
        go_enter Tryz.func133, Tryz.ntmps133
        go_wp2
        go_ret
        exact ⟨rfl, below_one _ _⟩
    · 
      go_enter Tryz.func133, Tryz.ntmps133
      go_wp2
      go_ret
      exact ⟨rfl, below_one _ _⟩

set_option maxRecDepth 100000 in
set_option maxHeartbeats 400000 in
theorem rright_y (r : Int) (l : Bool) (f : Int) (w : World) :
    Calls Tryz.prog 133 #[.agg #[.bool true, .int .i64 r, .bool l, .int .i64 f]] w fun v w' => v = .returned (.bool (btw r 0 7 && btw f 0 4095 && (!l || decide (0 < r)))) ∧ Below w.heap.size w w' := by
  by_cases h1 : 0 ≤ r
  · by_cases h2 : r ≤ 7
    · rw [btw_t h1 h2]
      by_cases h3 : 0 ≤ f
      · by_cases h4 : f ≤ 4095
        · rw [btw_t h3 h4]
          cases l
          · 
            go_enter Tryz.func133, Tryz.ntmps133
            go_wp2
            go_ret
            exact ⟨rfl, below_one _ _⟩
          · by_cases h5 : 0 < r
            · rw [show decide (0 < r) = true by simp [h5]]
              go_enter Tryz.func133, Tryz.ntmps133
              go_wp2
              go_ret
              exact ⟨rfl, below_one _ _⟩
            · rw [show decide (0 < r) = false by simp [h5]]
              go_enter Tryz.func133, Tryz.ntmps133
              go_wp2
              go_ret
              exact ⟨rfl, below_one _ _⟩
        · rw [btw_f2 h4]
          go_enter Tryz.func133, Tryz.ntmps133
          go_wp2
          go_ret
          exact ⟨rfl, below_one _ _⟩
      · rw [btw_f1 h3]
        go_enter Tryz.func133, Tryz.ntmps133
        go_wp2
        go_ret
        exact ⟨rfl, below_one _ _⟩
    · rw [btw_f2 h2]
      go_enter Tryz.func133, Tryz.ntmps133
      go_wp2
      go_ret
      exact ⟨rfl, below_one _ _⟩
  · rw [btw_f1 h1]
    go_enter Tryz.func133, Tryz.ntmps133
    go_wp2
    go_ret
    exact ⟨rfl, below_one _ _⟩

theorem rright_at (e : En) (w : World) : Calls Tryz.prog 133 #[eV e] w fun v w' => v = .returned (.bool (rt e)) ∧ Below w.heap.size w w' := by
  obtain ⟨p, r, l, f⟩ := e
  cases p
  · exact rright_n r l f w
  · exact rright_y r l f w
end Go.Proofs.YtpfmmlbakbhklaaGreatDoor.P
