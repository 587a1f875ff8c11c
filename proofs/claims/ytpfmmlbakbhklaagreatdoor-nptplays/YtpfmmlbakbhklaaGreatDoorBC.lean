/- What an entry is, as two bools and two numbers: when it is right, when it leads to a table, what it allows; and what each small call of package pte (areRights, isFrame, isPage, isLevel, Right, Table, Allows), and of the document's answer, returns, for every argument; the world's old blocks are as they were. No conditions but that a number that is wanted is one of 64 bits. What Table and Allows return, the program's and the document's, and 'plain', for every entry; the world's old blocks are as they were. Condition: a number that is wanted is one of 64 bits. What Pack returns, the program's and the document's, for every entry: the same word and error; the world's old blocks are as they were. No conditions. What Parse returns, the program's and the document's, for every word: the same entry and answer; the world's old blocks are as they were. No conditions but that a word is one of 64 bits. What Index, At and Span return, the program's and the document's, for every number; the world's old blocks are as they were. -/
import Derived.Test.YtpfmmlbakbhklaaGreatDoorBB
import Derived.Laws.StructEq
import Derived.Laws.ResultCell
namespace Go.Proofs.YtpfmmlbakbhklaaGreatDoor.P
open Go.RowKit

theorem hid {p : Prop} (h : p) : Hid p := h
structure En where
  p : Bool
  r : Int
  l : Bool
  f : Int
def eV (e : En) : Value := .agg #[.bool e.p, .int .i64 e.r, .bool e.l, .int .i64 e.f]
def btw (n a b : Int) : Bool := decide (a ≤ n ∧ n ≤ b)
theorem btw_yes {n a b : Int} : btw n a b = true ↔ a ≤ n ∧ n ≤ b := by simp [btw]
theorem btw_no {n a b : Int} : btw n a b = false ↔ ¬ (a ≤ n ∧ n ≤ b) := by rw [← btw_yes]; simp
theorem btw_t {n a b : Int} (h1 : a ≤ n) (h2 : n ≤ b) : btw n a b = true := btw_yes.2 ⟨h1, h2⟩
theorem btw_f1 {n a b : Int} (h : ¬ a ≤ n) : btw n a b = false := btw_no.2 fun h' => h h'.1
theorem btw_f2 {n a b : Int} (h : ¬ n ≤ b) : btw n a b = false := btw_no.2 fun h' => h h'.2
/-- An entry is right. -/
def rt (e : En) : Bool := if e.p = true then btw e.r 0 7 && btw e.f 0 4095 && (!e.l || decide (0 < e.r)) else e.r == 0 && !e.l && e.f == 0
theorem bel0 (w : World) : Below w.heap.size w w := Below.refl _ _
theorem hkeep {W : World} {g : Nat} {o : Obj} (h : W.heap[g]? = some o) (o' : Obj) : (W.alloc o').heap[g]? = some o := (Below.heap_alloc W o' g (lt_of_block h)).trans h
theorem stay {A B : World} {g : Nat} {o : Obj} (h : Below A.heap.size A B) (a : A.heap[g]? = some o) : B.heap[g]? = some o := (h.block g (lt_of_block a)).trans a
theorem bgo {A B C : World} (h : Below A.heap.size A B) (h' : Below B.heap.size B C) : Below A.heap.size A C := h.trans (h'.mono h.size)
theorem cell_of {w : World} {g i : Nat} {c : Array Value} {t : TypeId} {v : Value} (h : w.heap[g]? = some (.cells c t (0, 0))) (hv : c[i]? = some v) : w.cell? ⟨g, i, none⟩ = some v := by
  simp [World.cell?, h, hv]
theorem free_of {w : World} {g i : Nat} {c : Array Value} {t : TypeId} (h : w.heap[g]? = some (.cells c t (0, 0))) : w.frozen? ⟨g, i, none⟩ = false := by
  simp [World.frozen?, h]
theorem below_one (w : World) (o : Obj) : Below w.heap.size w (w.alloc o) := (Below.refl _ _).alloc (Nat.le_refl _) o
theorem two_new (w : World) (A B : Obj) : ((w.alloc A).alloc B).heap[w.heap.size]? = some A ∧ ((w.alloc A).alloc B).heap[w.heap.size + 1]? = some B := by
  refine ⟨hkeep (heap_alloc_new _ _) _, ?_⟩
  have := heap_alloc_new (w.alloc A) B
  simpa using this
theorem btwo (w : World) (A B : Obj) : Below w.heap.size w ((w.alloc A).alloc B) := (below_one w A).alloc (by simp) B
theorem heap_setCell_self {w : World} {g i : Nat} {cs : Array Value} {t : TypeId} (h : w.heap[g]? = some (.cells cs t (0, 0))) (u : Value) :
    (w.setCell ⟨g, i, none⟩ u).heap[g]? = some (.cells (cs.setIfInBounds i u) t (0, 0)) := by
  have hlt := lt_of_block h
  have h' : w.heap[g] = .cells cs t (0, 0) := by simpa [Array.getElem?_eq_getElem hlt] using h
  show (w.heap.modify g _)[g]? = _
  rw [Array.getElem?_eq_getElem (by simpa using hlt), Array.getElem_modify_self, h']
  rfl
/-- A block's four cells, free to be written. -/
theorem four {w : World} {g : Nat} {a b c d : Value} {t : TypeId} (h : w.heap[g]? = some (.cells #[a, b, c, d] t (0, 0))) :
    w.cell? ⟨g, 0, none⟩ = some a ∧ w.cell? ⟨g, 1, none⟩ = some b ∧ w.cell? ⟨g, 2, none⟩ = some c ∧ w.cell? ⟨g, 3, none⟩ = some d ∧
    w.frozen? ⟨g, 0, none⟩ = false ∧ w.frozen? ⟨g, 1, none⟩ = false ∧ w.frozen? ⟨g, 2, none⟩ = false ∧ w.frozen? ⟨g, 3, none⟩ = false :=
  ⟨cell_of h rfl, cell_of h rfl, cell_of h rfl, cell_of h rfl, free_of h, free_of h, free_of h, free_of h⟩
theorem put4 {w2 : World} {g : Nat} {x y z u : Value} {t : TypeId} (hg : w2.heap[g]? = some (.cells #[x, y, z, u] t (0, 0))) (x' y' z' u' : Value) :
    ((((w2.setCell ⟨g, 0, none⟩ x').setCell ⟨g, 1, none⟩ y').setCell ⟨g, 2, none⟩ z').setCell ⟨g, 3, none⟩ u').heap[g]? = some (.cells #[x', y', z', u'] t (0, 0)) := by
  rw [heap_setCell_self (heap_setCell_self (heap_setCell_self (heap_setCell_self hg _) _) _) _]
  rfl
theorem bput {n g : Nat} {A B : World} (h : Below n A B) (hg : n ≤ g) (x y z u : Value) : Below n A ((((B.setCell ⟨g, 0, none⟩ x).setCell ⟨g, 1, none⟩ y).setCell ⟨g, 2, none⟩ z).setCell ⟨g, 3, none⟩ u) :=
  (((h.setCell hg x).setCell hg y).setCell hg z).setCell hg u
theorem results_row_tmp {fn : Func} {p u : Tmp} {ty : TypeId} (h : fn.results = #[.cell p ty, .tmp u]) (tmps : Array Value) (w : World) (g : Nat) (cs : Array Value)
    (hp : tmps.getD p undef = .pointer (some ⟨g, 0, none⟩)) (hl : (loadVar ty ⟨g, 0, none⟩).run Tryz.prog w = .ok (.agg cs) w) :
    (results fn tmps).run Tryz.prog w = .ok (.tuple #[.agg cs, tmps.getD u undef]) w := by
  rw [results_cell_tmp h, hp]
  simp [asAddr, Result.andThen, hl]
theorem size95 : (Tryz.prog.info? 95).map (·.size) = some 4 := by kernel_rfl
theorem size102 : (Tryz.prog.info? 102).map (·.size) = some 4 := by kernel_rfl

set_option maxHeartbeats 400000 in
theorem areRights_at (n : Int) (w : World) : Calls Tryz.prog 167 #[.int .i64 n] w fun v w' => v = .returned (.bool (btw n 0 7)) ∧ w' = w := by
  by_cases h1 : 0 ≤ n
  · by_cases h2 : n ≤ 7
    · rw [btw_t h1 h2]
      go_enter Tryz.func167, Tryz.ntmps167
      go_wp2
      go_ret
      exact ⟨rfl, rfl⟩
    · rw [btw_f2 h2]
      go_enter Tryz.func167, Tryz.ntmps167
      go_wp2
      go_ret
      exact ⟨rfl, rfl⟩
  · rw [btw_f1 h1]
    go_enter Tryz.func167, Tryz.ntmps167
    go_wp2
    go_ret
    exact ⟨rfl, rfl⟩
set_option maxHeartbeats 400000 in
theorem isFrame_at (n : Int) (w : World) : Calls Tryz.prog 146 #[.int .i64 n] w fun v w' => v = .returned (.bool (btw n 0 4095)) ∧ w' = w := by
  by_cases h1 : 0 ≤ n
  · by_cases h2 : n ≤ 4095
    · rw [btw_t h1 h2]
      have h3 : n < 4096 := by omega
      go_enter Tryz.func146, Tryz.ntmps146
      go_wp2
      go_ret
      exact ⟨rfl, rfl⟩
    · rw [btw_f2 h2]
      have h3 : ¬ n < 4096 := by omega
      go_enter Tryz.func146, Tryz.ntmps146
      go_wp2
      go_ret
      exact ⟨rfl, rfl⟩
  · rw [btw_f1 h1]
    go_enter Tryz.func146, Tryz.ntmps146
    go_wp2
    go_ret
    exact ⟨rfl, rfl⟩
set_option maxHeartbeats 400000 in
theorem isPage_at (n : Int) (w : World) : Calls Tryz.prog 172 #[.int .i64 n] w fun v w' => v = .returned (.bool (btw n 0 65535)) ∧ w' = w := by
  by_cases h1 : 0 ≤ n
  · by_cases h2 : n ≤ 65535
    · rw [btw_t h1 h2]
      have h3 : n < 65536 := by omega
      go_enter Tryz.func172, Tryz.ntmps172
      go_wp2
      go_ret
      exact ⟨rfl, rfl⟩
    · rw [btw_f2 h2]
      have h3 : ¬ n < 65536 := by omega
      go_enter Tryz.func172, Tryz.ntmps172
      go_wp2
      go_ret
      exact ⟨rfl, rfl⟩
  · rw [btw_f1 h1]
    go_enter Tryz.func172, Tryz.ntmps172
    go_wp2
    go_ret
    exact ⟨rfl, rfl⟩
set_option maxHeartbeats 400000 in
theorem isLevel_at (n : Int) (w : World) : Calls Tryz.prog 118 #[.int .i64 n] w fun v w' => v = .returned (.bool (btw n 0 3)) ∧ w' = w := by
  by_cases h1 : 0 ≤ n
  · by_cases h2 : n ≤ 3
    · rw [btw_t h1 h2]
      have h3 : n < 4 := by omega
      go_enter Tryz.func118, Tryz.ntmps118
      go_wp2
      go_ret
      exact ⟨rfl, rfl⟩
    · rw [btw_f2 h2]
      have h3 : ¬ n < 4 := by omega
      go_enter Tryz.func118, Tryz.ntmps118
      go_wp2
      go_ret
      exact ⟨rfl, rfl⟩
  · rw [btw_f1 h1]
    go_enter Tryz.func118, Tryz.ntmps118
    go_wp2
    go_ret
    exact ⟨rfl, rfl⟩

theorem it_at {fn : FuncId} {args : Array Value} {w : World} {b c : Bool} (h : Calls Tryz.prog fn args w fun v w' => v = .returned (.bool b) ∧ w' = w) (hb : b = c) :
    Calls Tryz.prog fn args w fun v w' => v = .returned (.bool c) ∧ w' = w := by
  subst hb; exact h

set_option maxRecDepth 100000 in
set_option maxHeartbeats 400000 in
theorem right_n (r : Int) (l : Bool) (f : Int) (w : World) :
    Calls Tryz.prog 137 #[.agg #[.bool false, .int .i64 r, .bool l, .int .i64 f]] w fun v w' => v = .returned (.bool (r == 0 && !l && f == 0)) ∧ Below w.heap.size w w' := by
  cases e1 : (r == 0)
  · go_enter Tryz.func137, Tryz.ntmps137
    go_wp2
    go_ret
    exact ⟨rfl, below_one _ _⟩
  · cases l
    · cases e2 : (f == 0)
      · go_enter Tryz.func137, Tryz.ntmps137
        go_wp2
        go_ret
        exact ⟨rfl, below_one _ _⟩
      · go_enter Tryz.func137, Tryz.ntmps137
        go_wp2
        go_ret
        exact ⟨rfl, below_one _ _⟩
    · go_enter Tryz.func137, Tryz.ntmps137
      go_wp2
      go_ret
      exact ⟨rfl, below_one _ _⟩

set_option maxRecDepth 100000 in
set_option maxHeartbeats 400000 in
theorem right_y (r : Int) (l : Bool) (f : Int) (w : World) :
    Calls Tryz.prog 137 #[.agg #[.bool true, .int .i64 r, .bool l, .int .i64 f]] w fun v w' => v = .returned (.bool (btw r 0 7 && btw f 0 4095 && (!l || decide (0 < r)))) ∧ Below w.heap.size w w' := by
  cases e1 : btw r 0 7
  · have U1 := hid e1
    clear e1
    go_enter Tryz.func137, Tryz.ntmps137
    go_wp2_with fail
    refine (it_at (areRights_at _ _) U1.out).mono ?_
    rintro v w1 ⟨rfl, hw⟩
    rw [hw]
    clear hw w1
    go_wp2
    go_ret
    exact ⟨rfl, below_one _ _⟩
  · have U1 := hid e1
    clear e1
    cases e2 : btw f 0 4095
    · have U2 := hid e2
      clear e2
      go_enter Tryz.func137, Tryz.ntmps137
      go_wp2_with fail
      refine (it_at (areRights_at _ _) U1.out).mono ?_
      rintro v w1 ⟨rfl, hw⟩
      rw [hw]
      clear hw w1
      go_wp2_with fail
      refine (it_at (isFrame_at _ _) U2.out).mono ?_
      rintro v w1 ⟨rfl, hw⟩
      rw [hw]
      clear hw w1
      go_wp2
      go_ret
      exact ⟨rfl, below_one _ _⟩
    · have U2 := hid e2
      clear e2
      cases l
      · 
        go_enter Tryz.func137, Tryz.ntmps137
        go_wp2_with fail
        refine (it_at (areRights_at _ _) U1.out).mono ?_
        rintro v w1 ⟨rfl, hw⟩
        rw [hw]
        clear hw w1
        go_wp2_with fail
        refine (it_at (isFrame_at _ _) U2.out).mono ?_
        rintro v w1 ⟨rfl, hw⟩
        rw [hw]
        clear hw w1
        go_wp2
        go_ret
        exact ⟨rfl, below_one _ _⟩
      · cases e3 : decide (0 < r)
        · 
          go_enter Tryz.func137, Tryz.ntmps137
          go_wp2_with fail
          refine (it_at (areRights_at _ _) U1.out).mono ?_
          rintro v w1 ⟨rfl, hw⟩
          rw [hw]
          clear hw w1
          go_wp2_with fail
          refine (it_at (isFrame_at _ _) U2.out).mono ?_
          rintro v w1 ⟨rfl, hw⟩
          rw [hw]
          clear hw w1
          go_wp2
          go_ret
          exact ⟨rfl, below_one _ _⟩
        · 
          go_enter Tryz.func137, Tryz.ntmps137
          go_wp2_with fail
          refine (it_at (areRights_at _ _) U1.out).mono ?_
          rintro v w1 ⟨rfl, hw⟩
          rw [hw]
          clear hw w1
          go_wp2_with fail
          refine (it_at (isFrame_at _ _) U2.out).mono ?_
          rintro v w1 ⟨rfl, hw⟩
          rw [hw]
          clear hw w1
          go_wp2
          go_ret
          exact ⟨rfl, below_one _ _⟩

theorem right_at (e : En) (w : World) : Calls Tryz.prog 137 #[eV e] w fun v w' => v = .returned (.bool (rt e)) ∧ Below w.heap.size w w' := by
  obtain ⟨p, r, l, f⟩ := e
  cases p
  · exact right_n r l f w
  · exact right_y r l f w

set_option maxRecDepth 100000 in
set_option maxHeartbeats 400000 in
theorem rright_n (r : Int) (l : Bool) (f : Int) (w : World) :
    Calls Tryz.prog 133 #[.agg #[.bool false, .int .i64 r, .bool l, .int .i64 f]] w fun v w' => v = .returned (.bool (r == 0 && !l && f == 0)) ∧ Below w.heap.size w w' := by
  cases e1 : (r == 0)
  · 
    go_enter Tryz.func133, Tryz.ntmps133
    go_wp2
    go_ret
    exact ⟨rfl, below_one _ _⟩
  · cases l
    · cases e2 : (f == 0)
      · 
        go_enter Tryz.func133, Tryz.ntmps133
        go_wp2
        go_ret
        exact ⟨rfl, below_one _ _⟩
      · 
        go_enter Tryz.func133, Tryz.ntmps133
        go_wp2
        go_ret
        exact ⟨rfl, below_one _ _⟩
    · 
      go_enter Tryz.func133, Tryz.ntmps133
      go_wp2
      go_ret
      exact ⟨rfl, below_one _ _⟩

set_option maxRecDepth 100000 in
set_option maxHeartbeats 400000 in
theorem rright_y (r : Int) (l : Bool) (f : Int) (w : World) :
    Calls Tryz.prog 133 #[.agg #[.bool true, .int .i64 r, .bool l, .int .i64 f]] w fun v w' => v = .returned (.bool (btw r 0 7 && btw f 0 4095 && (!l || decide (0 < r)))) ∧ Below w.heap.size w w' := by
  by_cases h1 : 0 ≤ r
  · by_cases h2 : r ≤ 7
    · rw [btw_t h1 h2]
      by_cases h3 : 0 ≤ f
      · by_cases h4 : f ≤ 4095
        · rw [btw_t h3 h4]
          cases l
          · 
            go_enter Tryz.func133, Tryz.ntmps133
            go_wp2
            go_ret
            exact ⟨rfl, below_one _ _⟩
          · by_cases h5 : 0 < r
            · rw [show decide (0 < r) = true by simp [h5]]
              go_enter Tryz.func133, Tryz.ntmps133
              go_wp2
              go_ret
              exact ⟨rfl, below_one _ _⟩
            · rw [show decide (0 < r) = false by simp [h5]]
              go_enter Tryz.func133, Tryz.ntmps133
              go_wp2
              go_ret
              exact ⟨rfl, below_one _ _⟩
        · rw [btw_f2 h4]
          go_enter Tryz.func133, Tryz.ntmps133
          go_wp2
          go_ret
          exact ⟨rfl, below_one _ _⟩
      · rw [btw_f1 h3]
        go_enter Tryz.func133, Tryz.ntmps133
        go_wp2
        go_ret
        exact ⟨rfl, below_one _ _⟩
    · rw [btw_f2 h2]
      go_enter Tryz.func133, Tryz.ntmps133
      go_wp2
      go_ret
      exact ⟨rfl, below_one _ _⟩
  · rw [btw_f1 h1]
    go_enter Tryz.func133, Tryz.ntmps133
    go_wp2
    go_ret
    exact ⟨rfl, below_one _ _⟩

theorem rright_at (e : En) (w : World) : Calls Tryz.prog 133 #[eV e] w fun v w' => v = .returned (.bool (rt e)) ∧ Below w.heap.size w w' := by
  obtain ⟨p, r, l, f⟩ := e
  cases p
  · exact rright_n r l f w
  · exact rright_y r l f w
end Go.Proofs.YtpfmmlbakbhklaaGreatDoor.P
namespace Go.Proofs.YtpfmmlbakbhklaaGreatDoor.P
open Go.RowKit

/-- An entry leads to a table. -/
def tb (e : En) : Bool := rt e && e.p && e.r == 0
/-- What an entry allows, as the program says it, and as the document does. -/
def alP (e : En) (n : Int) : Bool := rt e && decide (0 < e.r) && bits .andNot .i64 n e.r == 0
def al (e : En) (n : Int) : Bool := rt e && e.p && decide (0 < e.r) && btw n 0 7 && bits .and .i64 e.r n == n

theorem bl_at {fn : FuncId} {args : Array Value} {w : World} {b c : Bool} (h : Calls Tryz.prog fn args w fun v w' => v = .returned (.bool b) ∧ Below w.heap.size w w') (hb : b = c) :
    Calls Tryz.prog fn args w fun v w' => v = .returned (.bool c) ∧ Below w.heap.size w w' := by
  subst hb; exact h
theorem rt_p {p : Bool} {r f : Int} {l : Bool} (h : rt ⟨p, r, l, f⟩ = true) (hr : decide (0 < r) = true) : p = true := by
  cases p
  · simp [rt] at h hr; omega
  · rfl
theorem rt_l {r f : Int} (hr : (r == 0) = true) : rt ⟨true, r, true, f⟩ = false := by
  simp at hr
  subst hr
  simp [rt]
theorem rt_7 {p : Bool} {r f : Int} {l : Bool} (h : rt ⟨p, r, l, f⟩ = true) : 0 ≤ r ∧ r ≤ 7 := by
  cases p
  · simp [rt] at h; omega
  · simp [rt] at h; exact btw_yes.1 h.1.1

/-- No bit but r's, of a number of 64 bits: it is 0 to 7, and all its bits are r's. -/
theorem sub_fin : ∀ r : Fin 8, ∀ n : Fin 8, ((bits .andNot .i64 ((n : Nat) : Int) ((r : Nat) : Int) == 0) = (bits .and .i64 ((r : Nat) : Int) ((n : Nat) : Int) == ((n : Nat) : Int))) := by decide +kernel
theorem sub_high {r n : Int} (h0 : 0 ≤ r) (h7 : r ≤ 7) (l1 : -9223372036854775808 ≤ n) (l2 : n ≤ 9223372036854775807) (h : bits .andNot .i64 n r = 0) : 0 ≤ n ∧ n ≤ 7 := by
  have h1 : IntKind.i64.wrap ((BitVec.ofInt 64 n &&& ~~~ BitVec.ofInt 64 r).toNat : Nat) = 0 := h
  rw [IntKind.wrap_i64] at h1
  have hlt := (BitVec.ofInt 64 n &&& ~~~ BitVec.ofInt 64 r).isLt
  have h2 : (BitVec.ofInt 64 n &&& ~~~ BitVec.ofInt 64 r).toNat = 0 := by omega
  have h3 : BitVec.ofInt 64 n &&& ~~~ BitVec.ofInt 64 r = 0#64 := BitVec.eq_of_toNat_eq (by simpa using h2)
  have h4 : BitVec.ofInt 64 n &&& BitVec.ofInt 64 r = BitVec.ofInt 64 n := by
    ext i hi
    have := congrArg (fun x => x.getLsbD i) h3
    simp [hi] at this ⊢
    exact this
  have h5 : (BitVec.ofInt 64 n).toNat ≤ (BitVec.ofInt 64 r).toNat := by
    have := congrArg BitVec.toNat h4
    rw [BitVec.toNat_and] at this
    rw [← this]
    exact Nat.and_le_right
  rw [BitVec.toNat_ofInt, BitVec.toNat_ofInt] at h5
  omega
theorem sub_eq {r n : Int} (h0 : 0 ≤ r) (h7 : r ≤ 7) (l1 : -9223372036854775808 ≤ n) (l2 : n ≤ 9223372036854775807) :
    (bits .andNot .i64 n r == 0) = (btw n 0 7 && bits .and .i64 r n == n) := by
  cases hb : btw n 0 7
  · rw [Bool.false_and, beq_eq_false_iff_ne]
    intro h
    exact (btw_no.1 hb) (sub_high h0 h7 l1 l2 h)
  · obtain ⟨g1, g2⟩ := btw_yes.1 hb
    rw [Bool.true_and]
    have := sub_fin ⟨r.toNat, by omega⟩ ⟨n.toNat, by omega⟩
    simp only [Int.toNat_of_nonneg h0, Int.toNat_of_nonneg g1] at this
    exact this
theorem al_eq (e : En) {n : Int} (l1 : -9223372036854775808 ≤ n) (l2 : n ≤ 9223372036854775807) : alP e n = al e n := by
  obtain ⟨p, r, l, f⟩ := e
  unfold alP al
  cases h1 : rt ⟨p, r, l, f⟩
  · simp
  · cases h2 : decide (0 < r)
    · simp
    · rw [rt_p h1 h2]
      obtain ⟨h0, h7⟩ := rt_7 h1
      simp only [Bool.true_and]
      exact sub_eq h0 h7 l1 l2

set_option maxRecDepth 100000 in
set_option maxHeartbeats 400000 in
theorem table_any (p : Bool) (r : Int) (l : Bool) (f : Int) (w : World) (b : Bool) (hb : rt ⟨p, r, l, f⟩ = b) (c : Bool) (hc : (r == 0) = c) :
    Calls Tryz.prog 120 #[.agg #[.bool p, .int .i64 r, .bool l, .int .i64 f]] w fun v w' => v = .returned (.bool (b && p && c)) ∧ Below w.heap.size w w' := by
  have ef : (f == f) = true := by simp
  cases p
  · rw [Bool.and_false, Bool.false_and]
    clear hb
    go_enter Tryz.func120, Tryz.ntmps120
    go_wp2
    go_ret
    exact ⟨rfl, below_one _ _⟩
  · rw [Bool.and_true]
    cases c
    · rw [Bool.and_false]
      clear hb
      go_enter Tryz.func120, Tryz.ntmps120
      go_wp2
      go_ret
      exact ⟨rfl, below_one _ _⟩
    · rw [Bool.and_true]
      cases l
      · have U1 := hid hb
        clear hb
        go_enter Tryz.func120, Tryz.ntmps120
        go_wp2_with fail
        refine (bl_at (right_at ⟨true, r, false, f⟩ _) U1.out).mono ?_
        rintro v w1 ⟨rfl, hB⟩
        have a0 := stay hB (heap_alloc_new _ _)
        have HB := hid (bgo (below_one w _) hB)
        have l0 := lt_of_block a0
        obtain ⟨p00, p01, p02, p03, -, -, -, -⟩ := four a0
        clear hB a0
        (try simp only [])
        go_wp2
        go_ret
        exact ⟨rfl, HB.out⟩
      · have hb' := (rt_l (f := f) hc).symm.trans hb
        subst hb'
        clear hb
        go_enter Tryz.func120, Tryz.ntmps120
        go_wp2
        go_ret
        exact ⟨rfl, below_one _ _⟩

theorem table_at (e : En) (w : World) : Calls Tryz.prog 120 #[eV e] w fun v w' => v = .returned (.bool (tb e)) ∧ Below w.heap.size w w' :=
  table_any e.p e.r e.l e.f w _ rfl _ rfl

set_option maxRecDepth 100000 in
set_option maxHeartbeats 400000 in
theorem rtable_any (p : Bool) (r : Int) (l : Bool) (f : Int) (w : World) (b : Bool) (hb : rt ⟨p, r, l, f⟩ = b) (c : Bool) (hc : (r == 0) = c) :
    Calls Tryz.prog 94 #[.agg #[.bool p, .int .i64 r, .bool l, .int .i64 f]] w fun v w' => v = .returned (.bool (b && p && c)) ∧ Below w.heap.size w w' := by
  have U1 := hid hb
  clear hb
  cases b
  · rw [Bool.false_and, Bool.false_and]
    clear hc
    go_enter Tryz.func94, Tryz.ntmps94
    go_wp2_with fail
    refine (bl_at (rright_at ⟨p, r, l, f⟩ _) U1.out).mono ?_
    rintro v w1 ⟨rfl, hB⟩
    have a0 := stay hB (heap_alloc_new _ _)
    have HB := hid (bgo (below_one w _) hB)
    have l0 := lt_of_block a0
    obtain ⟨p00, p01, p02, p03, -, -, -, -⟩ := four a0
    clear hB a0
    (try simp only [])
    go_wp2
    go_ret
    exact ⟨rfl, HB.out⟩
  · rw [Bool.true_and]
    cases p
    · rw [Bool.false_and]
      clear hc
      go_enter Tryz.func94, Tryz.ntmps94
      go_wp2_with fail
      refine (bl_at (rright_at ⟨false, r, l, f⟩ _) U1.out).mono ?_
      rintro v w1 ⟨rfl, hB⟩
      have a0 := stay hB (heap_alloc_new _ _)
      have HB := hid (bgo (below_one w _) hB)
      have l0 := lt_of_block a0
      obtain ⟨p00, p01, p02, p03, -, -, -, -⟩ := four a0
      clear hB a0
      (try simp only [])
      go_wp2
      go_ret
      exact ⟨rfl, HB.out⟩
    · rw [Bool.true_and]
      go_enter Tryz.func94, Tryz.ntmps94
      go_wp2_with fail
      refine (bl_at (rright_at ⟨true, r, l, f⟩ _) U1.out).mono ?_
      rintro v w1 ⟨rfl, hB⟩
      have a0 := stay hB (heap_alloc_new _ _)
      have HB := hid (bgo (below_one w _) hB)
      have l0 := lt_of_block a0
      obtain ⟨p00, p01, p02, p03, -, -, -, -⟩ := four a0
      clear hB a0
      (try simp only [])
      go_wp2
      go_ret
      exact ⟨rfl, HB.out⟩

theorem rtable_at (e : En) (w : World) : Calls Tryz.prog 94 #[eV e] w fun v w' => v = .returned (.bool (tb e)) ∧ Below w.heap.size w w' :=
  rtable_any e.p e.r e.l e.f w _ rfl _ rfl

set_option maxRecDepth 100000 in
set_option maxHeartbeats 400000 in
theorem allows_any (p : Bool) (r : Int) (l : Bool) (f n : Int) (w : World) (b : Bool) (hb : rt ⟨p, r, l, f⟩ = b) (c : Bool) (hc : decide (0 < r) = c) (d : Bool) (hd : (bits .andNot .i64 n r == 0) = d) :
    Calls Tryz.prog 201 #[.agg #[.bool p, .int .i64 r, .bool l, .int .i64 f], .int .i64 n] w fun v w' => v = .returned (.bool (b && c && d)) ∧ Below w.heap.size w w' := by
  have U1 := hid hb
  clear hb
  cases b
  · rw [Bool.false_and, Bool.false_and]
    clear hc hd
    go_enter Tryz.func201, Tryz.ntmps201
    go_wp2_with fail
    refine (bl_at (right_at ⟨p, r, l, f⟩ _) U1.out).mono ?_
    rintro v w1 ⟨rfl, hB⟩
    have a0 := stay hB (heap_alloc_new _ _)
    have HB := hid (bgo (below_one w _) hB)
    have l0 := lt_of_block a0
    obtain ⟨p00, p01, p02, p03, -, -, -, -⟩ := four a0
    clear hB a0
    (try simp only [])
    go_wp2
    go_ret
    exact ⟨rfl, HB.out⟩
  · rw [Bool.true_and]
    cases c
    · rw [Bool.false_and]
      clear hd
      go_enter Tryz.func201, Tryz.ntmps201
      go_wp2_with fail
      refine (bl_at (right_at ⟨p, r, l, f⟩ _) U1.out).mono ?_
      rintro v w1 ⟨rfl, hB⟩
      have a0 := stay hB (heap_alloc_new _ _)
      have HB := hid (bgo (below_one w _) hB)
      have l0 := lt_of_block a0
      obtain ⟨p00, p01, p02, p03, -, -, -, -⟩ := four a0
      clear hB a0
      (try simp only [])
      go_wp2
      go_ret
      exact ⟨rfl, HB.out⟩
    · rw [Bool.true_and]
      go_enter Tryz.func201, Tryz.ntmps201
      go_wp2_with fail
      refine (bl_at (right_at ⟨p, r, l, f⟩ _) U1.out).mono ?_
      rintro v w1 ⟨rfl, hB⟩
      have a0 := stay hB (heap_alloc_new _ _)
      have HB := hid (bgo (below_one w _) hB)
      have l0 := lt_of_block a0
      obtain ⟨p00, p01, p02, p03, -, -, -, -⟩ := four a0
      clear hB a0
      (try simp only [])
      go_wp2
      go_ret
      exact ⟨rfl, HB.out⟩

theorem allows_at (e : En) (n : Int) (l1 : -9223372036854775808 ≤ n) (l2 : n ≤ 9223372036854775807) (w : World) : Calls Tryz.prog 201 #[eV e, .int .i64 n] w fun v w' => v = .returned (.bool (al e n)) ∧ Below w.heap.size w w' := by
  rw [← al_eq e l1 l2]
  exact allows_any e.p e.r e.l e.f n w _ rfl _ rfl _ rfl

end Go.Proofs.YtpfmmlbakbhklaaGreatDoor.P
namespace Go.Proofs.YtpfmmlbakbhklaaGreatDoor.P
open Go.RowKit

def bI (b : Bool) : Nat := if b = true then 1 else 0
/-- A right entry's word. -/
def wd (e : En) : Int := bI e.p + 2 * e.r + 16 * bI e.l + 4096 * e.f
def pkE (e : En) : Int := if rt e = true then 0 else 11
def pk (e : En) : Int := if rt e = true then wd e else 0
def wtwo (x e : Int) : Value := .tuple #[.int .u64 x, .int .i64 e]
theorem ret_wtwo {x y e : Int} (h : x = y) : Ending.returned (wtwo x e) = .returned (wtwo y e) := by rw [h]
theorem rt_in {e : En} (h : rt e = true) : 0 ≤ e.r ∧ e.r ≤ 7 ∧ 0 ≤ e.f ∧ e.f ≤ 4095 := by
  obtain ⟨p, r, l, f⟩ := e
  cases p
  · simp [rt] at h
    show 0 ≤ r ∧ r ≤ 7 ∧ 0 ≤ f ∧ f ≤ 4095
    omega
  · simp [rt] at h
    have h1 := btw_yes.1 h.1.1
    have h2 := btw_yes.1 h.1.2
    exact ⟨h1.1, h1.2, h2.1, h2.2⟩
theorem bI_lt (b : Bool) : bI b < 2 := by cases b <;> decide

set_option maxHeartbeats 400000 in
theorem bit_of (b : Bool) (w : World) : Calls Tryz.prog 139 #[.bool b] w fun v w' => v = .returned (.int .u64 (bI b : Nat)) ∧ w' = w := by
  cases b
  · go_enter Tryz.func139, Tryz.ntmps139
    go_wp2
    go_ret
    exact ⟨rfl, rfl⟩
  · go_enter Tryz.func139, Tryz.ntmps139
    go_wp2
    go_ret
    exact ⟨rfl, rfl⟩

theorem fPut_yes (x : Nat) (l s : Int) (v : Nat) (h : isF l s = true) : fPut x l s v = M.pt x l.toNat s.toNat v := by simp [fPut, h]
theorem pack5 (a r c f : Nat) (ha : a < 2) (hr : r < 8) (hc : c < 2) (hf : f < 4096) :
    ((packTo 0 0 [((a : Int), 1), (r, 3), (c, 1), (0, 7), (f, 12)] : Nat) : Int) = a + 2 * r + 16 * c + 4096 * f := by
  rw [packTo_yes _ _ _ _ (by show isF 0 1 = true; decide), packTo_yes _ _ _ _ (by show isF 1 3 = true; decide), packTo_yes _ _ _ _ (by show isF 4 1 = true; decide), packTo_yes _ _ _ _ (by show isF 5 7 = true; decide), packTo_yes _ _ _ _ (by show isF 12 12 = true; decide)]
  rw [fPut_yes _ _ _ _ (by show isF 12 12 = true; decide), fPut_yes _ _ _ _ (by show isF 5 7 = true; decide), fPut_yes _ _ _ _ (by show isF 4 1 = true; decide), fPut_yes _ _ _ _ (by show isF 1 3 = true; decide), fPut_yes _ _ _ _ (by show isF 0 1 = true; decide)]
  simp only [packTo, Int.toNat_natCast]
  unfold M.pt
  simp
  omega
theorem parts5 (w : World) (a b c d e : Int) :
    PRow (w.alloc (.cells #[.int .u64 a, .int .i64 1, .int .u64 b, .int .i64 3, .int .u64 c, .int .i64 1, .int .u64 d, .int .i64 7, .int .u64 e, .int .i64 12] 201)) w.heap.size 0 5 [(a, 1), (b, 3), (c, 1), (d, 7), (e, 12)] := by
  refine ⟨rfl, by simp, fun i hi => ?_⟩
  rw [World.cell?_alloc_at _ _ _ _ rfl, World.cell?_alloc_at _ _ _ _ rfl]
  match i, hi with
  | 0, _ => exact ⟨rfl, rfl⟩
  | 1, _ => exact ⟨rfl, rfl⟩
  | 2, _ => exact ⟨rfl, rfl⟩
  | 3, _ => exact ⟨rfl, rfl⟩
  | 4, _ => exact ⟨rfl, rfl⟩

set_option maxRecDepth 100000 in
set_option maxHeartbeats 400000 in
theorem pack_no (e : En) (w : World) (h1 : rt e = false) :
    Calls Tryz.prog 99 #[eV e] w fun x w' => x = .returned (wtwo 0 11) ∧ Below w.heap.size w w' := by
  obtain ⟨p, r, l, f⟩ := e
  have H1 := hid h1
  clear h1
  show Calls Tryz.prog 99 #[.agg #[.bool p, .int .i64 r, .bool l, .int .i64 f]] w _
  go_enter Tryz.func99, Tryz.ntmps99
  go_wp2_with fail
  refine (bl_at (right_at ⟨p, r, l, f⟩ _) H1.out).mono ?_
  rintro x w1 ⟨rfl, hB⟩
  have HB := hid (bgo (below_one w _) hB)
  clear hB
  (try simp only [])
  go_wp2
  go_ret2
  exact ⟨rfl, HB.out⟩

abbrev S4 (g : Nat) (p : Bool) (r : Int) (l : Bool) (f : Int) (w : World) : Prop := w.cell? ⟨g, 0, none⟩ = some (.bool p) ∧ w.cell? ⟨g, 1, none⟩ = some (.int .i64 r) ∧ w.cell? ⟨g, 2, none⟩ = some (.bool l) ∧ w.cell? ⟨g, 3, none⟩ = some (.int .i64 f)
theorem S4.of {g : Nat} {p : Bool} {r : Int} {l : Bool} {f : Int} {w : World} {t : TypeId} (h : w.heap[g]? = some (.cells #[.bool p, .int .i64 r, .bool l, .int .i64 f] t (0, 0))) : S4 g p r l f w :=
  ⟨cell_of h rfl, cell_of h rfl, cell_of h rfl, cell_of h rfl⟩

set_option maxRecDepth 100000 in
set_option maxHeartbeats 1000000 in
theorem pack_yes (p : Bool) (r : Nat) (l : Bool) (f : Nat) (w : World) (h1 : rt ⟨p, r, l, f⟩ = true) (hr : r < 8) (hf : f < 4096) :
    Calls Tryz.prog 99 #[.agg #[.bool p, .int .i64 r, .bool l, .int .i64 f]] w fun x w' => x = .returned (wtwo (wd ⟨p, r, l, f⟩) 0) ∧ Below w.heap.size w w' := by
  have H1 := hid h1
  have HP := hid (pack5 (bI p) r (bI l) f (bI_lt p) hr (bI_lt l) hf)
  have HV : Hid (∀ q ∈ [((bI p : Int), (1 : Int)), (r, 3), (bI l, 1), (0, 7), (f, 12)], 0 ≤ q.1) := hid (by simp)
  have er : IntKind.u64.wrap (r : Int) = r := by rw [IntKind.wrap_u64]; omega
  have ef : IntKind.u64.wrap (f : Int) = f := by rw [IntKind.wrap_u64]; omega
  have lr : (r : Int) ≤ 7 := by omega
  have lf : (f : Int) ≤ 4095 := by omega
  clear h1 hr hf
  go_enter Tryz.func99, Tryz.ntmps99
  go_wp2_with fail
  refine (bl_at (right_at ⟨p, r, l, f⟩ _) H1.out).mono ?_
  rintro x w1 ⟨rfl, hB⟩
  have A0 := hid (stay hB (heap_alloc_new _ _))
  have HB := hid (bgo (below_one w _) hB)
  clear hB
  (try simp only [])
  go_wp2_with fail
  have HA := hid (fun (o : Obj) => S4.of (w := (w1.alloc o).drew) (stay (below_one w1 o).drew A0.out))
  have hS0 := S4.of (w := w1.drew) (stay (Below.refl _ _).drew A0.out)
  have HH := hid (fun o (ho : o = .cells #[.int .u64 (bI p), .int .i64 1, .int .u64 r, .int .i64 3, .int .u64 (bI l), .int .i64 1, .int .u64 0, .int .i64 7, .int .u64 f, .int .i64 12] 201) =>
    (pack_some w1.heap.size 0 5 5 [(bI p, 1), (r, 3), (bI l, 1), (0, 7), (f, 12)] HV.out (w1.alloc o).drew (by unfold maxLen; decide) (by rw [ho]; exact (parts5 w1 _ _ _ _ _))).mono (R' := fun e w'' => e = .returned (.int .u64 (wd ⟨p, r, l, f⟩)) ∧ Hid (Below w.heap.size w w'') ∧ S4 w.heap.size p r l f w'')
      (fun _ _ ⟨he, K⟩ => ⟨he.trans (ret_int HP.out), hid (bgo (HB.out.alloc HB.out.size _).drew K), S4.of (stay K (stay (below_one w1 o).drew A0.out))⟩))
  simp only [S4] at hS0 HA HH
  clear A0 HP HV
  go_region_held3 (fun w' => w'.cell? ⟨w.heap.size, 0, none⟩ = some (.bool p) ∧ w'.cell? ⟨w.heap.size, 1, none⟩ = some (.int .i64 r) ∧ w'.cell? ⟨w.heap.size, 2, none⟩ = some (.bool l) ∧ w'.cell? ⟨w.heap.size, 3, none⟩ = some (.int .i64 f)) (first | with_reducible exact hS0 | with_reducible exact HA.out _ | with_reducible assumption)
    (first
      | (go_at_call 139; refine (bit_of _ _).mono ?_; rintro e v' ⟨rfl, hw'⟩; rw [hw']; clear hw' v')
      | (go_at_call 138; refine (HH.out _ rfl).mono ?_; rintro e v' ⟨rfl, hm', hs'⟩))
  go_wp2
  go_ret2
  exact ⟨rfl, hm'.out⟩

theorem pack_at (e : En) (w : World) :
    Calls Tryz.prog 99 #[eV e] w fun x w' => x = .returned (wtwo (pk e) (pkE e)) ∧ Below w.heap.size w w' := by
  cases h1 : rt e
  · rw [show pk e = 0 by simp [pk, h1], show pkE e = 11 by simp [pkE, h1]]
    exact pack_no e w h1
  · rw [show pk e = wd e by simp [pk, h1], show pkE e = 0 by simp [pkE, h1]]
    obtain ⟨g1, g2, g3, g4⟩ := rt_in h1
    obtain ⟨p, r, l, f⟩ := e
    simp only at g1 g2 g3 g4
    obtain ⟨r, rfl⟩ := Int.eq_ofNat_of_zero_le g1
    obtain ⟨f, rfl⟩ := Int.eq_ofNat_of_zero_le g3
    exact pack_yes p r l f w h1 (by omega) (by omega)

set_option maxRecDepth 100000 in
set_option maxHeartbeats 400000 in
theorem rpack_no (e : En) (w : World) (h1 : rt e = false) :
    Calls Tryz.prog 117 #[eV e] w fun x w' => x = .returned (wtwo 0 11) ∧ Below w.heap.size w w' := by
  obtain ⟨p, r, l, f⟩ := e
  have H1 := hid h1
  clear h1
  show Calls Tryz.prog 117 #[.agg #[.bool p, .int .i64 r, .bool l, .int .i64 f]] w _
  go_enter Tryz.func117, Tryz.ntmps117
  go_wp2_with fail
  refine (bl_at (rright_at ⟨p, r, l, f⟩ _) H1.out).mono ?_
  rintro x w1 ⟨rfl, hB⟩
  have HB := hid (bgo (below_one w _) hB)
  clear hB
  (try simp only [])
  go_wp2
  go_ret2
  exact ⟨rfl, HB.out⟩

set_option maxRecDepth 100000 in
set_option maxHeartbeats 400000 in
theorem rpack_yes (p : Bool) (r : Nat) (l : Bool) (f : Nat) (w : World) (h1 : rt ⟨p, r, l, f⟩ = true) (hr : r < 8) (hf : f < 4096) :
    Calls Tryz.prog 117 #[.agg #[.bool p, .int .i64 r, .bool l, .int .i64 f]] w fun x w' => x = .returned (wtwo (wd ⟨p, r, l, f⟩) 0) ∧ Below w.heap.size w w' := by
  have H1 := hid h1
  have er : IntKind.u64.wrap (r : Int) = r := by rw [IntKind.wrap_u64]; omega
  have ef : IntKind.u64.wrap (f : Int) = f := by rw [IntKind.wrap_u64]; omega
  have lr : (r : Int) ≤ 7 := by omega
  have lf : (f : Int) ≤ 4095 := by omega
  clear h1
  cases p <;> cases l
  · go_enter Tryz.func117, Tryz.ntmps117
    go_wp2_with fail
    refine (bl_at (rright_at ⟨false, r, false, f⟩ _) H1.out).mono ?_
    rintro x w1 ⟨rfl, hB⟩
    have a0 := stay hB (heap_alloc_new _ _)
    have HB := hid (bgo (below_one w _) hB)
    obtain ⟨p00, p01, p02, p03, -, -, -, -⟩ := four a0
    clear hB a0
    (try simp only [])
    go_wp2
    go_ret2
    refine ⟨ret_wtwo ?_, HB.out⟩
    first
      | (simp [wd, bI]; done)
      | (simp [wd, bI]; omega)
  · go_enter Tryz.func117, Tryz.ntmps117
    go_wp2_with fail
    refine (bl_at (rright_at ⟨false, r, true, f⟩ _) H1.out).mono ?_
    rintro x w1 ⟨rfl, hB⟩
    have a0 := stay hB (heap_alloc_new _ _)
    have HB := hid (bgo (below_one w _) hB)
    obtain ⟨p00, p01, p02, p03, -, -, -, -⟩ := four a0
    clear hB a0
    (try simp only [])
    go_wp2
    go_ret2
    refine ⟨ret_wtwo ?_, HB.out⟩
    first
      | (simp [wd, bI]; done)
      | (simp [wd, bI]; omega)
  · go_enter Tryz.func117, Tryz.ntmps117
    go_wp2_with fail
    refine (bl_at (rright_at ⟨true, r, false, f⟩ _) H1.out).mono ?_
    rintro x w1 ⟨rfl, hB⟩
    have a0 := stay hB (heap_alloc_new _ _)
    have HB := hid (bgo (below_one w _) hB)
    obtain ⟨p00, p01, p02, p03, -, -, -, -⟩ := four a0
    clear hB a0
    (try simp only [])
    go_wp2
    go_ret2
    refine ⟨ret_wtwo ?_, HB.out⟩
    first
      | (simp [wd, bI]; done)
      | (simp [wd, bI]; omega)
  · go_enter Tryz.func117, Tryz.ntmps117
    go_wp2_with fail
    refine (bl_at (rright_at ⟨true, r, true, f⟩ _) H1.out).mono ?_
    rintro x w1 ⟨rfl, hB⟩
    have a0 := stay hB (heap_alloc_new _ _)
    have HB := hid (bgo (below_one w _) hB)
    obtain ⟨p00, p01, p02, p03, -, -, -, -⟩ := four a0
    clear hB a0
    (try simp only [])
    go_wp2
    go_ret2
    refine ⟨ret_wtwo ?_, HB.out⟩
    first
      | (simp [wd, bI]; done)
      | (simp [wd, bI]; omega)

theorem rpack_at (e : En) (w : World) :
    Calls Tryz.prog 117 #[eV e] w fun x w' => x = .returned (wtwo (pk e) (pkE e)) ∧ Below w.heap.size w w' := by
  cases h1 : rt e
  · rw [show pk e = 0 by simp [pk, h1], show pkE e = 11 by simp [pkE, h1]]
    exact rpack_no e w h1
  · rw [show pk e = wd e by simp [pk, h1], show pkE e = 0 by simp [pkE, h1]]
    obtain ⟨g1, g2, g3, g4⟩ := rt_in h1
    obtain ⟨p, r, l, f⟩ := e
    simp only at g1 g2 g3 g4
    obtain ⟨r, rfl⟩ := Int.eq_ofNat_of_zero_le g1
    obtain ⟨f, rfl⟩ := Int.eq_ofNat_of_zero_le g3
    exact rpack_yes p r l f w h1 (by omega) (by omega)
end Go.Proofs.YtpfmmlbakbhklaaGreatDoor.P
namespace Go.Proofs.YtpfmmlbakbhklaaGreatDoor.P
open Go.RowKit

def zd : En := ⟨false, 0, false, 0⟩
/-- What stands in the fields of a word. -/
def rd (x : Nat) : En := ⟨((x % 2 : Nat) : Int) == 1, (x / 2 % 8 : Nat), ((x / 16 % 2 : Nat) : Int) == 1, (x / 4096 % 4096 : Nat)⟩
def ptwo (d : En) (b : Bool) : Value := .tuple #[eV d, .bool b]
def prY (x : Nat) : Bool := rt (rd x) && (wd (rd x) == x)
def prD (x : Nat) : En := if prY x = true then rd x else zd

theorem row_new5 (k : IntKind) (w : World) (t : TypeId) (a b c d e : Int) : Row k (w.alloc (.cells #[.int k a, .int k b, .int k c, .int k d, .int k e] t)) (.slice (some ⟨w.heap.size, 0, none⟩) 5 5) [a, b, c, d, e] := by
  refine ⟨by unfold maxLen; simp, _, _, rfl, fun _ => ⟨w.heap.size, 0, rfl, by simp, fun i hi => ?_⟩⟩
  rw [World.cell?_alloc_at _ _ _ _ rfl]
  match i, hi with
  | 0, _ => rfl
  | 1, _ => rfl
  | 2, _ => rfl
  | 3, _ => rfl
  | 4, _ => rfl
theorem fGet_yes (x : Nat) (l s : Int) (h : isF l s = true) : fGet x l s = M.gt x l.toNat s.toNat := by simp [fGet, h]
theorem split5 (x : Nat) : splitTo x 0 [1, 3, 1, 7, 12] = some [x % 2, x / 2 % 8, x / 16 % 2, x / 32 % 128, x / 4096 % 4096] := by
  rw [splitTo_yes _ _ _ _ (by show isF 0 1 = true; decide), splitTo_yes _ _ _ _ (by show isF 1 3 = true; decide), splitTo_yes _ _ _ _ (by show isF 4 1 = true; decide), splitTo_yes _ _ _ _ (by show isF 5 7 = true; decide), splitTo_yes _ _ _ _ (by show isF 12 12 = true; decide)]
  rw [fGet_yes _ _ _ (by show isF 0 1 = true; decide), fGet_yes _ _ _ (by show isF 1 3 = true; decide), fGet_yes _ _ _ (by show isF 4 1 = true; decide), fGet_yes _ _ _ (by show isF 5 7 = true; decide), fGet_yes _ _ _ (by show isF 12 12 = true; decide)]
  simp [splitTo, M.gt]

theorem split_row (x : Nat) (hx : x < 18446744073709551616) (v : Value) (w : World) (h : Row .i64 w v [1, 3, 1, 7, 12]) :
    Calls Tryz.prog 157 #[.int .u64 x, v] w fun e w' => ∃ b off cap, e = .returned (.slice (some ⟨b, off, none⟩) 5 cap) ∧
      (w'.cell? ⟨b, off, none⟩ = some (.int .u64 (x % 2 : Nat)) ∧ w'.cell? ⟨b, off + 1, none⟩ = some (.int .u64 (x / 2 % 8 : Nat)) ∧ w'.cell? ⟨b, off + 2, none⟩ = some (.int .u64 (x / 16 % 2 : Nat)) ∧ w'.cell? ⟨b, off + 4, none⟩ = some (.int .u64 (x / 4096 % 4096 : Nat))) ∧ Below w.heap.size w w' :=
  (split_any x (by omega) (by omega) v [1, 3, 1, 7, 12] w h).mono fun e w' ⟨u, he, hr, hb⟩ => by
    rw [Int.toNat_natCast, split5] at hr
    obtain ⟨b, off, cap, hv, _, hc⟩ := (Row.of_owns (k := .u64) (xs := [x % 2, x / 2 % 8, x / 16 % 2, x / 32 % 128, x / 4096 % 4096]) hr (by unfold maxLen; simp)).some' (by simp)
    exact ⟨b, off, cap, by rw [he, hv]; rfl, ⟨hc 0 (by simp), hc 1 (by simp), hc 2 (by simp), hc 4 (by simp)⟩, hb⟩

set_option maxRecDepth 100000 in
set_option maxHeartbeats 400000 in
theorem read_at (x : Nat) (hx : x < 18446744073709551616) (w : World) :
    Calls Tryz.prog 119 #[.int .u64 x] w fun e w' => e = .returned (eV (rd x)) ∧ Below w.heap.size w w' := by
  have HX := hid hx
  clear hx
  have hR : Row .i64 ((w.alloc (.cells #[.bool false, .int .i64 0, .bool false, .int .i64 0] 95)).alloc (.cells #[.int .i64 1, .int .i64 3, .int .i64 1, .int .i64 7, .int .i64 12] 3)) (.slice (some ⟨w.heap.size + 1, 0, none⟩) 5 5) [1, 3, 1, 7, 12] := by
    have := row_new5 .i64 (w.alloc (.cells #[.bool false, .int .i64 0, .bool false, .int .i64 0] 95)) 3 1 3 1 7 12
    rw [World.size_alloc] at this
    exact this
  go_enter Tryz.func119, Tryz.ntmps119
  go_wp2_with fail
  refine (split_row x HX.out _ _ hR).mono ?_
  rintro e w1 ⟨b, off, cap, rfl, ⟨c0, c1, c2, c4⟩, hB⟩
  have a0 := stay hB (two_new w _ _).1
  have HB := hid (bgo (btwo w _ _) hB)
  obtain ⟨p00, p01, p02, p03, q00, q01, q02, q03⟩ := four a0
  have A0 := hid a0
  clear hB a0
  have l0 : x % 2 < 2 := Nat.mod_lt _ (by decide)
  have l1 : x / 2 % 8 < 8 := Nat.mod_lt _ (by decide)
  have l2 : x / 16 % 2 < 2 := Nat.mod_lt _ (by decide)
  have l3 : x / 4096 % 4096 < 4096 := Nat.mod_lt _ (by decide)
  obtain ⟨a, ha⟩ : ∃ k, x % 2 = k := ⟨_, rfl⟩
  obtain ⟨r, hr⟩ : ∃ k, x / 2 % 8 = k := ⟨_, rfl⟩
  obtain ⟨c, hc⟩ : ∃ k, x / 16 % 2 = k := ⟨_, rfl⟩
  obtain ⟨f, hf⟩ : ∃ k, x / 4096 % 4096 = k := ⟨_, rfl⟩
  obtain ⟨p, hp⟩ : ∃ k, ((a : Int) == 1) = k := ⟨_, rfl⟩
  obtain ⟨l, hl⟩ : ∃ k, ((c : Int) == 1) = k := ⟨_, rfl⟩
  have HD := hid (show rd x = ⟨p, r, l, f⟩ by unfold rd; rw [ha, hr, hc, hf, hp, hl])
  rw [ha] at c0 l0
  rw [hr] at c1 l1
  rw [hc] at c2 l2
  rw [hf] at c4 l3
  have er : IntKind.i64.wrap (r : Int) = r := by rw [IntKind.wrap_i64]; omega
  have ef : IntKind.i64.wrap (f : Int) = f := by rw [IntKind.wrap_i64]; omega
  clear ha hr hc hf HX hR
  (try simp only [])
  go_wp2_with fail
  go_region
  go_wp2
  (try simp only [Exit.inBlock, Exit.then])
  refine bodyPost_ret (results_cell_row rfl _ _ w.heap.size 95 _ (0, 0) _ rfl (show _ from put4 A0.out _ _ _ _) Tryz.underlying95 rfl size95) rfl ?_
  refine ⟨?_, (bput HB.out (Nat.le_refl _) _ _ _ _).drew⟩
  rw [HD.out]
  rfl

set_option maxRecDepth 100000 in
set_option maxHeartbeats 1000000 in
theorem parse_bad (x : Nat) (hx : x < 18446744073709551616) (p : Bool) (r : Int) (l : Bool) (f : Int) (w : World) (hD : rd x = ⟨p, r, l, f⟩) (h1 : rt ⟨p, r, l, f⟩ = false) :
    Calls Tryz.prog 89 #[.int .u64 x] w fun v w' => v = .returned (ptwo zd false) ∧ Below w.heap.size w w' := by
  have HX := hid hx
  have HD := hid hD
  have H1 := hid h1
  clear hx hD h1
  go_enter Tryz.func89, Tryz.ntmps89
  go_wp2_with fail
  refine (read_at x HX.out _).mono ?_
  rintro v w1 ⟨rfl, hB⟩
  rw [HD.out]
  unfold eV
  have a0 := stay hB (heap_alloc_new _ _)
  have HB0 := hid (bgo (below_one w _) hB)
  have l0 := lt_of_block a0
  have A00 := hid a0
  clear hB a0
  (try simp only [])
  go_wp2_with fail
  refine (pack_at ⟨p, r, l, f⟩ _).mono ?_
  rintro v w2 ⟨rfl, hB⟩
  have a0 := stay hB (hkeep A00.out _)
  have a1 := stay hB (heap_alloc_new _ _)
  have HB := hid (bgo (HB0.out.alloc HB0.out.size _) hB)
  clear hB l0 A00
  rw [show pk ⟨p, r, l, f⟩ = 0 by simp [pk, H1.out], show pkE ⟨p, r, l, f⟩ = 11 by simp [pkE, H1.out]]
  unfold wtwo
  obtain ⟨p00, p01, p02, p03, q00, q01, q02, q03⟩ := four a0
  have A0 := hid a0
  clear a0
  obtain ⟨p10, p11, p12, p13, q10, q11, q12, q13⟩ := four a1
  have A1 := hid a1
  clear a1
  (try simp only [])
  go_wp2
  (try simp only [Exit.inBlock, Exit.then])
  refine bodyPost_ret (results_row_tmp rfl _ _ w.heap.size _ rfl (run_loadVar_row _ _ 95 95 _ (0, 0) _ (put4 A0.out _ _ _ _) Tryz.underlying95 rfl size95)) rfl ?_
  exact ⟨rfl, bput HB.out (Nat.le_refl _) _ _ _ _⟩

set_option maxRecDepth 100000 in
set_option maxHeartbeats 1000000 in
theorem parse_odd (x : Nat) (hx : x < 18446744073709551616) (p : Bool) (r : Int) (l : Bool) (f : Int) (w : World) (hD : rd x = ⟨p, r, l, f⟩) (h1 : rt ⟨p, r, l, f⟩ = true) (W : Int) (hW : wd ⟨p, r, l, f⟩ = W) (h2 : (W != (x : Int)) = true) :
    Calls Tryz.prog 89 #[.int .u64 x] w fun v w' => v = .returned (ptwo zd false) ∧ Below w.heap.size w w' := by
  have HX := hid hx
  have HD := hid hD
  have H1 := hid h1
  have HW := hid hW
  clear hW
  clear hx hD h1
  go_enter Tryz.func89, Tryz.ntmps89
  go_wp2_with fail
  refine (read_at x HX.out _).mono ?_
  rintro v w1 ⟨rfl, hB⟩
  rw [HD.out]
  unfold eV
  have a0 := stay hB (heap_alloc_new _ _)
  have HB0 := hid (bgo (below_one w _) hB)
  have l0 := lt_of_block a0
  have A00 := hid a0
  clear hB a0
  (try simp only [])
  go_wp2_with fail
  refine (pack_at ⟨p, r, l, f⟩ _).mono ?_
  rintro v w2 ⟨rfl, hB⟩
  have a0 := stay hB (hkeep A00.out _)
  have a1 := stay hB (heap_alloc_new _ _)
  have HB := hid (bgo (HB0.out.alloc HB0.out.size _) hB)
  clear hB l0 A00
  rw [show pk ⟨p, r, l, f⟩ = W by simp [pk, H1.out, HW.out], show pkE ⟨p, r, l, f⟩ = 0 by simp [pkE, H1.out]]
  unfold wtwo
  obtain ⟨p00, p01, p02, p03, q00, q01, q02, q03⟩ := four a0
  have A0 := hid a0
  clear a0
  obtain ⟨p10, p11, p12, p13, q10, q11, q12, q13⟩ := four a1
  have A1 := hid a1
  clear a1
  (try simp only [])
  go_wp2
  (try simp only [Exit.inBlock, Exit.then])
  refine bodyPost_ret (results_row_tmp rfl _ _ w.heap.size _ rfl (run_loadVar_row _ _ 95 95 _ (0, 0) _ (put4 A0.out _ _ _ _) Tryz.underlying95 rfl size95)) rfl ?_
  exact ⟨rfl, bput HB.out (Nat.le_refl _) _ _ _ _⟩

set_option maxRecDepth 100000 in
set_option maxHeartbeats 1000000 in
theorem parse_ok (x : Nat) (hx : x < 18446744073709551616) (p : Bool) (r : Int) (l : Bool) (f : Int) (w : World) (hD : rd x = ⟨p, r, l, f⟩) (h1 : rt ⟨p, r, l, f⟩ = true) (W : Int) (hW : wd ⟨p, r, l, f⟩ = W) (h2 : (W != (x : Int)) = false) :
    Calls Tryz.prog 89 #[.int .u64 x] w fun v w' => v = .returned (ptwo ⟨p, r, l, f⟩ true) ∧ Below w.heap.size w w' := by
  have HX := hid hx
  have HD := hid hD
  have H1 := hid h1
  have HW := hid hW
  clear hW
  clear hx hD h1
  go_enter Tryz.func89, Tryz.ntmps89
  go_wp2_with fail
  refine (read_at x HX.out _).mono ?_
  rintro v w1 ⟨rfl, hB⟩
  rw [HD.out]
  unfold eV
  have a0 := stay hB (heap_alloc_new _ _)
  have HB0 := hid (bgo (below_one w _) hB)
  have l0 := lt_of_block a0
  have A00 := hid a0
  clear hB a0
  (try simp only [])
  go_wp2_with fail
  refine (pack_at ⟨p, r, l, f⟩ _).mono ?_
  rintro v w2 ⟨rfl, hB⟩
  have a0 := stay hB (hkeep A00.out _)
  have a1 := stay hB (heap_alloc_new _ _)
  have HB := hid (bgo (HB0.out.alloc HB0.out.size _) hB)
  clear hB l0 A00
  rw [show pk ⟨p, r, l, f⟩ = W by simp [pk, H1.out, HW.out], show pkE ⟨p, r, l, f⟩ = 0 by simp [pkE, H1.out]]
  unfold wtwo
  obtain ⟨p00, p01, p02, p03, q00, q01, q02, q03⟩ := four a0
  have A0 := hid a0
  clear a0
  obtain ⟨p10, p11, p12, p13, q10, q11, q12, q13⟩ := four a1
  have A1 := hid a1
  clear a1
  (try simp only [])
  go_wp2
  (try simp only [Exit.inBlock, Exit.then])
  refine bodyPost_ret (results_row_tmp rfl _ _ w.heap.size _ rfl (run_loadVar_row _ _ 95 95 _ (0, 0) _ (put4 A0.out _ _ _ _) Tryz.underlying95 rfl size95)) rfl ?_
  exact ⟨rfl, bput HB.out (Nat.le_refl _) _ _ _ _⟩

set_option maxRecDepth 100000 in
set_option maxHeartbeats 1000000 in
theorem rparse_bad (x : Nat) (hx : x < 18446744073709551616) (a r c f : Nat) (p l : Bool) (er : IntKind.i64.wrap (r : Int) = r) (ef : IntKind.i64.wrap (f : Int) = f) (hp : ((a : Int) == 1) = p) (hl : ((c : Int) == 1) = l) (w : World)
    (g1 : M.gt x 0 1 = a) (g2 : M.gt x 1 3 = r) (g3 : M.gt x 4 1 = c) (g4 : M.gt x 12 12 = f) (h1 : rt ⟨p, r, l, f⟩ = false) :
    Calls Tryz.prog 93 #[.int .u64 x] w fun v w' => v = .returned (ptwo zd false) ∧ Below w.heap.size w w' := by
  have HX := hid hx
  have H1 := hid h1
  have G1 := hid g1
  have G2 := hid g2
  have G3 := hid g3
  have G4 := hid g4
  clear hx h1 g1 g2 g3 g4
  go_enter Tryz.func93, Tryz.ntmps93
  go_wp2_with fail
  refine (rget_yes x 0 1 _ HX.out (by decide) (by decide)).mono ?_
  rintro v w1 ⟨rfl, hw'⟩; rw [hw', G1.out]; clear hw' w1
  go_wp2_with fail
  refine (rget_yes x 1 3 _ HX.out (by decide) (by decide)).mono ?_
  rintro v w1 ⟨rfl, hw'⟩; rw [hw', G2.out]; clear hw' w1
  go_wp2_with fail
  refine (rget_yes x 4 1 _ HX.out (by decide) (by decide)).mono ?_
  rintro v w1 ⟨rfl, hw'⟩; rw [hw', G3.out]; clear hw' w1
  go_wp2_with fail
  refine (rget_yes x 12 12 _ HX.out (by decide) (by decide)).mono ?_
  rintro v w1 ⟨rfl, hw'⟩; rw [hw', G4.out]; clear hw' w1
  go_wp2_with fail
  refine (rpack_at ⟨p, r, l, f⟩ _).mono ?_
  rintro v w2 ⟨rfl, hB⟩
  have a0 := stay hB (two_new w _ _).1
  have a1 := stay hB (two_new w _ _).2
  have HB := hid (bgo (btwo w _ _) hB)
  clear hB
  rw [show pk ⟨p, r, l, f⟩ = 0 by simp [pk, H1.out], show pkE ⟨p, r, l, f⟩ = 11 by simp [pkE, H1.out]]
  unfold wtwo
  obtain ⟨p00, p01, p02, p03, q00, q01, q02, q03⟩ := four a0
  have A0 := hid a0
  clear a0
  obtain ⟨p10, p11, p12, p13, q10, q11, q12, q13⟩ := four a1
  have A1 := hid a1
  clear a1
  (try simp only [])
  go_wp2
  (try simp only [Exit.inBlock, Exit.then])
  refine bodyPost_ret (results_row_tmp rfl _ _ w.heap.size _ rfl (run_loadVar_row _ _ 102 102 _ (0, 0) _ (put4 A0.out _ _ _ _) Tryz.underlying102 rfl size102)) rfl ?_
  exact ⟨rfl, bput HB.out (Nat.le_refl _) _ _ _ _⟩

set_option maxRecDepth 100000 in
set_option maxHeartbeats 1000000 in
theorem rparse_odd (x : Nat) (hx : x < 18446744073709551616) (a r c f : Nat) (p l : Bool) (er : IntKind.i64.wrap (r : Int) = r) (ef : IntKind.i64.wrap (f : Int) = f) (hp : ((a : Int) == 1) = p) (hl : ((c : Int) == 1) = l) (w : World)
    (g1 : M.gt x 0 1 = a) (g2 : M.gt x 1 3 = r) (g3 : M.gt x 4 1 = c) (g4 : M.gt x 12 12 = f) (h1 : rt ⟨p, r, l, f⟩ = true) (W : Int) (hW : wd ⟨p, r, l, f⟩ = W) (h2 : (W != (x : Int)) = true) :
    Calls Tryz.prog 93 #[.int .u64 x] w fun v w' => v = .returned (ptwo zd false) ∧ Below w.heap.size w w' := by
  have HX := hid hx
  have H1 := hid h1
  have G1 := hid g1
  have G2 := hid g2
  have G3 := hid g3
  have G4 := hid g4
  have HW := hid hW
  clear hW
  clear hx h1 g1 g2 g3 g4
  go_enter Tryz.func93, Tryz.ntmps93
  go_wp2_with fail
  refine (rget_yes x 0 1 _ HX.out (by decide) (by decide)).mono ?_
  rintro v w1 ⟨rfl, hw'⟩; rw [hw', G1.out]; clear hw' w1
  go_wp2_with fail
  refine (rget_yes x 1 3 _ HX.out (by decide) (by decide)).mono ?_
  rintro v w1 ⟨rfl, hw'⟩; rw [hw', G2.out]; clear hw' w1
  go_wp2_with fail
  refine (rget_yes x 4 1 _ HX.out (by decide) (by decide)).mono ?_
  rintro v w1 ⟨rfl, hw'⟩; rw [hw', G3.out]; clear hw' w1
  go_wp2_with fail
  refine (rget_yes x 12 12 _ HX.out (by decide) (by decide)).mono ?_
  rintro v w1 ⟨rfl, hw'⟩; rw [hw', G4.out]; clear hw' w1
  go_wp2_with fail
  refine (rpack_at ⟨p, r, l, f⟩ _).mono ?_
  rintro v w2 ⟨rfl, hB⟩
  have a0 := stay hB (two_new w _ _).1
  have a1 := stay hB (two_new w _ _).2
  have HB := hid (bgo (btwo w _ _) hB)
  clear hB
  rw [show pk ⟨p, r, l, f⟩ = W by simp [pk, H1.out, HW.out], show pkE ⟨p, r, l, f⟩ = 0 by simp [pkE, H1.out]]
  unfold wtwo
  obtain ⟨p00, p01, p02, p03, q00, q01, q02, q03⟩ := four a0
  have A0 := hid a0
  clear a0
  obtain ⟨p10, p11, p12, p13, q10, q11, q12, q13⟩ := four a1
  have A1 := hid a1
  clear a1
  (try simp only [])
  go_wp2
  (try simp only [Exit.inBlock, Exit.then])
  refine bodyPost_ret (results_row_tmp rfl _ _ w.heap.size _ rfl (run_loadVar_row _ _ 102 102 _ (0, 0) _ (put4 A0.out _ _ _ _) Tryz.underlying102 rfl size102)) rfl ?_
  exact ⟨rfl, bput HB.out (Nat.le_refl _) _ _ _ _⟩

set_option maxRecDepth 100000 in
set_option maxHeartbeats 1000000 in
theorem rparse_ok (x : Nat) (hx : x < 18446744073709551616) (a r c f : Nat) (p l : Bool) (er : IntKind.i64.wrap (r : Int) = r) (ef : IntKind.i64.wrap (f : Int) = f) (hp : ((a : Int) == 1) = p) (hl : ((c : Int) == 1) = l) (w : World)
    (g1 : M.gt x 0 1 = a) (g2 : M.gt x 1 3 = r) (g3 : M.gt x 4 1 = c) (g4 : M.gt x 12 12 = f) (h1 : rt ⟨p, r, l, f⟩ = true) (W : Int) (hW : wd ⟨p, r, l, f⟩ = W) (h2 : (W != (x : Int)) = false) :
    Calls Tryz.prog 93 #[.int .u64 x] w fun v w' => v = .returned (ptwo ⟨p, r, l, f⟩ true) ∧ Below w.heap.size w w' := by
  have HX := hid hx
  have H1 := hid h1
  have G1 := hid g1
  have G2 := hid g2
  have G3 := hid g3
  have G4 := hid g4
  have HW := hid hW
  clear hW
  clear hx h1 g1 g2 g3 g4
  go_enter Tryz.func93, Tryz.ntmps93
  go_wp2_with fail
  refine (rget_yes x 0 1 _ HX.out (by decide) (by decide)).mono ?_
  rintro v w1 ⟨rfl, hw'⟩; rw [hw', G1.out]; clear hw' w1
  go_wp2_with fail
  refine (rget_yes x 1 3 _ HX.out (by decide) (by decide)).mono ?_
  rintro v w1 ⟨rfl, hw'⟩; rw [hw', G2.out]; clear hw' w1
  go_wp2_with fail
  refine (rget_yes x 4 1 _ HX.out (by decide) (by decide)).mono ?_
  rintro v w1 ⟨rfl, hw'⟩; rw [hw', G3.out]; clear hw' w1
  go_wp2_with fail
  refine (rget_yes x 12 12 _ HX.out (by decide) (by decide)).mono ?_
  rintro v w1 ⟨rfl, hw'⟩; rw [hw', G4.out]; clear hw' w1
  go_wp2_with fail
  refine (rpack_at ⟨p, r, l, f⟩ _).mono ?_
  rintro v w2 ⟨rfl, hB⟩
  have a0 := stay hB (two_new w _ _).1
  have a1 := stay hB (two_new w _ _).2
  have HB := hid (bgo (btwo w _ _) hB)
  clear hB
  rw [show pk ⟨p, r, l, f⟩ = W by simp [pk, H1.out, HW.out], show pkE ⟨p, r, l, f⟩ = 0 by simp [pkE, H1.out]]
  unfold wtwo
  obtain ⟨p00, p01, p02, p03, q00, q01, q02, q03⟩ := four a0
  have A0 := hid a0
  clear a0
  obtain ⟨p10, p11, p12, p13, q10, q11, q12, q13⟩ := four a1
  have A1 := hid a1
  clear a1
  (try simp only [])
  go_wp2
  (try simp only [Exit.inBlock, Exit.then])
  refine bodyPost_ret (results_row_tmp rfl _ _ w.heap.size _ rfl (run_loadVar_row _ _ 102 102 _ (0, 0) _ (put4 A0.out _ _ _ _) Tryz.underlying102 rfl size102)) rfl ?_
  exact ⟨rfl, bput HB.out (Nat.le_refl _) _ _ _ _⟩

theorem prY_bad {x : Nat} {D : En} (h : rd x = D) (h1 : rt D = false) : prY x = false := by unfold prY; rw [h, h1]; rfl
theorem prY_odd {x : Nat} {D : En} (h : rd x = D) (h2 : (wd D != (x : Int)) = true) : prY x = false := by
  unfold prY; rw [h]
  have : (wd D == (x : Int)) = false := by simpa using h2
  rw [this, Bool.and_false]
theorem prY_ok {x : Nat} {D : En} (h : rd x = D) (h1 : rt D = true) (h2 : (wd D != (x : Int)) = false) : prY x = true := by
  unfold prY; rw [h, h1]
  have : (wd D == (x : Int)) = true := by simpa using h2
  rw [this]; rfl
theorem ptwo_eq {d d' : En} {b b' : Bool} (hd : d = d') (hb : b = b') : Ending.returned (ptwo d b) = .returned (ptwo d' b') := by rw [hd, hb]
theorem parse_at (x : Nat) (hx : x < 18446744073709551616) (w : World) :
    Calls Tryz.prog 89 #[.int .u64 x] w fun v w' => v = .returned (ptwo (prD x) (prY x)) ∧ Below w.heap.size w w' := by
  obtain ⟨D, hD⟩ : ∃ D, rd x = D := ⟨_, rfl⟩
  cases h1 : rt D
  · have e := prY_bad hD h1
    exact (parse_bad x hx D.p D.r D.l D.f w hD h1).mono fun v w' ⟨a, b⟩ => ⟨a.trans (ptwo_eq (by simp [prD, e]) e.symm), b⟩
  · cases h2 : (wd D != (x : Int))
    · have e := prY_ok hD h1 h2
      exact (parse_ok x hx D.p D.r D.l D.f w hD h1 _ rfl h2).mono fun v w' ⟨a, b⟩ => ⟨a.trans (ptwo_eq (by simp [prD, e, hD]) e.symm), b⟩
    · have e := prY_odd hD h2
      exact (parse_odd x hx D.p D.r D.l D.f w hD h1 _ rfl h2).mono fun v w' ⟨a, b⟩ => ⟨a.trans (ptwo_eq (by simp [prD, e]) e.symm), b⟩
theorem rparse_at (x : Nat) (hx : x < 18446744073709551616) (w : World) :
    Calls Tryz.prog 93 #[.int .u64 x] w fun v w' => v = .returned (ptwo (prD x) (prY x)) ∧ Below w.heap.size w w' := by
  obtain ⟨a, g1⟩ : ∃ k, M.gt x 0 1 = k := ⟨_, rfl⟩
  obtain ⟨r, g2⟩ : ∃ k, M.gt x 1 3 = k := ⟨_, rfl⟩
  obtain ⟨c, g3⟩ : ∃ k, M.gt x 4 1 = k := ⟨_, rfl⟩
  obtain ⟨f, g4⟩ : ∃ k, M.gt x 12 12 = k := ⟨_, rfl⟩
  have q1 : x % 2 = a := by rw [← g1]; simp [M.gt]
  have q2 : x / 2 % 8 = r := by rw [← g2]; simp [M.gt]
  have q3 : x / 16 % 2 = c := by rw [← g3]; simp [M.gt]
  have q4 : x / 4096 % 4096 = f := by rw [← g4]; simp [M.gt]
  obtain ⟨p, hp⟩ : ∃ k, ((a : Int) == 1) = k := ⟨_, rfl⟩
  obtain ⟨l, hl⟩ : ∃ k, ((c : Int) == 1) = k := ⟨_, rfl⟩
  have hD : rd x = ⟨p, r, l, f⟩ := by unfold rd; rw [q1, q2, q3, q4, hp, hl]
  have er : IntKind.i64.wrap (r : Int) = r := by rw [IntKind.wrap_i64]; omega
  have ef : IntKind.i64.wrap (f : Int) = f := by rw [IntKind.wrap_i64]; omega
  cases h1 : rt ⟨p, r, l, f⟩
  · have q := prY_bad hD h1
    exact (rparse_bad x hx a r c f p l er ef hp hl w g1 g2 g3 g4 h1).mono fun v w' ⟨a, b⟩ => ⟨a.trans (ptwo_eq (by simp [prD, q]) q.symm), b⟩
  · cases h2 : (wd ⟨p, r, l, f⟩ != (x : Int))
    · have q := prY_ok hD h1 h2
      exact (rparse_ok x hx a r c f p l er ef hp hl w g1 g2 g3 g4 h1 _ rfl h2).mono fun v w' ⟨a, b⟩ => ⟨a.trans (ptwo_eq (by simp [prD, q, hD]) q.symm), b⟩
    · have q := prY_odd hD h2
      exact (rparse_odd x hx a r c f p l er ef hp hl w g1 g2 g3 g4 h1 _ rfl h2).mono fun v w' ⟨a, b⟩ => ⟨a.trans (ptwo_eq (by simp [prD, q]) q.symm), b⟩
end Go.Proofs.YtpfmmlbakbhklaaGreatDoor.P
namespace Go.Proofs.YtpfmmlbakbhklaaGreatDoor.P
open Go.RowKit

def sp (v : Int) : Int := if v = 0 then 1 else if v = 1 then 16 else if v = 2 then 256 else if v = 3 then 4096 else 0
def ix (n v : Int) : Int := if btw n 0 65535 && btw v 0 3 then n / sp v % 16 else -1
def at' (f n v : Int) : Int := if decide (0 ≤ ix n v) && btw f 0 4095 then 16 * f + ix n v else -1
theorem lev {v : Int} (h : btw v 0 3 = true) : v = 0 ∨ v = 1 ∨ v = 2 ∨ v = 3 := by have := btw_yes.1 h; omega
theorem sp_no {v : Int} (h : btw v 0 3 = false) : sp v = 0 := by
  have := btw_no.1 h
  unfold sp
  repeat' split
  all_goals omega
theorem ix_no {n v : Int} (h : btw v 0 3 = false) : ix n v = -1 := by simp [ix, h]
theorem ix_far {n v : Int} (h : btw n 0 65535 = false) : ix n v = -1 := by simp [ix, h]
theorem ix_yes {n v : Int} (h : btw n 0 65535 = true) (h' : btw v 0 3 = true) : ix n v = n / sp v % 16 := by simp [ix, h, h']
theorem ix_lt (n v : Int) : -1 ≤ ix n v ∧ ix n v < 16 := by
  unfold ix
  split
  · omega
  · omega

set_option maxRecDepth 100000 in
set_option maxHeartbeats 400000 in
theorem span_at (v : Int) (w : World) : Calls Tryz.prog 85 #[.int .i64 v] w fun x w' => x = .returned (.int .i64 (sp v)) ∧ w' = w := by
  cases h : btw v 0 3
  · rw [sp_no h]
    have U1 := hid h
    clear h
    go_enter Tryz.func85, Tryz.ntmps85
    go_wp2_with fail
    refine (it_at (isLevel_at _ _) U1.out).mono ?_
    rintro v w1 ⟨rfl, hw⟩
    rw [hw]
    clear hw w1
    go_wp2
    go_ret
    exact ⟨rfl, rfl⟩
  · have U1 := hid h
    rcases lev h with rfl | rfl | rfl | rfl
    all_goals clear h
    · 
      go_enter Tryz.func85, Tryz.ntmps85
      go_wp2_with fail
      refine (it_at (isLevel_at _ _) U1.out).mono ?_
      rintro v w1 ⟨rfl, hw⟩
      rw [hw]
      clear hw w1
      go_wp2
      go_ret
      exact ⟨rfl, rfl⟩
    · 
      go_enter Tryz.func85, Tryz.ntmps85
      go_wp2_with fail
      refine (it_at (isLevel_at _ _) U1.out).mono ?_
      rintro v w1 ⟨rfl, hw⟩
      rw [hw]
      clear hw w1
      go_wp2
      go_ret
      exact ⟨rfl, rfl⟩
    · 
      go_enter Tryz.func85, Tryz.ntmps85
      go_wp2_with fail
      refine (it_at (isLevel_at _ _) U1.out).mono ?_
      rintro v w1 ⟨rfl, hw⟩
      rw [hw]
      clear hw w1
      go_wp2
      go_ret
      exact ⟨rfl, rfl⟩
    · 
      go_enter Tryz.func85, Tryz.ntmps85
      go_wp2_with fail
      refine (it_at (isLevel_at _ _) U1.out).mono ?_
      rintro v w1 ⟨rfl, hw⟩
      rw [hw]
      clear hw w1
      go_wp2
      go_ret
      exact ⟨rfl, rfl⟩

set_option maxRecDepth 100000 in
set_option maxHeartbeats 400000 in
theorem rspan_at (v : Int) (w : World) : Calls Tryz.prog 154 #[.int .i64 v] w fun x w' => x = .returned (.int .i64 (sp v)) ∧ Below w.heap.size w w' := by
  by_cases h1 : 0 ≤ v
  · by_cases h2 : v ≤ 3
    · rcases lev (btw_t h1 h2) with rfl | rfl | rfl | rfl
      · 
        go_enter Tryz.func154, Tryz.ntmps154
        go_wp2
        go_ret
        exact ⟨rfl, below_one _ _⟩
      · 
        go_enter Tryz.func154, Tryz.ntmps154
        go_wp2
        go_ret
        exact ⟨rfl, below_one _ _⟩
      · 
        go_enter Tryz.func154, Tryz.ntmps154
        go_wp2
        go_ret
        exact ⟨rfl, below_one _ _⟩
      · 
        go_enter Tryz.func154, Tryz.ntmps154
        go_wp2
        go_ret
        exact ⟨rfl, below_one _ _⟩
    · rw [sp_no (btw_f2 h2)]
      go_enter Tryz.func154, Tryz.ntmps154
      go_wp2
      go_ret
      exact ⟨rfl, bel0 _⟩
  · rw [sp_no (btw_f1 h1)]
    go_enter Tryz.func154, Tryz.ntmps154
    go_wp2
    go_ret
    exact ⟨rfl, bel0 _⟩

theorem n_at {fn : FuncId} {args : Array Value} {w : World} {b c : Int} (h : Calls Tryz.prog fn args w fun v w' => v = .returned (.int .i64 b) ∧ w' = w) (hb : b = c) :
    Calls Tryz.prog fn args w fun v w' => v = .returned (.int .i64 c) ∧ w' = w := by
  subst hb; exact h
theorem nb_at {fn : FuncId} {args : Array Value} {w : World} {b c : Int} (h : Calls Tryz.prog fn args w fun v w' => v = .returned (.int .i64 b) ∧ Below w.heap.size w w') (hb : b = c) :
    Calls Tryz.prog fn args w fun v w' => v = .returned (.int .i64 c) ∧ Below w.heap.size w w' := by
  subst hb; exact h

set_option maxRecDepth 100000 in
set_option maxHeartbeats 400000 in
theorem index_at (n v : Int) (w : World) : Calls Tryz.prog 145 #[.int .i64 n, .int .i64 v] w fun x w' => x = .returned (.int .i64 (ix n v)) ∧ w' = w := by
  cases h0 : btw n 0 65535
  · rw [ix_far h0]
    have U0 := hid h0
    clear h0
    go_enter Tryz.func145, Tryz.ntmps145
    go_wp2_with fail
    refine (it_at (isPage_at _ _) U0.out).mono ?_
    rintro v w1 ⟨rfl, hw⟩
    rw [hw]
    clear hw w1
    go_wp2
    go_ret
    exact ⟨rfl, rfl⟩
  · cases h : btw v 0 3
    · rw [ix_no h]
      have U0 := hid h0
      have U1 := hid h
      clear h h0
      go_enter Tryz.func145, Tryz.ntmps145
      go_wp2_with fail
      refine (it_at (isPage_at _ _) U0.out).mono ?_
      rintro v w1 ⟨rfl, hw⟩
      rw [hw]
      clear hw w1
      go_wp2_with fail
      refine (it_at (isLevel_at _ _) U1.out).mono ?_
      rintro v w1 ⟨rfl, hw⟩
      rw [hw]
      clear hw w1
      go_wp2
      go_ret
      exact ⟨rfl, rfl⟩
    · rw [ix_yes h0 h]
      have U0 := hid h0
      have U1 := hid h
      obtain ⟨k1, k2⟩ := btw_yes.1 h0
      rcases lev h with rfl | rfl | rfl | rfl
      all_goals clear h h0
      · 
        go_enter Tryz.func145, Tryz.ntmps145
        go_wp2_with fail
        refine (it_at (isPage_at _ _) U0.out).mono ?_
        rintro v w1 ⟨rfl, hw⟩
        rw [hw]
        clear hw w1
        go_wp2_with fail
        refine (it_at (isLevel_at _ _) U1.out).mono ?_
        rintro v w1 ⟨rfl, hw⟩
        rw [hw]
        clear hw w1
        go_wp2
        go_ret
        exact ⟨ret_int (by simp [sp]), rfl⟩
      · 
        go_enter Tryz.func145, Tryz.ntmps145
        go_wp2_with fail
        refine (it_at (isPage_at _ _) U0.out).mono ?_
        rintro v w1 ⟨rfl, hw⟩
        rw [hw]
        clear hw w1
        go_wp2_with fail
        refine (it_at (isLevel_at _ _) U1.out).mono ?_
        rintro v w1 ⟨rfl, hw⟩
        rw [hw]
        clear hw w1
        go_wp2
        go_ret
        exact ⟨ret_int (by simp [sp]), rfl⟩
      · 
        go_enter Tryz.func145, Tryz.ntmps145
        go_wp2_with fail
        refine (it_at (isPage_at _ _) U0.out).mono ?_
        rintro v w1 ⟨rfl, hw⟩
        rw [hw]
        clear hw w1
        go_wp2_with fail
        refine (it_at (isLevel_at _ _) U1.out).mono ?_
        rintro v w1 ⟨rfl, hw⟩
        rw [hw]
        clear hw w1
        go_wp2
        go_ret
        exact ⟨ret_int (by simp [sp]), rfl⟩
      · 
        go_enter Tryz.func145, Tryz.ntmps145
        go_wp2_with fail
        refine (it_at (isPage_at _ _) U0.out).mono ?_
        rintro v w1 ⟨rfl, hw⟩
        rw [hw]
        clear hw w1
        go_wp2_with fail
        refine (it_at (isLevel_at _ _) U1.out).mono ?_
        rintro v w1 ⟨rfl, hw⟩
        rw [hw]
        clear hw w1
        go_wp2
        go_ret
        exact ⟨ret_int (by simp [sp]), rfl⟩

set_option maxRecDepth 100000 in
set_option maxHeartbeats 400000 in
theorem rindex_at (n v : Int) (w : World) : Calls Tryz.prog 115 #[.int .i64 n, .int .i64 v] w fun x w' => x = .returned (.int .i64 (ix n v)) ∧ Below w.heap.size w w' := by
  by_cases g1 : 0 ≤ n
  · by_cases g2 : n ≤ 65535
    · cases h : btw v 0 3
      · rw [ix_no h]
        have U1 := hid (sp_no h)
        clear h
        go_enter Tryz.func115, Tryz.ntmps115
        go_wp2_with fail
        refine (nb_at (rspan_at _ _) U1.out).mono ?_
        rintro v w1 ⟨rfl, hB⟩
        have HB1 := hid hB
        clear hB
        (try simp only [])
        go_wp2
        go_ret
        exact ⟨rfl, HB1.out⟩
      · rw [ix_yes (btw_t g1 g2) h]
        rcases lev h with rfl | rfl | rfl | rfl
        all_goals clear h
        · 
          go_enter Tryz.func115, Tryz.ntmps115
          go_wp2_with fail
          refine (nb_at (c := 1) (rspan_at 0 _) (by rfl)).mono ?_
          rintro v w1 ⟨rfl, hB⟩
          have HB1 := hid hB
          clear hB
          (try simp only [])
          go_wp2_with fail
          refine (nb_at (c := 1) (rspan_at 0 _) (by rfl)).mono ?_
          rintro v w2 ⟨rfl, hB⟩
          have HB := hid (bgo HB1.out hB)
          clear hB
          (try simp only [])
          go_wp2
          go_ret
          refine ⟨ret_int ?_, HB.out⟩
          simp [sp]
        · 
          go_enter Tryz.func115, Tryz.ntmps115
          go_wp2_with fail
          refine (nb_at (c := 16) (rspan_at 1 _) (by rfl)).mono ?_
          rintro v w1 ⟨rfl, hB⟩
          have HB1 := hid hB
          clear hB
          (try simp only [])
          go_wp2_with fail
          refine (nb_at (c := 16) (rspan_at 1 _) (by rfl)).mono ?_
          rintro v w2 ⟨rfl, hB⟩
          have HB := hid (bgo HB1.out hB)
          clear hB
          (try simp only [])
          go_wp2
          go_ret
          refine ⟨ret_int ?_, HB.out⟩
          simp [sp]
        · 
          go_enter Tryz.func115, Tryz.ntmps115
          go_wp2_with fail
          refine (nb_at (c := 256) (rspan_at 2 _) (by rfl)).mono ?_
          rintro v w1 ⟨rfl, hB⟩
          have HB1 := hid hB
          clear hB
          (try simp only [])
          go_wp2_with fail
          refine (nb_at (c := 256) (rspan_at 2 _) (by rfl)).mono ?_
          rintro v w2 ⟨rfl, hB⟩
          have HB := hid (bgo HB1.out hB)
          clear hB
          (try simp only [])
          go_wp2
          go_ret
          refine ⟨ret_int ?_, HB.out⟩
          simp [sp]
        · 
          go_enter Tryz.func115, Tryz.ntmps115
          go_wp2_with fail
          refine (nb_at (c := 4096) (rspan_at 3 _) (by rfl)).mono ?_
          rintro v w1 ⟨rfl, hB⟩
          have HB1 := hid hB
          clear hB
          (try simp only [])
          go_wp2_with fail
          refine (nb_at (c := 4096) (rspan_at 3 _) (by rfl)).mono ?_
          rintro v w2 ⟨rfl, hB⟩
          have HB := hid (bgo HB1.out hB)
          clear hB
          (try simp only [])
          go_wp2
          go_ret
          refine ⟨ret_int ?_, HB.out⟩
          simp [sp]
    · rw [ix_far (btw_f2 g2)]
      go_enter Tryz.func115, Tryz.ntmps115
      go_wp2
      go_ret
      exact ⟨rfl, bel0 _⟩
  · rw [ix_far (btw_f1 g1)]
    go_enter Tryz.func115, Tryz.ntmps115
    go_wp2
    go_ret
    exact ⟨rfl, bel0 _⟩

set_option maxRecDepth 100000 in
set_option maxHeartbeats 400000 in
theorem place_at (f n v : Int) (w : World) : Calls Tryz.prog 103 #[.int .i64 f, .int .i64 n, .int .i64 v] w fun x w' => x = .returned (.int .i64 (at' f n v)) ∧ w' = w := by
  have U1 := hid (fun w => index_at n v w)
  obtain ⟨k1, k2⟩ := ix_lt n v
  unfold at'
  generalize ix n v = i at *
  by_cases h1 : 0 ≤ i
  · rw [show decide (0 ≤ i) = true by simp [h1], Bool.true_and]
    cases h2 : btw f 0 4095
    · have U2 := hid h2
      clear h2
      go_enter Tryz.func103, Tryz.ntmps103
      go_wp2_with fail
      refine (U1.out _).mono ?_
      rintro v w1 ⟨rfl, hw⟩
      rw [hw]
      clear hw w1
      go_wp2_with fail
      refine (it_at (isFrame_at _ _) U2.out).mono ?_
      rintro v w1 ⟨rfl, hw⟩
      rw [hw]
      clear hw w1
      go_wp2
      go_ret
      exact ⟨rfl, rfl⟩
    · have U2 := hid h2
      obtain ⟨k3, k4⟩ := btw_yes.1 h2
      clear h2
      go_enter Tryz.func103, Tryz.ntmps103
      go_wp2_with fail
      refine (U1.out _).mono ?_
      rintro v w1 ⟨rfl, hw⟩
      rw [hw]
      clear hw w1
      go_wp2_with fail
      refine (it_at (isFrame_at _ _) U2.out).mono ?_
      rintro v w1 ⟨rfl, hw⟩
      rw [hw]
      clear hw w1
      go_wp2
      go_ret
      exact ⟨ret_int (by simp), rfl⟩
  · rw [show decide (0 ≤ i) = false by simp [h1]]
    go_enter Tryz.func103, Tryz.ntmps103
    go_wp2_with fail
    refine (U1.out _).mono ?_
    rintro v w1 ⟨rfl, hw⟩
    rw [hw]
    clear hw w1
    go_wp2
    go_ret
    exact ⟨rfl, rfl⟩


set_option maxRecDepth 100000 in
set_option maxHeartbeats 400000 in
theorem rplace_at (f n v : Int) (w : World) : Calls Tryz.prog 80 #[.int .i64 f, .int .i64 n, .int .i64 v] w fun x w' => x = .returned (.int .i64 (at' f n v)) ∧ Below w.heap.size w w' := by
  have U1 := hid (fun w => rindex_at n v w)
  obtain ⟨k1, k2⟩ := ix_lt n v
  unfold at'
  generalize ix n v = i at *
  by_cases h1 : 0 ≤ i
  · rw [show decide (0 ≤ i) = true by simp [h1], Bool.true_and]
    by_cases g1 : 0 ≤ f
    · by_cases g2 : f ≤ 4095
      · rw [btw_t g1 g2]
        go_enter Tryz.func80, Tryz.ntmps80
        go_wp2_with fail
        refine (U1.out _).mono ?_
        rintro v w1 ⟨rfl, hB⟩
        have HB1 := hid hB
        clear hB
        (try simp only [])
        go_wp2
        go_ret
        exact ⟨ret_int (by simp), HB1.out⟩
      · rw [btw_f2 g2]
        go_enter Tryz.func80, Tryz.ntmps80
        go_wp2_with fail
        refine (U1.out _).mono ?_
        rintro v w1 ⟨rfl, hB⟩
        have HB1 := hid hB
        clear hB
        (try simp only [])
        go_wp2
        go_ret
        exact ⟨rfl, HB1.out⟩
    · rw [btw_f1 g1]
      go_enter Tryz.func80, Tryz.ntmps80
      go_wp2_with fail
      refine (U1.out _).mono ?_
      rintro v w1 ⟨rfl, hB⟩
      have HB1 := hid hB
      clear hB
      (try simp only [])
      go_wp2
      go_ret
      exact ⟨rfl, HB1.out⟩
  · rw [show decide (0 ≤ i) = false by simp [h1]]
    go_enter Tryz.func80, Tryz.ntmps80
    go_wp2_with fail
    refine (U1.out _).mono ?_
    rintro v w1 ⟨rfl, hB⟩
    have HB1 := hid hB
    clear hB
    (try simp only [])
    go_wp2
    go_ret
    exact ⟨rfl, HB1.out⟩

end Go.Proofs.YtpfmmlbakbhklaaGreatDoor.P
