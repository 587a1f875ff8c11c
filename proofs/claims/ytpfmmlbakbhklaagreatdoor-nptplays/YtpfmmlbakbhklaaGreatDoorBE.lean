/- What Next and Ref return, the program's and the document's, for every descriptor and every number: the same functions; the world's old blocks are as they were. Condition: the package's two tables lie in their variables as the program's text lays them (for the program's calls). What Next returns, each way of five. Condition: the package's two tables lie in their variables. What the document's Next returns, each way of five. What Ref returns, the program's and the document's, each way. Condition: the package's two tables lie in their variables (for the program's). What Next and Ref return, the program's and the document's, for every descriptor and every number: the same functions; the world's old blocks are as they were. Condition: the package's two tables lie in their variables (for the program's calls). -/
import Derived.Test.YtpfmmlbakbhklaaGreatDoorBD
import Derived.Laws.ResultCell
namespace Go.Proofs.YtpfmmlbakbhklaaGreatDoor.O
open Go.RowKit

def zd : Ds := ⟨0, 0, 0, 0⟩
/-- What comes next, and the error. -/
def nxD (d : Ds) (k o : Int) : Ds := ⟨k, if k = 5 then d.o else o, 0, 0⟩
def nxE (d : Ds) (k o : Int) : Int := if rt d = true then (if d.r = 0 then (if way d.k k = true then (if rt (nxD d k o) = true then 0 else 1) else 6) else 9) else 11
def nx (d : Ds) (k o : Int) : Ds := if nxE d k o = 0 then nxD d k o else zd
def rfE (d : Ds) (b : Int) : Int := if rt d = true then (if 2 ≤ d.k ∧ d.k ≤ 4 then (if 0 ≤ d.r + b ∧ d.r + b ≤ 65535 then 0 else 2) else 6) else 11
def rf (d : Ds) (b : Int) : Ds := if rfE d b = 0 then ⟨d.k, d.o, d.r + b, d.e⟩ else zd
/-- Two results: a descriptor and an error. -/
def two (d : Ds) (e : Int) : Value := .tuple #[dV d, .int .i64 e]

abbrev dC (d : Ds) : Array Value := #[.int .i64 d.k, .int .i64 d.o, .int .i64 d.r, .int .i64 d.e]
theorem results_row_tmp {fn : Func} {p u : Tmp} {ty : TypeId} (h : fn.results = #[.cell p ty, .tmp u]) (tmps : Array Value) (w : World) (g : Nat) (cs : Array Value)
    (hp : tmps.getD p undef = .pointer (some ⟨g, 0, none⟩)) (hl : (loadVar ty ⟨g, 0, none⟩).run Tryz.prog w = .ok (.agg cs) w) :
    (results fn tmps).run Tryz.prog w = .ok (.tuple #[.agg cs, tmps.getD u undef]) w := by
  rw [results_cell_tmp h, hp]
  simp [asAddr, Result.andThen, hl]
theorem size64 : (Tryz.prog.info? 64).map (·.size) = some 4 := by kernel_rfl
theorem size91 : (Tryz.prog.info? 91).map (·.size) = some 4 := by kernel_rfl
theorem cell_of {w : World} {g i : Nat} {c : Array Value} {t : TypeId} {v : Value} (h : w.heap[g]? = some (.cells c t (0, 0))) (hv : c[i]? = some v) : w.cell? ⟨g, i, none⟩ = some v := by
  simp [World.cell?, h, hv]
theorem free_of {w : World} {g i : Nat} {c : Array Value} {t : TypeId} (h : w.heap[g]? = some (.cells c t (0, 0))) : w.frozen? ⟨g, i, none⟩ = false := by
  simp [World.frozen?, h]
theorem heap_setCell_self {w : World} {g i : Nat} {cs : Array Value} {t : TypeId} (h : w.heap[g]? = some (.cells cs t (0, 0))) (u : Value) :
    (w.setCell ⟨g, i, none⟩ u).heap[g]? = some (.cells (cs.setIfInBounds i u) t (0, 0)) := by
  have hlt := lt_of_block h
  have h' : w.heap[g] = .cells cs t (0, 0) := by simpa [Array.getElem?_eq_getElem hlt] using h
  show (w.heap.modify g _)[g]? = _
  rw [Array.getElem?_eq_getElem (by simpa using hlt), Array.getElem_modify_self, h']
  rfl
theorem hkeep {W : World} {g : Nat} {o : Obj} (h : W.heap[g]? = some o) (o' : Obj) : (W.alloc o').heap[g]? = some o := (Below.heap_alloc W o' g (lt_of_block h)).trans h
theorem two_new (w : World) (A B : Obj) : ((w.alloc A).alloc B).heap[w.heap.size]? = some A ∧ ((w.alloc A).alloc B).heap[w.heap.size + 1]? = some B := by
  refine ⟨hkeep (heap_alloc_new _ _) _, ?_⟩
  have := heap_alloc_new (w.alloc A) B
  simpa using this
theorem three_new (w : World) (A B C : Obj) : (((w.alloc A).alloc B).alloc C).heap[w.heap.size]? = some A ∧ (((w.alloc A).alloc B).alloc C).heap[w.heap.size + 1]? = some B ∧ (((w.alloc A).alloc B).alloc C).heap[w.heap.size + 1 + 1]? = some C := by
  obtain ⟨a, b⟩ := two_new w A B
  refine ⟨hkeep a _, hkeep b _, ?_⟩
  have := heap_alloc_new ((w.alloc A).alloc B) C
  simpa using this
theorem stay {A B : World} {g : Nat} {o : Obj} (h : Below A.heap.size A B) (a : A.heap[g]? = some o) : B.heap[g]? = some o := (h.block g (lt_of_block a)).trans a
/-- A block's four cells, free to be written. -/
theorem four {w : World} {g : Nat} {a b c d : Value} {t : TypeId} (h : w.heap[g]? = some (.cells #[a, b, c, d] t (0, 0))) :
    w.cell? ⟨g, 0, none⟩ = some a ∧ w.cell? ⟨g, 1, none⟩ = some b ∧ w.cell? ⟨g, 2, none⟩ = some c ∧ w.cell? ⟨g, 3, none⟩ = some d ∧
    w.frozen? ⟨g, 0, none⟩ = false ∧ w.frozen? ⟨g, 1, none⟩ = false ∧ w.frozen? ⟨g, 2, none⟩ = false ∧ w.frozen? ⟨g, 3, none⟩ = false :=
  ⟨cell_of h rfl, cell_of h rfl, cell_of h rfl, cell_of h rfl, free_of h, free_of h, free_of h, free_of h⟩
theorem put4 {w2 : World} {g : Nat} {x y z u : Value} {t : TypeId} (hg : w2.heap[g]? = some (.cells #[x, y, z, u] t (0, 0))) (x' y' z' u' : Value) :
    ((((w2.setCell ⟨g, 0, none⟩ x').setCell ⟨g, 1, none⟩ y').setCell ⟨g, 2, none⟩ z').setCell ⟨g, 3, none⟩ u').heap[g]? = some (.cells #[x', y', z', u'] t (0, 0)) := by
  rw [heap_setCell_self (heap_setCell_self (heap_setCell_self (heap_setCell_self hg _) _) _) _]
  rfl
theorem bput {n g : Nat} {A B : World} (h : Below n A B) (hg : n ≤ g) (x y z u : Value) : Below n A ((((B.setCell ⟨g, 0, none⟩ x).setCell ⟨g, 1, none⟩ y).setCell ⟨g, 2, none⟩ z).setCell ⟨g, 3, none⟩ u) :=
  (((h.setCell hg x).setCell hg y).setCell hg z).setCell hg u
theorem btwo (w : World) (A B : Obj) : Below w.heap.size w ((w.alloc A).alloc B) := (below_one w A).alloc (by simp) B
theorem bthree (w : World) (A B C : Obj) : Below w.heap.size w (((w.alloc A).alloc B).alloc C) := (btwo w A B).alloc (by simp; omega) C
theorem bgo {A B C : World} (h : Below A.heap.size A B) (h' : Below B.heap.size B C) : Below A.heap.size A C := h.trans (h'.mono h.size)
theorem Tab.go {A B : World} (hT : Tab A) (h : Below A.heap.size A B) : Tab B := hT.below h hT.pos h.size
end Go.Proofs.YtpfmmlbakbhklaaGreatDoor.O
namespace Go.Proofs.YtpfmmlbakbhklaaGreatDoor.O
open Go.RowKit

set_option maxRecDepth 100000 in
set_option maxHeartbeats 1000000 in
theorem next_form (k0 o0 r0 e0 k o n : Int) (w : World) (hT : Tab w) (hno : k = 5 ∧ o0 = n ∨ (k == 5) = false ∧ o = n) (h1 : rt ⟨k0, o0, r0, e0⟩ = false) :
    Calls Tryz.prog 153 #[.agg #[.int .i64 k0, .int .i64 o0, .int .i64 r0, .int .i64 e0], .int .i64 k, .int .i64 o] w fun x w' => x = .returned (two zd 11) ∧ Below w.heap.size w w' := by
  have H1 := hid h1
  have HTw0 := hid hT
  clear h1 hT
  rcases hno with ⟨rfl, rfl⟩ | ⟨hk5, rfl⟩
  all_goals
    go_enter Tryz.func153, Tryz.ntmps153
    go_wp2_with fail
    refine (right_no ⟨k0, o0, r0, e0⟩ _ (((HTw0.out.alloc _).alloc _).alloc _) H1.out).mono ?_
    rintro x w1 ⟨rfl, hB⟩
    have a0 := stay hB (three_new w _ _ _).1
    have a1 := stay hB (three_new w _ _ _).2.1
    have a2 := stay hB (three_new w _ _ _).2.2
    have HB := hid (bgo (bthree w _ _ _) hB)
    have HTw := hid (HTw0.out.go HB.out)
    clear hB
    obtain ⟨p00, p01, p02, p03, q00, q01, q02, q03⟩ := four a0
    have A0 := hid a0
    clear a0
    obtain ⟨p10, p11, p12, p13, q10, q11, q12, q13⟩ := four a1
    have A1 := hid a1
    clear a1
    obtain ⟨p20, p21, p22, p23, q20, q21, q22, q23⟩ := four a2
    have A2 := hid a2
    clear a2
    (try simp only [])
    go_wp2
    (try simp only [Exit.inBlock, Exit.then])
    refine bodyPost_ret (results_row_tmp rfl _ _ (w.heap.size + 1) _ rfl (run_loadVar_row _ _ 64 64 _ (0, 0) _ (put4 A1.out _ _ _ _) Tryz.underlying64 rfl size64)) rfl ?_
    exact ⟨rfl, bput HB.out (by omega) _ _ _ _⟩


set_option maxRecDepth 100000 in
set_option maxHeartbeats 1000000 in
theorem next_busy (k0 o0 r0 e0 k o n : Int) (w : World) (hT : Tab w) (hno : k = 5 ∧ o0 = n ∨ (k == 5) = false ∧ o = n) (h1 : rt ⟨k0, o0, r0, e0⟩ = true) (h2 : (r0 != 0) = true) :
    Calls Tryz.prog 153 #[.agg #[.int .i64 k0, .int .i64 o0, .int .i64 r0, .int .i64 e0], .int .i64 k, .int .i64 o] w fun x w' => x = .returned (two zd 9) ∧ Below w.heap.size w w' := by
  have H1 := hid h1
  have HTw0 := hid hT
  clear h1 hT
  rcases hno with ⟨rfl, rfl⟩ | ⟨hk5, rfl⟩
  all_goals
    go_enter Tryz.func153, Tryz.ntmps153
    go_wp2_with fail
    refine (right_yes ⟨k0, o0, r0, e0⟩ _ (((HTw0.out.alloc _).alloc _).alloc _) H1.out).mono ?_
    rintro x w1 ⟨rfl, hB⟩
    have a0 := stay hB (three_new w _ _ _).1
    have a1 := stay hB (three_new w _ _ _).2.1
    have a2 := stay hB (three_new w _ _ _).2.2
    have HB := hid (bgo (bthree w _ _ _) hB)
    have HTw := hid (HTw0.out.go HB.out)
    clear hB
    obtain ⟨p00, p01, p02, p03, q00, q01, q02, q03⟩ := four a0
    have A0 := hid a0
    clear a0
    obtain ⟨p10, p11, p12, p13, q10, q11, q12, q13⟩ := four a1
    have A1 := hid a1
    clear a1
    obtain ⟨p20, p21, p22, p23, q20, q21, q22, q23⟩ := four a2
    have A2 := hid a2
    clear a2
    (try simp only [])
    go_wp2
    (try simp only [Exit.inBlock, Exit.then])
    refine bodyPost_ret (results_row_tmp rfl _ _ (w.heap.size + 1) _ rfl (run_loadVar_row _ _ 64 64 _ (0, 0) _ (put4 A1.out _ _ _ _) Tryz.underlying64 rfl size64)) rfl ?_
    exact ⟨rfl, bput HB.out (by omega) _ _ _ _⟩


set_option maxRecDepth 100000 in
set_option maxHeartbeats 1000000 in
theorem next_state (k0 o0 r0 e0 k o n : Int) (w : World) (hT : Tab w) (hno : k = 5 ∧ o0 = n ∨ (k == 5) = false ∧ o = n) (h1 : rt ⟨k0, o0, r0, e0⟩ = true) (h2 : (r0 != 0) = false) (h3 : way k0 k = false) (hk : btw k0 0 5 = true) :
    Calls Tryz.prog 153 #[.agg #[.int .i64 k0, .int .i64 o0, .int .i64 r0, .int .i64 e0], .int .i64 k, .int .i64 o] w fun x w' => x = .returned (two zd 6) ∧ Below w.heap.size w w' := by
  have H1 := hid h1
  have HTw0 := hid hT
  clear h1 hT
  have H3 := hid h3
  have HK := hid hk
  clear h3 hk
  rcases hno with ⟨rfl, rfl⟩ | ⟨hk5, rfl⟩
  all_goals
    go_enter Tryz.func153, Tryz.ntmps153
    go_wp2_with fail
    refine (right_yes ⟨k0, o0, r0, e0⟩ _ (((HTw0.out.alloc _).alloc _).alloc _) H1.out).mono ?_
    rintro x w1 ⟨rfl, hB⟩
    have a0 := stay hB (three_new w _ _ _).1
    have a1 := stay hB (three_new w _ _ _).2.1
    have a2 := stay hB (three_new w _ _ _).2.2
    have HB := hid (bgo (bthree w _ _ _) hB)
    have HTw := hid (HTw0.out.go HB.out)
    clear hB
    obtain ⟨p00, p01, p02, p03, q00, q01, q02, q03⟩ := four a0
    have A0 := hid a0
    clear a0
    obtain ⟨p10, p11, p12, p13, q10, q11, q12, q13⟩ := four a1
    have A1 := hid a1
    clear a1
    obtain ⟨p20, p21, p22, p23, q20, q21, q22, q23⟩ := four a2
    have A2 := hid a2
    clear a2
    (try simp only [])
    go_wp2_with fail
    refine (isWay_at _ _ _ HK.out).mono ?_
    rintro x w2 ⟨rfl, hB⟩
    have a0 := stay hB A0.out
    have a1 := stay hB A1.out
    have a2 := stay hB A2.out
    have HB2 := hid (bgo HB.out hB)
    clear HB
    have HB := HB2
    clear HB2
    have HTn := hid (HTw.out.go hB)
    clear HTw
    have HTw := HTn
    clear HTn
    clear hB
    clear A0 p00 p01 p02 p03 q00 q01 q02 q03
    obtain ⟨p00, p01, p02, p03, q00, q01, q02, q03⟩ := four a0
    have A0 := hid a0
    clear a0
    clear A1 p10 p11 p12 p13 q10 q11 q12 q13
    obtain ⟨p10, p11, p12, p13, q10, q11, q12, q13⟩ := four a1
    have A1 := hid a1
    clear a1
    clear A2 p20 p21 p22 p23 q20 q21 q22 q23
    obtain ⟨p20, p21, p22, p23, q20, q21, q22, q23⟩ := four a2
    have A2 := hid a2
    clear a2
    rw [H3.out]
    go_wp2
    (try simp only [Exit.inBlock, Exit.then])
    refine bodyPost_ret (results_row_tmp rfl _ _ (w.heap.size + 1) _ rfl (run_loadVar_row _ _ 64 64 _ (0, 0) _ (put4 A1.out _ _ _ _) Tryz.underlying64 rfl size64)) rfl ?_
    exact ⟨rfl, bput HB.out (by omega) _ _ _ _⟩


set_option maxRecDepth 100000 in
set_option maxHeartbeats 1000000 in
theorem next_arg (k0 o0 r0 e0 k o n : Int) (w : World) (hT : Tab w) (hno : k = 5 ∧ o0 = n ∨ (k == 5) = false ∧ o = n) (h1 : rt ⟨k0, o0, r0, e0⟩ = true) (h2 : (r0 != 0) = false) (h3 : way k0 k = true) (h4 : rt ⟨k, n, 0, 0⟩ = false) (hk : btw k0 0 5 = true) :
    Calls Tryz.prog 153 #[.agg #[.int .i64 k0, .int .i64 o0, .int .i64 r0, .int .i64 e0], .int .i64 k, .int .i64 o] w fun x w' => x = .returned (two zd 1) ∧ Below w.heap.size w w' := by
  have H1 := hid h1
  have HTw0 := hid hT
  clear h1 hT
  have H3 := hid h3
  have HK := hid hk
  clear h3 hk
  have H4 := hid h4
  clear h4
  rcases hno with ⟨rfl, rfl⟩ | ⟨hk5, rfl⟩
  all_goals
    go_enter Tryz.func153, Tryz.ntmps153
    go_wp2_with fail
    refine (right_yes ⟨k0, o0, r0, e0⟩ _ (((HTw0.out.alloc _).alloc _).alloc _) H1.out).mono ?_
    rintro x w1 ⟨rfl, hB⟩
    have a0 := stay hB (three_new w _ _ _).1
    have a1 := stay hB (three_new w _ _ _).2.1
    have a2 := stay hB (three_new w _ _ _).2.2
    have HB := hid (bgo (bthree w _ _ _) hB)
    have HTw := hid (HTw0.out.go HB.out)
    clear hB
    obtain ⟨p00, p01, p02, p03, q00, q01, q02, q03⟩ := four a0
    have A0 := hid a0
    clear a0
    obtain ⟨p10, p11, p12, p13, q10, q11, q12, q13⟩ := four a1
    have A1 := hid a1
    clear a1
    obtain ⟨p20, p21, p22, p23, q20, q21, q22, q23⟩ := four a2
    have A2 := hid a2
    clear a2
    (try simp only [])
    go_wp2_with fail
    refine (isWay_at _ _ _ HK.out).mono ?_
    rintro x w2 ⟨rfl, hB⟩
    have a0 := stay hB A0.out
    have a1 := stay hB A1.out
    have a2 := stay hB A2.out
    have HB2 := hid (bgo HB.out hB)
    clear HB
    have HB := HB2
    clear HB2
    have HTn := hid (HTw.out.go hB)
    clear HTw
    have HTw := HTn
    clear HTn
    clear hB
    clear A0 p00 p01 p02 p03 q00 q01 q02 q03
    obtain ⟨p00, p01, p02, p03, q00, q01, q02, q03⟩ := four a0
    have A0 := hid a0
    clear a0
    clear A1 p10 p11 p12 p13 q10 q11 q12 q13
    obtain ⟨p10, p11, p12, p13, q10, q11, q12, q13⟩ := four a1
    have A1 := hid a1
    clear a1
    clear A2 p20 p21 p22 p23 q20 q21 q22 q23
    obtain ⟨p20, p21, p22, p23, q20, q21, q22, q23⟩ := four a2
    have A2 := hid a2
    clear a2
    rw [H3.out]
    go_wp2_with fail
    refine (right_no ⟨_, _, 0, 0⟩ _ HTw.out H4.out).mono ?_
    rintro x w3 ⟨rfl, hB⟩
    have a0 := stay hB A0.out
    have a1 := stay hB A1.out
    have a2 := stay hB A2.out
    have HB2 := hid (bgo HB.out hB)
    clear HB
    have HB := HB2
    clear HB2
    have HTn := hid (HTw.out.go hB)
    clear HTw
    have HTw := HTn
    clear HTn
    clear hB
    clear A0 p00 p01 p02 p03 q00 q01 q02 q03
    obtain ⟨p00, p01, p02, p03, q00, q01, q02, q03⟩ := four a0
    have A0 := hid a0
    clear a0
    clear A1 p10 p11 p12 p13 q10 q11 q12 q13
    obtain ⟨p10, p11, p12, p13, q10, q11, q12, q13⟩ := four a1
    have A1 := hid a1
    clear a1
    clear A2 p20 p21 p22 p23 q20 q21 q22 q23
    obtain ⟨p20, p21, p22, p23, q20, q21, q22, q23⟩ := four a2
    have A2 := hid a2
    clear a2
    (try simp only [])
    go_wp2
    (try simp only [Exit.inBlock, Exit.then])
    refine bodyPost_ret (results_row_tmp rfl _ _ (w.heap.size + 1) _ rfl (run_loadVar_row _ _ 64 64 _ (0, 0) _ (put4 A1.out _ _ _ _) Tryz.underlying64 rfl size64)) rfl ?_
    exact ⟨rfl, bput HB.out (by omega) _ _ _ _⟩


set_option maxRecDepth 100000 in
set_option maxHeartbeats 1000000 in
theorem next_ok (k0 o0 r0 e0 k o n : Int) (w : World) (hT : Tab w) (hno : k = 5 ∧ o0 = n ∨ (k == 5) = false ∧ o = n) (h1 : rt ⟨k0, o0, r0, e0⟩ = true) (h2 : (r0 != 0) = false) (h3 : way k0 k = true) (h4 : rt ⟨k, n, 0, 0⟩ = true) (hk : btw k0 0 5 = true) :
    Calls Tryz.prog 153 #[.agg #[.int .i64 k0, .int .i64 o0, .int .i64 r0, .int .i64 e0], .int .i64 k, .int .i64 o] w fun x w' => x = .returned (two ⟨k, n, 0, 0⟩ 0) ∧ Below w.heap.size w w' := by
  have H1 := hid h1
  have HTw0 := hid hT
  clear h1 hT
  have H3 := hid h3
  have HK := hid hk
  clear h3 hk
  have H4 := hid h4
  clear h4
  rcases hno with ⟨rfl, rfl⟩ | ⟨hk5, rfl⟩
  all_goals
    go_enter Tryz.func153, Tryz.ntmps153
    go_wp2_with fail
    refine (right_yes ⟨k0, o0, r0, e0⟩ _ (((HTw0.out.alloc _).alloc _).alloc _) H1.out).mono ?_
    rintro x w1 ⟨rfl, hB⟩
    have a0 := stay hB (three_new w _ _ _).1
    have a1 := stay hB (three_new w _ _ _).2.1
    have a2 := stay hB (three_new w _ _ _).2.2
    have HB := hid (bgo (bthree w _ _ _) hB)
    have HTw := hid (HTw0.out.go HB.out)
    clear hB
    obtain ⟨p00, p01, p02, p03, q00, q01, q02, q03⟩ := four a0
    have A0 := hid a0
    clear a0
    obtain ⟨p10, p11, p12, p13, q10, q11, q12, q13⟩ := four a1
    have A1 := hid a1
    clear a1
    obtain ⟨p20, p21, p22, p23, q20, q21, q22, q23⟩ := four a2
    have A2 := hid a2
    clear a2
    (try simp only [])
    go_wp2_with fail
    refine (isWay_at _ _ _ HK.out).mono ?_
    rintro x w2 ⟨rfl, hB⟩
    have a0 := stay hB A0.out
    have a1 := stay hB A1.out
    have a2 := stay hB A2.out
    have HB2 := hid (bgo HB.out hB)
    clear HB
    have HB := HB2
    clear HB2
    have HTn := hid (HTw.out.go hB)
    clear HTw
    have HTw := HTn
    clear HTn
    clear hB
    clear A0 p00 p01 p02 p03 q00 q01 q02 q03
    obtain ⟨p00, p01, p02, p03, q00, q01, q02, q03⟩ := four a0
    have A0 := hid a0
    clear a0
    clear A1 p10 p11 p12 p13 q10 q11 q12 q13
    obtain ⟨p10, p11, p12, p13, q10, q11, q12, q13⟩ := four a1
    have A1 := hid a1
    clear a1
    clear A2 p20 p21 p22 p23 q20 q21 q22 q23
    obtain ⟨p20, p21, p22, p23, q20, q21, q22, q23⟩ := four a2
    have A2 := hid a2
    clear a2
    rw [H3.out]
    go_wp2_with fail
    refine (right_yes ⟨_, _, 0, 0⟩ _ HTw.out H4.out).mono ?_
    rintro x w3 ⟨rfl, hB⟩
    have a0 := stay hB A0.out
    have a1 := stay hB A1.out
    have a2 := stay hB A2.out
    have HB2 := hid (bgo HB.out hB)
    clear HB
    have HB := HB2
    clear HB2
    have HTn := hid (HTw.out.go hB)
    clear HTw
    have HTw := HTn
    clear HTn
    clear hB
    clear A0 p00 p01 p02 p03 q00 q01 q02 q03
    obtain ⟨p00, p01, p02, p03, q00, q01, q02, q03⟩ := four a0
    have A0 := hid a0
    clear a0
    clear A1 p10 p11 p12 p13 q10 q11 q12 q13
    obtain ⟨p10, p11, p12, p13, q10, q11, q12, q13⟩ := four a1
    have A1 := hid a1
    clear a1
    clear A2 p20 p21 p22 p23 q20 q21 q22 q23
    obtain ⟨p20, p21, p22, p23, q20, q21, q22, q23⟩ := four a2
    have A2 := hid a2
    clear a2
    (try simp only [])
    go_wp2
    (try simp only [Exit.inBlock, Exit.then])
    refine bodyPost_ret (results_row_tmp rfl _ _ (w.heap.size + 1) _ rfl (run_loadVar_row _ _ 64 64 _ (0, 0) _ (put4 A1.out _ _ _ _) Tryz.underlying64 rfl size64)) rfl ?_
    exact ⟨rfl, bput HB.out (by omega) _ _ _ _⟩

end Go.Proofs.YtpfmmlbakbhklaaGreatDoor.O
namespace Go.Proofs.YtpfmmlbakbhklaaGreatDoor.O
open Go.RowKit

set_option maxRecDepth 100000 in
set_option maxHeartbeats 1000000 in
theorem rnext_form (k0 o0 r0 e0 k o : Int) (w : World) (h1 : rt ⟨k0, o0, r0, e0⟩ = false) :
    Calls Tryz.prog 116 #[.agg #[.int .i64 k0, .int .i64 o0, .int .i64 r0, .int .i64 e0], .int .i64 k, .int .i64 o] w fun x w' => x = .returned (two zd 11) ∧ Below w.heap.size w w' := by
  have H1 := hid h1
  clear h1
  go_enter Tryz.func116, Tryz.ntmps116
  go_wp2_with fail
  refine (rright_no ⟨k0, o0, r0, e0⟩ _ H1.out).mono ?_
  rintro x w1 ⟨rfl, hB⟩
  have a0 := stay hB (two_new w _ _).1
  have a1 := stay hB (two_new w _ _).2
  have HB := hid (bgo (btwo w _ _) hB)
  clear hB
  obtain ⟨p00, p01, p02, p03, q00, q01, q02, q03⟩ := four a0
  have A0 := hid a0
  clear a0
  obtain ⟨p10, p11, p12, p13, q10, q11, q12, q13⟩ := four a1
  have A1 := hid a1
  clear a1
  (try simp only [])
  go_wp2
  (try simp only [Exit.inBlock, Exit.then])
  refine bodyPost_ret (results_row_tmp rfl _ _ (w.heap.size + 1) _ rfl (run_loadVar_row _ _ 91 91 _ (0, 0) _ (put4 A1.out _ _ _ _) Tryz.underlying91 rfl size91)) rfl ?_
  exact ⟨rfl, bput HB.out (by omega) _ _ _ _⟩


set_option maxRecDepth 100000 in
set_option maxHeartbeats 1000000 in
theorem rnext_busy (k0 o0 r0 e0 k o : Int) (w : World) (h1 : rt ⟨k0, o0, r0, e0⟩ = true) (h2 : 0 < r0) :
    Calls Tryz.prog 116 #[.agg #[.int .i64 k0, .int .i64 o0, .int .i64 r0, .int .i64 e0], .int .i64 k, .int .i64 o] w fun x w' => x = .returned (two zd 9) ∧ Below w.heap.size w w' := by
  have H1 := hid h1
  clear h1
  go_enter Tryz.func116, Tryz.ntmps116
  go_wp2_with fail
  refine (rright_yes ⟨k0, o0, r0, e0⟩ _ H1.out).mono ?_
  rintro x w1 ⟨rfl, hB⟩
  have a0 := stay hB (two_new w _ _).1
  have a1 := stay hB (two_new w _ _).2
  have HB := hid (bgo (btwo w _ _) hB)
  clear hB
  obtain ⟨p00, p01, p02, p03, q00, q01, q02, q03⟩ := four a0
  have A0 := hid a0
  clear a0
  obtain ⟨p10, p11, p12, p13, q10, q11, q12, q13⟩ := four a1
  have A1 := hid a1
  clear a1
  (try simp only [])
  go_wp2
  (try simp only [Exit.inBlock, Exit.then])
  refine bodyPost_ret (results_row_tmp rfl _ _ (w.heap.size + 1) _ rfl (run_loadVar_row _ _ 91 91 _ (0, 0) _ (put4 A1.out _ _ _ _) Tryz.underlying91 rfl size91)) rfl ?_
  exact ⟨rfl, bput HB.out (by omega) _ _ _ _⟩


set_option maxRecDepth 100000 in
set_option maxHeartbeats 1000000 in
theorem rnext_state (k0 o0 r0 e0 k o : Int) (w : World) (h1 : rt ⟨k0, o0, r0, e0⟩ = true) (h2 : ¬ 0 < r0) (h3 : way k0 k = false) (hk : btw k0 0 5 = true) :
    Calls Tryz.prog 116 #[.agg #[.int .i64 k0, .int .i64 o0, .int .i64 r0, .int .i64 e0], .int .i64 k, .int .i64 o] w fun x w' => x = .returned (two zd 6) ∧ Below w.heap.size w w' := by
  have H1 := hid h1
  clear h1
  have H3 := hid h3
  have HK := hid hk
  clear h3 hk
  go_enter Tryz.func116, Tryz.ntmps116
  go_wp2_with fail
  refine (rright_yes ⟨k0, o0, r0, e0⟩ _ H1.out).mono ?_
  rintro x w1 ⟨rfl, hB⟩
  have a0 := stay hB (two_new w _ _).1
  have a1 := stay hB (two_new w _ _).2
  have HB := hid (bgo (btwo w _ _) hB)
  clear hB
  obtain ⟨p00, p01, p02, p03, q00, q01, q02, q03⟩ := four a0
  have A0 := hid a0
  clear a0
  obtain ⟨p10, p11, p12, p13, q10, q11, q12, q13⟩ := four a1
  have A1 := hid a1
  clear a1
  (try simp only [])
  go_wp2_with fail
  refine (leads_any _ _ _ HK.out).mono ?_
  rintro x w2 ⟨rfl, rfl⟩
  rw [H3.out]
  go_wp2
  (try simp only [Exit.inBlock, Exit.then])
  refine bodyPost_ret (results_row_tmp rfl _ _ (w.heap.size + 1) _ rfl (run_loadVar_row _ _ 91 91 _ (0, 0) _ (put4 A1.out _ _ _ _) Tryz.underlying91 rfl size91)) rfl ?_
  exact ⟨rfl, bput HB.out (by omega) _ _ _ _⟩


set_option maxRecDepth 100000 in
set_option maxHeartbeats 1000000 in
theorem rnext_arg (k0 o0 r0 e0 k o n : Int) (w : World) (hno : k = 5 ∧ o0 = n ∨ (k == 5) = false ∧ o = n) (h1 : rt ⟨k0, o0, r0, e0⟩ = true) (h2 : ¬ 0 < r0) (h3 : way k0 k = true) (h4 : rt ⟨k, n, 0, 0⟩ = false) (hk : btw k0 0 5 = true) :
    Calls Tryz.prog 116 #[.agg #[.int .i64 k0, .int .i64 o0, .int .i64 r0, .int .i64 e0], .int .i64 k, .int .i64 o] w fun x w' => x = .returned (two zd 1) ∧ Below w.heap.size w w' := by
  have H1 := hid h1
  clear h1
  have H3 := hid h3
  have HK := hid hk
  clear h3 hk
  have H4 := hid h4
  clear h4
  rcases hno with ⟨rfl, rfl⟩ | ⟨hk5, rfl⟩
  all_goals
    go_enter Tryz.func116, Tryz.ntmps116
    go_wp2_with fail
    refine (rright_yes ⟨k0, o0, r0, e0⟩ _ H1.out).mono ?_
    rintro x w1 ⟨rfl, hB⟩
    have a0 := stay hB (two_new w _ _).1
    have a1 := stay hB (two_new w _ _).2
    have HB := hid (bgo (btwo w _ _) hB)
    clear hB
    obtain ⟨p00, p01, p02, p03, q00, q01, q02, q03⟩ := four a0
    have A0 := hid a0
    clear a0
    obtain ⟨p10, p11, p12, p13, q10, q11, q12, q13⟩ := four a1
    have A1 := hid a1
    clear a1
    (try simp only [])
    go_wp2_with fail
    refine (leads_any _ _ _ HK.out).mono ?_
    rintro x w2 ⟨rfl, rfl⟩
    rw [H3.out]
    have l0 := lt_of_block A0.out
    have l1 := lt_of_block A1.out
    go_wp2_with fail
    refine (rright_no ⟨_, _, 0, 0⟩ _ H4.out).mono ?_
    rintro x w3 ⟨rfl, hB⟩
    have a0 := stay hB (hkeep A0.out _)
    have a1 := stay hB (hkeep A1.out _)
    have a2 := stay hB (heap_alloc_new _ _)
    have HB2 := hid (bgo (HB.out.alloc HB.out.size _) hB)
    clear HB
    have HB := HB2
    clear HB2 hB A0 A1 p00 p01 p02 p03 p10 p11 p12 p13 q00 q01 q02 q03 q10 q11 q12 q13
    obtain ⟨p00, p01, p02, p03, q00, q01, q02, q03⟩ := four a0
    have A0 := hid a0
    clear a0
    obtain ⟨p10, p11, p12, p13, q10, q11, q12, q13⟩ := four a1
    have A1 := hid a1
    clear a1
    obtain ⟨p20, p21, p22, p23, q20, q21, q22, q23⟩ := four a2
    have A2 := hid a2
    clear a2
    (try simp only [])
    go_wp2
    (try simp only [Exit.inBlock, Exit.then])
    refine bodyPost_ret (results_row_tmp rfl _ _ (w.heap.size + 1) _ rfl (run_loadVar_row _ _ 91 91 _ (0, 0) _ (put4 A1.out _ _ _ _) Tryz.underlying91 rfl size91)) rfl ?_
    exact ⟨rfl, bput HB.out (by omega) _ _ _ _⟩


set_option maxRecDepth 100000 in
set_option maxHeartbeats 1000000 in
theorem rnext_ok (k0 o0 r0 e0 k o n : Int) (w : World) (hno : k = 5 ∧ o0 = n ∨ (k == 5) = false ∧ o = n) (h1 : rt ⟨k0, o0, r0, e0⟩ = true) (h2 : ¬ 0 < r0) (h3 : way k0 k = true) (h4 : rt ⟨k, n, 0, 0⟩ = true) (hk : btw k0 0 5 = true) :
    Calls Tryz.prog 116 #[.agg #[.int .i64 k0, .int .i64 o0, .int .i64 r0, .int .i64 e0], .int .i64 k, .int .i64 o] w fun x w' => x = .returned (two ⟨k, n, 0, 0⟩ 0) ∧ Below w.heap.size w w' := by
  have H1 := hid h1
  clear h1
  have H3 := hid h3
  have HK := hid hk
  clear h3 hk
  have H4 := hid h4
  clear h4
  rcases hno with ⟨rfl, rfl⟩ | ⟨hk5, rfl⟩
  all_goals
    go_enter Tryz.func116, Tryz.ntmps116
    go_wp2_with fail
    refine (rright_yes ⟨k0, o0, r0, e0⟩ _ H1.out).mono ?_
    rintro x w1 ⟨rfl, hB⟩
    have a0 := stay hB (two_new w _ _).1
    have a1 := stay hB (two_new w _ _).2
    have HB := hid (bgo (btwo w _ _) hB)
    clear hB
    obtain ⟨p00, p01, p02, p03, q00, q01, q02, q03⟩ := four a0
    have A0 := hid a0
    clear a0
    obtain ⟨p10, p11, p12, p13, q10, q11, q12, q13⟩ := four a1
    have A1 := hid a1
    clear a1
    (try simp only [])
    go_wp2_with fail
    refine (leads_any _ _ _ HK.out).mono ?_
    rintro x w2 ⟨rfl, rfl⟩
    rw [H3.out]
    have l0 := lt_of_block A0.out
    have l1 := lt_of_block A1.out
    go_wp2_with fail
    refine (rright_yes ⟨_, _, 0, 0⟩ _ H4.out).mono ?_
    rintro x w3 ⟨rfl, hB⟩
    have a0 := stay hB (hkeep A0.out _)
    have a1 := stay hB (hkeep A1.out _)
    have a2 := stay hB (heap_alloc_new _ _)
    have HB2 := hid (bgo (HB.out.alloc HB.out.size _) hB)
    clear HB
    have HB := HB2
    clear HB2 hB A0 A1 p00 p01 p02 p03 p10 p11 p12 p13 q00 q01 q02 q03 q10 q11 q12 q13
    obtain ⟨p00, p01, p02, p03, q00, q01, q02, q03⟩ := four a0
    have A0 := hid a0
    clear a0
    obtain ⟨p10, p11, p12, p13, q10, q11, q12, q13⟩ := four a1
    have A1 := hid a1
    clear a1
    obtain ⟨p20, p21, p22, p23, q20, q21, q22, q23⟩ := four a2
    have A2 := hid a2
    clear a2
    (try simp only [])
    go_wp2
    (try simp only [Exit.inBlock, Exit.then])
    refine bodyPost_ret (results_row_tmp rfl _ _ (w.heap.size + 1) _ rfl (run_loadVar_row _ _ 91 91 _ (0, 0) _ (put4 A1.out _ _ _ _) Tryz.underlying91 rfl size91)) rfl ?_
    exact ⟨rfl, bput HB.out (by omega) _ _ _ _⟩

end Go.Proofs.YtpfmmlbakbhklaaGreatDoor.O
namespace Go.Proofs.YtpfmmlbakbhklaaGreatDoor.O
open Go.RowKit

end Go.Proofs.YtpfmmlbakbhklaaGreatDoor.O
namespace Go.Proofs.YtpfmmlbakbhklaaGreatDoor.O
open Go.RowKit

theorem rt_kind {d : Ds} (h : rt d = true) : btw d.k 0 5 = true := by
  have := (rt_iff d).1 h
  exact btw_yes.2 ⟨by omega, by omega⟩
theorem rt_refs {d : Ds} (h : rt d = true) : 0 ≤ d.r ∧ d.r ≤ 65535 := by
  have := (rt_iff d).1 h
  omega
theorem two_eq {d d' : Ds} {e e' : Int} (hd : d = d') (he : e = e') : Ending.returned (two d e) = .returned (two d' e') := by rw [hd, he]

theorem next_at (d : Ds) (k o : Int) (w : World) (hT : Tab w) :
    Calls Tryz.prog 153 #[dV d, .int .i64 k, .int .i64 o] w fun x w' => x = .returned (two (nx d k o) (nxE d k o)) ∧ Below w.heap.size w w' := by
  obtain ⟨n, hno⟩ : ∃ n, (k = 5 ∧ d.o = n ∨ (k == 5) = false ∧ o = n) := by
    by_cases h : k = 5
    · exact ⟨_, .inl ⟨h, rfl⟩⟩
    · exact ⟨_, .inr ⟨by simpa using h, rfl⟩⟩
  have hn : nxD d k o = ⟨k, n, 0, 0⟩ := by
    unfold nxD
    rcases hno with ⟨rfl, rfl⟩ | ⟨h, rfl⟩
    · simp
    · have h' : ¬ k = 5 := by simpa using h
      simp [h']
  cases h1 : rt d
  · have e : nxE d k o = 11 := by simp [nxE, h1]
    exact (next_form d.k d.o d.r d.e k o n w hT hno h1).mono fun x w' ⟨a, b⟩ => ⟨a.trans (two_eq (by simp [nx, e]) e.symm), b⟩
  · by_cases h2 : d.r = 0
    · have hk := rt_kind h1
      cases h3 : way d.k k
      · have e : nxE d k o = 6 := by simp [nxE, h1, h2, h3]
        exact (next_state d.k d.o d.r d.e k o n w hT hno h1 (by simp [h2]) h3 hk).mono fun x w' ⟨a, b⟩ => ⟨a.trans (two_eq (by simp [nx, e]) e.symm), b⟩
      · cases h4 : rt ⟨k, n, 0, 0⟩
        · have e : nxE d k o = 1 := by simp [nxE, h1, h2, h3, hn, h4]
          exact (next_arg d.k d.o d.r d.e k o n w hT hno h1 (by simp [h2]) h3 h4 hk).mono fun x w' ⟨a, b⟩ => ⟨a.trans (two_eq (by simp [nx, e]) e.symm), b⟩
        · have e : nxE d k o = 0 := by simp [nxE, h1, h2, h3, hn, h4]
          exact (next_ok d.k d.o d.r d.e k o n w hT hno h1 (by simp [h2]) h3 h4 hk).mono fun x w' ⟨a, b⟩ => ⟨a.trans (two_eq (by simp [nx, e, hn]) e.symm), b⟩
    · have e : nxE d k o = 9 := by simp [nxE, h1, h2]
      exact (next_busy d.k d.o d.r d.e k o n w hT hno h1 (by simpa using h2)).mono fun x w' ⟨a, b⟩ => ⟨a.trans (two_eq (by simp [nx, e]) e.symm), b⟩

theorem rnext_at (d : Ds) (k o : Int) (w : World) :
    Calls Tryz.prog 116 #[dV d, .int .i64 k, .int .i64 o] w fun x w' => x = .returned (two (nx d k o) (nxE d k o)) ∧ Below w.heap.size w w' := by
  obtain ⟨n, hno⟩ : ∃ n, (k = 5 ∧ d.o = n ∨ (k == 5) = false ∧ o = n) := by
    by_cases h : k = 5
    · exact ⟨_, .inl ⟨h, rfl⟩⟩
    · exact ⟨_, .inr ⟨by simpa using h, rfl⟩⟩
  have hn : nxD d k o = ⟨k, n, 0, 0⟩ := by
    unfold nxD
    rcases hno with ⟨rfl, rfl⟩ | ⟨h, rfl⟩
    · simp
    · have h' : ¬ k = 5 := by simpa using h
      simp [h']
  cases h1 : rt d
  · have e : nxE d k o = 11 := by simp [nxE, h1]
    exact (rnext_form d.k d.o d.r d.e k o w h1).mono fun x w' ⟨a, b⟩ => ⟨a.trans (two_eq (by simp [nx, e]) e.symm), b⟩
  · have hr := rt_refs h1
    by_cases h2 : d.r = 0
    · have hk := rt_kind h1
      have h2' : ¬ 0 < d.r := by omega
      cases h3 : way d.k k
      · have e : nxE d k o = 6 := by simp [nxE, h1, h2, h3]
        exact (rnext_state d.k d.o d.r d.e k o w h1 h2' h3 hk).mono fun x w' ⟨a, b⟩ => ⟨a.trans (two_eq (by simp [nx, e]) e.symm), b⟩
      · cases h4 : rt ⟨k, n, 0, 0⟩
        · have e : nxE d k o = 1 := by simp [nxE, h1, h2, h3, hn, h4]
          exact (rnext_arg d.k d.o d.r d.e k o n w hno h1 h2' h3 h4 hk).mono fun x w' ⟨a, b⟩ => ⟨a.trans (two_eq (by simp [nx, e]) e.symm), b⟩
        · have e : nxE d k o = 0 := by simp [nxE, h1, h2, h3, hn, h4]
          exact (rnext_ok d.k d.o d.r d.e k o n w hno h1 h2' h3 h4 hk).mono fun x w' ⟨a, b⟩ => ⟨a.trans (two_eq (by simp [nx, e, hn]) e.symm), b⟩
    · have e : nxE d k o = 9 := by simp [nxE, h1, h2]
      exact (rnext_busy d.k d.o d.r d.e k o w h1 (by omega)).mono fun x w' ⟨a, b⟩ => ⟨a.trans (two_eq (by simp [nx, e]) e.symm), b⟩

theorem hiR_iff : ∀ n, n < 6 → ((hiR n == 0) = false ↔ (2 ≤ (n : Int) ∧ (n : Int) ≤ 4))
  | 0, _ => by decide
  | 1, _ => by decide
  | 2, _ => by decide
  | 3, _ => by decide
  | 4, _ => by decide
  | 5, _ => by decide
  | n + 6, h => absurd h (by omega)

end Go.Proofs.YtpfmmlbakbhklaaGreatDoor.O
