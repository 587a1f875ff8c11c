/- What the small calls of package npt (isLive, fault, Root, areRights, isFrame, top, next, leadsTo, part, nothing) return, for every tables that lie in memory, and of none. No conditions. What next, leadsTo, part, lay, words and stop return and leave, for every table, entry and page. Conditions: the words and frames lie in memory; few calls have been counted. What lay, words and stop return and leave, for every table, entry and page. Conditions: the words and frames lie in memory; few calls have been counted. What stop returns, for every table and page. Conditions: the words and frames lie in memory. -/
import Derived.Test.YtpfmmlbakbhklaaGreatDoorBI
import Derived.Laws.StructEq
import Derived.Deep.RegionHeld3
import Derived.BigQuiet
namespace Go.Proofs.YtpfmmlbakbhklaaGreatDoor
open Go.RowKit

theorem size93 : (Tryz.prog.info? 93).map (·.size) = some 2 := by kernel_rfl
theorem size95' : (Tryz.prog.info? 95).map (·.size) = some 4 := by kernel_rfl
theorem size97 : (Tryz.prog.info? 97).map (·.size) = some 7 := by kernel_rfl
abbrev tbC (fr v : Int) : Array Value := #[.int .i64 fr, .int .i64 v]
abbrev stC (fr v a : Int) (e : P.En) : Array Value := #[.int .i64 fr, .int .i64 v, .int .i64 a, .bool e.p, .int .i64 e.r, .bool e.l, .int .i64 e.f]
section
variable {u : Si} {w : World} {t : Nat} {st o root : Int}

set_option maxHeartbeats 400000 in
theorem isLive_at (h : IsT u w t st o root) : Calls Tryz.prog 49 #[.pointer (some ⟨t, 0, none⟩)] w fun e w' => e = .returned (.bool (st == 1)) ∧ w' = w := by
  obtain ⟨c0, -⟩ := h.cells
  clear h
  cases hb : st == 1
  all_goals
    go_enter Tryz.func49, Tryz.ntmps49
    go_wp2
    go_ret
    exact ⟨rfl, rfl⟩
set_option maxHeartbeats 400000 in
theorem isLive_nil (w : World) : Calls Tryz.prog 49 #[.pointer none] w fun e w' => e = .returned (.bool false) ∧ w' = w := by
  go_enter Tryz.func49, Tryz.ntmps49
  go_wp2
  go_ret
  exact ⟨rfl, rfl⟩
/-- Why a page can't be asked for. -/
def ftE (st pg : Int) : Int := if st = 0 then 10 else if st = 2 then 6 else if P.btw pg 0 65535 = true then 0 else 2
set_option maxHeartbeats 400000 in
theorem fault_at (h : IsT u w t st o root) (pg : Int) : Calls Tryz.prog 59 #[.pointer (some ⟨t, 0, none⟩), .int .i64 pg] w fun e w' => e = .returned (.int .i64 (ftE st pg)) ∧ w' = w := by
  obtain ⟨c0, -⟩ := h.cells
  clear h
  unfold ftE
  by_cases h0 : st = 0
  · subst h0
    rw [if_pos rfl]
    go_enter Tryz.func59, Tryz.ntmps59
    go_wp2
    go_ret
    exact ⟨rfl, rfl⟩
  · rw [if_neg h0]
    have b0 : (st == 0) = false := by simpa using h0
    clear h0
    by_cases h2 : st = 2
    · subst h2
      rw [if_pos rfl]
      clear b0
      go_enter Tryz.func59, Tryz.ntmps59
      go_wp2
      go_ret
      exact ⟨rfl, rfl⟩
    · rw [if_neg h2]
      have b2 : (st == 2) = false := by simpa using h2
      clear h2
      by_cases g0 : 0 ≤ pg
      · by_cases g1 : pg ≤ 65535
        · rw [P.btw_t g0 g1, if_pos rfl]
          have g0' : ¬ pg < 0 := by omega
          have g1' : ¬ 65536 ≤ pg := by omega
          clear g0 g1
          go_enter Tryz.func59, Tryz.ntmps59
          go_wp2
          go_ret
          exact ⟨rfl, rfl⟩
        · rw [P.btw_f2 g1, if_neg (by decide)]
          have g0' : ¬ pg < 0 := by omega
          have g1' : 65536 ≤ pg := by omega
          clear g0 g1
          go_enter Tryz.func59, Tryz.ntmps59
          go_wp2
          go_ret
          exact ⟨rfl, rfl⟩
      · rw [P.btw_f1 g0, if_neg (by decide)]
        have g0' : pg < 0 := by omega
        clear g0
        go_enter Tryz.func59, Tryz.ntmps59
        go_wp2
        go_ret
        exact ⟨rfl, rfl⟩
set_option maxHeartbeats 400000 in
theorem fault_nil (w : World) (pg : Int) : Calls Tryz.prog 59 #[.pointer none, .int .i64 pg] w fun e w' => e = .returned (.int .i64 10) ∧ w' = w := by
  go_enter Tryz.func59, Tryz.ntmps59
  go_wp2
  go_ret
  exact ⟨rfl, rfl⟩
set_option maxHeartbeats 400000 in
theorem root_at (h : IsT u w t st o root) : Calls Tryz.prog 18 #[.pointer (some ⟨t, 0, none⟩)] w fun e w' => e = .returned (.int .i64 (if st = 1 then root else -1)) ∧ w' = w := by
  have H := hid (isLive_at h)
  obtain ⟨-, -, -, -, c4⟩ := h.cells
  clear h
  by_cases h1 : st = 1
  · subst h1
    rw [if_pos rfl]
    go_enter Tryz.func18, Tryz.ntmps18
    go_wp2_with fail
    refine H.out.mono ?_
    rintro e w1 ⟨rfl, rfl⟩
    go_wp2
    go_ret
    exact ⟨rfl, rfl⟩
  · rw [if_neg h1]
    have b1 : (st == 1) = false := by simpa using h1
    rw [b1] at H
    clear h1 b1
    go_enter Tryz.func18, Tryz.ntmps18
    go_wp2_with fail
    refine H.out.mono ?_
    rintro e w1 ⟨rfl, rfl⟩
    go_wp2
    go_ret
    exact ⟨rfl, rfl⟩
set_option maxHeartbeats 400000 in
theorem root_nil (w : World) : Calls Tryz.prog 18 #[.pointer none] w fun e w' => e = .returned (.int .i64 (-1)) ∧ w' = w := by
  go_enter Tryz.func18, Tryz.ntmps18
  go_wp2_with fail
  refine (isLive_nil w).mono ?_
  rintro e w1 ⟨rfl, rfl⟩
  go_wp2
  go_ret
  exact ⟨rfl, rfl⟩
set_option maxHeartbeats 400000 in
theorem rights_at (n : Int) (w : World) : Calls Tryz.prog 60 #[.int .i64 n] w fun e w' => e = .returned (.bool (P.btw n 1 7)) ∧ w' = w := by
  by_cases g0 : 1 ≤ n
  · by_cases g1 : n ≤ 7
    · rw [P.btw_t g0 g1]
      go_enter Tryz.func60, Tryz.ntmps60
      go_wp2
      go_ret
      exact ⟨rfl, rfl⟩
    · rw [P.btw_f2 g1]
      go_enter Tryz.func60, Tryz.ntmps60
      go_wp2
      go_ret
      exact ⟨rfl, rfl⟩
  · rw [P.btw_f1 g0]
    go_enter Tryz.func60, Tryz.ntmps60
    go_wp2
    go_ret
    exact ⟨rfl, rfl⟩
set_option maxHeartbeats 400000 in
theorem frame_at (n : Int) (w : World) : Calls Tryz.prog 134 #[.int .i64 n] w fun e w' => e = .returned (.bool (P.btw n 0 4095)) ∧ w' = w := by
  by_cases g0 : 0 ≤ n
  · by_cases g1 : n ≤ 4095
    · rw [P.btw_t g0 g1]
      have g1' : n < 4096 := by omega
      clear g1
      go_enter Tryz.func134, Tryz.ntmps134
      go_wp2
      go_ret
      exact ⟨rfl, rfl⟩
    · rw [P.btw_f2 g1]
      have g1' : ¬ n < 4096 := by omega
      clear g1
      go_enter Tryz.func134, Tryz.ntmps134
      go_wp2
      go_ret
      exact ⟨rfl, rfl⟩
  · rw [P.btw_f1 g0]
    go_enter Tryz.func134, Tryz.ntmps134
    go_wp2
    go_ret
    exact ⟨rfl, rfl⟩
set_option maxHeartbeats 400000 in
theorem top_at (h : IsT u w t st o root) : Calls Tryz.prog 51 #[.pointer (some ⟨t, 0, none⟩)] w fun e w' => e = .returned (.agg (tbC root 3)) ∧ Below w.heap.size w w' := by
  have h2 : IsT u (w.alloc (.cells #[.int .i64 0, .int .i64 0] 93)) t st o root := h.below (below_alloc _ _)
  obtain ⟨-, -, -, -, c4⟩ := h2.cells
  clear h h2
  go_enter Tryz.func51, Tryz.ntmps51
  go_wp2
  refine bodyPost_ret (results_cell_row rfl _ _ w.heap.size 93 _ (0, 0) _ rfl (heap_alloc_new _ _) Tryz.underlying93 rfl size93) rfl ?_
  exact ⟨rfl, below_alloc _ _⟩
end
set_option maxHeartbeats 400000 in
theorem nothing_at (i : Int) (w : World) : Calls Tryz.prog 72 #[.int .i64 i] w fun e w' => e = .returned (P.eV P.zd) ∧ Below w.heap.size w w' := by
  go_enter Tryz.func72, Tryz.ntmps72
  go_wp2
  refine bodyPost_ret (results_cell_row rfl _ _ w.heap.size 95 _ (0, 0) _ rfl (heap_alloc_new _ _) Tryz.underlying95 rfl size95') rfl ?_
  exact ⟨rfl, below_alloc _ _⟩
end Go.Proofs.YtpfmmlbakbhklaaGreatDoor
namespace Go.Proofs.YtpfmmlbakbhklaaGreatDoor
open Go.RowKit

/-- Whether an entry of a table leads to a table. -/
def nxB (e : P.En) (v : Int) : Bool := !(v == 0) && P.tb e
def nxV (e : P.En) (v : Int) : Value := .tuple #[.agg (if nxB e v = true then tbC e.f (v - 1) else tbC 0 0), .bool (nxB e v)]
theorem lt_new (w : World) (A : Obj) : w.heap.size < (w.alloc A).heap.size := by simp
theorem cell_new (w : World) (c : Array Value) (T : TypeId) (i : Nat) {v : Value} (h : c[i]? = some v) : (w.alloc (.cells c T)).cell? ⟨w.heap.size, i, none⟩ = some v := P.cell_of (heap_alloc_new w _) h
theorem new3 (w : World) (A B C : Obj) : (((w.alloc A).alloc B).alloc C).heap[w.heap.size]? = some A ∧ (((w.alloc A).alloc B).alloc C).heap[w.heap.size + 1]? = some B ∧ (((w.alloc A).alloc B).alloc C).heap[w.heap.size + 1 + 1]? = some C := by
  have h := P.two_new w A B
  refine ⟨P.hkeep h.1 C, P.hkeep h.2 C, ?_⟩
  have := heap_alloc_new ((w.alloc A).alloc B) C
  simpa using this
theorem put2 {w2 : World} {g : Nat} {x y : Value} {t : TypeId} (hg : w2.heap[g]? = some (.cells #[x, y] t (0, 0))) (x' y' : Value) :
    ((w2.setCell ⟨g, 0, none⟩ x').setCell ⟨g, 1, none⟩ y').heap[g]? = some (.cells #[x', y'] t (0, 0)) := P.heap_setCell_self (P.heap_setCell_self hg _) _
set_option maxHeartbeats 1000000 in
theorem next_at (fr v : Int) (e : P.En) (w : World) (hv : 0 ≤ v) (hv' : v ≤ 3) : Calls Tryz.prog 90 #[.agg (tbC fr v), P.eV e] w fun r w' => r = .returned (nxV e v) ∧ Below w.heap.size w w' := by
  obtain ⟨ep, er, el, ef⟩ := e
  have B3 : Below w.heap.size w (((w.alloc (.cells #[.int .i64 fr, .int .i64 v] 93)).alloc (.cells #[.bool ep, .int .i64 er, .bool el, .int .i64 ef] 95)).alloc (.cells #[.int .i64 0, .int .i64 0] 93)) := ((below_alloc _ _).alloc (by simp) _).alloc (by simp; omega) _
  unfold nxV nxB
  by_cases h0 : v = 0
  · subst h0
    have HB := hid B3
    have HN := hid (new3 w (.cells #[.int .i64 fr, .int .i64 0] 93) (.cells #[.bool ep, .int .i64 er, .bool el, .int .i64 ef] 95) (.cells #[.int .i64 0, .int .i64 0] 93)).2.2
    clear B3
    simp only [beq_self_eq_true, Bool.not_true, Bool.false_and, if_neg Bool.false_ne_true]
    show Calls Tryz.prog 90 #[.agg #[.int .i64 fr, .int .i64 0], .agg #[.bool ep, .int .i64 er, .bool el, .int .i64 ef]] w _
    go_enter Tryz.func90, Tryz.ntmps90
    go_wp2
    refine bodyPost_ret (P.results_row_tmp rfl _ _ _ _ rfl (run_loadVar_row _ _ 93 93 _ (0, 0) _ HN.out Tryz.underlying93 rfl size93)) rfl ?_
    exact ⟨rfl, HB.out⟩
  · have b0 : (v == 0) = false := by simpa using h0
    cases hb : P.tb ⟨ep, er, el, ef⟩
    · have HT : Hid (∀ W, Calls Tryz.prog 120 #[.agg #[.bool ep, .int .i64 er, .bool el, .int .i64 ef]] W fun r w' => r = .returned (.bool false) ∧ Below W.heap.size W w') := hid fun W => by rw [← hb]; exact P.table_at _ _
      have HB := hid B3
      have HN := hid (new3 w (.cells #[.int .i64 fr, .int .i64 v] 93) (.cells #[.bool ep, .int .i64 er, .bool el, .int .i64 ef] 95) (.cells #[.int .i64 0, .int .i64 0] 93)).2.2
      clear B3 hb h0
      simp only [b0, Bool.not_false, Bool.true_and, if_neg Bool.false_ne_true]
      show Calls Tryz.prog 90 #[.agg #[.int .i64 fr, .int .i64 v], .agg #[.bool ep, .int .i64 er, .bool el, .int .i64 ef]] w _
      go_enter Tryz.func90, Tryz.ntmps90
      go_wp2_with fail
      refine (HT.out _).mono ?_
      rintro r w1 ⟨rfl, hB⟩
      have HN1 := hid (P.stay hB HN.out)
      have HB1 := hid (P.bgo HB.out hB)
      have f0 := P.free_of (i := 0) HN1.out
      have f1 := P.free_of (i := 1) HN1.out
      have k0 := P.cell_of (i := 0) HN1.out rfl
      have k1 := P.cell_of (i := 1) HN1.out rfl
      clear hB
      go_wp2
      refine bodyPost_ret (P.results_row_tmp rfl _ _ _ _ rfl (run_loadVar_row _ _ 93 93 _ (0, 0) _ (put2 HN1.out _ _) Tryz.underlying93 rfl size93)) rfl ?_
      exact ⟨rfl, (HB1.out.setCell (p := ⟨_, 0, none⟩) (by simp; omega) _).setCell (p := ⟨_, 1, none⟩) (by simp; omega) _⟩
    · have HT : Hid (∀ W, Calls Tryz.prog 120 #[.agg #[.bool ep, .int .i64 er, .bool el, .int .i64 ef]] W fun r w' => r = .returned (.bool true) ∧ Below W.heap.size W w') := hid fun W => by rw [← hb]; exact P.table_at _ _
      have HB := hid B3
      have HN := hid (new3 w (.cells #[.int .i64 fr, .int .i64 v] 93) (.cells #[.bool ep, .int .i64 er, .bool el, .int .i64 ef] 95) (.cells #[.int .i64 0, .int .i64 0] 93)).2.2
      have HV : Hid ((((w.alloc (.cells #[.int .i64 fr, .int .i64 v] 93)).alloc (.cells #[.bool ep, .int .i64 er, .bool el, .int .i64 ef] 95)).alloc (.cells #[.int .i64 0, .int .i64 0] 93)).heap[w.heap.size]? = some (.cells #[.int .i64 fr, .int .i64 v] 93)) := P.hkeep (P.hkeep (heap_alloc_new w _) _) _
      have HE := hid (P.hkeep (heap_alloc_new (w.alloc (.cells #[.int .i64 fr, .int .i64 v] 93)) (.cells #[.bool ep, .int .i64 er, .bool el, .int .i64 ef] 95)) (.cells #[.int .i64 0, .int .i64 0] 93))
      clear B3 hb h0
      simp only [b0, Bool.not_false, Bool.true_and, if_true]
      show Calls Tryz.prog 90 #[.agg #[.int .i64 fr, .int .i64 v], .agg #[.bool ep, .int .i64 er, .bool el, .int .i64 ef]] w _
      go_enter Tryz.func90, Tryz.ntmps90
      go_wp2_with fail
      refine (HT.out _).mono ?_
      rintro r w1 ⟨rfl, hB⟩
      have HN1 := hid (P.stay hB HN.out)
      have HB1 := hid (P.bgo HB.out hB)
      have c1 := P.cell_of (i := 1) (P.stay hB HV.out) rfl
      have c3 := P.cell_of (i := 3) (P.stay hB HE.out) rfl
      rw [World.size_alloc] at c3
      have f0 := P.free_of (i := 0) HN1.out
      have f1 := P.free_of (i := 1) HN1.out
      have k0 := P.cell_of (i := 0) HN1.out rfl
      have k1 := P.cell_of (i := 1) HN1.out rfl
      clear hB HN HB HV HE
      go_wp2
      refine bodyPost_ret (P.results_row_tmp rfl _ _ _ _ rfl (run_loadVar_row _ _ 93 93 _ (0, 0) _ (put2 HN1.out _ _) Tryz.underlying93 rfl size93)) rfl ?_
      exact ⟨rfl, (HB1.out.setCell (p := ⟨_, 0, none⟩) (by simp; omega) _).setCell (p := ⟨_, 1, none⟩) (by simp; omega) _⟩

set_option maxHeartbeats 1000000 in
theorem part_at (fr v a i : Int) (e : P.En) (w : World) (h0 : 0 ≤ e.f) (h1 : e.f ≤ 4095) (i0 : 0 ≤ i) (i1 : i < 16) : Calls Tryz.prog 98 #[.agg (stC fr v a e), .int .i64 i] w fun r w' => r = .returned (P.eV ⟨true, e.r, false, e.f + i⟩) ∧ Below w.heap.size w w' := by
  obtain ⟨ep, er, el, ef⟩ := e
  simp only at h0 h1
  show Calls Tryz.prog 98 #[.agg #[.int .i64 fr, .int .i64 v, .int .i64 a, .bool ep, .int .i64 er, .bool el, .int .i64 ef], .int .i64 i] w _
  go_enter Tryz.func98, Tryz.ntmps98
  go_wp2
  refine bodyPost_ret (results_cell_row rfl _ _ (w.heap.size + 1) 95 _ (0, 0) _ rfl (P.two_new w _ _).2 Tryz.underlying95 rfl size95') rfl ?_
  exact ⟨rfl, (below_alloc _ _).alloc (by simp) _⟩

set_option maxHeartbeats 1000000 in
theorem leads_at (fr a pg : Int) (v : Int) (e : P.En) (w : World) (h0 : 0 ≤ e.f) (h1 : e.f ≤ 4095) (p0 : 0 ≤ pg) (p1 : pg ≤ 65535) (hv : 0 ≤ v) (hv' : v ≤ 3) :
    Calls Tryz.prog 47 #[.agg (stC fr v a e), .int .i64 pg] w fun r w' => r = .returned (.int .i64 (e.f + pg % P.sp v)) ∧ Below w.heap.size w w' := by
  obtain ⟨ep, er, el, ef⟩ := e
  simp only at h0 h1
  have HS := hid (fun w => P.span_at v w)
  have hs : 1 ≤ P.sp v ∧ P.sp v ≤ 4096 := by
    obtain rfl | rfl | rfl | rfl : v = 0 ∨ v = 1 ∨ v = 2 ∨ v = 3 := by omega
    all_goals decide
  have hm : 0 ≤ pg % P.sp v ∧ pg % P.sp v < 4096 := ⟨Int.emod_nonneg _ (by omega), by have := Int.emod_lt_of_pos pg (show 0 < P.sp v by omega); omega⟩
  have hB := below_alloc w (.cells (stC fr v a ⟨ep, er, el, ef⟩) 97)
  have HB := hid hB
  have c1 := cell_new w (stC fr v a ⟨ep, er, el, ef⟩) 97 1 rfl
  have c6 := cell_new w (stC fr v a ⟨ep, er, el, ef⟩) 97 6 rfl
  obtain ⟨s1, s2⟩ := hs
  obtain ⟨m1, m2⟩ := hm
  have hz : (P.sp v == 0) = false := by simp; omega
  generalize P.sp v = sv at *
  have hw : wrap64 (ef + pg % sv) = ef + pg % sv := by unfold wrap64; omega
  clear hB
  show Calls Tryz.prog 47 #[.agg #[.int .i64 fr, .int .i64 v, .int .i64 a, .bool ep, .int .i64 er, .bool el, .int .i64 ef], .int .i64 pg] w _
  go_enter Tryz.func47, Tryz.ntmps47
  go_wp2
  go_quiet ((go_at_call 85; exact Calls.quiet_of_same (HS.out _)))
  go_wp2
  go_ret
  exact ⟨rfl, below_drewN HB.out _⟩
end Go.Proofs.YtpfmmlbakbhklaaGreatDoor
namespace Go.Proofs.YtpfmmlbakbhklaaGreatDoor
open Go.RowKit
section
variable {u : Si} {w : World} {t : Nat} {st o root : Int} {s : Sm} {k : Nat}

theorem Wg.store_at (h : Wo u w s k) (hk : k ≤ bnd) (a v : Int) (hv : 0 ≤ v ∧ v < 18446744073709551616) :
    Calls Tryz.prog 100 #[.pointer (some ⟨u.mp, 0, none⟩), .int .i64 a, .int .u64 v] w fun e w' => (∃ x, e = .returned (.int .i64 x)) ∧ Wo u w' ⟨setW s.xs a v, s.ds⟩ (k + 1) ∧ Ch u w w' := by
  obtain ⟨d, l, hm, hd⟩ := h.mem
  refine (store_any (s := ⟨s.xs, d, l⟩) hm (k := k) ⟨hd.1, hd.2.1, hd.2.2.1, hd.2.2.2⟩ hk a v).mono ?_
  rintro e w' ⟨rfl, hM, hB⟩
  exact ⟨⟨_, rfl⟩, h.store hd hv hM hB, .of_but hB⟩

set_option maxHeartbeats 1000000 in
theorem lay_at' (hT : IsT u w t st o root) (h : Wo u w s k) (hk : k ≤ bnd) (a : Int) (e : P.En) :
    Calls Tryz.prog 57 #[.pointer (some ⟨t, 0, none⟩), .int .i64 a, P.eV e] w fun r w' => r = .returned (.tuple #[]) ∧ Wo u w' (lay s a e) (k + 1) ∧ Ch u w w' := by
  have HP := hid (fun W => P.pack_at e W)
  have HL := hid (pk_lt e)
  have HW := hid h
  have HT := hid hT
  have HK := hid hk
  obtain ⟨ep, er, el, ef⟩ := e
  unfold lay
  have hb := heap_alloc_new w (.cells #[.bool ep, .int .i64 er, .bool el, .int .i64 ef] 95)
  have HB := hid (below_alloc w (.cells #[.bool ep, .int .i64 er, .bool el, .int .i64 ef] 95))
  generalize hpk : P.pk ⟨ep, er, el, ef⟩ = pv at *
  generalize P.pkE ⟨ep, er, el, ef⟩ = pe at *
  clear h hT hk hpk
  unfold P.eV at HP
  simp only at HP
  show Calls Tryz.prog 57 #[.pointer (some ⟨t, 0, none⟩), .int .i64 a, .agg #[.bool ep, .int .i64 er, .bool el, .int .i64 ef]] w _
  go_enter Tryz.func57, Tryz.ntmps57
  go_wp2_with fail
  refine (HP.out _).mono ?_
  rintro r w1 ⟨rfl, hB⟩
  have HB1 := hid (P.bgo HB.out hB)
  obtain ⟨-, c1, -⟩ := (HT.out.below HB1.out).cells
  clear hB HB hb
  unfold P.wtwo
  go_wp2_with fail
  refine ((HW.out.below HB1.out).store_at HK.out _ _ HL.out).mono ?_
  rintro r w2 ⟨⟨x, rfl⟩, hW2, hC2⟩
  have HW2 := hid hW2
  have HC2 := hid hC2
  clear hW2 hC2 c1
  go_wp2
  go_end0
  exact ⟨rfl, HW2.out, (Ch.of_below HB1.out).trans HC2.out⟩

set_option maxHeartbeats 1000000 in
theorem words_at (hT : IsT u w t st o root) (h : Wo u w s k) (fr v : Int) :
    Calls Tryz.prog 88 #[.pointer (some ⟨t, 0, none⟩), .agg (tbC fr v)] w fun r w' => ∃ x, r = .returned x ∧ Lies w' x (cutW s.xs (P.at' fr 0 0) 16) ∧ Below w.heap.size w w' := by
  have hB0 : Below w.heap.size w (w.alloc (.cells #[.int .i64 fr, .int .i64 v] 93)).drew := (below_alloc w _).drew
  have c0 : (w.alloc (.cells #[.int .i64 fr, .int .i64 v] 93)).drew.cell? ⟨w.heap.size, 0, none⟩ = some (.int .i64 fr) := cell_new w #[.int .i64 fr, .int .i64 v] 93 0 rfl
  obtain ⟨d, l, hm, -⟩ := h.mem
  obtain ⟨-, c1, -⟩ := (hT.below hB0).cells
  have HB := hid hB0
  have HA := hid (fun w => P.place_at fr 0 0 w)
  have HC := hid (words_any (s := ⟨s.xs, d, l⟩) (hm.below hB0) (P.at' fr 0 0) 16 (by decide))
  have hS : ∀ w2, Below (w.alloc (.cells #[.int .i64 fr, .int .i64 v] 93)).drew.heap.size (w.alloc (.cells #[.int .i64 fr, .int .i64 v] 93)).drew w2 → w2.cell? ⟨t, 1, none⟩ = some (.pointer (some ⟨u.mp, 0, none⟩)) ∧ w2.cell? ⟨w.heap.size, 0, none⟩ = some (.int .i64 fr) := fun w2 b => ⟨(b.cell (p := ⟨t, 1, none⟩) (hT.below hB0).lt).trans c1, (b.cell (p := ⟨w.heap.size, 0, none⟩) (by simp)).trans c0⟩
  have HS := hid hS
  show Calls Tryz.prog 88 #[.pointer (some ⟨t, 0, none⟩), .agg #[.int .i64 fr, .int .i64 v]] w _
  show Calls Tryz.prog 88 #[.pointer (some ⟨t, 0, none⟩), .agg #[.int .i64 fr, .int .i64 v]] w fun r w' => ∃ x, r = .returned x ∧ Lies w' x (wordsV ⟨s.xs, d, l⟩ (P.at' fr 0 0) 16) ∧ Below w.heap.size w w'
  generalize wordsV ⟨s.xs, d, l⟩ (P.at' fr 0 0) 16 = L at *
  generalize P.at' fr 0 0 = a at *
  clear h hT hm hB0 hS
  go_enter Tryz.func88, Tryz.ntmps88
  go_wp2
  go_region_held3 (fun w' => w'.cell? ⟨t, 1, none⟩ = some (.pointer (some ⟨u.mp, 0, none⟩)) ∧ w'.cell? ⟨w.heap.size, 0, none⟩ = some (.int .i64 fr)) (first | exact ⟨c1, c0⟩ | assumption)
    (first
      | (go_at_call 103; refine (HA.out _).mono ?_; rintro e w' ⟨rfl, hw'⟩; rw [hw']; clear hw' w')
      | (go_at_call 29; refine HC.out.mono ?_; rintro e w2 ⟨x, rfl, hL, hB⟩; have hL2 := hid hL; have hS2 := HS.out _ hB; have hB2 := hid hB; clear hL hB))
  all_goals go_wp2
  all_goals go_ret
  all_goals exact ⟨_, rfl, hL2.out, P.bgo HB.out hB2.out⟩
end
end Go.Proofs.YtpfmmlbakbhklaaGreatDoor
namespace Go.Proofs.YtpfmmlbakbhklaaGreatDoor
open Go.RowKit
theorem seven {w : World} {g : Nat} {a b c d e f h : Value} {t : TypeId} (hh : w.heap[g]? = some (.cells #[a, b, c, d, e, f, h] t (0, 0))) :
    w.cell? ⟨g, 0, none⟩ = some a ∧ w.cell? ⟨g, 1, none⟩ = some b ∧ w.cell? ⟨g, 2, none⟩ = some c ∧ w.cell? ⟨g, 3, none⟩ = some d ∧ w.cell? ⟨g, 4, none⟩ = some e ∧ w.cell? ⟨g, 5, none⟩ = some f ∧ w.cell? ⟨g, 6, none⟩ = some h :=
  ⟨P.cell_of hh rfl, P.cell_of hh rfl, P.cell_of hh rfl, P.cell_of hh rfl, P.cell_of hh rfl, P.cell_of hh rfl, P.cell_of hh rfl⟩
theorem put7 {w2 : World} {g : Nat} {a b c d e f h : Value} {t : TypeId} (hg : w2.heap[g]? = some (.cells #[a, b, c, d, e, f, h] t (0, 0))) (a' b' c' d' e' f' h' : Value) :
    (((((((w2.setCell ⟨g, 0, none⟩ a').setCell ⟨g, 1, none⟩ b').setCell ⟨g, 2, none⟩ c').setCell ⟨g, 3, none⟩ d').setCell ⟨g, 4, none⟩ e').setCell ⟨g, 5, none⟩ f').setCell ⟨g, 6, none⟩ h').heap[g]? = some (.cells #[a', b', c', d', e', f', h'] t (0, 0)) := by
  have h0 : (w2.setCell ⟨g, 0, none⟩ a').heap[g]? = some (.cells #[a', b, c, d, e, f, h] t (0, 0)) := P.heap_setCell_self hg _
  have h1 : ((w2.setCell ⟨g, 0, none⟩ a').setCell ⟨g, 1, none⟩ b').heap[g]? = some (.cells #[a', b', c, d, e, f, h] t (0, 0)) := P.heap_setCell_self h0 _
  have h2 : (((w2.setCell ⟨g, 0, none⟩ a').setCell ⟨g, 1, none⟩ b').setCell ⟨g, 2, none⟩ c').heap[g]? = some (.cells #[a', b', c', d, e, f, h] t (0, 0)) := P.heap_setCell_self h1 _
  have h3 : ((((w2.setCell ⟨g, 0, none⟩ a').setCell ⟨g, 1, none⟩ b').setCell ⟨g, 2, none⟩ c').setCell ⟨g, 3, none⟩ d').heap[g]? = some (.cells #[a', b', c', d', e, f, h] t (0, 0)) := P.heap_setCell_self h2 _
  have h4 : (((((w2.setCell ⟨g, 0, none⟩ a').setCell ⟨g, 1, none⟩ b').setCell ⟨g, 2, none⟩ c').setCell ⟨g, 3, none⟩ d').setCell ⟨g, 4, none⟩ e').heap[g]? = some (.cells #[a', b', c', d', e', f, h] t (0, 0)) := P.heap_setCell_self h3 _
  have h5 : ((((((w2.setCell ⟨g, 0, none⟩ a').setCell ⟨g, 1, none⟩ b').setCell ⟨g, 2, none⟩ c').setCell ⟨g, 3, none⟩ d').setCell ⟨g, 4, none⟩ e').setCell ⟨g, 5, none⟩ f').heap[g]? = some (.cells #[a', b', c', d', e', f', h] t (0, 0)) := P.heap_setCell_self h4 _
  have h6 : (((((((w2.setCell ⟨g, 0, none⟩ a').setCell ⟨g, 1, none⟩ b').setCell ⟨g, 2, none⟩ c').setCell ⟨g, 3, none⟩ d').setCell ⟨g, 4, none⟩ e').setCell ⟨g, 5, none⟩ f').setCell ⟨g, 6, none⟩ h').heap[g]? = some (.cells #[a', b', c', d', e', f', h'] t (0, 0)) := P.heap_setCell_self h5 _
  exact h6
theorem bput7 {n g : Nat} {A B : World} (h : Below n A B) (hg : n ≤ g) (a' b' c' d' e' f' h' : Value) :
    Below n A (((((((B.setCell ⟨g, 0, none⟩ a').setCell ⟨g, 1, none⟩ b').setCell ⟨g, 2, none⟩ c').setCell ⟨g, 3, none⟩ d').setCell ⟨g, 4, none⟩ e').setCell ⟨g, 5, none⟩ f').setCell ⟨g, 6, none⟩ h') :=
  ((((((h.setCell (p := ⟨g, 0, none⟩) hg _).setCell (p := ⟨g, 1, none⟩) hg _).setCell (p := ⟨g, 2, none⟩) hg _).setCell (p := ⟨g, 3, none⟩) hg _).setCell (p := ⟨g, 4, none⟩) hg _).setCell (p := ⟨g, 5, none⟩) hg _).setCell (p := ⟨g, 6, none⟩) hg _
theorem free7 {w : World} {g : Nat} {c : Array Value} {t : TypeId} (h : w.heap[g]? = some (.cells c t (0, 0))) :
    w.frozen? ⟨g, 0, none⟩ = false ∧ w.frozen? ⟨g, 1, none⟩ = false ∧ w.frozen? ⟨g, 2, none⟩ = false ∧ w.frozen? ⟨g, 3, none⟩ = false ∧ w.frozen? ⟨g, 4, none⟩ = false ∧ w.frozen? ⟨g, 5, none⟩ = false ∧ w.frozen? ⟨g, 6, none⟩ = false :=
  ⟨P.free_of h, P.free_of h, P.free_of h, P.free_of h, P.free_of h, P.free_of h, P.free_of h⟩
theorem oth4 {W : World} {m g : Nat} {o : Obj} (h : W.heap[m]? = some o) (hne : m ≠ g) (i j k l : Nat) (a b c d : Value) :
    ((((W.setCell ⟨g, i, none⟩ a).setCell ⟨g, j, none⟩ b).setCell ⟨g, k, none⟩ c).setCell ⟨g, l, none⟩ d).heap[m]? = some o := by
  rw [Below.heap_setCell _ _ _ _ hne, Below.heap_setCell _ _ _ _ hne, Below.heap_setCell _ _ _ _ hne, Below.heap_setCell _ _ _ _ hne]
  exact h
theorem prD_zero : P.prD (Int.toNat 0) = P.zd := by
  unfold P.prD
  rw [if_pos (by decide +kernel)]
  rfl
section
variable {u : Si} {w : World} {t : Nat} {st o root : Int} {s : Sm} {k : Nat}
set_option maxHeartbeats 1000000 in
theorem stop_out (hT : IsT u w t st o root) (h : Wo u w s k) (fr v pg : Int) (hA : allB s.xs.length (P.at' fr pg v) 1 = false) :
    Calls Tryz.prog 136 #[.pointer (some ⟨t, 0, none⟩), .agg (tbC fr v), .int .i64 pg] w fun r w' => r = .returned (.agg (stC fr v (P.at' fr pg v) P.zd)) ∧ Below w.heap.size w w' := by
  have hP := hid (fun w => P.place_at fr pg v w)
  obtain ⟨n1, n2⟩ := P.two_new w (.cells #[.int .i64 fr, .int .i64 v] 93) (.cells #[.int .i64 0, .int .i64 0, .int .i64 0, .bool false, .int .i64 0, .bool false, .int .i64 0] 97)
  have b0 := P.btwo w (.cells #[.int .i64 fr, .int .i64 v] 93) (.cells #[.int .i64 0, .int .i64 0, .int .i64 0, .bool false, .int .i64 0, .bool false, .int .i64 0] 97)
  obtain ⟨W0, hW0⟩ : ∃ W0, ((w.alloc (.cells #[.int .i64 fr, .int .i64 v] 93)).alloc (.cells #[.int .i64 0, .int .i64 0, .int .i64 0, .bool false, .int .i64 0, .bool false, .int .i64 0] 97)) = W0 := ⟨_, rfl⟩
  rw [hW0] at n1 n2 b0
  have hs0 : W0.heap.size = w.heap.size + 1 + 1 := by rw [← hW0]; simp
  have c0 : W0.drew.cell? ⟨w.heap.size, 0, none⟩ = some (.int .i64 fr) := P.cell_of n1 rfl
  have c1 : W0.drew.cell? ⟨w.heap.size, 1, none⟩ = some (.int .i64 v) := P.cell_of n1 rfl
  have hS : ∀ o, (W0.drew.alloc o).cell? ⟨w.heap.size, 0, none⟩ = some (.int .i64 fr) ∧ (W0.drew.alloc o).cell? ⟨w.heap.size, 1, none⟩ = some (.int .i64 v) := fun o =>
    ⟨((below_alloc W0.drew o).cell (p := ⟨w.heap.size, 0, none⟩) (by show w.heap.size < W0.heap.size; omega)).trans c0, ((below_alloc W0.drew o).cell (p := ⟨w.heap.size, 1, none⟩) (by show w.heap.size < W0.heap.size; omega)).trans c1⟩
  have HS := hid hS
  have n3 : (W0.alloc (.cells #[.int .i64 fr, .int .i64 v, .int .i64 (P.at' fr pg v), .bool false, .int .i64 0, .bool false, .int .i64 0] 97)).drew.heap[w.heap.size + 1 + 1]? = some (.cells #[.int .i64 fr, .int .i64 v, .int .i64 (P.at' fr pg v), .bool false, .int .i64 0, .bool false, .int .i64 0] 97 (0, 0)) := by rw [← hs0]; exact heap_alloc_new W0 _
  have m3 := P.hkeep n2 (.cells #[.int .i64 fr, .int .i64 v, .int .i64 (P.at' fr pg v), .bool false, .int .i64 0, .bool false, .int .i64 0] 97)
  have b3 : Below w.heap.size w (W0.alloc (.cells #[.int .i64 fr, .int .i64 v, .int .i64 (P.at' fr pg v), .bool false, .int .i64 0, .bool false, .int .i64 0] 97)).drew := (b0.alloc b0.size _).drew
  obtain ⟨W3, hW3⟩ : ∃ W3, (W0.alloc (.cells #[.int .i64 fr, .int .i64 v, .int .i64 (P.at' fr pg v), .bool false, .int .i64 0, .bool false, .int .i64 0] 97)).drew = W3 := ⟨_, rfl⟩
  have m3 : W3.heap[w.heap.size + 1]? = some (.cells #[.int .i64 0, .int .i64 0, .int .i64 0, .bool false, .int .i64 0, .bool false, .int .i64 0] 97 (0, 0)) := by rw [← hW3]; exact m3
  rw [hW3] at n3 b3
  have HW3 := hid hW3
  clear hW3
  have T3 := hT.below b3
  obtain ⟨-, d1, -⟩ := T3.cells
  have k2 := (seven n3).2.2.1
  obtain ⟨dd, ll, hm, -⟩ := h.mem
  have HN : Hid (∀ n, Calls Tryz.prog 29 #[.pointer (some ⟨u.mp, 0, none⟩), .int .i64 (P.at' fr pg v), .int .i64 1] (W3.drewN n) fun e w' => e = .returned (.slice none 0 0) ∧ w' = W3.drewN n) := hid fun n => words_no (hm.below (below_drewN b3 n)) _ 1 (by decide) hA
  have HM := hid (fun n => P.stay (below_drewN (Below.refl W3.heap.size W3) n) m3)
  have HB := hid b3
  have HN3 := hid n3
  have HM3 := hid m3
  show Calls Tryz.prog 136 #[.pointer (some ⟨t, 0, none⟩), .agg #[.int .i64 fr, .int .i64 v], .int .i64 pg] w _
  generalize P.at' fr pg v = a at *
  clear hS h hT n1 n2 b0 hm T3 m3 b3 n3 hA
  go_enter Tryz.func136, Tryz.ntmps136
  go_wp2
  try rw [hW0]
  go_region_held3 (fun w' => w'.cell? ⟨w.heap.size, 0, none⟩ = some (.int .i64 fr) ∧ w'.cell? ⟨w.heap.size, 1, none⟩ = some (.int .i64 v)) (first | exact ⟨c0, c1⟩ | assumption | exact HS.out _)
    (first | (go_at_call 103; refine (hP.out _).mono ?_; rintro e w' ⟨rfl, hw'⟩; rw [hw']; clear hw' w'))
  all_goals (try rw [HW3.out])
  all_goals clear hW0 c0 c1 HS hP
  all_goals go_wp2
  all_goals (try rw [HW3.out])
  all_goals go_quiet ((go_at_call 29; exact Calls.quiet_of_same (HN.out _)))
  all_goals go_wp2
  all_goals
    obtain ⟨g0, g1, g2, g3, g4, g5, g6⟩ := seven HN3.out
    obtain ⟨x0, x1, x2, x3, x4, x5, x6⟩ := seven HM3.out
    obtain ⟨y0, y1, y2, y3, y4, y5, y6⟩ := free7 HM3.out
    clear k2
    refine wp_loop_rounds 1 ?_
    rw [rounds_succ]
    go_wp2
    refine bodyPost_ret (results_cell_row rfl _ _ (w.heap.size + 1) 97 _ (0, 0) _ rfl (put7 (HM.out _) _ _ _ _ _ _ _) Tryz.underlying97 rfl size97) rfl ?_
    exact ⟨rfl, bput7 (below_drewN HB.out _) (by omega) _ _ _ _ _ _ _⟩
set_option maxHeartbeats 1000000 in
theorem stop_in (hT : IsT u w t st o root) (h : Wo u w s k) (fr v pg : Int) (i : Nat) (hA : P.at' fr pg v = i) (hi : i < s.xs.length) (x : Nat) (hx : s.xs.getD i 0 = x) (hx' : x < 18446744073709551616) :
    Calls Tryz.prog 136 #[.pointer (some ⟨t, 0, none⟩), .agg (tbC fr v), .int .i64 pg] w fun r w' => r = .returned (.agg (stC fr v (P.at' fr pg v) (P.prD x))) ∧ Below w.heap.size w w' := by
  have hP := hid (fun w => P.place_at fr pg v w)
  obtain ⟨n1, n2⟩ := P.two_new w (.cells #[.int .i64 fr, .int .i64 v] 93) (.cells #[.int .i64 0, .int .i64 0, .int .i64 0, .bool false, .int .i64 0, .bool false, .int .i64 0] 97)
  have b0 := P.btwo w (.cells #[.int .i64 fr, .int .i64 v] 93) (.cells #[.int .i64 0, .int .i64 0, .int .i64 0, .bool false, .int .i64 0, .bool false, .int .i64 0] 97)
  obtain ⟨W0, hW0⟩ : ∃ W0, ((w.alloc (.cells #[.int .i64 fr, .int .i64 v] 93)).alloc (.cells #[.int .i64 0, .int .i64 0, .int .i64 0, .bool false, .int .i64 0, .bool false, .int .i64 0] 97)) = W0 := ⟨_, rfl⟩
  rw [hW0] at n1 n2 b0
  have hs0 : W0.heap.size = w.heap.size + 1 + 1 := by rw [← hW0]; simp
  have c0 : W0.drew.cell? ⟨w.heap.size, 0, none⟩ = some (.int .i64 fr) := P.cell_of n1 rfl
  have c1 : W0.drew.cell? ⟨w.heap.size, 1, none⟩ = some (.int .i64 v) := P.cell_of n1 rfl
  have hS : ∀ o, (W0.drew.alloc o).cell? ⟨w.heap.size, 0, none⟩ = some (.int .i64 fr) ∧ (W0.drew.alloc o).cell? ⟨w.heap.size, 1, none⟩ = some (.int .i64 v) := fun o =>
    ⟨((below_alloc W0.drew o).cell (p := ⟨w.heap.size, 0, none⟩) (by show w.heap.size < W0.heap.size; omega)).trans c0, ((below_alloc W0.drew o).cell (p := ⟨w.heap.size, 1, none⟩) (by show w.heap.size < W0.heap.size; omega)).trans c1⟩
  have HS := hid hS
  have n3 : (W0.alloc (.cells #[.int .i64 fr, .int .i64 v, .int .i64 (P.at' fr pg v), .bool false, .int .i64 0, .bool false, .int .i64 0] 97)).drew.heap[w.heap.size + 1 + 1]? = some (.cells #[.int .i64 fr, .int .i64 v, .int .i64 (P.at' fr pg v), .bool false, .int .i64 0, .bool false, .int .i64 0] 97 (0, 0)) := by rw [← hs0]; exact heap_alloc_new W0 _
  have m3 := P.hkeep n2 (.cells #[.int .i64 fr, .int .i64 v, .int .i64 (P.at' fr pg v), .bool false, .int .i64 0, .bool false, .int .i64 0] 97)
  have b3 : Below w.heap.size w (W0.alloc (.cells #[.int .i64 fr, .int .i64 v, .int .i64 (P.at' fr pg v), .bool false, .int .i64 0, .bool false, .int .i64 0] 97)).drew := (b0.alloc b0.size _).drew
  obtain ⟨W3, hW3⟩ : ∃ W3, (W0.alloc (.cells #[.int .i64 fr, .int .i64 v, .int .i64 (P.at' fr pg v), .bool false, .int .i64 0, .bool false, .int .i64 0] 97)).drew = W3 := ⟨_, rfl⟩
  have m3 : W3.heap[w.heap.size + 1]? = some (.cells #[.int .i64 0, .int .i64 0, .int .i64 0, .bool false, .int .i64 0, .bool false, .int .i64 0] 97 (0, 0)) := by rw [← hW3]; exact m3
  rw [hW3] at n3 b3
  have HW3 := hid hW3
  clear hW3
  have T3 := hT.below b3
  obtain ⟨-, d1, -⟩ := T3.cells
  have k2 := (seven n3).2.2.1
  obtain ⟨dd, ll, hm, -⟩ := h.mem
  have hC := words_yes (hm.below b3.drew) i 1 (by decide) (by omega)
  have hcut : cut s.xs i 1 = [(x : Int)] := by
    unfold cut
    rw [List.drop_eq_getElem_cons hi, List.take_succ_cons, List.take_zero]
    have : s.xs[i] = x := by rw [← hx]; simp [List.getD, hi]
    rw [this]
  rw [hcut, ← hA] at hC
  have HC := hid hC
  have HM3 := hid m3
  have HB := hid b3
  have HN3 := hid n3
  have HR := hid (fun W => P.parse_at x hx' W)
  have hS2 : ∀ w2, Below W3.drew.heap.size W3.drew w2 → w2.cell? ⟨t, 1, none⟩ = some (.pointer (some ⟨u.mp, 0, none⟩)) ∧ w2.cell? ⟨w.heap.size + 1 + 1, 2, none⟩ = some (.int .i64 (P.at' fr pg v)) := fun w2 b =>
    ⟨(b.cell (p := ⟨t, 1, none⟩) T3.lt).trans d1, (b.cell (p := ⟨w.heap.size + 1 + 1, 2, none⟩) (lt_of_block n3)).trans k2⟩
  have HS2 := hid hS2
  have d1' : W3.drew.cell? ⟨t, 1, none⟩ = some (.pointer (some ⟨u.mp, 0, none⟩)) := d1
  have k2' : W3.drew.cell? ⟨w.heap.size + 1 + 1, 2, none⟩ = some (.int .i64 (P.at' fr pg v)) := k2
  have HD := hid d1'
  have HK := hid k2'
  unfold P.ptwo P.eV at HR
  show Calls Tryz.prog 136 #[.pointer (some ⟨t, 0, none⟩), .agg #[.int .i64 fr, .int .i64 v], .int .i64 pg] w _
  generalize P.at' fr pg v = a at *
  generalize P.prY x = py at *
  generalize P.prD x = d at *
  obtain ⟨dp, dr, dl, df⟩ := d
  simp only at HR
  clear hS h hT n1 n2 b0 hm T3 m3 b3 n3 hA hcut hC hS2 hi hx hx'
  go_enter Tryz.func136, Tryz.ntmps136
  go_wp2
  try rw [hW0]
  go_region_held3 (fun w' => w'.cell? ⟨w.heap.size, 0, none⟩ = some (.int .i64 fr) ∧ w'.cell? ⟨w.heap.size, 1, none⟩ = some (.int .i64 v)) (first | exact ⟨c0, c1⟩ | assumption | exact HS.out _)
    (first | (go_at_call 103; refine (hP.out _).mono ?_; rintro e w' ⟨rfl, hw'⟩; rw [hw']; clear hw' w'))
  all_goals (try rw [HW3.out])
  all_goals clear hW0 c0 c1 HS hP
  all_goals go_wp2
  all_goals (try rw [HW3.out])
  all_goals go_region_held3 (fun w' => w'.cell? ⟨t, 1, none⟩ = some (.pointer (some ⟨u.mp, 0, none⟩)) ∧ w'.cell? ⟨w.heap.size + 1 + 1, 2, none⟩ = some (.int .i64 a)) (first | exact ⟨HD.out, HK.out⟩ | assumption)
    (first | (go_at_call 29; refine HC.out.mono ?_; rintro e w2 ⟨rfl, hR2, hB2⟩; have HB2 := hid hB2; have HR2 := hid hR2; have hS2 := HS2.out _ hB2; clear hB2 hR2))
  all_goals go_wp2
  all_goals
    have e1 : Below W3.heap.size W3 w2 := (Below.refl _ _).drew.trans HB2.out
    have HE1 := hid e1
    have r0 := IsRow.cell HR2.out 0 (by simp)
    rw [show W3.drew.heap.size = W3.heap.size from rfl] at r0
    simp only [List.getD_cons_zero] at r0
    clear e1 hS2 k2 k2' d1 d1' HC HS2 HK HD
    refine wp_loop_rounds 2 ?_
    rw [rounds_succ]
    go_wp2_with fail
    refine (HR.out _).mono ?_
    rintro r w3 ⟨rfl, hB3⟩
    have e3 := P.bgo HE1.out hB3
    have HG := hid (P.stay e3 HN3.out)
    have HM := hid (P.stay e3 HM3.out)
    have HB3 := hid (HB.out.trans (e3.mono HB.out.size))
    clear hB3 r0 e3
    obtain ⟨g0, g1, g2, g3, g4, g5, g6⟩ := seven HG.out
    obtain ⟨z0, z1, z2, z3, z4, z5, z6⟩ := free7 HG.out
    obtain ⟨x0, x1, x2, x3, x4, x5, x6⟩ := seven HM.out
    obtain ⟨y0, y1, y2, y3, y4, y5, y6⟩ := free7 HM.out
    go_wp2
    rw [rounds_succ]
    go_wp2
    refine bodyPost_ret (results_cell_row rfl _ _ (w.heap.size + 1) 97 _ (0, 0) _ rfl (put7 (oth4 HM.out (by omega) _ _ _ _ _ _ _ _) _ _ _ _ _ _ _) Tryz.underlying97 rfl size97) rfl ?_
    exact ⟨rfl, bput7 ((((HB3.out.setCell (p := ⟨_, 3, none⟩) (by simp; omega) _).setCell (p := ⟨_, 4, none⟩) (by simp; omega) _).setCell (p := ⟨_, 5, none⟩) (by simp; omega) _).setCell (p := ⟨_, 6, none⟩) (by simp; omega) _) (by omega) _ _ _ _ _ _ _⟩
/-- What stop tells. -/
theorem stop_at (hT : IsT u w t st o root) (h : Wo u w s k) (fr pg : Int) (v : Nat) :
    Calls Tryz.prog 136 #[.pointer (some ⟨t, 0, none⟩), .agg (tbC fr v), .int .i64 pg] w fun r w' => r = .returned (.agg (stC fr v (P.at' fr pg v) (en s.xs pg fr v))) ∧ Below w.heap.size w w' := by
  cases hA : allB s.xs.length (P.at' fr pg v) 1
  · have hz : en s.xs pg fr v = P.zd := by
      have : inB s.xs.length (P.at' fr pg v) = false := by
        have := allB_no.1 hA
        rw [inB_no]; omega
      unfold en wordAt
      rw [this, if_neg (by decide)]
      exact prD_zero
    rw [hz]
    exact stop_out hT h fr v pg hA
  · have ⟨_, h2, h3⟩ := allB_yes.1 hA
    obtain ⟨i, hi⟩ := Int.eq_ofNat_of_zero_le h2
    have hl : i < s.xs.length := by omega
    obtain ⟨x, hx, hx'⟩ := h.u64.at (P.at' fr pg v)
    have hb : inB s.xs.length (P.at' fr pg v) = true := inB_yes.2 (by omega)
    have hx2 : s.xs.getD i 0 = x := by
      rw [← hx]
      unfold wordAt
      rw [hb, if_pos rfl, hi]
      rfl
    have he : en s.xs pg fr v = P.prD x := by unfold en; rw [hx]; rfl
    rw [he]
    exact stop_in hT h fr v pg i hi hl x hx2 hx'
end
end Go.Proofs.YtpfmmlbakbhklaaGreatDoor
