/- What next, leadsTo, part, lay, words and stop return and leave, for every table, entry and page. Conditions: the words and frames lie in memory; few calls have been counted. -/
import Derived.Test.YtpfmmlbakbhklaaGreatDoorN1
import Derived.Deep.RegionHeld3
import Derived.BigQuiet
namespace Go.Proofs.YtpfmmlbakbhklaaGreatDoor
open Go.RowKit

/-- Whether an entry of a table leads to a table. -/
def nxB (e : P.En) (v : Int) : Bool := !(v == 0) && P.tb e
def nxV (e : P.En) (v : Int) : Value := .tuple #[.agg (if nxB e v = true then tbC e.f (v - 1) else tbC 0 0), .bool (nxB e v)]
theorem lt_new (w : World) (A : Obj) : w.heap.size < (w.alloc A).heap.size := by simp
theorem cell_new (w : World) (c : Array Value) (T : TypeId) (i : Nat) {v : Value} (h : c[i]? = some v) : (w.alloc (.cells c T)).cell? ⟨w.heap.size, i, none⟩ = some v := P.cell_of (heap_alloc_new w _) h
theorem new3 (w : World) (A B C : Obj) : (((w.alloc A).alloc B).alloc C).heap[w.heap.size]? = some A ∧ (((w.alloc A).alloc B).alloc C).heap[w.heap.size + 1]? = some B ∧ (((w.alloc A).alloc B).alloc C).heap[w.heap.size + 1 + 1]? = some C := by
  have h := P.two_new w A B
  refine ⟨P.hkeep h.1 C, P.hkeep h.2 C, ?_⟩
  have := heap_alloc_new ((w.alloc A).alloc B) C
  simpa using this
theorem put2 {w2 : World} {g : Nat} {x y : Value} {t : TypeId} (hg : w2.heap[g]? = some (.cells #[x, y] t (0, 0))) (x' y' : Value) :
    ((w2.setCell ⟨g, 0, none⟩ x').setCell ⟨g, 1, none⟩ y').heap[g]? = some (.cells #[x', y'] t (0, 0)) := P.heap_setCell_self (P.heap_setCell_self hg _) _
set_option maxHeartbeats 1000000 in
theorem next_at (fr v : Int) (e : P.En) (w : World) (hv : 0 ≤ v) (hv' : v ≤ 3) : Calls Tryz.prog 90 #[.agg (tbC fr v), P.eV e] w fun r w' => r = .returned (nxV e v) ∧ Below w.heap.size w w' := by
  obtain ⟨ep, er, el, ef⟩ := e
  have B3 : Below w.heap.size w (((w.alloc (.cells #[.int .i64 fr, .int .i64 v] 93)).alloc (.cells #[.bool ep, .int .i64 er, .bool el, .int .i64 ef] 95)).alloc (.cells #[.int .i64 0, .int .i64 0] 93)) := ((below_alloc _ _).alloc (by simp) _).alloc (by simp; omega) _
  unfold nxV nxB
  by_cases h0 : v = 0
  · subst h0
    have HB := hid B3
    have HN := hid (new3 w (.cells #[.int .i64 fr, .int .i64 0] 93) (.cells #[.bool ep, .int .i64 er, .bool el, .int .i64 ef] 95) (.cells #[.int .i64 0, .int .i64 0] 93)).2.2
    clear B3
    simp only [beq_self_eq_true, Bool.not_true, Bool.false_and, if_neg Bool.false_ne_true]
    show Calls Tryz.prog 90 #[.agg #[.int .i64 fr, .int .i64 0], .agg #[.bool ep, .int .i64 er, .bool el, .int .i64 ef]] w _
    go_enter Tryz.func90, Tryz.ntmps90
    go_wp2
    refine bodyPost_ret (P.results_row_tmp rfl _ _ _ _ rfl (run_loadVar_row _ _ 93 93 _ (0, 0) _ HN.out Tryz.underlying93 rfl size93)) rfl ?_
    exact ⟨rfl, HB.out⟩
  · have b0 : (v == 0) = false := by simpa using h0
    cases hb : P.tb ⟨ep, er, el, ef⟩
    · have HT : Hid (∀ W, Calls Tryz.prog 120 #[.agg #[.bool ep, .int .i64 er, .bool el, .int .i64 ef]] W fun r w' => r = .returned (.bool false) ∧ Below W.heap.size W w') := hid fun W => by rw [← hb]; exact P.table_at _ _
      have HB := hid B3
      have HN := hid (new3 w (.cells #[.int .i64 fr, .int .i64 v] 93) (.cells #[.bool ep, .int .i64 er, .bool el, .int .i64 ef] 95) (.cells #[.int .i64 0, .int .i64 0] 93)).2.2
      clear B3 hb h0
      simp only [b0, Bool.not_false, Bool.true_and, if_neg Bool.false_ne_true]
      show Calls Tryz.prog 90 #[.agg #[.int .i64 fr, .int .i64 v], .agg #[.bool ep, .int .i64 er, .bool el, .int .i64 ef]] w _
      go_enter Tryz.func90, Tryz.ntmps90
      go_wp2_with fail
      refine (HT.out _).mono ?_
      rintro r w1 ⟨rfl, hB⟩
      have HN1 := hid (P.stay hB HN.out)
      have HB1 := hid (P.bgo HB.out hB)
      have f0 := P.free_of (i := 0) HN1.out
      have f1 := P.free_of (i := 1) HN1.out
      have k0 := P.cell_of (i := 0) HN1.out rfl
      have k1 := P.cell_of (i := 1) HN1.out rfl
      clear hB
      go_wp2
      refine bodyPost_ret (P.results_row_tmp rfl _ _ _ _ rfl (run_loadVar_row _ _ 93 93 _ (0, 0) _ (put2 HN1.out _ _) Tryz.underlying93 rfl size93)) rfl ?_
      exact ⟨rfl, (HB1.out.setCell (p := ⟨_, 0, none⟩) (by simp; omega) _).setCell (p := ⟨_, 1, none⟩) (by simp; omega) _⟩
    · have HT : Hid (∀ W, Calls Tryz.prog 120 #[.agg #[.bool ep, .int .i64 er, .bool el, .int .i64 ef]] W fun r w' => r = .returned (.bool true) ∧ Below W.heap.size W w') := hid fun W => by rw [← hb]; exact P.table_at _ _
      have HB := hid B3
      have HN := hid (new3 w (.cells #[.int .i64 fr, .int .i64 v] 93) (.cells #[.bool ep, .int .i64 er, .bool el, .int .i64 ef] 95) (.cells #[.int .i64 0, .int .i64 0] 93)).2.2
      have HV : Hid ((((w.alloc (.cells #[.int .i64 fr, .int .i64 v] 93)).alloc (.cells #[.bool ep, .int .i64 er, .bool el, .int .i64 ef] 95)).alloc (.cells #[.int .i64 0, .int .i64 0] 93)).heap[w.heap.size]? = some (.cells #[.int .i64 fr, .int .i64 v] 93)) := P.hkeep (P.hkeep (heap_alloc_new w _) _) _
      have HE := hid (P.hkeep (heap_alloc_new (w.alloc (.cells #[.int .i64 fr, .int .i64 v] 93)) (.cells #[.bool ep, .int .i64 er, .bool el, .int .i64 ef] 95)) (.cells #[.int .i64 0, .int .i64 0] 93))
      clear B3 hb h0
      simp only [b0, Bool.not_false, Bool.true_and, if_true]
      show Calls Tryz.prog 90 #[.agg #[.int .i64 fr, .int .i64 v], .agg #[.bool ep, .int .i64 er, .bool el, .int .i64 ef]] w _
      go_enter Tryz.func90, Tryz.ntmps90
      go_wp2_with fail
      refine (HT.out _).mono ?_
      rintro r w1 ⟨rfl, hB⟩
      have HN1 := hid (P.stay hB HN.out)
      have HB1 := hid (P.bgo HB.out hB)
      have c1 := P.cell_of (i := 1) (P.stay hB HV.out) rfl
      have c3 := P.cell_of (i := 3) (P.stay hB HE.out) rfl
      rw [World.size_alloc] at c3
      have f0 := P.free_of (i := 0) HN1.out
      have f1 := P.free_of (i := 1) HN1.out
      have k0 := P.cell_of (i := 0) HN1.out rfl
      have k1 := P.cell_of (i := 1) HN1.out rfl
      clear hB HN HB HV HE
      go_wp2
      refine bodyPost_ret (P.results_row_tmp rfl _ _ _ _ rfl (run_loadVar_row _ _ 93 93 _ (0, 0) _ (put2 HN1.out _ _) Tryz.underlying93 rfl size93)) rfl ?_
      exact ⟨rfl, (HB1.out.setCell (p := ⟨_, 0, none⟩) (by simp; omega) _).setCell (p := ⟨_, 1, none⟩) (by simp; omega) _⟩

set_option maxHeartbeats 1000000 in
theorem part_at (fr v a i : Int) (e : P.En) (w : World) (h0 : 0 ≤ e.f) (h1 : e.f ≤ 4095) (i0 : 0 ≤ i) (i1 : i < 16) : Calls Tryz.prog 98 #[.agg (stC fr v a e), .int .i64 i] w fun r w' => r = .returned (P.eV ⟨true, e.r, false, e.f + i⟩) ∧ Below w.heap.size w w' := by
  obtain ⟨ep, er, el, ef⟩ := e
  simp only at h0 h1
  show Calls Tryz.prog 98 #[.agg #[.int .i64 fr, .int .i64 v, .int .i64 a, .bool ep, .int .i64 er, .bool el, .int .i64 ef], .int .i64 i] w _
  go_enter Tryz.func98, Tryz.ntmps98
  go_wp2
  refine bodyPost_ret (results_cell_row rfl _ _ (w.heap.size + 1) 95 _ (0, 0) _ rfl (P.two_new w _ _).2 Tryz.underlying95 rfl size95') rfl ?_
  exact ⟨rfl, (below_alloc _ _).alloc (by simp) _⟩

set_option maxHeartbeats 1000000 in
theorem leads_at (fr a pg : Int) (v : Int) (e : P.En) (w : World) (h0 : 0 ≤ e.f) (h1 : e.f ≤ 4095) (p0 : 0 ≤ pg) (p1 : pg ≤ 65535) (hv : 0 ≤ v) (hv' : v ≤ 3) :
    Calls Tryz.prog 47 #[.agg (stC fr v a e), .int .i64 pg] w fun r w' => r = .returned (.int .i64 (e.f + pg % P.sp v)) ∧ Below w.heap.size w w' := by
  obtain ⟨ep, er, el, ef⟩ := e
  simp only at h0 h1
  have HS := hid (fun w => P.span_at v w)
  have hs : 1 ≤ P.sp v ∧ P.sp v ≤ 4096 := by
    obtain rfl | rfl | rfl | rfl : v = 0 ∨ v = 1 ∨ v = 2 ∨ v = 3 := by omega
    all_goals decide
  have hm : 0 ≤ pg % P.sp v ∧ pg % P.sp v < 4096 := ⟨Int.emod_nonneg _ (by omega), by have := Int.emod_lt_of_pos pg (show 0 < P.sp v by omega); omega⟩
  have hB := below_alloc w (.cells (stC fr v a ⟨ep, er, el, ef⟩) 97)
  have HB := hid hB
  have c1 := cell_new w (stC fr v a ⟨ep, er, el, ef⟩) 97 1 rfl
  have c6 := cell_new w (stC fr v a ⟨ep, er, el, ef⟩) 97 6 rfl
  obtain ⟨s1, s2⟩ := hs
  obtain ⟨m1, m2⟩ := hm
  have hz : (P.sp v == 0) = false := by simp; omega
  generalize P.sp v = sv at *
  have hw : wrap64 (ef + pg % sv) = ef + pg % sv := by unfold wrap64; omega
  clear hB
  show Calls Tryz.prog 47 #[.agg #[.int .i64 fr, .int .i64 v, .int .i64 a, .bool ep, .int .i64 er, .bool el, .int .i64 ef], .int .i64 pg] w _
  go_enter Tryz.func47, Tryz.ntmps47
  go_wp2
  go_quiet ((go_at_call 85; exact Calls.quiet_of_same (HS.out _)))
  go_wp2
  go_ret
  exact ⟨rfl, below_drewN HB.out _⟩
end Go.Proofs.YtpfmmlbakbhklaaGreatDoor
