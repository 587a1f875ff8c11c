/- What the small calls of package npt (isLive, fault, Root, areRights, isFrame, top, next, leadsTo, part, nothing) return, for every tables that lie in memory, and of none. No conditions. -/
import Derived.Test.YtpfmmlbakbhklaaGreatDoorX2
import Derived.Laws.StructEq
namespace Go.Proofs.YtpfmmlbakbhklaaGreatDoor
open Go.RowKit

theorem size93 : (Tryz.prog.info? 93).map (·.size) = some 2 := by kernel_rfl
theorem size95' : (Tryz.prog.info? 95).map (·.size) = some 4 := by kernel_rfl
theorem size97 : (Tryz.prog.info? 97).map (·.size) = some 7 := by kernel_rfl
abbrev tbC (fr v : Int) : Array Value := #[.int .i64 fr, .int .i64 v]
abbrev stC (fr v a : Int) (e : P.En) : Array Value := #[.int .i64 fr, .int .i64 v, .int .i64 a, .bool e.p, .int .i64 e.r, .bool e.l, .int .i64 e.f]
section
variable {u : Si} {w : World} {t : Nat} {st o root : Int}

set_option maxHeartbeats 400000 in
theorem isLive_at (h : IsT u w t st o root) : Calls Tryz.prog 49 #[.pointer (some ⟨t, 0, none⟩)] w fun e w' => e = .returned (.bool (st == 1)) ∧ w' = w := by
  obtain ⟨c0, -⟩ := h.cells
  clear h
  cases hb : st == 1
  all_goals
    go_enter Tryz.func49, Tryz.ntmps49
    go_wp2
    go_ret
    exact ⟨rfl, rfl⟩
set_option maxHeartbeats 400000 in
theorem isLive_nil (w : World) : Calls Tryz.prog 49 #[.pointer none] w fun e w' => e = .returned (.bool false) ∧ w' = w := by
  go_enter Tryz.func49, Tryz.ntmps49
  go_wp2
  go_ret
  exact ⟨rfl, rfl⟩
/-- Why a page can't be asked for. -/
def ftE (st pg : Int) : Int := if st = 0 then 10 else if st = 2 then 6 else if P.btw pg 0 65535 = true then 0 else 2
set_option maxHeartbeats 400000 in
theorem fault_at (h : IsT u w t st o root) (pg : Int) : Calls Tryz.prog 59 #[.pointer (some ⟨t, 0, none⟩), .int .i64 pg] w fun e w' => e = .returned (.int .i64 (ftE st pg)) ∧ w' = w := by
  obtain ⟨c0, -⟩ := h.cells
  clear h
  unfold ftE
  by_cases h0 : st = 0
  · subst h0
    rw [if_pos rfl]
    go_enter Tryz.func59, Tryz.ntmps59
    go_wp2
    go_ret
    exact ⟨rfl, rfl⟩
  · rw [if_neg h0]
    have b0 : (st == 0) = false := by simpa using h0
    clear h0
    by_cases h2 : st = 2
    · subst h2
      rw [if_pos rfl]
      clear b0
      go_enter Tryz.func59, Tryz.ntmps59
      go_wp2
      go_ret
      exact ⟨rfl, rfl⟩
    · rw [if_neg h2]
      have b2 : (st == 2) = false := by simpa using h2
      clear h2
      by_cases g0 : 0 ≤ pg
      · by_cases g1 : pg ≤ 65535
        · rw [P.btw_t g0 g1, if_pos rfl]
          have g0' : ¬ pg < 0 := by omega
          have g1' : ¬ 65536 ≤ pg := by omega
          clear g0 g1
          go_enter Tryz.func59, Tryz.ntmps59
          go_wp2
          go_ret
          exact ⟨rfl, rfl⟩
        · rw [P.btw_f2 g1, if_neg (by decide)]
          have g0' : ¬ pg < 0 := by omega
          have g1' : 65536 ≤ pg := by omega
          clear g0 g1
          go_enter Tryz.func59, Tryz.ntmps59
          go_wp2
          go_ret
          exact ⟨rfl, rfl⟩
      · rw [P.btw_f1 g0, if_neg (by decide)]
        have g0' : pg < 0 := by omega
        clear g0
        go_enter Tryz.func59, Tryz.ntmps59
        go_wp2
        go_ret
        exact ⟨rfl, rfl⟩
set_option maxHeartbeats 400000 in
theorem fault_nil (w : World) (pg : Int) : Calls Tryz.prog 59 #[.pointer none, .int .i64 pg] w fun e w' => e = .returned (.int .i64 10) ∧ w' = w := by
  go_enter Tryz.func59, Tryz.ntmps59
  go_wp2
  go_ret
  exact ⟨rfl, rfl⟩
set_option maxHeartbeats 400000 in
theorem root_at (h : IsT u w t st o root) : Calls Tryz.prog 18 #[.pointer (some ⟨t, 0, none⟩)] w fun e w' => e = .returned (.int .i64 (if st = 1 then root else -1)) ∧ w' = w := by
  have H := hid (isLive_at h)
  obtain ⟨-, -, -, -, c4⟩ := h.cells
  clear h
  by_cases h1 : st = 1
  · subst h1
    rw [if_pos rfl]
    go_enter Tryz.func18, Tryz.ntmps18
    go_wp2_with fail
    refine H.out.mono ?_
    rintro e w1 ⟨rfl, rfl⟩
    go_wp2
    go_ret
    exact ⟨rfl, rfl⟩
  · rw [if_neg h1]
    have b1 : (st == 1) = false := by simpa using h1
    rw [b1] at H
    clear h1 b1
    go_enter Tryz.func18, Tryz.ntmps18
    go_wp2_with fail
    refine H.out.mono ?_
    rintro e w1 ⟨rfl, rfl⟩
    go_wp2
    go_ret
    exact ⟨rfl, rfl⟩
set_option maxHeartbeats 400000 in
theorem root_nil (w : World) : Calls Tryz.prog 18 #[.pointer none] w fun e w' => e = .returned (.int .i64 (-1)) ∧ w' = w := by
  go_enter Tryz.func18, Tryz.ntmps18
  go_wp2_with fail
  refine (isLive_nil w).mono ?_
  rintro e w1 ⟨rfl, rfl⟩
  go_wp2
  go_ret
  exact ⟨rfl, rfl⟩
set_option maxHeartbeats 400000 in
theorem rights_at (n : Int) (w : World) : Calls Tryz.prog 60 #[.int .i64 n] w fun e w' => e = .returned (.bool (P.btw n 1 7)) ∧ w' = w := by
  by_cases g0 : 1 ≤ n
  · by_cases g1 : n ≤ 7
    · rw [P.btw_t g0 g1]
      go_enter Tryz.func60, Tryz.ntmps60
      go_wp2
      go_ret
      exact ⟨rfl, rfl⟩
    · rw [P.btw_f2 g1]
      go_enter Tryz.func60, Tryz.ntmps60
      go_wp2
      go_ret
      exact ⟨rfl, rfl⟩
  · rw [P.btw_f1 g0]
    go_enter Tryz.func60, Tryz.ntmps60
    go_wp2
    go_ret
    exact ⟨rfl, rfl⟩
set_option maxHeartbeats 400000 in
theorem frame_at (n : Int) (w : World) : Calls Tryz.prog 134 #[.int .i64 n] w fun e w' => e = .returned (.bool (P.btw n 0 4095)) ∧ w' = w := by
  by_cases g0 : 0 ≤ n
  · by_cases g1 : n ≤ 4095
    · rw [P.btw_t g0 g1]
      have g1' : n < 4096 := by omega
      clear g1
      go_enter Tryz.func134, Tryz.ntmps134
      go_wp2
      go_ret
      exact ⟨rfl, rfl⟩
    · rw [P.btw_f2 g1]
      have g1' : ¬ n < 4096 := by omega
      clear g1
      go_enter Tryz.func134, Tryz.ntmps134
      go_wp2
      go_ret
      exact ⟨rfl, rfl⟩
  · rw [P.btw_f1 g0]
    go_enter Tryz.func134, Tryz.ntmps134
    go_wp2
    go_ret
    exact ⟨rfl, rfl⟩
set_option maxHeartbeats 400000 in
theorem top_at (h : IsT u w t st o root) : Calls Tryz.prog 51 #[.pointer (some ⟨t, 0, none⟩)] w fun e w' => e = .returned (.agg (tbC root 3)) ∧ Below w.heap.size w w' := by
  have h2 : IsT u (w.alloc (.cells #[.int .i64 0, .int .i64 0] 93)) t st o root := h.below (below_alloc _ _)
  obtain ⟨-, -, -, -, c4⟩ := h2.cells
  clear h h2
  go_enter Tryz.func51, Tryz.ntmps51
  go_wp2
  refine bodyPost_ret (results_cell_row rfl _ _ w.heap.size 93 _ (0, 0) _ rfl (heap_alloc_new _ _) Tryz.underlying93 rfl size93) rfl ?_
  exact ⟨rfl, below_alloc _ _⟩
end
set_option maxHeartbeats 400000 in
theorem nothing_at (i : Int) (w : World) : Calls Tryz.prog 72 #[.int .i64 i] w fun e w' => e = .returned (P.eV P.zd) ∧ Below w.heap.size w w' := by
  go_enter Tryz.func72, Tryz.ntmps72
  go_wp2
  refine bodyPost_ret (results_cell_row rfl _ _ w.heap.size 95 _ (0, 0) _ rfl (heap_alloc_new _ _) Tryz.underlying95 rfl size95') rfl ?_
  exact ⟨rfl, below_alloc _ _⟩
end Go.Proofs.YtpfmmlbakbhklaaGreatDoor
