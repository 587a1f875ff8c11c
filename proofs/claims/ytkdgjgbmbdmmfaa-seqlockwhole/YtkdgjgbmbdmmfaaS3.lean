/- What a program's do returns and leaves, where its act has no error. Conditions: the counts are below 2^62. -/
import Derived.Test.YtkdgjgbmbdmmfaaS2
namespace Go.Proofs.Ytkdgjgbmbdmmfaa
open Go.RowKit

set_option maxRecDepth 100000 in
set_option maxHeartbeats 1000000 in
theorem pDo_at {w : World} {p b : Nat} {s : St} {k : Nat} (h : Mem 56 w p b s) (c : Cnt s k) (hk : k ≤ bnd) (q : Option Addr) (x : Ac) (he : (doR s x).e = 0) :
    Calls Try.prog 26 #[.pointer q, .pointer (some ⟨p, 0, none⟩), acV x] w fun e w' => e = .returned (.tuple #[reV (doR s x), .bool true]) ∧ Turns 56 p b w w' (doT s x) := by
  have HM := hid h
  have HC := hid c
  have HK := hid hk
  clear h c hk
  obtain ⟨r, hr⟩ : ∃ r, doR s x = r := ⟨_, rfl⟩
  rw [hr] at he ⊢
  have HD : Hid (∀ w', Mem 56 w' p b s → Calls Try.prog 33 #[.pointer (some ⟨p, 0, none⟩), acV x] w' fun e w'' => e = .returned (reV r) ∧ Turns 56 p b w' w'' (doT s x)) := hid (fun w' h' => by
    have := do_at h' HC.out HK.out x
    rw [hr] at this
    exact this)
  clear hr
  generalize doT s x = s' at HD ⊢
  obtain ⟨xk, xd, xa, xb⟩ := x
  obtain ⟨rv, ro, re⟩ := r
  simp only [] at he
  subst he
  go_enter Try.func26, Try.ntmps26
  go_wp2_with fail
  have hM := (HM.out.below (below_alloc w (.cells #[.int .i64 xk, .int .i64 xd, .int .u64 xa, .int .u64 xb] 50))).below (below_alloc _ (.cells #[.int .u64 0, .bool false, .int .i64 0] 66))
  refine (HD.out _ hM).mono ?_
  rintro e w2 ⟨rfl, hT⟩
  obtain ⟨hg, T⟩ := turns_new HM.out hT
  have HT := hid T
  have hlt := lt_of_block hg
  clear T hT hM
  have d0 : w2.cell? ⟨w.heap.size + 1, 0, none⟩ = some (.int .u64 0) := cell_of hg rfl
  have d1 : w2.cell? ⟨w.heap.size + 1, 1, none⟩ = some (.bool false) := cell_of hg rfl
  have d2 : w2.cell? ⟨w.heap.size + 1, 2, none⟩ = some (.int .i64 0) := cell_of hg rfl
  have f0 := free_of (i := 0) hg
  have f1 := free_of (i := 1) hg
  have f2 := free_of (i := 2) hg
  have HG := hid hg
  clear hg
  simp only []
  go_wp2
  (try simp only [Exit.inBlock, Exit.then])
  refine bodyPost_ret (results_row_tmp rfl _ _ (w.heap.size + 1) _ rfl (run_loadVar_row _ _ 66 66 _ (0, 0) _ ((Below.heap_alloc _ _ _ (by simpa [World.setCell] using hlt)).trans (put3 HG.out _ _ _)) Try.underlying66 rfl size66)) rfl ?_
  exact ⟨rfl, turns_alloc (turns_set HM.out (turns_set HM.out (turns_set HM.out HT.out _ _ _ (by omega)) _ _ _ (by omega)) _ _ _ (by omega)) _⟩
end Go.Proofs.Ytkdgjgbmbdmmfaa
