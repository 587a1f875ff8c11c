/- What the two closures that change a descriptor (Turn$1, Ref$1) return, and what lay, Turn, Give and Ref return and leave, for every pool whose descriptors lie in memory and every number: the same functions as the document's. Condition: the table of rules lies in its variable. -/
import Derived.Test.YtpfmmlbakbhklaaGreatDoorOS1
import Derived.Test.YtpfmmlbakbhklaaGreatDoorOD8
namespace Go.Proofs.YtpfmmlbakbhklaaGreatDoor.O
open Go.RowKit


set_option maxRecDepth 100000 in
set_option maxHeartbeats 1000000 in
theorem turn_clo (a0 a1 a2 a3 k o : Int) (B0 B1 : Nat) (w : World) (hT : Tab w) (h0 : w.cell? ⟨B0, 0, none⟩ = some (.int .i64 k)) (h1 : w.cell? ⟨B1, 0, none⟩ = some (.int .i64 o)) :
    Calls Tryz.prog 152 #[.agg #[.int .i64 a0, .int .i64 a1, .int .i64 a2, .int .i64 a3], .pointer (some ⟨B0, 0, none⟩), .pointer (some ⟨B1, 0, none⟩)] w fun x w' => x = .returned (two (nx ⟨a0, a1, a2, a3⟩ k o) (nxE ⟨a0, a1, a2, a3⟩ k o)) ∧ Below w.heap.size w w' := by
  have HT0 := hid hT
  clear hT
  have g0 : ((w.alloc (.cells #[.int .i64 a0, .int .i64 a1, .int .i64 a2, .int .i64 a3] 64)).alloc (.cells #[.int .i64 0, .int .i64 0, .int .i64 0, .int .i64 0] 64)).cell? ⟨B0, 0, none⟩ = some (.int .i64 k) := ((btwo w _ _).cell (p := ⟨B0, 0, none⟩) (World.block_lt_of_cell? w ⟨B0, 0, none⟩ h0)).trans h0
  have g1 : ((w.alloc (.cells #[.int .i64 a0, .int .i64 a1, .int .i64 a2, .int .i64 a3] 64)).alloc (.cells #[.int .i64 0, .int .i64 0, .int .i64 0, .int .i64 0] 64)).cell? ⟨B1, 0, none⟩ = some (.int .i64 o) := ((btwo w _ _).cell (p := ⟨B1, 0, none⟩) (World.block_lt_of_cell? w ⟨B1, 0, none⟩ h1)).trans h1
  clear h0 h1
  have hC := fun W (h : Tab W) => next_at ⟨a0, a1, a2, a3⟩ k o W h
  generalize nx ⟨a0, a1, a2, a3⟩ k o = d' at hC ⊢
  generalize nxE ⟨a0, a1, a2, a3⟩ k o = e' at hC ⊢
  have HC := hid hC
  clear hC
  obtain ⟨x0, x1, x2, x3⟩ := d'
  go_enter Tryz.func152, Tryz.ntmps152
  go_wp2_with fail
  refine (HC.out _ ((HT0.out.alloc _).alloc _)).mono ?_
  rintro x w1 ⟨rfl, hB⟩
  have a0' := stay hB (two_new w _ _).1
  have a1' := stay hB (two_new w _ _).2
  have HB := hid (bgo (btwo w _ _) hB)
  clear hB
  obtain ⟨p10, p11, p12, p13, q10, q11, q12, q13⟩ := four a1'
  have A1 := hid a1'
  clear a1' a0'
  (try unfold two)
  (try unfold dV)
  (try simp only [])
  go_wp2
  (try simp only [Exit.inBlock, Exit.then])
  refine bodyPost_ret (results_row_tmp rfl _ _ (w.heap.size + 1) _ rfl (run_loadVar_row _ _ 64 64 _ (0, 0) _ (put4 A1.out _ _ _ _) Tryz.underlying64 rfl size64)) rfl ?_
  exact ⟨rfl, bput HB.out (by omega) _ _ _ _⟩

end Go.Proofs.YtpfmmlbakbhklaaGreatDoor.O
