/- What read of package act returns at a text whose word is one of the four. Condition: the tables stand in their variables. -/
import Derived.Test.YtoeopapnegjooaaDoorJ
namespace Go.Proofs.YtoeopapnegjooaaDoor
open Go.RowKit

set_option maxRecDepth 100000 in
set_option maxHeartbeats 4000000 in
theorem read_full1 (s : ByteArray) (hs : s.size < 4294967281) (q1 : ByteArray) (hp : pcs s = [(⟨#[108, 111, 97, 100]⟩ : ByteArray), q1]) (z1 : q1.size ≤ 281474976710656) (w : World) (h : Std w) :
    Calls Tryd.prog 33 #[.string s] w fun e w' => e = .returned (resV (rd1 1 (pu q1))) ∧ Below w.heap.size w w' := by
  have HS := Lib.hid h
  have HP := Lib.hid hp
  obtain ⟨N, hN⟩ : ∃ N, min 5 (s.size + 1) = N := ⟨_, rfl⟩
  have HSp := Lib.hid (splitn_at s (w.alloc (.cells #[.int .i64 0, .int .i64 0, .int .u64 0, .int .u64 0] 40)) hs)
  have hlen : (pcs s).length ≤ N := by
    have := Lib.splitB_length_le blank 0 (min 5 (s.size + 1) - 1) s
    unfold pcs
    omega
  rw [hp] at hlen
  rw [hN] at HSp
  have e0 : Lib.splitB blank 0 (N - 1) s = [(⟨#[108, 111, 97, 100]⟩ : ByteArray), q1] := by rw [← hN]; exact hp
  rw [e0] at HSp
  simp only [List.length_cons, List.length_nil] at HSp hlen
  have hN5 : N ≤ 5 := by omega
  clear h hp hN e0
  have HZ1 := Lib.hid z1
  clear z1
  go_enter Tryd.func33, Tryd.ntmps33
  go_wp2_with fail
  refine HSp.out.mono ?_
  rintro e w1 ⟨rfl, rfl⟩
  have hR1 : ((w.alloc (.cells #[.int .i64 0, .int .i64 0, .int .u64 0, .int .u64 0] 40)).alloc (.cells (Lib.cellsOf ([(⟨#[108, 111, 97, 100]⟩ : ByteArray), q1]) N) 9)).heap[w.heap.size]? = some (.cells #[.int .i64 0, .int .i64 0, .int .u64 0, .int .u64 0] 40 (0, 0)) := hkeep (heap_alloc_new _ _) _
  have hP1 : ((w.alloc (.cells #[.int .i64 0, .int .i64 0, .int .u64 0, .int .u64 0] 40)).alloc (.cells (Lib.cellsOf ([(⟨#[108, 111, 97, 100]⟩ : ByteArray), q1]) N) 9)).heap[w.heap.size + 1]? = some (.cells (Lib.cellsOf ([(⟨#[108, 111, 97, 100]⟩ : ByteArray), q1]) N) 9 (0, 0)) := by
    have := heap_alloc_new (w.alloc (.cells #[.int .i64 0, .int .i64 0, .int .u64 0, .int .u64 0] 40)) (.cells (Lib.cellsOf ([(⟨#[108, 111, 97, 100]⟩ : ByteArray), q1]) N) 9 (0, 0))
    simpa using this
  have q0 : ((w.alloc (.cells #[.int .i64 0, .int .i64 0, .int .u64 0, .int .u64 0] 40)).alloc (.cells (Lib.cellsOf ([(⟨#[108, 111, 97, 100]⟩ : ByteArray), q1]) N) 9)).cell? ⟨w.heap.size + 1, 0, none⟩ = some (.string (⟨#[108, 111, 97, 100]⟩ : ByteArray)) := cell_of hP1 (pcs_at rfl)
  have B1 : Below w.heap.size w ((w.alloc (.cells #[.int .i64 0, .int .i64 0, .int .u64 0, .int .u64 0] 40)).alloc (.cells (Lib.cellsOf ([(⟨#[108, 111, 97, 100]⟩ : ByteArray), q1]) N) 9)) := zkeep (below_alloc _ _) _
  obtain ⟨W1, hW1⟩ : ∃ W1, ((w.alloc (.cells #[.int .i64 0, .int .i64 0, .int .u64 0, .int .u64 0] 40)).alloc (.cells (Lib.cellsOf ([(⟨#[108, 111, 97, 100]⟩ : ByteArray), q1]) N) 9)) = W1 := ⟨_, rfl⟩
  have hsz1 : (w.alloc (.cells #[.int .i64 0, .int .i64 0, .int .u64 0, .int .u64 0] 40)).heap.size = w.heap.size + 1 := by simp
  rw [hsz1]
  rw [hW1] at hR1 hP1 q0 B1 ⊢
  clear hW1 hsz1 HSp
  have HR1 := Lib.hid hR1
  have HP1 := Lib.hid hP1
  have HB1 := Lib.hid B1
  clear hR1 hP1 B1
  go_wp2_with fail
  refine (fow_1 _ (HS.out.below HB1.out).forms).mono ?_
  rintro e w2 ⟨rfl, K2⟩
  clear q0
  have hR2 : w2.heap[w.heap.size]? = some (.cells #[.int .i64 0, .int .i64 0, .int .u64 0, .int .u64 0] 40 (0, 0)) := (K2.block _ (lt_of_block HR1.out)).trans HR1.out
  have hP2 : w2.heap[w.heap.size + 1]? = some (.cells (Lib.cellsOf ([(⟨#[108, 111, 97, 100]⟩ : ByteArray), q1]) N) 9 (0, 0)) := (K2.block _ (lt_of_block HP1.out)).trans HP1.out
  have l0 := lt_of_block hR2
  have l1 := lt_of_block hP2
  have HP2 := Lib.hid hP2
  have HB2 := Lib.hid (bel_trans HB1.out K2)
  clear K2 hP2 HR1 HP1 HB1
  have hne : w.heap.size ≠ w2.heap.size := by omega
  have hne' : w2.heap.size ≠ w.heap.size := by omega
  have hne2 : w.heap.size ≠ w2.heap.size + 1 := by omega
  have hne3 : w2.heap.size + 1 ≠ w.heap.size := by omega
  have hne4 : w.heap.size + 1 ≠ w2.heap.size := by omega
  have HR2 := Lib.hid hR2
  clear hR2
  have p1 : w2.cell? ⟨w.heap.size + 1, 1, none⟩ = some (.string q1) := cell_of HP2.out (pcs_at rfl)
  unfold str wLoad
  simp only []
  go_wp2
  refine wp_loop_rounds 2 ?_
  rw [rounds_succ]
  go_wp2_with fail
  have H3 : Rd w ((w2.alloc (.cells #[.int .i64 1, .string ⟨#[108, 111, 97, 100]⟩, .int .i64 0] 74)).alloc (.cells #[.int .u64 0, .int .u64 0, .int .u64 0] 91)) (Lib.cellsOf ([(⟨#[108, 111, 97, 100]⟩ : ByteArray), q1]) N) w2.heap.size #[.int .i64 1, .string ⟨#[108, 111, 97, 100]⟩, .int .i64 0] (w2.heap.size + 1) 0 0 0 :=
    ⟨hkeep (hkeep HR2.out _) _, hkeep (hkeep HP2.out _) _, hkeep (heap_alloc_new _ _) _, by (have := heap_alloc_new (w2.alloc (.cells #[.int .i64 1, .string ⟨#[108, 111, 97, 100]⟩, .int .i64 0] 74)) (.cells #[.int .u64 0, .int .u64 0, .int .u64 0] 91 (0, 0)); simpa using this), HS.out.below (zkeep (zkeep HB2.out _) _), zkeep (zkeep HB2.out _) _, by omega, by omega, by omega, by omega⟩
  have HH0 := Lib.hid H3
  clear H3 p1 
  cases hq1 : pu q1 with
  | none =>
    refine (pu_none HZ1.out hq1 _ HH0.out.std).mono ?_
    rintro e x1 ⟨v, N', rfl, K⟩
    have HX := Lib.hid (HH0.out.below K)
    clear K
    have r0 : x1.cell? ⟨w.heap.size, 0, none⟩ = some (.int .i64 0) := cell_of HX.out.res rfl
    have r1 : x1.cell? ⟨w.heap.size, 1, none⟩ = some (.int .i64 0) := cell_of HX.out.res rfl
    have r2 : x1.cell? ⟨w.heap.size, 2, none⟩ = some (.int .u64 0) := cell_of HX.out.res rfl
    have r3 : x1.cell? ⟨w.heap.size, 3, none⟩ = some (.int .u64 0) := cell_of HX.out.res rfl
    have k0 := free_of (i := 0) HX.out.res
    have k1 := free_of (i := 1) HX.out.res
    have k2 := free_of (i := 2) HX.out.res
    have k3 := free_of (i := 3) HX.out.res
    go_wp2
    (try simp only [Exit.inBlock, Exit.then])
    refine bodyPost_ret (results_row_tmp rfl _ _ w.heap.size _ rfl (run_loadVar_row _ _ 40 40 _ (0, 0) _ (put4 HX.out.res _ _ _ _) Tryd.underlying40 rfl size40)) rfl ?_
    exact ⟨by simp [rd1, hq1]; rfl, bel_put4 HX.out.bel _ _ _ _⟩
  | some u0 =>
    refine (pu_some HZ1.out hq1 _).mono ?_
    rintro e w3 ⟨rfl, K⟩
    have HA1 := Lib.hid (HH0.out.below K)
    clear K
    have n0 : w3.cell? ⟨w2.heap.size + 1, 0, none⟩ = some (.int .u64 0) := cell_of HA1.out.nm rfl
    have n1 : w3.cell? ⟨w2.heap.size + 1, 1, none⟩ = some (.int .u64 0) := cell_of HA1.out.nm rfl
    have n2 : w3.cell? ⟨w2.heap.size + 1, 2, none⟩ = some (.int .u64 0) := cell_of HA1.out.nm rfl
    have j0 := free_of (i := 0) HA1.out.nm
    have j1 := free_of (i := 1) HA1.out.nm
    have j2 := free_of (i := 2) HA1.out.nm
    have HH1 := Lib.hid (HA1.out.set (v0 := (u0 : Int)) (v1 := 0) (v2 := 0) HS.out 0 u0 rfl)
    have r0 : w3.cell? ⟨w.heap.size, 0, none⟩ = some (.int .i64 0) := cell_of HA1.out.res rfl
    have r1 : w3.cell? ⟨w.heap.size, 1, none⟩ = some (.int .i64 0) := cell_of HA1.out.res rfl
    have r2 : w3.cell? ⟨w.heap.size, 2, none⟩ = some (.int .u64 0) := cell_of HA1.out.res rfl
    have r3 : w3.cell? ⟨w.heap.size, 3, none⟩ = some (.int .u64 0) := cell_of HA1.out.res rfl
    have k0 := free_of (i := 0) HA1.out.res
    have k1 := free_of (i := 1) HA1.out.res
    have k2 := free_of (i := 2) HA1.out.res
    have k3 := free_of (i := 3) HA1.out.res
    have fk : w3.cell? ⟨w2.heap.size, 0, none⟩ = some (.int .i64 1) := cell_of HA1.out.fo rfl
    by_cases hb : u0 ≤ 9223372036854775807
    · have hd : decide ((9223372036854775807 : Int) < u0) = false := by simp; omega
      have hw64 : IntKind.i64.wrap (u0 : Int) = u0 := by rw [IntKind.wrap_i64]; omega
      go_wp2
      rw [rounds_succ]
      go_wp2
      (try simp only [Exit.inBlock, Exit.then])
      refine bodyPost_ret (results_row_tmp rfl _ _ w.heap.size _ rfl (run_loadVar_row _ _ 40 40 _ (0, 0) _ (put4 HH1.out.res _ _ _ _) Tryd.underlying40 rfl size40)) rfl ?_
      exact ⟨by simp [rd1, hq1, hb, resV], bel_put4 HH1.out.bel _ _ _ _⟩
    · have hd : decide ((9223372036854775807 : Int) < u0) = true := by simp; omega
      go_wp2
      rw [rounds_succ]
      go_wp2
      (try simp only [Exit.inBlock, Exit.then])
      refine bodyPost_ret (results_row_tmp rfl _ _ w.heap.size _ rfl (run_loadVar_row _ _ 40 40 _ (0, 0) _ (put4 HH1.out.res _ _ _ _) Tryd.underlying40 rfl size40)) rfl ?_
      exact ⟨by simp [rd1, hq1, hb]; rfl, bel_put4 HH1.out.bel _ _ _ _⟩
set_option maxRecDepth 100000 in
set_option maxHeartbeats 4000000 in
theorem read_full2 (s : ByteArray) (hs : s.size < 4294967281) (q1 q2 : ByteArray) (hp : pcs s = [(⟨#[115, 116, 111, 114, 101]⟩ : ByteArray), q1, q2]) (z1 : q1.size ≤ 281474976710656) (z2 : q2.size ≤ 281474976710656) (w : World) (h : Std w) :
    Calls Tryd.prog 33 #[.string s] w fun e w' => e = .returned (resV (rd2 2 (pu q1) (pu q2))) ∧ Below w.heap.size w w' := by
  have HS := Lib.hid h
  have HP := Lib.hid hp
  obtain ⟨N, hN⟩ : ∃ N, min 5 (s.size + 1) = N := ⟨_, rfl⟩
  have HSp := Lib.hid (splitn_at s (w.alloc (.cells #[.int .i64 0, .int .i64 0, .int .u64 0, .int .u64 0] 40)) hs)
  have hlen : (pcs s).length ≤ N := by
    have := Lib.splitB_length_le blank 0 (min 5 (s.size + 1) - 1) s
    unfold pcs
    omega
  rw [hp] at hlen
  rw [hN] at HSp
  have e0 : Lib.splitB blank 0 (N - 1) s = [(⟨#[115, 116, 111, 114, 101]⟩ : ByteArray), q1, q2] := by rw [← hN]; exact hp
  rw [e0] at HSp
  simp only [List.length_cons, List.length_nil] at HSp hlen
  have hN5 : N ≤ 5 := by omega
  clear h hp hN e0
  have HZ1 := Lib.hid z1
  clear z1
  have HZ2 := Lib.hid z2
  clear z2
  go_enter Tryd.func33, Tryd.ntmps33
  go_wp2_with fail
  refine HSp.out.mono ?_
  rintro e w1 ⟨rfl, rfl⟩
  have hR1 : ((w.alloc (.cells #[.int .i64 0, .int .i64 0, .int .u64 0, .int .u64 0] 40)).alloc (.cells (Lib.cellsOf ([(⟨#[115, 116, 111, 114, 101]⟩ : ByteArray), q1, q2]) N) 9)).heap[w.heap.size]? = some (.cells #[.int .i64 0, .int .i64 0, .int .u64 0, .int .u64 0] 40 (0, 0)) := hkeep (heap_alloc_new _ _) _
  have hP1 : ((w.alloc (.cells #[.int .i64 0, .int .i64 0, .int .u64 0, .int .u64 0] 40)).alloc (.cells (Lib.cellsOf ([(⟨#[115, 116, 111, 114, 101]⟩ : ByteArray), q1, q2]) N) 9)).heap[w.heap.size + 1]? = some (.cells (Lib.cellsOf ([(⟨#[115, 116, 111, 114, 101]⟩ : ByteArray), q1, q2]) N) 9 (0, 0)) := by
    have := heap_alloc_new (w.alloc (.cells #[.int .i64 0, .int .i64 0, .int .u64 0, .int .u64 0] 40)) (.cells (Lib.cellsOf ([(⟨#[115, 116, 111, 114, 101]⟩ : ByteArray), q1, q2]) N) 9 (0, 0))
    simpa using this
  have q0 : ((w.alloc (.cells #[.int .i64 0, .int .i64 0, .int .u64 0, .int .u64 0] 40)).alloc (.cells (Lib.cellsOf ([(⟨#[115, 116, 111, 114, 101]⟩ : ByteArray), q1, q2]) N) 9)).cell? ⟨w.heap.size + 1, 0, none⟩ = some (.string (⟨#[115, 116, 111, 114, 101]⟩ : ByteArray)) := cell_of hP1 (pcs_at rfl)
  have B1 : Below w.heap.size w ((w.alloc (.cells #[.int .i64 0, .int .i64 0, .int .u64 0, .int .u64 0] 40)).alloc (.cells (Lib.cellsOf ([(⟨#[115, 116, 111, 114, 101]⟩ : ByteArray), q1, q2]) N) 9)) := zkeep (below_alloc _ _) _
  obtain ⟨W1, hW1⟩ : ∃ W1, ((w.alloc (.cells #[.int .i64 0, .int .i64 0, .int .u64 0, .int .u64 0] 40)).alloc (.cells (Lib.cellsOf ([(⟨#[115, 116, 111, 114, 101]⟩ : ByteArray), q1, q2]) N) 9)) = W1 := ⟨_, rfl⟩
  have hsz1 : (w.alloc (.cells #[.int .i64 0, .int .i64 0, .int .u64 0, .int .u64 0] 40)).heap.size = w.heap.size + 1 := by simp
  rw [hsz1]
  rw [hW1] at hR1 hP1 q0 B1 ⊢
  clear hW1 hsz1 HSp
  have HR1 := Lib.hid hR1
  have HP1 := Lib.hid hP1
  have HB1 := Lib.hid B1
  clear hR1 hP1 B1
  go_wp2_with fail
  refine (fow_2 _ (HS.out.below HB1.out).forms).mono ?_
  rintro e w2 ⟨rfl, K2⟩
  clear q0
  have hR2 : w2.heap[w.heap.size]? = some (.cells #[.int .i64 0, .int .i64 0, .int .u64 0, .int .u64 0] 40 (0, 0)) := (K2.block _ (lt_of_block HR1.out)).trans HR1.out
  have hP2 : w2.heap[w.heap.size + 1]? = some (.cells (Lib.cellsOf ([(⟨#[115, 116, 111, 114, 101]⟩ : ByteArray), q1, q2]) N) 9 (0, 0)) := (K2.block _ (lt_of_block HP1.out)).trans HP1.out
  have l0 := lt_of_block hR2
  have l1 := lt_of_block hP2
  have HP2 := Lib.hid hP2
  have HB2 := Lib.hid (bel_trans HB1.out K2)
  clear K2 hP2 HR1 HP1 HB1
  have hne : w.heap.size ≠ w2.heap.size := by omega
  have hne' : w2.heap.size ≠ w.heap.size := by omega
  have hne2 : w.heap.size ≠ w2.heap.size + 1 := by omega
  have hne3 : w2.heap.size + 1 ≠ w.heap.size := by omega
  have hne4 : w.heap.size + 1 ≠ w2.heap.size := by omega
  have HR2 := Lib.hid hR2
  clear hR2
  have p1 : w2.cell? ⟨w.heap.size + 1, 1, none⟩ = some (.string q1) := cell_of HP2.out (pcs_at rfl)
  have p2 : w2.cell? ⟨w.heap.size + 1, 2, none⟩ = some (.string q2) := cell_of HP2.out (pcs_at rfl)
  unfold str wStore
  simp only []
  go_wp2
  refine wp_loop_rounds 3 ?_
  rw [rounds_succ]
  go_wp2_with fail
  have H3 : Rd w ((w2.alloc (.cells #[.int .i64 2, .string ⟨#[115, 116, 111, 114, 101]⟩, .int .i64 1] 74)).alloc (.cells #[.int .u64 0, .int .u64 0, .int .u64 0] 91)) (Lib.cellsOf ([(⟨#[115, 116, 111, 114, 101]⟩ : ByteArray), q1, q2]) N) w2.heap.size #[.int .i64 2, .string ⟨#[115, 116, 111, 114, 101]⟩, .int .i64 1] (w2.heap.size + 1) 0 0 0 :=
    ⟨hkeep (hkeep HR2.out _) _, hkeep (hkeep HP2.out _) _, hkeep (heap_alloc_new _ _) _, by (have := heap_alloc_new (w2.alloc (.cells #[.int .i64 2, .string ⟨#[115, 116, 111, 114, 101]⟩, .int .i64 1] 74)) (.cells #[.int .u64 0, .int .u64 0, .int .u64 0] 91 (0, 0)); simpa using this), HS.out.below (zkeep (zkeep HB2.out _) _), zkeep (zkeep HB2.out _) _, by omega, by omega, by omega, by omega⟩
  have HH0 := Lib.hid H3
  clear H3 p1 p2
  cases hq1 : pu q1 with
  | none =>
    refine (pu_none HZ1.out hq1 _ HH0.out.std).mono ?_
    rintro e x1 ⟨v, N', rfl, K⟩
    have HX := Lib.hid (HH0.out.below K)
    clear K
    have r0 : x1.cell? ⟨w.heap.size, 0, none⟩ = some (.int .i64 0) := cell_of HX.out.res rfl
    have r1 : x1.cell? ⟨w.heap.size, 1, none⟩ = some (.int .i64 0) := cell_of HX.out.res rfl
    have r2 : x1.cell? ⟨w.heap.size, 2, none⟩ = some (.int .u64 0) := cell_of HX.out.res rfl
    have r3 : x1.cell? ⟨w.heap.size, 3, none⟩ = some (.int .u64 0) := cell_of HX.out.res rfl
    have k0 := free_of (i := 0) HX.out.res
    have k1 := free_of (i := 1) HX.out.res
    have k2 := free_of (i := 2) HX.out.res
    have k3 := free_of (i := 3) HX.out.res
    go_wp2
    (try simp only [Exit.inBlock, Exit.then])
    refine bodyPost_ret (results_row_tmp rfl _ _ w.heap.size _ rfl (run_loadVar_row _ _ 40 40 _ (0, 0) _ (put4 HX.out.res _ _ _ _) Tryd.underlying40 rfl size40)) rfl ?_
    exact ⟨by simp [rd2, hq1]; rfl, bel_put4 HX.out.bel _ _ _ _⟩
  | some u0 =>
    refine (pu_some HZ1.out hq1 _).mono ?_
    rintro e w3 ⟨rfl, K⟩
    have HA1 := Lib.hid (HH0.out.below K)
    clear K
    have n0 : w3.cell? ⟨w2.heap.size + 1, 0, none⟩ = some (.int .u64 0) := cell_of HA1.out.nm rfl
    have n1 : w3.cell? ⟨w2.heap.size + 1, 1, none⟩ = some (.int .u64 0) := cell_of HA1.out.nm rfl
    have n2 : w3.cell? ⟨w2.heap.size + 1, 2, none⟩ = some (.int .u64 0) := cell_of HA1.out.nm rfl
    have j0 := free_of (i := 0) HA1.out.nm
    have j1 := free_of (i := 1) HA1.out.nm
    have j2 := free_of (i := 2) HA1.out.nm
    have p2 : w3.cell? ⟨w.heap.size + 1, 2, none⟩ = some (.string q2) := cell_of HA1.out.pcs (pcs_at rfl)
    have HH1 := Lib.hid (HA1.out.set (v0 := (u0 : Int)) (v1 := 0) (v2 := 0) HS.out 0 u0 rfl)
    go_wp2
    rw [rounds_succ]
    go_wp2_with fail
    clear n0 n1 n2 j0 j1 j2 p2
    cases hq2 : pu q2 with
    | none =>
      refine (pu_none HZ2.out hq2 _ HH1.out.std).mono ?_
      rintro e x2 ⟨v, N', rfl, K⟩
      have HX := Lib.hid (HH1.out.below K)
      clear K
      have r0 : x2.cell? ⟨w.heap.size, 0, none⟩ = some (.int .i64 0) := cell_of HX.out.res rfl
      have r1 : x2.cell? ⟨w.heap.size, 1, none⟩ = some (.int .i64 0) := cell_of HX.out.res rfl
      have r2 : x2.cell? ⟨w.heap.size, 2, none⟩ = some (.int .u64 0) := cell_of HX.out.res rfl
      have r3 : x2.cell? ⟨w.heap.size, 3, none⟩ = some (.int .u64 0) := cell_of HX.out.res rfl
      have k0 := free_of (i := 0) HX.out.res
      have k1 := free_of (i := 1) HX.out.res
      have k2 := free_of (i := 2) HX.out.res
      have k3 := free_of (i := 3) HX.out.res
      go_wp2
      (try simp only [Exit.inBlock, Exit.then])
      refine bodyPost_ret (results_row_tmp rfl _ _ w.heap.size _ rfl (run_loadVar_row _ _ 40 40 _ (0, 0) _ (put4 HX.out.res _ _ _ _) Tryd.underlying40 rfl size40)) rfl ?_
      exact ⟨by simp [rd2, hq1, hq2]; rfl, bel_put4 HX.out.bel _ _ _ _⟩
    | some u1 =>
      refine (pu_some HZ2.out hq2 _).mono ?_
      rintro e w4 ⟨rfl, K⟩
      have HA2 := Lib.hid (HH1.out.below K)
      clear K
      have n0 : w4.cell? ⟨w2.heap.size + 1, 0, none⟩ = some (.int .u64 (u0 : Int)) := cell_of HA2.out.nm rfl
      have n1 : w4.cell? ⟨w2.heap.size + 1, 1, none⟩ = some (.int .u64 0) := cell_of HA2.out.nm rfl
      have n2 : w4.cell? ⟨w2.heap.size + 1, 2, none⟩ = some (.int .u64 0) := cell_of HA2.out.nm rfl
      have j0 := free_of (i := 0) HA2.out.nm
      have j1 := free_of (i := 1) HA2.out.nm
      have j2 := free_of (i := 2) HA2.out.nm
      have HH2 := Lib.hid (HA2.out.set (v0 := (u0 : Int)) (v1 := (u1 : Int)) (v2 := 0) HS.out 1 u1 rfl)
      have r0 : w4.cell? ⟨w.heap.size, 0, none⟩ = some (.int .i64 0) := cell_of HA2.out.res rfl
      have r1 : w4.cell? ⟨w.heap.size, 1, none⟩ = some (.int .i64 0) := cell_of HA2.out.res rfl
      have r2 : w4.cell? ⟨w.heap.size, 2, none⟩ = some (.int .u64 0) := cell_of HA2.out.res rfl
      have r3 : w4.cell? ⟨w.heap.size, 3, none⟩ = some (.int .u64 0) := cell_of HA2.out.res rfl
      have k0 := free_of (i := 0) HA2.out.res
      have k1 := free_of (i := 1) HA2.out.res
      have k2 := free_of (i := 2) HA2.out.res
      have k3 := free_of (i := 3) HA2.out.res
      have fk : w4.cell? ⟨w2.heap.size, 0, none⟩ = some (.int .i64 2) := cell_of HA2.out.fo rfl
      by_cases hb : u0 ≤ 9223372036854775807
      · have hd : decide ((9223372036854775807 : Int) < u0) = false := by simp; omega
        have hw64 : IntKind.i64.wrap (u0 : Int) = u0 := by rw [IntKind.wrap_i64]; omega
        go_wp2
        rw [rounds_succ]
        go_wp2
        (try simp only [Exit.inBlock, Exit.then])
        refine bodyPost_ret (results_row_tmp rfl _ _ w.heap.size _ rfl (run_loadVar_row _ _ 40 40 _ (0, 0) _ (put4 HH2.out.res _ _ _ _) Tryd.underlying40 rfl size40)) rfl ?_
        exact ⟨by simp [rd2, hq1, hq2, hb, resV], bel_put4 HH2.out.bel _ _ _ _⟩
      · have hd : decide ((9223372036854775807 : Int) < u0) = true := by simp; omega
        go_wp2
        rw [rounds_succ]
        go_wp2
        (try simp only [Exit.inBlock, Exit.then])
        refine bodyPost_ret (results_row_tmp rfl _ _ w.heap.size _ rfl (run_loadVar_row _ _ 40 40 _ (0, 0) _ (put4 HH2.out.res _ _ _ _) Tryd.underlying40 rfl size40)) rfl ?_
        exact ⟨by simp [rd2, hq1, hq2, hb]; rfl, bel_put4 HH2.out.bel _ _ _ _⟩
set_option maxRecDepth 100000 in
set_option maxHeartbeats 4000000 in
theorem read_full3 (s : ByteArray) (hs : s.size < 4294967281) (q1 q2 q3 : ByteArray) (hp : pcs s = [(⟨#[99, 97, 115]⟩ : ByteArray), q1, q2, q3]) (z1 : q1.size ≤ 281474976710656) (z2 : q2.size ≤ 281474976710656) (z3 : q3.size ≤ 281474976710656) (w : World) (h : Std w) :
    Calls Tryd.prog 33 #[.string s] w fun e w' => e = .returned (resV (rd3 3 (pu q1) (pu q2) (pu q3))) ∧ Below w.heap.size w w' := by
  have HS := Lib.hid h
  have HP := Lib.hid hp
  obtain ⟨N, hN⟩ : ∃ N, min 5 (s.size + 1) = N := ⟨_, rfl⟩
  have HSp := Lib.hid (splitn_at s (w.alloc (.cells #[.int .i64 0, .int .i64 0, .int .u64 0, .int .u64 0] 40)) hs)
  have hlen : (pcs s).length ≤ N := by
    have := Lib.splitB_length_le blank 0 (min 5 (s.size + 1) - 1) s
    unfold pcs
    omega
  rw [hp] at hlen
  rw [hN] at HSp
  have e0 : Lib.splitB blank 0 (N - 1) s = [(⟨#[99, 97, 115]⟩ : ByteArray), q1, q2, q3] := by rw [← hN]; exact hp
  rw [e0] at HSp
  simp only [List.length_cons, List.length_nil] at HSp hlen
  have hN5 : N ≤ 5 := by omega
  clear h hp hN e0
  have HZ1 := Lib.hid z1
  clear z1
  have HZ2 := Lib.hid z2
  clear z2
  have HZ3 := Lib.hid z3
  clear z3
  go_enter Tryd.func33, Tryd.ntmps33
  go_wp2_with fail
  refine HSp.out.mono ?_
  rintro e w1 ⟨rfl, rfl⟩
  have hR1 : ((w.alloc (.cells #[.int .i64 0, .int .i64 0, .int .u64 0, .int .u64 0] 40)).alloc (.cells (Lib.cellsOf ([(⟨#[99, 97, 115]⟩ : ByteArray), q1, q2, q3]) N) 9)).heap[w.heap.size]? = some (.cells #[.int .i64 0, .int .i64 0, .int .u64 0, .int .u64 0] 40 (0, 0)) := hkeep (heap_alloc_new _ _) _
  have hP1 : ((w.alloc (.cells #[.int .i64 0, .int .i64 0, .int .u64 0, .int .u64 0] 40)).alloc (.cells (Lib.cellsOf ([(⟨#[99, 97, 115]⟩ : ByteArray), q1, q2, q3]) N) 9)).heap[w.heap.size + 1]? = some (.cells (Lib.cellsOf ([(⟨#[99, 97, 115]⟩ : ByteArray), q1, q2, q3]) N) 9 (0, 0)) := by
    have := heap_alloc_new (w.alloc (.cells #[.int .i64 0, .int .i64 0, .int .u64 0, .int .u64 0] 40)) (.cells (Lib.cellsOf ([(⟨#[99, 97, 115]⟩ : ByteArray), q1, q2, q3]) N) 9 (0, 0))
    simpa using this
  have q0 : ((w.alloc (.cells #[.int .i64 0, .int .i64 0, .int .u64 0, .int .u64 0] 40)).alloc (.cells (Lib.cellsOf ([(⟨#[99, 97, 115]⟩ : ByteArray), q1, q2, q3]) N) 9)).cell? ⟨w.heap.size + 1, 0, none⟩ = some (.string (⟨#[99, 97, 115]⟩ : ByteArray)) := cell_of hP1 (pcs_at rfl)
  have B1 : Below w.heap.size w ((w.alloc (.cells #[.int .i64 0, .int .i64 0, .int .u64 0, .int .u64 0] 40)).alloc (.cells (Lib.cellsOf ([(⟨#[99, 97, 115]⟩ : ByteArray), q1, q2, q3]) N) 9)) := zkeep (below_alloc _ _) _
  obtain ⟨W1, hW1⟩ : ∃ W1, ((w.alloc (.cells #[.int .i64 0, .int .i64 0, .int .u64 0, .int .u64 0] 40)).alloc (.cells (Lib.cellsOf ([(⟨#[99, 97, 115]⟩ : ByteArray), q1, q2, q3]) N) 9)) = W1 := ⟨_, rfl⟩
  have hsz1 : (w.alloc (.cells #[.int .i64 0, .int .i64 0, .int .u64 0, .int .u64 0] 40)).heap.size = w.heap.size + 1 := by simp
  rw [hsz1]
  rw [hW1] at hR1 hP1 q0 B1 ⊢
  clear hW1 hsz1 HSp
  have HR1 := Lib.hid hR1
  have HP1 := Lib.hid hP1
  have HB1 := Lib.hid B1
  clear hR1 hP1 B1
  go_wp2_with fail
  refine (fow_3 _ (HS.out.below HB1.out).forms).mono ?_
  rintro e w2 ⟨rfl, K2⟩
  clear q0
  have hR2 : w2.heap[w.heap.size]? = some (.cells #[.int .i64 0, .int .i64 0, .int .u64 0, .int .u64 0] 40 (0, 0)) := (K2.block _ (lt_of_block HR1.out)).trans HR1.out
  have hP2 : w2.heap[w.heap.size + 1]? = some (.cells (Lib.cellsOf ([(⟨#[99, 97, 115]⟩ : ByteArray), q1, q2, q3]) N) 9 (0, 0)) := (K2.block _ (lt_of_block HP1.out)).trans HP1.out
  have l0 := lt_of_block hR2
  have l1 := lt_of_block hP2
  have HP2 := Lib.hid hP2
  have HB2 := Lib.hid (bel_trans HB1.out K2)
  clear K2 hP2 HR1 HP1 HB1
  have hne : w.heap.size ≠ w2.heap.size := by omega
  have hne' : w2.heap.size ≠ w.heap.size := by omega
  have hne2 : w.heap.size ≠ w2.heap.size + 1 := by omega
  have hne3 : w2.heap.size + 1 ≠ w.heap.size := by omega
  have hne4 : w.heap.size + 1 ≠ w2.heap.size := by omega
  have HR2 := Lib.hid hR2
  clear hR2
  have p1 : w2.cell? ⟨w.heap.size + 1, 1, none⟩ = some (.string q1) := cell_of HP2.out (pcs_at rfl)
  have p2 : w2.cell? ⟨w.heap.size + 1, 2, none⟩ = some (.string q2) := cell_of HP2.out (pcs_at rfl)
  have p3 : w2.cell? ⟨w.heap.size + 1, 3, none⟩ = some (.string q3) := cell_of HP2.out (pcs_at rfl)
  unfold str wCas
  simp only []
  go_wp2
  refine wp_loop_rounds 4 ?_
  rw [rounds_succ]
  go_wp2_with fail
  have H3 : Rd w ((w2.alloc (.cells #[.int .i64 3, .string ⟨#[99, 97, 115]⟩, .int .i64 2] 74)).alloc (.cells #[.int .u64 0, .int .u64 0, .int .u64 0] 91)) (Lib.cellsOf ([(⟨#[99, 97, 115]⟩ : ByteArray), q1, q2, q3]) N) w2.heap.size #[.int .i64 3, .string ⟨#[99, 97, 115]⟩, .int .i64 2] (w2.heap.size + 1) 0 0 0 :=
    ⟨hkeep (hkeep HR2.out _) _, hkeep (hkeep HP2.out _) _, hkeep (heap_alloc_new _ _) _, by (have := heap_alloc_new (w2.alloc (.cells #[.int .i64 3, .string ⟨#[99, 97, 115]⟩, .int .i64 2] 74)) (.cells #[.int .u64 0, .int .u64 0, .int .u64 0] 91 (0, 0)); simpa using this), HS.out.below (zkeep (zkeep HB2.out _) _), zkeep (zkeep HB2.out _) _, by omega, by omega, by omega, by omega⟩
  have HH0 := Lib.hid H3
  clear H3 p1 p2 p3
  cases hq1 : pu q1 with
  | none =>
    refine (pu_none HZ1.out hq1 _ HH0.out.std).mono ?_
    rintro e x1 ⟨v, N', rfl, K⟩
    have HX := Lib.hid (HH0.out.below K)
    clear K
    have r0 : x1.cell? ⟨w.heap.size, 0, none⟩ = some (.int .i64 0) := cell_of HX.out.res rfl
    have r1 : x1.cell? ⟨w.heap.size, 1, none⟩ = some (.int .i64 0) := cell_of HX.out.res rfl
    have r2 : x1.cell? ⟨w.heap.size, 2, none⟩ = some (.int .u64 0) := cell_of HX.out.res rfl
    have r3 : x1.cell? ⟨w.heap.size, 3, none⟩ = some (.int .u64 0) := cell_of HX.out.res rfl
    have k0 := free_of (i := 0) HX.out.res
    have k1 := free_of (i := 1) HX.out.res
    have k2 := free_of (i := 2) HX.out.res
    have k3 := free_of (i := 3) HX.out.res
    go_wp2
    (try simp only [Exit.inBlock, Exit.then])
    refine bodyPost_ret (results_row_tmp rfl _ _ w.heap.size _ rfl (run_loadVar_row _ _ 40 40 _ (0, 0) _ (put4 HX.out.res _ _ _ _) Tryd.underlying40 rfl size40)) rfl ?_
    exact ⟨by simp [rd3, hq1]; rfl, bel_put4 HX.out.bel _ _ _ _⟩
  | some u0 =>
    refine (pu_some HZ1.out hq1 _).mono ?_
    rintro e w3 ⟨rfl, K⟩
    have HA1 := Lib.hid (HH0.out.below K)
    clear K
    have n0 : w3.cell? ⟨w2.heap.size + 1, 0, none⟩ = some (.int .u64 0) := cell_of HA1.out.nm rfl
    have n1 : w3.cell? ⟨w2.heap.size + 1, 1, none⟩ = some (.int .u64 0) := cell_of HA1.out.nm rfl
    have n2 : w3.cell? ⟨w2.heap.size + 1, 2, none⟩ = some (.int .u64 0) := cell_of HA1.out.nm rfl
    have j0 := free_of (i := 0) HA1.out.nm
    have j1 := free_of (i := 1) HA1.out.nm
    have j2 := free_of (i := 2) HA1.out.nm
    have p2 : w3.cell? ⟨w.heap.size + 1, 2, none⟩ = some (.string q2) := cell_of HA1.out.pcs (pcs_at rfl)
    have p3 : w3.cell? ⟨w.heap.size + 1, 3, none⟩ = some (.string q3) := cell_of HA1.out.pcs (pcs_at rfl)
    have HH1 := Lib.hid (HA1.out.set (v0 := (u0 : Int)) (v1 := 0) (v2 := 0) HS.out 0 u0 rfl)
    go_wp2
    rw [rounds_succ]
    go_wp2_with fail
    clear n0 n1 n2 j0 j1 j2 p2 p3
    cases hq2 : pu q2 with
    | none =>
      refine (pu_none HZ2.out hq2 _ HH1.out.std).mono ?_
      rintro e x2 ⟨v, N', rfl, K⟩
      have HX := Lib.hid (HH1.out.below K)
      clear K
      have r0 : x2.cell? ⟨w.heap.size, 0, none⟩ = some (.int .i64 0) := cell_of HX.out.res rfl
      have r1 : x2.cell? ⟨w.heap.size, 1, none⟩ = some (.int .i64 0) := cell_of HX.out.res rfl
      have r2 : x2.cell? ⟨w.heap.size, 2, none⟩ = some (.int .u64 0) := cell_of HX.out.res rfl
      have r3 : x2.cell? ⟨w.heap.size, 3, none⟩ = some (.int .u64 0) := cell_of HX.out.res rfl
      have k0 := free_of (i := 0) HX.out.res
      have k1 := free_of (i := 1) HX.out.res
      have k2 := free_of (i := 2) HX.out.res
      have k3 := free_of (i := 3) HX.out.res
      go_wp2
      (try simp only [Exit.inBlock, Exit.then])
      refine bodyPost_ret (results_row_tmp rfl _ _ w.heap.size _ rfl (run_loadVar_row _ _ 40 40 _ (0, 0) _ (put4 HX.out.res _ _ _ _) Tryd.underlying40 rfl size40)) rfl ?_
      exact ⟨by simp [rd3, hq1, hq2]; rfl, bel_put4 HX.out.bel _ _ _ _⟩
    | some u1 =>
      refine (pu_some HZ2.out hq2 _).mono ?_
      rintro e w4 ⟨rfl, K⟩
      have HA2 := Lib.hid (HH1.out.below K)
      clear K
      have n0 : w4.cell? ⟨w2.heap.size + 1, 0, none⟩ = some (.int .u64 (u0 : Int)) := cell_of HA2.out.nm rfl
      have n1 : w4.cell? ⟨w2.heap.size + 1, 1, none⟩ = some (.int .u64 0) := cell_of HA2.out.nm rfl
      have n2 : w4.cell? ⟨w2.heap.size + 1, 2, none⟩ = some (.int .u64 0) := cell_of HA2.out.nm rfl
      have j0 := free_of (i := 0) HA2.out.nm
      have j1 := free_of (i := 1) HA2.out.nm
      have j2 := free_of (i := 2) HA2.out.nm
      have p3 : w4.cell? ⟨w.heap.size + 1, 3, none⟩ = some (.string q3) := cell_of HA2.out.pcs (pcs_at rfl)
      have HH2 := Lib.hid (HA2.out.set (v0 := (u0 : Int)) (v1 := (u1 : Int)) (v2 := 0) HS.out 1 u1 rfl)
      go_wp2
      rw [rounds_succ]
      go_wp2_with fail
      clear n0 n1 n2 j0 j1 j2 p3
      cases hq3 : pu q3 with
      | none =>
        refine (pu_none HZ3.out hq3 _ HH2.out.std).mono ?_
        rintro e x3 ⟨v, N', rfl, K⟩
        have HX := Lib.hid (HH2.out.below K)
        clear K
        have r0 : x3.cell? ⟨w.heap.size, 0, none⟩ = some (.int .i64 0) := cell_of HX.out.res rfl
        have r1 : x3.cell? ⟨w.heap.size, 1, none⟩ = some (.int .i64 0) := cell_of HX.out.res rfl
        have r2 : x3.cell? ⟨w.heap.size, 2, none⟩ = some (.int .u64 0) := cell_of HX.out.res rfl
        have r3 : x3.cell? ⟨w.heap.size, 3, none⟩ = some (.int .u64 0) := cell_of HX.out.res rfl
        have k0 := free_of (i := 0) HX.out.res
        have k1 := free_of (i := 1) HX.out.res
        have k2 := free_of (i := 2) HX.out.res
        have k3 := free_of (i := 3) HX.out.res
        go_wp2
        (try simp only [Exit.inBlock, Exit.then])
        refine bodyPost_ret (results_row_tmp rfl _ _ w.heap.size _ rfl (run_loadVar_row _ _ 40 40 _ (0, 0) _ (put4 HX.out.res _ _ _ _) Tryd.underlying40 rfl size40)) rfl ?_
        exact ⟨by simp [rd3, hq1, hq2, hq3]; rfl, bel_put4 HX.out.bel _ _ _ _⟩
      | some u2 =>
        refine (pu_some HZ3.out hq3 _).mono ?_
        rintro e w5 ⟨rfl, K⟩
        have HA3 := Lib.hid (HH2.out.below K)
        clear K
        have n0 : w5.cell? ⟨w2.heap.size + 1, 0, none⟩ = some (.int .u64 (u0 : Int)) := cell_of HA3.out.nm rfl
        have n1 : w5.cell? ⟨w2.heap.size + 1, 1, none⟩ = some (.int .u64 (u1 : Int)) := cell_of HA3.out.nm rfl
        have n2 : w5.cell? ⟨w2.heap.size + 1, 2, none⟩ = some (.int .u64 0) := cell_of HA3.out.nm rfl
        have j0 := free_of (i := 0) HA3.out.nm
        have j1 := free_of (i := 1) HA3.out.nm
        have j2 := free_of (i := 2) HA3.out.nm
        have HH3 := Lib.hid (HA3.out.set (v0 := (u0 : Int)) (v1 := (u1 : Int)) (v2 := (u2 : Int)) HS.out 2 u2 rfl)
        have r0 : w5.cell? ⟨w.heap.size, 0, none⟩ = some (.int .i64 0) := cell_of HA3.out.res rfl
        have r1 : w5.cell? ⟨w.heap.size, 1, none⟩ = some (.int .i64 0) := cell_of HA3.out.res rfl
        have r2 : w5.cell? ⟨w.heap.size, 2, none⟩ = some (.int .u64 0) := cell_of HA3.out.res rfl
        have r3 : w5.cell? ⟨w.heap.size, 3, none⟩ = some (.int .u64 0) := cell_of HA3.out.res rfl
        have k0 := free_of (i := 0) HA3.out.res
        have k1 := free_of (i := 1) HA3.out.res
        have k2 := free_of (i := 2) HA3.out.res
        have k3 := free_of (i := 3) HA3.out.res
        have fk : w5.cell? ⟨w2.heap.size, 0, none⟩ = some (.int .i64 3) := cell_of HA3.out.fo rfl
        by_cases hb : u0 ≤ 9223372036854775807
        · have hd : decide ((9223372036854775807 : Int) < u0) = false := by simp; omega
          have hw64 : IntKind.i64.wrap (u0 : Int) = u0 := by rw [IntKind.wrap_i64]; omega
          go_wp2
          rw [rounds_succ]
          go_wp2
          (try simp only [Exit.inBlock, Exit.then])
          refine bodyPost_ret (results_row_tmp rfl _ _ w.heap.size _ rfl (run_loadVar_row _ _ 40 40 _ (0, 0) _ (put4 HH3.out.res _ _ _ _) Tryd.underlying40 rfl size40)) rfl ?_
          exact ⟨by simp [rd3, hq1, hq2, hq3, hb, resV], bel_put4 HH3.out.bel _ _ _ _⟩
        · have hd : decide ((9223372036854775807 : Int) < u0) = true := by simp; omega
          go_wp2
          rw [rounds_succ]
          go_wp2
          (try simp only [Exit.inBlock, Exit.then])
          refine bodyPost_ret (results_row_tmp rfl _ _ w.heap.size _ rfl (run_loadVar_row _ _ 40 40 _ (0, 0) _ (put4 HH3.out.res _ _ _ _) Tryd.underlying40 rfl size40)) rfl ?_
          exact ⟨by simp [rd3, hq1, hq2, hq3, hb]; rfl, bel_put4 HH3.out.bel _ _ _ _⟩
set_option maxRecDepth 100000 in
set_option maxHeartbeats 4000000 in
theorem read_full4 (s : ByteArray) (hs : s.size < 4294967281) (q1 q2 : ByteArray) (hp : pcs s = [(⟨#[97, 100, 100]⟩ : ByteArray), q1, q2]) (z1 : q1.size ≤ 281474976710656) (z2 : q2.size ≤ 281474976710656) (w : World) (h : Std w) :
    Calls Tryd.prog 33 #[.string s] w fun e w' => e = .returned (resV (rd2 4 (pu q1) (pu q2))) ∧ Below w.heap.size w w' := by
  have HS := Lib.hid h
  have HP := Lib.hid hp
  obtain ⟨N, hN⟩ : ∃ N, min 5 (s.size + 1) = N := ⟨_, rfl⟩
  have HSp := Lib.hid (splitn_at s (w.alloc (.cells #[.int .i64 0, .int .i64 0, .int .u64 0, .int .u64 0] 40)) hs)
  have hlen : (pcs s).length ≤ N := by
    have := Lib.splitB_length_le blank 0 (min 5 (s.size + 1) - 1) s
    unfold pcs
    omega
  rw [hp] at hlen
  rw [hN] at HSp
  have e0 : Lib.splitB blank 0 (N - 1) s = [(⟨#[97, 100, 100]⟩ : ByteArray), q1, q2] := by rw [← hN]; exact hp
  rw [e0] at HSp
  simp only [List.length_cons, List.length_nil] at HSp hlen
  have hN5 : N ≤ 5 := by omega
  clear h hp hN e0
  have HZ1 := Lib.hid z1
  clear z1
  have HZ2 := Lib.hid z2
  clear z2
  go_enter Tryd.func33, Tryd.ntmps33
  go_wp2_with fail
  refine HSp.out.mono ?_
  rintro e w1 ⟨rfl, rfl⟩
  have hR1 : ((w.alloc (.cells #[.int .i64 0, .int .i64 0, .int .u64 0, .int .u64 0] 40)).alloc (.cells (Lib.cellsOf ([(⟨#[97, 100, 100]⟩ : ByteArray), q1, q2]) N) 9)).heap[w.heap.size]? = some (.cells #[.int .i64 0, .int .i64 0, .int .u64 0, .int .u64 0] 40 (0, 0)) := hkeep (heap_alloc_new _ _) _
  have hP1 : ((w.alloc (.cells #[.int .i64 0, .int .i64 0, .int .u64 0, .int .u64 0] 40)).alloc (.cells (Lib.cellsOf ([(⟨#[97, 100, 100]⟩ : ByteArray), q1, q2]) N) 9)).heap[w.heap.size + 1]? = some (.cells (Lib.cellsOf ([(⟨#[97, 100, 100]⟩ : ByteArray), q1, q2]) N) 9 (0, 0)) := by
    have := heap_alloc_new (w.alloc (.cells #[.int .i64 0, .int .i64 0, .int .u64 0, .int .u64 0] 40)) (.cells (Lib.cellsOf ([(⟨#[97, 100, 100]⟩ : ByteArray), q1, q2]) N) 9 (0, 0))
    simpa using this
  have q0 : ((w.alloc (.cells #[.int .i64 0, .int .i64 0, .int .u64 0, .int .u64 0] 40)).alloc (.cells (Lib.cellsOf ([(⟨#[97, 100, 100]⟩ : ByteArray), q1, q2]) N) 9)).cell? ⟨w.heap.size + 1, 0, none⟩ = some (.string (⟨#[97, 100, 100]⟩ : ByteArray)) := cell_of hP1 (pcs_at rfl)
  have B1 : Below w.heap.size w ((w.alloc (.cells #[.int .i64 0, .int .i64 0, .int .u64 0, .int .u64 0] 40)).alloc (.cells (Lib.cellsOf ([(⟨#[97, 100, 100]⟩ : ByteArray), q1, q2]) N) 9)) := zkeep (below_alloc _ _) _
  obtain ⟨W1, hW1⟩ : ∃ W1, ((w.alloc (.cells #[.int .i64 0, .int .i64 0, .int .u64 0, .int .u64 0] 40)).alloc (.cells (Lib.cellsOf ([(⟨#[97, 100, 100]⟩ : ByteArray), q1, q2]) N) 9)) = W1 := ⟨_, rfl⟩
  have hsz1 : (w.alloc (.cells #[.int .i64 0, .int .i64 0, .int .u64 0, .int .u64 0] 40)).heap.size = w.heap.size + 1 := by simp
  rw [hsz1]
  rw [hW1] at hR1 hP1 q0 B1 ⊢
  clear hW1 hsz1 HSp
  have HR1 := Lib.hid hR1
  have HP1 := Lib.hid hP1
  have HB1 := Lib.hid B1
  clear hR1 hP1 B1
  go_wp2_with fail
  refine (fow_4 _ (HS.out.below HB1.out).forms).mono ?_
  rintro e w2 ⟨rfl, K2⟩
  clear q0
  have hR2 : w2.heap[w.heap.size]? = some (.cells #[.int .i64 0, .int .i64 0, .int .u64 0, .int .u64 0] 40 (0, 0)) := (K2.block _ (lt_of_block HR1.out)).trans HR1.out
  have hP2 : w2.heap[w.heap.size + 1]? = some (.cells (Lib.cellsOf ([(⟨#[97, 100, 100]⟩ : ByteArray), q1, q2]) N) 9 (0, 0)) := (K2.block _ (lt_of_block HP1.out)).trans HP1.out
  have l0 := lt_of_block hR2
  have l1 := lt_of_block hP2
  have HP2 := Lib.hid hP2
  have HB2 := Lib.hid (bel_trans HB1.out K2)
  clear K2 hP2 HR1 HP1 HB1
  have hne : w.heap.size ≠ w2.heap.size := by omega
  have hne' : w2.heap.size ≠ w.heap.size := by omega
  have hne2 : w.heap.size ≠ w2.heap.size + 1 := by omega
  have hne3 : w2.heap.size + 1 ≠ w.heap.size := by omega
  have hne4 : w.heap.size + 1 ≠ w2.heap.size := by omega
  have HR2 := Lib.hid hR2
  clear hR2
  have p1 : w2.cell? ⟨w.heap.size + 1, 1, none⟩ = some (.string q1) := cell_of HP2.out (pcs_at rfl)
  have p2 : w2.cell? ⟨w.heap.size + 1, 2, none⟩ = some (.string q2) := cell_of HP2.out (pcs_at rfl)
  unfold str wAdd
  simp only []
  go_wp2
  refine wp_loop_rounds 3 ?_
  rw [rounds_succ]
  go_wp2_with fail
  have H3 : Rd w ((w2.alloc (.cells #[.int .i64 4, .string ⟨#[97, 100, 100]⟩, .int .i64 1] 74)).alloc (.cells #[.int .u64 0, .int .u64 0, .int .u64 0] 91)) (Lib.cellsOf ([(⟨#[97, 100, 100]⟩ : ByteArray), q1, q2]) N) w2.heap.size #[.int .i64 4, .string ⟨#[97, 100, 100]⟩, .int .i64 1] (w2.heap.size + 1) 0 0 0 :=
    ⟨hkeep (hkeep HR2.out _) _, hkeep (hkeep HP2.out _) _, hkeep (heap_alloc_new _ _) _, by (have := heap_alloc_new (w2.alloc (.cells #[.int .i64 4, .string ⟨#[97, 100, 100]⟩, .int .i64 1] 74)) (.cells #[.int .u64 0, .int .u64 0, .int .u64 0] 91 (0, 0)); simpa using this), HS.out.below (zkeep (zkeep HB2.out _) _), zkeep (zkeep HB2.out _) _, by omega, by omega, by omega, by omega⟩
  have HH0 := Lib.hid H3
  clear H3 p1 p2
  cases hq1 : pu q1 with
  | none =>
    refine (pu_none HZ1.out hq1 _ HH0.out.std).mono ?_
    rintro e x1 ⟨v, N', rfl, K⟩
    have HX := Lib.hid (HH0.out.below K)
    clear K
    have r0 : x1.cell? ⟨w.heap.size, 0, none⟩ = some (.int .i64 0) := cell_of HX.out.res rfl
    have r1 : x1.cell? ⟨w.heap.size, 1, none⟩ = some (.int .i64 0) := cell_of HX.out.res rfl
    have r2 : x1.cell? ⟨w.heap.size, 2, none⟩ = some (.int .u64 0) := cell_of HX.out.res rfl
    have r3 : x1.cell? ⟨w.heap.size, 3, none⟩ = some (.int .u64 0) := cell_of HX.out.res rfl
    have k0 := free_of (i := 0) HX.out.res
    have k1 := free_of (i := 1) HX.out.res
    have k2 := free_of (i := 2) HX.out.res
    have k3 := free_of (i := 3) HX.out.res
    go_wp2
    (try simp only [Exit.inBlock, Exit.then])
    refine bodyPost_ret (results_row_tmp rfl _ _ w.heap.size _ rfl (run_loadVar_row _ _ 40 40 _ (0, 0) _ (put4 HX.out.res _ _ _ _) Tryd.underlying40 rfl size40)) rfl ?_
    exact ⟨by simp [rd2, hq1]; rfl, bel_put4 HX.out.bel _ _ _ _⟩
  | some u0 =>
    refine (pu_some HZ1.out hq1 _).mono ?_
    rintro e w3 ⟨rfl, K⟩
    have HA1 := Lib.hid (HH0.out.below K)
    clear K
    have n0 : w3.cell? ⟨w2.heap.size + 1, 0, none⟩ = some (.int .u64 0) := cell_of HA1.out.nm rfl
    have n1 : w3.cell? ⟨w2.heap.size + 1, 1, none⟩ = some (.int .u64 0) := cell_of HA1.out.nm rfl
    have n2 : w3.cell? ⟨w2.heap.size + 1, 2, none⟩ = some (.int .u64 0) := cell_of HA1.out.nm rfl
    have j0 := free_of (i := 0) HA1.out.nm
    have j1 := free_of (i := 1) HA1.out.nm
    have j2 := free_of (i := 2) HA1.out.nm
    have p2 : w3.cell? ⟨w.heap.size + 1, 2, none⟩ = some (.string q2) := cell_of HA1.out.pcs (pcs_at rfl)
    have HH1 := Lib.hid (HA1.out.set (v0 := (u0 : Int)) (v1 := 0) (v2 := 0) HS.out 0 u0 rfl)
    go_wp2
    rw [rounds_succ]
    go_wp2_with fail
    clear n0 n1 n2 j0 j1 j2 p2
    cases hq2 : pu q2 with
    | none =>
      refine (pu_none HZ2.out hq2 _ HH1.out.std).mono ?_
      rintro e x2 ⟨v, N', rfl, K⟩
      have HX := Lib.hid (HH1.out.below K)
      clear K
      have r0 : x2.cell? ⟨w.heap.size, 0, none⟩ = some (.int .i64 0) := cell_of HX.out.res rfl
      have r1 : x2.cell? ⟨w.heap.size, 1, none⟩ = some (.int .i64 0) := cell_of HX.out.res rfl
      have r2 : x2.cell? ⟨w.heap.size, 2, none⟩ = some (.int .u64 0) := cell_of HX.out.res rfl
      have r3 : x2.cell? ⟨w.heap.size, 3, none⟩ = some (.int .u64 0) := cell_of HX.out.res rfl
      have k0 := free_of (i := 0) HX.out.res
      have k1 := free_of (i := 1) HX.out.res
      have k2 := free_of (i := 2) HX.out.res
      have k3 := free_of (i := 3) HX.out.res
      go_wp2
      (try simp only [Exit.inBlock, Exit.then])
      refine bodyPost_ret (results_row_tmp rfl _ _ w.heap.size _ rfl (run_loadVar_row _ _ 40 40 _ (0, 0) _ (put4 HX.out.res _ _ _ _) Tryd.underlying40 rfl size40)) rfl ?_
      exact ⟨by simp [rd2, hq1, hq2]; rfl, bel_put4 HX.out.bel _ _ _ _⟩
    | some u1 =>
      refine (pu_some HZ2.out hq2 _).mono ?_
      rintro e w4 ⟨rfl, K⟩
      have HA2 := Lib.hid (HH1.out.below K)
      clear K
      have n0 : w4.cell? ⟨w2.heap.size + 1, 0, none⟩ = some (.int .u64 (u0 : Int)) := cell_of HA2.out.nm rfl
      have n1 : w4.cell? ⟨w2.heap.size + 1, 1, none⟩ = some (.int .u64 0) := cell_of HA2.out.nm rfl
      have n2 : w4.cell? ⟨w2.heap.size + 1, 2, none⟩ = some (.int .u64 0) := cell_of HA2.out.nm rfl
      have j0 := free_of (i := 0) HA2.out.nm
      have j1 := free_of (i := 1) HA2.out.nm
      have j2 := free_of (i := 2) HA2.out.nm
      have HH2 := Lib.hid (HA2.out.set (v0 := (u0 : Int)) (v1 := (u1 : Int)) (v2 := 0) HS.out 1 u1 rfl)
      have r0 : w4.cell? ⟨w.heap.size, 0, none⟩ = some (.int .i64 0) := cell_of HA2.out.res rfl
      have r1 : w4.cell? ⟨w.heap.size, 1, none⟩ = some (.int .i64 0) := cell_of HA2.out.res rfl
      have r2 : w4.cell? ⟨w.heap.size, 2, none⟩ = some (.int .u64 0) := cell_of HA2.out.res rfl
      have r3 : w4.cell? ⟨w.heap.size, 3, none⟩ = some (.int .u64 0) := cell_of HA2.out.res rfl
      have k0 := free_of (i := 0) HA2.out.res
      have k1 := free_of (i := 1) HA2.out.res
      have k2 := free_of (i := 2) HA2.out.res
      have k3 := free_of (i := 3) HA2.out.res
      have fk : w4.cell? ⟨w2.heap.size, 0, none⟩ = some (.int .i64 4) := cell_of HA2.out.fo rfl
      by_cases hb : u0 ≤ 9223372036854775807
      · have hd : decide ((9223372036854775807 : Int) < u0) = false := by simp; omega
        have hw64 : IntKind.i64.wrap (u0 : Int) = u0 := by rw [IntKind.wrap_i64]; omega
        go_wp2
        rw [rounds_succ]
        go_wp2
        (try simp only [Exit.inBlock, Exit.then])
        refine bodyPost_ret (results_row_tmp rfl _ _ w.heap.size _ rfl (run_loadVar_row _ _ 40 40 _ (0, 0) _ (put4 HH2.out.res _ _ _ _) Tryd.underlying40 rfl size40)) rfl ?_
        exact ⟨by simp [rd2, hq1, hq2, hb, resV], bel_put4 HH2.out.bel _ _ _ _⟩
      · have hd : decide ((9223372036854775807 : Int) < u0) = true := by simp; omega
        go_wp2
        rw [rounds_succ]
        go_wp2
        (try simp only [Exit.inBlock, Exit.then])
        refine bodyPost_ret (results_row_tmp rfl _ _ w.heap.size _ rfl (run_loadVar_row _ _ 40 40 _ (0, 0) _ (put4 HH2.out.res _ _ _ _) Tryd.underlying40 rfl size40)) rfl ?_
        exact ⟨by simp [rd2, hq1, hq2, hb]; rfl, bel_put4 HH2.out.bel _ _ _ _⟩
end Go.Proofs.YtoeopapnegjooaaDoor
