/- What read of package act returns: the act that a text spells, if it is cut at its blanks. Condition: the tables stand in their variables. -/
import Derived.Test.YtoeopapnegjooaaDoorI
namespace Go.Proofs.YtoeopapnegjooaaDoor
open Go.RowKit

/-- A text's pieces. -/
def pcs (s : ByteArray) : List ByteArray := Lib.splitB blank 0 (min 5 (s.size + 1) - 1) s
theorem blank_eq : (⟨#[32]⟩ : ByteArray) = blank := rfl
theorem bel_put4 {w0 w : World} (h : Below w0.heap.size w0 w) (x y z u : Value) : Below w0.heap.size w0 ((((w.setCell ⟨w0.heap.size, 0, none⟩ x).setCell ⟨w0.heap.size, 1, none⟩ y).setCell ⟨w0.heap.size, 2, none⟩ z).setCell ⟨w0.heap.size, 3, none⟩ u) :=
  bel_set (bel_set (bel_set (bel_set h _ _ _ (Nat.le_refl _)) _ _ _ (Nat.le_refl _)) _ _ _ (Nat.le_refl _)) _ _ _ (Nat.le_refl _)

set_option maxRecDepth 100000 in
set_option maxHeartbeats 4000000 in
theorem read_word (s : ByteArray) (hs : s.size < 4294967281) (p0 : ByteArray) (rest : List ByteArray) (hp : pcs s = p0 :: rest) (b1 : (([108, 111, 97, 100] : List UInt8) == p0.toList) = false) (b2 : (([115, 116, 111, 114, 101] : List UInt8) == p0.toList) = false) (b3 : (([99, 97, 115] : List UInt8) == p0.toList) = false) (b4 : (([97, 100, 100] : List UInt8) == p0.toList) = false) (w : World) (h : Std w) :
    Calls Tryd.prog 33 #[.string s] w fun e w' => e = .returned (resV none) ∧ Below w.heap.size w w' := by
  have HS := Lib.hid h
  have HP := Lib.hid hp
  obtain ⟨N, hN⟩ : ∃ N, min 5 (s.size + 1) = N := ⟨_, rfl⟩
  have HSp := Lib.hid (splitn_at s (w.alloc (.cells #[.int .i64 0, .int .i64 0, .int .u64 0, .int .u64 0] 40)) hs)
  have hlen : (pcs s).length ≤ N := by
    have := Lib.splitB_length_le blank 0 (min 5 (s.size + 1) - 1) s
    unfold pcs
    omega
  rw [hp] at hlen
  rw [hN] at HSp
  have e0 : Lib.splitB blank 0 (N - 1) s = p0 :: rest := by rw [← hN]; exact hp
  rw [e0] at HSp
  simp only [List.length_cons] at HSp hlen
  have hN5 : N ≤ 5 := by omega
  clear h hp hN e0
  have HFo := Lib.hid (fun w => fow_none p0 b1 b2 b3 b4 w)
  clear b1 b2 b3 b4
  go_enter Tryd.func33, Tryd.ntmps33
  go_wp2_with fail
  refine HSp.out.mono ?_
  rintro e w1 ⟨rfl, rfl⟩
  have hR1 : ((w.alloc (.cells #[.int .i64 0, .int .i64 0, .int .u64 0, .int .u64 0] 40)).alloc (.cells (Lib.cellsOf (p0 :: rest) N) 9)).heap[w.heap.size]? = some (.cells #[.int .i64 0, .int .i64 0, .int .u64 0, .int .u64 0] 40 (0, 0)) := hkeep (heap_alloc_new _ _) _
  have hP1 : ((w.alloc (.cells #[.int .i64 0, .int .i64 0, .int .u64 0, .int .u64 0] 40)).alloc (.cells (Lib.cellsOf (p0 :: rest) N) 9)).heap[w.heap.size + 1]? = some (.cells (Lib.cellsOf (p0 :: rest) N) 9 (0, 0)) := by
    have := heap_alloc_new (w.alloc (.cells #[.int .i64 0, .int .i64 0, .int .u64 0, .int .u64 0] 40)) (.cells (Lib.cellsOf (p0 :: rest) N) 9 (0, 0))
    simpa using this
  have q0 : ((w.alloc (.cells #[.int .i64 0, .int .i64 0, .int .u64 0, .int .u64 0] 40)).alloc (.cells (Lib.cellsOf (p0 :: rest) N) 9)).cell? ⟨w.heap.size + 1, 0, none⟩ = some (.string p0) := cell_of hP1 (pcs_at rfl)
  have B1 : Below w.heap.size w ((w.alloc (.cells #[.int .i64 0, .int .i64 0, .int .u64 0, .int .u64 0] 40)).alloc (.cells (Lib.cellsOf (p0 :: rest) N) 9)) := zkeep (below_alloc _ _) _
  obtain ⟨W1, hW1⟩ : ∃ W1, ((w.alloc (.cells #[.int .i64 0, .int .i64 0, .int .u64 0, .int .u64 0] 40)).alloc (.cells (Lib.cellsOf (p0 :: rest) N) 9)) = W1 := ⟨_, rfl⟩
  have hsz1 : (w.alloc (.cells #[.int .i64 0, .int .i64 0, .int .u64 0, .int .u64 0] 40)).heap.size = w.heap.size + 1 := by simp
  rw [hsz1]
  rw [hW1] at hR1 hP1 q0 B1 ⊢
  clear hW1 hsz1 HSp
  have HR1 := Lib.hid hR1
  have HP1 := Lib.hid hP1
  have HB1 := Lib.hid B1
  clear hR1 hP1 B1
  go_wp2_with fail
  refine (HFo.out _ (HS.out.below HB1.out).forms).mono ?_
  rintro e w2 ⟨rfl, K2⟩
  clear q0
  have hR2 : w2.heap[w.heap.size]? = some (.cells #[.int .i64 0, .int .i64 0, .int .u64 0, .int .u64 0] 40 (0, 0)) := (K2.block _ (lt_of_block HR1.out)).trans HR1.out
  have hP2 : w2.heap[w.heap.size + 1]? = some (.cells (Lib.cellsOf (p0 :: rest) N) 9 (0, 0)) := (K2.block _ (lt_of_block HP1.out)).trans HP1.out
  have l0 := lt_of_block hR2
  have l1 := lt_of_block hP2
  have HP2 := Lib.hid hP2
  have HB2 := Lib.hid (bel_trans HB1.out K2)
  clear K2 hP2 HR1 HP1 HB1
  have HR2 := Lib.hid hR2
  have r0 : w2.cell? ⟨w.heap.size, 0, none⟩ = some (.int .i64 0) := cell_of hR2 rfl
  have r1 : w2.cell? ⟨w.heap.size, 1, none⟩ = some (.int .i64 0) := cell_of hR2 rfl
  have r2 : w2.cell? ⟨w.heap.size, 2, none⟩ = some (.int .u64 0) := cell_of hR2 rfl
  have r3 : w2.cell? ⟨w.heap.size, 3, none⟩ = some (.int .u64 0) := cell_of hR2 rfl
  have k0 := free_of (i := 0) hR2
  have k1 := free_of (i := 1) hR2
  have k2 := free_of (i := 2) hR2
  have k3 := free_of (i := 3) hR2
  clear hR2
  unfold str
  simp only []
  go_wp2
  (try simp only [Exit.inBlock, Exit.then])
  refine bodyPost_ret (results_row_tmp rfl _ _ w.heap.size _ rfl (run_loadVar_row _ _ 40 40 _ (0, 0) _ (hkeep (put4 HR2.out _ _ _ _) _) Tryd.underlying40 rfl size40)) rfl ?_
  exact ⟨rfl, zkeep (bel_put4 HB2.out _ _ _ _) _⟩
set_option maxRecDepth 100000 in
set_option maxHeartbeats 4000000 in
theorem read_len1 (s : ByteArray) (hs : s.size < 4294967281) (rest : List ByteArray) (hp : pcs s = (⟨#[108, 111, 97, 100]⟩ : ByteArray) :: rest) (hl : rest.length ≠ 1) (w : World) (h : Std w) :
    Calls Tryd.prog 33 #[.string s] w fun e w' => e = .returned (resV none) ∧ Below w.heap.size w w' := by
  have HS := Lib.hid h
  have HP := Lib.hid hp
  obtain ⟨N, hN⟩ : ∃ N, min 5 (s.size + 1) = N := ⟨_, rfl⟩
  have HSp := Lib.hid (splitn_at s (w.alloc (.cells #[.int .i64 0, .int .i64 0, .int .u64 0, .int .u64 0] 40)) hs)
  have hlen : (pcs s).length ≤ N := by
    have := Lib.splitB_length_le blank 0 (min 5 (s.size + 1) - 1) s
    unfold pcs
    omega
  rw [hp] at hlen
  rw [hN] at HSp
  have e0 : Lib.splitB blank 0 (N - 1) s = (⟨#[108, 111, 97, 100]⟩ : ByteArray) :: rest := by rw [← hN]; exact hp
  rw [e0] at HSp
  simp only [List.length_cons] at HSp hlen
  have hN5 : N ≤ 5 := by omega
  clear h hp hN e0
  have bl : (((rest.length + 1 : Nat) : Int) != 2) = true := by simp; omega
  have bl2 : (((rest.length : Nat) : Int) + 1 != 2) = true := by simp; omega
  clear hl
  go_enter Tryd.func33, Tryd.ntmps33
  go_wp2_with fail
  refine HSp.out.mono ?_
  rintro e w1 ⟨rfl, rfl⟩
  have hR1 : ((w.alloc (.cells #[.int .i64 0, .int .i64 0, .int .u64 0, .int .u64 0] 40)).alloc (.cells (Lib.cellsOf ((⟨#[108, 111, 97, 100]⟩ : ByteArray) :: rest) N) 9)).heap[w.heap.size]? = some (.cells #[.int .i64 0, .int .i64 0, .int .u64 0, .int .u64 0] 40 (0, 0)) := hkeep (heap_alloc_new _ _) _
  have hP1 : ((w.alloc (.cells #[.int .i64 0, .int .i64 0, .int .u64 0, .int .u64 0] 40)).alloc (.cells (Lib.cellsOf ((⟨#[108, 111, 97, 100]⟩ : ByteArray) :: rest) N) 9)).heap[w.heap.size + 1]? = some (.cells (Lib.cellsOf ((⟨#[108, 111, 97, 100]⟩ : ByteArray) :: rest) N) 9 (0, 0)) := by
    have := heap_alloc_new (w.alloc (.cells #[.int .i64 0, .int .i64 0, .int .u64 0, .int .u64 0] 40)) (.cells (Lib.cellsOf ((⟨#[108, 111, 97, 100]⟩ : ByteArray) :: rest) N) 9 (0, 0))
    simpa using this
  have q0 : ((w.alloc (.cells #[.int .i64 0, .int .i64 0, .int .u64 0, .int .u64 0] 40)).alloc (.cells (Lib.cellsOf ((⟨#[108, 111, 97, 100]⟩ : ByteArray) :: rest) N) 9)).cell? ⟨w.heap.size + 1, 0, none⟩ = some (.string (⟨#[108, 111, 97, 100]⟩ : ByteArray)) := cell_of hP1 (pcs_at rfl)
  have B1 : Below w.heap.size w ((w.alloc (.cells #[.int .i64 0, .int .i64 0, .int .u64 0, .int .u64 0] 40)).alloc (.cells (Lib.cellsOf ((⟨#[108, 111, 97, 100]⟩ : ByteArray) :: rest) N) 9)) := zkeep (below_alloc _ _) _
  obtain ⟨W1, hW1⟩ : ∃ W1, ((w.alloc (.cells #[.int .i64 0, .int .i64 0, .int .u64 0, .int .u64 0] 40)).alloc (.cells (Lib.cellsOf ((⟨#[108, 111, 97, 100]⟩ : ByteArray) :: rest) N) 9)) = W1 := ⟨_, rfl⟩
  have hsz1 : (w.alloc (.cells #[.int .i64 0, .int .i64 0, .int .u64 0, .int .u64 0] 40)).heap.size = w.heap.size + 1 := by simp
  rw [hsz1]
  rw [hW1] at hR1 hP1 q0 B1 ⊢
  clear hW1 hsz1 HSp
  have HR1 := Lib.hid hR1
  have HP1 := Lib.hid hP1
  have HB1 := Lib.hid B1
  clear hR1 hP1 B1
  go_wp2_with fail
  refine (fow_1 _ (HS.out.below HB1.out).forms).mono ?_
  rintro e w2 ⟨rfl, K2⟩
  clear q0
  have hR2 : w2.heap[w.heap.size]? = some (.cells #[.int .i64 0, .int .i64 0, .int .u64 0, .int .u64 0] 40 (0, 0)) := (K2.block _ (lt_of_block HR1.out)).trans HR1.out
  have hP2 : w2.heap[w.heap.size + 1]? = some (.cells (Lib.cellsOf ((⟨#[108, 111, 97, 100]⟩ : ByteArray) :: rest) N) 9 (0, 0)) := (K2.block _ (lt_of_block HP1.out)).trans HP1.out
  have l0 := lt_of_block hR2
  have l1 := lt_of_block hP2
  have HP2 := Lib.hid hP2
  have HB2 := Lib.hid (bel_trans HB1.out K2)
  clear K2 hP2 HR1 HP1 HB1
  have HR2 := Lib.hid hR2
  have r0 : w2.cell? ⟨w.heap.size, 0, none⟩ = some (.int .i64 0) := cell_of hR2 rfl
  have r1 : w2.cell? ⟨w.heap.size, 1, none⟩ = some (.int .i64 0) := cell_of hR2 rfl
  have r2 : w2.cell? ⟨w.heap.size, 2, none⟩ = some (.int .u64 0) := cell_of hR2 rfl
  have r3 : w2.cell? ⟨w.heap.size, 3, none⟩ = some (.int .u64 0) := cell_of hR2 rfl
  have k0 := free_of (i := 0) hR2
  have k1 := free_of (i := 1) hR2
  have k2 := free_of (i := 2) hR2
  have k3 := free_of (i := 3) hR2
  clear hR2
  unfold str wLoad
  simp only []
  go_wp2
  (try simp only [Exit.inBlock, Exit.then])
  refine bodyPost_ret (results_row_tmp rfl _ _ w.heap.size _ rfl (run_loadVar_row _ _ 40 40 _ (0, 0) _ (hkeep (put4 HR2.out _ _ _ _) _) Tryd.underlying40 rfl size40)) rfl ?_
  exact ⟨rfl, zkeep (bel_put4 HB2.out _ _ _ _) _⟩
set_option maxRecDepth 100000 in
set_option maxHeartbeats 4000000 in
theorem read_len2 (s : ByteArray) (hs : s.size < 4294967281) (rest : List ByteArray) (hp : pcs s = (⟨#[115, 116, 111, 114, 101]⟩ : ByteArray) :: rest) (hl : rest.length ≠ 2) (w : World) (h : Std w) :
    Calls Tryd.prog 33 #[.string s] w fun e w' => e = .returned (resV none) ∧ Below w.heap.size w w' := by
  have HS := Lib.hid h
  have HP := Lib.hid hp
  obtain ⟨N, hN⟩ : ∃ N, min 5 (s.size + 1) = N := ⟨_, rfl⟩
  have HSp := Lib.hid (splitn_at s (w.alloc (.cells #[.int .i64 0, .int .i64 0, .int .u64 0, .int .u64 0] 40)) hs)
  have hlen : (pcs s).length ≤ N := by
    have := Lib.splitB_length_le blank 0 (min 5 (s.size + 1) - 1) s
    unfold pcs
    omega
  rw [hp] at hlen
  rw [hN] at HSp
  have e0 : Lib.splitB blank 0 (N - 1) s = (⟨#[115, 116, 111, 114, 101]⟩ : ByteArray) :: rest := by rw [← hN]; exact hp
  rw [e0] at HSp
  simp only [List.length_cons] at HSp hlen
  have hN5 : N ≤ 5 := by omega
  clear h hp hN e0
  have bl : (((rest.length + 1 : Nat) : Int) != 3) = true := by simp; omega
  have bl2 : (((rest.length : Nat) : Int) + 1 != 3) = true := by simp; omega
  clear hl
  go_enter Tryd.func33, Tryd.ntmps33
  go_wp2_with fail
  refine HSp.out.mono ?_
  rintro e w1 ⟨rfl, rfl⟩
  have hR1 : ((w.alloc (.cells #[.int .i64 0, .int .i64 0, .int .u64 0, .int .u64 0] 40)).alloc (.cells (Lib.cellsOf ((⟨#[115, 116, 111, 114, 101]⟩ : ByteArray) :: rest) N) 9)).heap[w.heap.size]? = some (.cells #[.int .i64 0, .int .i64 0, .int .u64 0, .int .u64 0] 40 (0, 0)) := hkeep (heap_alloc_new _ _) _
  have hP1 : ((w.alloc (.cells #[.int .i64 0, .int .i64 0, .int .u64 0, .int .u64 0] 40)).alloc (.cells (Lib.cellsOf ((⟨#[115, 116, 111, 114, 101]⟩ : ByteArray) :: rest) N) 9)).heap[w.heap.size + 1]? = some (.cells (Lib.cellsOf ((⟨#[115, 116, 111, 114, 101]⟩ : ByteArray) :: rest) N) 9 (0, 0)) := by
    have := heap_alloc_new (w.alloc (.cells #[.int .i64 0, .int .i64 0, .int .u64 0, .int .u64 0] 40)) (.cells (Lib.cellsOf ((⟨#[115, 116, 111, 114, 101]⟩ : ByteArray) :: rest) N) 9 (0, 0))
    simpa using this
  have q0 : ((w.alloc (.cells #[.int .i64 0, .int .i64 0, .int .u64 0, .int .u64 0] 40)).alloc (.cells (Lib.cellsOf ((⟨#[115, 116, 111, 114, 101]⟩ : ByteArray) :: rest) N) 9)).cell? ⟨w.heap.size + 1, 0, none⟩ = some (.string (⟨#[115, 116, 111, 114, 101]⟩ : ByteArray)) := cell_of hP1 (pcs_at rfl)
  have B1 : Below w.heap.size w ((w.alloc (.cells #[.int .i64 0, .int .i64 0, .int .u64 0, .int .u64 0] 40)).alloc (.cells (Lib.cellsOf ((⟨#[115, 116, 111, 114, 101]⟩ : ByteArray) :: rest) N) 9)) := zkeep (below_alloc _ _) _
  obtain ⟨W1, hW1⟩ : ∃ W1, ((w.alloc (.cells #[.int .i64 0, .int .i64 0, .int .u64 0, .int .u64 0] 40)).alloc (.cells (Lib.cellsOf ((⟨#[115, 116, 111, 114, 101]⟩ : ByteArray) :: rest) N) 9)) = W1 := ⟨_, rfl⟩
  have hsz1 : (w.alloc (.cells #[.int .i64 0, .int .i64 0, .int .u64 0, .int .u64 0] 40)).heap.size = w.heap.size + 1 := by simp
  rw [hsz1]
  rw [hW1] at hR1 hP1 q0 B1 ⊢
  clear hW1 hsz1 HSp
  have HR1 := Lib.hid hR1
  have HP1 := Lib.hid hP1
  have HB1 := Lib.hid B1
  clear hR1 hP1 B1
  go_wp2_with fail
  refine (fow_2 _ (HS.out.below HB1.out).forms).mono ?_
  rintro e w2 ⟨rfl, K2⟩
  clear q0
  have hR2 : w2.heap[w.heap.size]? = some (.cells #[.int .i64 0, .int .i64 0, .int .u64 0, .int .u64 0] 40 (0, 0)) := (K2.block _ (lt_of_block HR1.out)).trans HR1.out
  have hP2 : w2.heap[w.heap.size + 1]? = some (.cells (Lib.cellsOf ((⟨#[115, 116, 111, 114, 101]⟩ : ByteArray) :: rest) N) 9 (0, 0)) := (K2.block _ (lt_of_block HP1.out)).trans HP1.out
  have l0 := lt_of_block hR2
  have l1 := lt_of_block hP2
  have HP2 := Lib.hid hP2
  have HB2 := Lib.hid (bel_trans HB1.out K2)
  clear K2 hP2 HR1 HP1 HB1
  have HR2 := Lib.hid hR2
  have r0 : w2.cell? ⟨w.heap.size, 0, none⟩ = some (.int .i64 0) := cell_of hR2 rfl
  have r1 : w2.cell? ⟨w.heap.size, 1, none⟩ = some (.int .i64 0) := cell_of hR2 rfl
  have r2 : w2.cell? ⟨w.heap.size, 2, none⟩ = some (.int .u64 0) := cell_of hR2 rfl
  have r3 : w2.cell? ⟨w.heap.size, 3, none⟩ = some (.int .u64 0) := cell_of hR2 rfl
  have k0 := free_of (i := 0) hR2
  have k1 := free_of (i := 1) hR2
  have k2 := free_of (i := 2) hR2
  have k3 := free_of (i := 3) hR2
  clear hR2
  unfold str wStore
  simp only []
  go_wp2
  (try simp only [Exit.inBlock, Exit.then])
  refine bodyPost_ret (results_row_tmp rfl _ _ w.heap.size _ rfl (run_loadVar_row _ _ 40 40 _ (0, 0) _ (hkeep (put4 HR2.out _ _ _ _) _) Tryd.underlying40 rfl size40)) rfl ?_
  exact ⟨rfl, zkeep (bel_put4 HB2.out _ _ _ _) _⟩
set_option maxRecDepth 100000 in
set_option maxHeartbeats 4000000 in
theorem read_len3 (s : ByteArray) (hs : s.size < 4294967281) (rest : List ByteArray) (hp : pcs s = (⟨#[99, 97, 115]⟩ : ByteArray) :: rest) (hl : rest.length ≠ 3) (w : World) (h : Std w) :
    Calls Tryd.prog 33 #[.string s] w fun e w' => e = .returned (resV none) ∧ Below w.heap.size w w' := by
  have HS := Lib.hid h
  have HP := Lib.hid hp
  obtain ⟨N, hN⟩ : ∃ N, min 5 (s.size + 1) = N := ⟨_, rfl⟩
  have HSp := Lib.hid (splitn_at s (w.alloc (.cells #[.int .i64 0, .int .i64 0, .int .u64 0, .int .u64 0] 40)) hs)
  have hlen : (pcs s).length ≤ N := by
    have := Lib.splitB_length_le blank 0 (min 5 (s.size + 1) - 1) s
    unfold pcs
    omega
  rw [hp] at hlen
  rw [hN] at HSp
  have e0 : Lib.splitB blank 0 (N - 1) s = (⟨#[99, 97, 115]⟩ : ByteArray) :: rest := by rw [← hN]; exact hp
  rw [e0] at HSp
  simp only [List.length_cons] at HSp hlen
  have hN5 : N ≤ 5 := by omega
  clear h hp hN e0
  have bl : (((rest.length + 1 : Nat) : Int) != 4) = true := by simp; omega
  have bl2 : (((rest.length : Nat) : Int) + 1 != 4) = true := by simp; omega
  clear hl
  go_enter Tryd.func33, Tryd.ntmps33
  go_wp2_with fail
  refine HSp.out.mono ?_
  rintro e w1 ⟨rfl, rfl⟩
  have hR1 : ((w.alloc (.cells #[.int .i64 0, .int .i64 0, .int .u64 0, .int .u64 0] 40)).alloc (.cells (Lib.cellsOf ((⟨#[99, 97, 115]⟩ : ByteArray) :: rest) N) 9)).heap[w.heap.size]? = some (.cells #[.int .i64 0, .int .i64 0, .int .u64 0, .int .u64 0] 40 (0, 0)) := hkeep (heap_alloc_new _ _) _
  have hP1 : ((w.alloc (.cells #[.int .i64 0, .int .i64 0, .int .u64 0, .int .u64 0] 40)).alloc (.cells (Lib.cellsOf ((⟨#[99, 97, 115]⟩ : ByteArray) :: rest) N) 9)).heap[w.heap.size + 1]? = some (.cells (Lib.cellsOf ((⟨#[99, 97, 115]⟩ : ByteArray) :: rest) N) 9 (0, 0)) := by
    have := heap_alloc_new (w.alloc (.cells #[.int .i64 0, .int .i64 0, .int .u64 0, .int .u64 0] 40)) (.cells (Lib.cellsOf ((⟨#[99, 97, 115]⟩ : ByteArray) :: rest) N) 9 (0, 0))
    simpa using this
  have q0 : ((w.alloc (.cells #[.int .i64 0, .int .i64 0, .int .u64 0, .int .u64 0] 40)).alloc (.cells (Lib.cellsOf ((⟨#[99, 97, 115]⟩ : ByteArray) :: rest) N) 9)).cell? ⟨w.heap.size + 1, 0, none⟩ = some (.string (⟨#[99, 97, 115]⟩ : ByteArray)) := cell_of hP1 (pcs_at rfl)
  have B1 : Below w.heap.size w ((w.alloc (.cells #[.int .i64 0, .int .i64 0, .int .u64 0, .int .u64 0] 40)).alloc (.cells (Lib.cellsOf ((⟨#[99, 97, 115]⟩ : ByteArray) :: rest) N) 9)) := zkeep (below_alloc _ _) _
  obtain ⟨W1, hW1⟩ : ∃ W1, ((w.alloc (.cells #[.int .i64 0, .int .i64 0, .int .u64 0, .int .u64 0] 40)).alloc (.cells (Lib.cellsOf ((⟨#[99, 97, 115]⟩ : ByteArray) :: rest) N) 9)) = W1 := ⟨_, rfl⟩
  have hsz1 : (w.alloc (.cells #[.int .i64 0, .int .i64 0, .int .u64 0, .int .u64 0] 40)).heap.size = w.heap.size + 1 := by simp
  rw [hsz1]
  rw [hW1] at hR1 hP1 q0 B1 ⊢
  clear hW1 hsz1 HSp
  have HR1 := Lib.hid hR1
  have HP1 := Lib.hid hP1
  have HB1 := Lib.hid B1
  clear hR1 hP1 B1
  go_wp2_with fail
  refine (fow_3 _ (HS.out.below HB1.out).forms).mono ?_
  rintro e w2 ⟨rfl, K2⟩
  clear q0
  have hR2 : w2.heap[w.heap.size]? = some (.cells #[.int .i64 0, .int .i64 0, .int .u64 0, .int .u64 0] 40 (0, 0)) := (K2.block _ (lt_of_block HR1.out)).trans HR1.out
  have hP2 : w2.heap[w.heap.size + 1]? = some (.cells (Lib.cellsOf ((⟨#[99, 97, 115]⟩ : ByteArray) :: rest) N) 9 (0, 0)) := (K2.block _ (lt_of_block HP1.out)).trans HP1.out
  have l0 := lt_of_block hR2
  have l1 := lt_of_block hP2
  have HP2 := Lib.hid hP2
  have HB2 := Lib.hid (bel_trans HB1.out K2)
  clear K2 hP2 HR1 HP1 HB1
  have HR2 := Lib.hid hR2
  have r0 : w2.cell? ⟨w.heap.size, 0, none⟩ = some (.int .i64 0) := cell_of hR2 rfl
  have r1 : w2.cell? ⟨w.heap.size, 1, none⟩ = some (.int .i64 0) := cell_of hR2 rfl
  have r2 : w2.cell? ⟨w.heap.size, 2, none⟩ = some (.int .u64 0) := cell_of hR2 rfl
  have r3 : w2.cell? ⟨w.heap.size, 3, none⟩ = some (.int .u64 0) := cell_of hR2 rfl
  have k0 := free_of (i := 0) hR2
  have k1 := free_of (i := 1) hR2
  have k2 := free_of (i := 2) hR2
  have k3 := free_of (i := 3) hR2
  clear hR2
  unfold str wCas
  simp only []
  go_wp2
  (try simp only [Exit.inBlock, Exit.then])
  refine bodyPost_ret (results_row_tmp rfl _ _ w.heap.size _ rfl (run_loadVar_row _ _ 40 40 _ (0, 0) _ (hkeep (put4 HR2.out _ _ _ _) _) Tryd.underlying40 rfl size40)) rfl ?_
  exact ⟨rfl, zkeep (bel_put4 HB2.out _ _ _ _) _⟩
set_option maxRecDepth 100000 in
set_option maxHeartbeats 4000000 in
theorem read_len4 (s : ByteArray) (hs : s.size < 4294967281) (rest : List ByteArray) (hp : pcs s = (⟨#[97, 100, 100]⟩ : ByteArray) :: rest) (hl : rest.length ≠ 2) (w : World) (h : Std w) :
    Calls Tryd.prog 33 #[.string s] w fun e w' => e = .returned (resV none) ∧ Below w.heap.size w w' := by
  have HS := Lib.hid h
  have HP := Lib.hid hp
  obtain ⟨N, hN⟩ : ∃ N, min 5 (s.size + 1) = N := ⟨_, rfl⟩
  have HSp := Lib.hid (splitn_at s (w.alloc (.cells #[.int .i64 0, .int .i64 0, .int .u64 0, .int .u64 0] 40)) hs)
  have hlen : (pcs s).length ≤ N := by
    have := Lib.splitB_length_le blank 0 (min 5 (s.size + 1) - 1) s
    unfold pcs
    omega
  rw [hp] at hlen
  rw [hN] at HSp
  have e0 : Lib.splitB blank 0 (N - 1) s = (⟨#[97, 100, 100]⟩ : ByteArray) :: rest := by rw [← hN]; exact hp
  rw [e0] at HSp
  simp only [List.length_cons] at HSp hlen
  have hN5 : N ≤ 5 := by omega
  clear h hp hN e0
  have bl : (((rest.length + 1 : Nat) : Int) != 3) = true := by simp; omega
  have bl2 : (((rest.length : Nat) : Int) + 1 != 3) = true := by simp; omega
  clear hl
  go_enter Tryd.func33, Tryd.ntmps33
  go_wp2_with fail
  refine HSp.out.mono ?_
  rintro e w1 ⟨rfl, rfl⟩
  have hR1 : ((w.alloc (.cells #[.int .i64 0, .int .i64 0, .int .u64 0, .int .u64 0] 40)).alloc (.cells (Lib.cellsOf ((⟨#[97, 100, 100]⟩ : ByteArray) :: rest) N) 9)).heap[w.heap.size]? = some (.cells #[.int .i64 0, .int .i64 0, .int .u64 0, .int .u64 0] 40 (0, 0)) := hkeep (heap_alloc_new _ _) _
  have hP1 : ((w.alloc (.cells #[.int .i64 0, .int .i64 0, .int .u64 0, .int .u64 0] 40)).alloc (.cells (Lib.cellsOf ((⟨#[97, 100, 100]⟩ : ByteArray) :: rest) N) 9)).heap[w.heap.size + 1]? = some (.cells (Lib.cellsOf ((⟨#[97, 100, 100]⟩ : ByteArray) :: rest) N) 9 (0, 0)) := by
    have := heap_alloc_new (w.alloc (.cells #[.int .i64 0, .int .i64 0, .int .u64 0, .int .u64 0] 40)) (.cells (Lib.cellsOf ((⟨#[97, 100, 100]⟩ : ByteArray) :: rest) N) 9 (0, 0))
    simpa using this
  have q0 : ((w.alloc (.cells #[.int .i64 0, .int .i64 0, .int .u64 0, .int .u64 0] 40)).alloc (.cells (Lib.cellsOf ((⟨#[97, 100, 100]⟩ : ByteArray) :: rest) N) 9)).cell? ⟨w.heap.size + 1, 0, none⟩ = some (.string (⟨#[97, 100, 100]⟩ : ByteArray)) := cell_of hP1 (pcs_at rfl)
  have B1 : Below w.heap.size w ((w.alloc (.cells #[.int .i64 0, .int .i64 0, .int .u64 0, .int .u64 0] 40)).alloc (.cells (Lib.cellsOf ((⟨#[97, 100, 100]⟩ : ByteArray) :: rest) N) 9)) := zkeep (below_alloc _ _) _
  obtain ⟨W1, hW1⟩ : ∃ W1, ((w.alloc (.cells #[.int .i64 0, .int .i64 0, .int .u64 0, .int .u64 0] 40)).alloc (.cells (Lib.cellsOf ((⟨#[97, 100, 100]⟩ : ByteArray) :: rest) N) 9)) = W1 := ⟨_, rfl⟩
  have hsz1 : (w.alloc (.cells #[.int .i64 0, .int .i64 0, .int .u64 0, .int .u64 0] 40)).heap.size = w.heap.size + 1 := by simp
  rw [hsz1]
  rw [hW1] at hR1 hP1 q0 B1 ⊢
  clear hW1 hsz1 HSp
  have HR1 := Lib.hid hR1
  have HP1 := Lib.hid hP1
  have HB1 := Lib.hid B1
  clear hR1 hP1 B1
  go_wp2_with fail
  refine (fow_4 _ (HS.out.below HB1.out).forms).mono ?_
  rintro e w2 ⟨rfl, K2⟩
  clear q0
  have hR2 : w2.heap[w.heap.size]? = some (.cells #[.int .i64 0, .int .i64 0, .int .u64 0, .int .u64 0] 40 (0, 0)) := (K2.block _ (lt_of_block HR1.out)).trans HR1.out
  have hP2 : w2.heap[w.heap.size + 1]? = some (.cells (Lib.cellsOf ((⟨#[97, 100, 100]⟩ : ByteArray) :: rest) N) 9 (0, 0)) := (K2.block _ (lt_of_block HP1.out)).trans HP1.out
  have l0 := lt_of_block hR2
  have l1 := lt_of_block hP2
  have HP2 := Lib.hid hP2
  have HB2 := Lib.hid (bel_trans HB1.out K2)
  clear K2 hP2 HR1 HP1 HB1
  have HR2 := Lib.hid hR2
  have r0 : w2.cell? ⟨w.heap.size, 0, none⟩ = some (.int .i64 0) := cell_of hR2 rfl
  have r1 : w2.cell? ⟨w.heap.size, 1, none⟩ = some (.int .i64 0) := cell_of hR2 rfl
  have r2 : w2.cell? ⟨w.heap.size, 2, none⟩ = some (.int .u64 0) := cell_of hR2 rfl
  have r3 : w2.cell? ⟨w.heap.size, 3, none⟩ = some (.int .u64 0) := cell_of hR2 rfl
  have k0 := free_of (i := 0) hR2
  have k1 := free_of (i := 1) hR2
  have k2 := free_of (i := 2) hR2
  have k3 := free_of (i := 3) hR2
  clear hR2
  unfold str wAdd
  simp only []
  go_wp2
  (try simp only [Exit.inBlock, Exit.then])
  refine bodyPost_ret (results_row_tmp rfl _ _ w.heap.size _ rfl (run_loadVar_row _ _ 40 40 _ (0, 0) _ (hkeep (put4 HR2.out _ _ _ _) _) Tryd.underlying40 rfl size40)) rfl ?_
  exact ⟨rfl, zkeep (bel_put4 HB2.out _ _ _ _) _⟩
end Go.Proofs.YtoeopapnegjooaaDoor
