/- The walk of ActCas: for every list of acts, every place and every two numbers it returns true; nothing that lay before is changed. Condition: the tables stand in their variables. -/
import Derived.Test.YtoeopapnegjooaaDoorL5
namespace Go.Proofs.YtoeopapnegjooaaDoor
open Go.RowKit

/-- A memory and two numbers in a block of their own, all made since w0. -/
structure Cs (w0 w : World) (x0 x1 : Int) (p b : Nat) (s : St) : Prop where
  m : Mem 62 w p b s
  X : w.heap[w0.heap.size]? = some (.cells #[.int .u64 x0, .int .u64 x1] 57 (0, 0))
  bel : Below w0.heap.size w0 w
  h1 : w0.heap.size + 1 ≤ p
  h2 : w0.heap.size + 1 ≤ b
theorem Cs.turn {w0 w w' : World} {x0 x1 : Int} {p b : Nat} {s t : St} (h : Cs w0 w x0 x1 p b s) (k : Turns 62 p b w w' t) : Cs w0 w' x0 x1 p b t :=
  ⟨k.1, (k.2.block _ (lt_of_block h.X) (by have := h.h1; omega) (by have := h.h2; omega)).trans h.X, h.bel.trans (k.2.below h.bel.size (by have := h.h1; omega) (by have := h.h2; omega)), h.h1, h.h2⟩
theorem Cs.below {w0 w w' : World} {x0 x1 : Int} {p b : Nat} {s : St} (h : Cs w0 w x0 x1 p b s) (k : Below w.heap.size w w') : Cs w0 w' x0 x1 p b s :=
  ⟨h.m.below k, (k.block _ (lt_of_block h.X)).trans h.X, bel_trans h.bel k, h.h1, h.h2⟩

theorem run8 (l : List Ac) : (runT st8 l).xs.length = 8 := by rw [runT_len]; rfl
theorem there8 (l : List Ac) (k : Nat) (hk : k < 8) : there (runT st8 l) k = true := inB_yes.2 (by rw [run8]; omega)
theorem cas_load {s : St} {k : Nat} (h : there s k = true) : doR s ⟨1, k, 0, 0⟩ = ⟨wAt s k, false, 0⟩ := by
  rw [doR_rv]; simp only [] at h ⊢; rw [h]; rfl
theorem cas_cas {s : St} {k : Nat} {a b : Int} (h : there s k = true) : doR s ⟨3, k, a, b⟩ = ⟨0, wAt s k == a, 0⟩ := by
  rw [doR_rv]; simp only [] at h ⊢; rw [h]; simp [rv]

set_option maxRecDepth 100000 in
set_option maxHeartbeats 1000000 in
theorem cas_long (q : Option Addr) (n c : Nat) (k : Nat) (x0 x1 : Int) (hn : 60 < n) (w : World) (h : Std w) :
    Calls Tryd.prog 7 #[.slice q n c, .int .u8 k, .agg #[.int .u64 x0, .int .u64 x1]] w fun e w' => e = .returned (.bool true) ∧ Below w.heap.size w w' := by
  have HS := Lib.hid h
  have hd : decide ((60 : Int) < n) = true := by simp; omega
  clear h hn
  go_enter Tryd.func7, Tryd.ntmps7
  go_wp2_with fail
  refine (new_yes 8 _ (by decide) (by decide)).mono ?_
  rintro e w2 ⟨rfl, hM, hB⟩
  have HB := Lib.hid (bel_trans (below_alloc w (.cells #[.int .u64 x0, .int .u64 x1] 57)) hB)
  clear hM hB
  go_wp2_with fail
  refine (known_yes _ (HS.out.below HB.out)).mono ?_
  rintro e w3 ⟨rfl, K⟩
  go_wp2
  go_ret
  exact ⟨rfl, bel_trans HB.out K⟩

set_option maxRecDepth 100000 in
set_option maxHeartbeats 4000000 in
theorem cas_is (q : Option Addr) (n c : Nat) (l : List Ac) (k : Nat) (x0 x1 : Int) (hk : k < 256) (hn : n ≤ 60) (hl : l.length = n) (hv : wAt (runT st8 l) (k % 8 : Nat) = x0) (w : World) (h : Std w) (hA : Acts w q l) :
    Calls Tryd.prog 7 #[.slice q n c, .int .u8 k, .agg #[.int .u64 x0, .int .u64 x1]] w fun e w' => e = .returned (.bool true) ∧ Below w.heap.size w w' := by
  have HS := Lib.hid h
  have HA := Lib.hid hA
  have HL := Lib.hid hl
  have HN := Lib.hid hn
  have hd : decide ((60 : Int) < n) = false := by simp; omega
  have HK : Hid (k % 8 < 8) := Lib.hid (Nat.mod_lt _ (by decide))
  have C0 := Lib.hid (cnt_run l (by omega) 100 (by omega))
  have T0 := Lib.hid (there8 l (k % 8) HK.out)
  have T1 : Hid (there (doT (runT st8 l) ⟨1, (k % 8 : Nat), 0, 0⟩) (k % 8 : Nat) = true) := Lib.hid (by rw [there_doT]; exact T0.out)
  have V1 : Hid (wAt (doT (runT st8 l) ⟨1, (k % 8 : Nat), 0, 0⟩) (k % 8 : Nat) = wAt (runT st8 l) (k % 8 : Nat)) := Lib.hid (by rw [wAt_doT T0.out T0.out, if_pos rfl]; rfl)
  have T2 : Hid (there (doT (doT (runT st8 l) ⟨1, (k % 8 : Nat), 0, 0⟩) ⟨3, (k % 8 : Nat), x0, x1⟩) (k % 8 : Nat) = true) := Lib.hid (by rw [there_doT]; exact T1.out)
  have V2 : Hid (wAt (doT (doT (runT st8 l) ⟨1, (k % 8 : Nat), 0, 0⟩) ⟨3, (k % 8 : Nat), x0, x1⟩) (k % 8 : Nat) = if wAt (runT st8 l) (k % 8 : Nat) = x0 then x1 else wAt (runT st8 l) (k % 8 : Nat)) := Lib.hid (by rw [wAt_doT T1.out T1.out, if_pos rfl, V1.out]; rfl)
  have E1 := Lib.hid (cas_load T0.out)
  have E2 := Lib.hid (cas_cas (a := x0) (b := x1) T1.out)
  rw [V1.out] at E2
  have E3 := Lib.hid (cas_load T2.out)
  rw [V2.out] at E3
  rw [if_pos hv] at E3
  have e2 : (wAt (runT st8 l) (k % 8 : Nat) == x0) = true := by rw [hv]; simp
  rw [e2] at E2
  rw [hv] at E1
  have C1 := Lib.hid (C0.out.doT ⟨1, (k % 8 : Nat), 0, 0⟩)
  have C2 := Lib.hid (C1.out.doT ⟨3, (k % 8 : Nat), x0, x1⟩)
  have hmod : (k : Int) % 8 = ((k % 8 : Nat) : Int) := by omega
  obtain ⟨j, hj⟩ : ∃ j, k % 8 = j := ⟨_, rfl⟩
  rw [hj] at hmod E1 E2 E3 C1 C2
  clear h hA hl hn hv hj T0 T1 T2 V1 V2 HK
  go_enter Tryd.func7, Tryd.ntmps7
  go_wp2_with fail
  have X1 : (w.alloc (.cells #[.int .u64 x0, .int .u64 x1] 57)).heap[w.heap.size]? = some (.cells #[.int .u64 x0, .int .u64 x1] 57 (0, 0)) := heap_alloc_new _ _
  refine (new_yes 8 _ (by decide) (by decide)).mono ?_
  rintro e w2 ⟨rfl, hM, hB⟩
  have hz : (w.alloc (.cells #[.int .u64 x0, .int .u64 x1] 57)).heap.size = w.heap.size + 1 := by simp
  rw [hz] at hM ⊢
  have H2 : Cs w w2 x0 x1 (w.heap.size + 1 + 1) (w.heap.size + 1) st8 := ⟨hM, (hB.block _ (lt_of_block X1)).trans X1, bel_trans (below_alloc _ _) hB, by omega, by omega⟩
  have HH2 := Lib.hid H2
  clear H2 hM hB hz X1
  go_wp2_with fail
  refine (run_ex (m := 0) HH2.out.m (cnt8 0) (by decide) q n c l HL.out (by have := HN.out; omega) (HA.out.script HH2.out.bel (by omega) (by omega))).mono ?_
  rintro e w3 ⟨gr, rfl, -, -, hT⟩
  have HH3 := Lib.hid (HH2.out.turn hT)
  have x3 : w3.cell? ⟨w.heap.size, 0, none⟩ = some (.int .u64 x0) := cell_of HH3.out.X rfl
  have y3 : w3.cell? ⟨w.heap.size, 1, none⟩ = some (.int .u64 x1) := cell_of HH3.out.X rfl
  clear hT HH2 HA
  go_wp2_with fail
  refine (do_at HH3.out.m C0.out (by decide) ⟨1, j, 0, 0⟩).mono ?_
  rintro e w4 ⟨rfl, hT⟩
  rw [E1.out]
  have HD := Lib.hid (HH3.out.turn hT)
  have HH4 := Lib.hid (HD.out.below (below_alloc w4 (.cells (reC ⟨x0, false, 0⟩) 37)))
  have R4 := Lib.hid (IsRe.new w4 ⟨x0, false, 0⟩)
  have x4 : w4.cell? ⟨w.heap.size, 0, none⟩ = some (.int .u64 x0) := cell_of HD.out.X rfl
  have y4 : w4.cell? ⟨w.heap.size, 1, none⟩ = some (.int .u64 x1) := cell_of HD.out.X rfl
  have s4 := lt_of_block HD.out.X
  have u4 := HD.out.m.lt
  clear hT HD HH3 x3 y3
  go_wp2_with fail
  refine (do_at HH4.out.m C1.out (by decide) ⟨3, j, x0, x1⟩).mono ?_
  rintro e w5 ⟨rfl, hT⟩
  rw [E2.out]
  have HD := Lib.hid (HH4.out.turn hT)
  have R4n := Lib.hid (R4.out.turns hT (by omega) (by omega))
  have R4 := Lib.hid (R4n.out.below (below_alloc w5 (.cells (reC ⟨0, true, 0⟩) 37)))
  have HH5 := Lib.hid (HD.out.below (below_alloc w5 (.cells (reC ⟨0, true, 0⟩) 37)))
  have R5 := Lib.hid (IsRe.new w5 ⟨0, true, 0⟩)
  have s5 := lt_of_block HD.out.X
  have u5 := HD.out.m.lt
  clear hT HD HH4 x4 y4 R4n
  go_wp2_with fail
  refine (do_at HH5.out.m C2.out (by decide) ⟨1, j, 0, 0⟩).mono ?_
  rintro e w6 ⟨rfl, hT⟩
  rw [E3.out]
  have HD := Lib.hid (HH5.out.turn hT)
  have R4n := Lib.hid (R4.out.turns hT (by omega) (by omega))
  have R5n := Lib.hid (R5.out.turns hT (by omega) (by omega))
  have HH6 := Lib.hid (HD.out.below (below_alloc w6 (.cells (reC ⟨x1, false, 0⟩) 37)))
  have x6 : w6.cell? ⟨w.heap.size, 0, none⟩ = some (.int .u64 x0) := cell_of HD.out.X rfl
  have y6 : w6.cell? ⟨w.heap.size, 1, none⟩ = some (.int .u64 x1) := cell_of HD.out.X rfl
  have s6 := lt_of_block HD.out.X
  have a0 := R4n.out.c0
  have b1 := R5n.out.c1
  have b2 := R5n.out.c2
  have la := lt_of_block R4n.out
  have lb := lt_of_block R5n.out
  simp only [] at a0 b1 b2
  clear hT HD HH5 R4n R5n R4 R5
  simp only []
  go_wp2_with fail
  refine (known_yes _ (HS.out.below HH6.out.bel)).mono ?_
  rintro e w7 ⟨rfl, K⟩
  go_wp2
  go_ret
  exact ⟨rfl, bel_trans HH6.out.bel K⟩

set_option maxRecDepth 100000 in
set_option maxHeartbeats 4000000 in
theorem cas_no (q : Option Addr) (n c : Nat) (l : List Ac) (k : Nat) (x0 x1 : Int) (hk : k < 256) (hn : n ≤ 60) (hl : l.length = n) (hv : wAt (runT st8 l) (k % 8 : Nat) ≠ x0) (w : World) (h : Std w) (hA : Acts w q l) :
    Calls Tryd.prog 7 #[.slice q n c, .int .u8 k, .agg #[.int .u64 x0, .int .u64 x1]] w fun e w' => e = .returned (.bool true) ∧ Below w.heap.size w w' := by
  have HS := Lib.hid h
  have HA := Lib.hid hA
  have HL := Lib.hid hl
  have HN := Lib.hid hn
  have hd : decide ((60 : Int) < n) = false := by simp; omega
  have HK : Hid (k % 8 < 8) := Lib.hid (Nat.mod_lt _ (by decide))
  have C0 := Lib.hid (cnt_run l (by omega) 100 (by omega))
  have T0 := Lib.hid (there8 l (k % 8) HK.out)
  have T1 : Hid (there (doT (runT st8 l) ⟨1, (k % 8 : Nat), 0, 0⟩) (k % 8 : Nat) = true) := Lib.hid (by rw [there_doT]; exact T0.out)
  have V1 : Hid (wAt (doT (runT st8 l) ⟨1, (k % 8 : Nat), 0, 0⟩) (k % 8 : Nat) = wAt (runT st8 l) (k % 8 : Nat)) := Lib.hid (by rw [wAt_doT T0.out T0.out, if_pos rfl]; rfl)
  have T2 : Hid (there (doT (doT (runT st8 l) ⟨1, (k % 8 : Nat), 0, 0⟩) ⟨3, (k % 8 : Nat), x0, x1⟩) (k % 8 : Nat) = true) := Lib.hid (by rw [there_doT]; exact T1.out)
  have V2 : Hid (wAt (doT (doT (runT st8 l) ⟨1, (k % 8 : Nat), 0, 0⟩) ⟨3, (k % 8 : Nat), x0, x1⟩) (k % 8 : Nat) = if wAt (runT st8 l) (k % 8 : Nat) = x0 then x1 else wAt (runT st8 l) (k % 8 : Nat)) := Lib.hid (by rw [wAt_doT T1.out T1.out, if_pos rfl, V1.out]; rfl)
  have E1 := Lib.hid (cas_load T0.out)
  have E2 := Lib.hid (cas_cas (a := x0) (b := x1) T1.out)
  rw [V1.out] at E2
  have E3 := Lib.hid (cas_load T2.out)
  rw [V2.out] at E3
  rw [if_neg hv] at E3
  have e2 : (wAt (runT st8 l) (k % 8 : Nat) == x0) = false := beq_eq_false_iff_ne.2 hv
  rw [e2] at E2
  obtain ⟨v, hvv⟩ : ∃ v, wAt (runT st8 l) (k % 8 : Nat) = v := ⟨_, rfl⟩
  rw [hvv] at E1 E3 e2
  have C1 := Lib.hid (C0.out.doT ⟨1, (k % 8 : Nat), 0, 0⟩)
  have C2 := Lib.hid (C1.out.doT ⟨3, (k % 8 : Nat), x0, x1⟩)
  have hmod : (k : Int) % 8 = ((k % 8 : Nat) : Int) := by omega
  obtain ⟨j, hj⟩ : ∃ j, k % 8 = j := ⟨_, rfl⟩
  rw [hj] at hmod E1 E2 E3 C1 C2
  clear h hA hl hn hv hvv hj T0 T1 T2 V1 V2 HK
  go_enter Tryd.func7, Tryd.ntmps7
  go_wp2_with fail
  have X1 : (w.alloc (.cells #[.int .u64 x0, .int .u64 x1] 57)).heap[w.heap.size]? = some (.cells #[.int .u64 x0, .int .u64 x1] 57 (0, 0)) := heap_alloc_new _ _
  refine (new_yes 8 _ (by decide) (by decide)).mono ?_
  rintro e w2 ⟨rfl, hM, hB⟩
  have hz : (w.alloc (.cells #[.int .u64 x0, .int .u64 x1] 57)).heap.size = w.heap.size + 1 := by simp
  rw [hz] at hM ⊢
  have H2 : Cs w w2 x0 x1 (w.heap.size + 1 + 1) (w.heap.size + 1) st8 := ⟨hM, (hB.block _ (lt_of_block X1)).trans X1, bel_trans (below_alloc _ _) hB, by omega, by omega⟩
  have HH2 := Lib.hid H2
  clear H2 hM hB hz X1
  go_wp2_with fail
  refine (run_ex (m := 0) HH2.out.m (cnt8 0) (by decide) q n c l HL.out (by have := HN.out; omega) (HA.out.script HH2.out.bel (by omega) (by omega))).mono ?_
  rintro e w3 ⟨gr, rfl, -, -, hT⟩
  have HH3 := Lib.hid (HH2.out.turn hT)
  have x3 : w3.cell? ⟨w.heap.size, 0, none⟩ = some (.int .u64 x0) := cell_of HH3.out.X rfl
  have y3 : w3.cell? ⟨w.heap.size, 1, none⟩ = some (.int .u64 x1) := cell_of HH3.out.X rfl
  clear hT HH2 HA
  go_wp2_with fail
  refine (do_at HH3.out.m C0.out (by decide) ⟨1, j, 0, 0⟩).mono ?_
  rintro e w4 ⟨rfl, hT⟩
  rw [E1.out]
  have HD := Lib.hid (HH3.out.turn hT)
  have HH4 := Lib.hid (HD.out.below (below_alloc w4 (.cells (reC ⟨v, false, 0⟩) 37)))
  have R4 := Lib.hid (IsRe.new w4 ⟨v, false, 0⟩)
  have x4 : w4.cell? ⟨w.heap.size, 0, none⟩ = some (.int .u64 x0) := cell_of HD.out.X rfl
  have y4 : w4.cell? ⟨w.heap.size, 1, none⟩ = some (.int .u64 x1) := cell_of HD.out.X rfl
  have s4 := lt_of_block HD.out.X
  have u4 := HD.out.m.lt
  clear hT HD HH3 x3 y3
  go_wp2_with fail
  refine (do_at HH4.out.m C1.out (by decide) ⟨3, j, x0, x1⟩).mono ?_
  rintro e w5 ⟨rfl, hT⟩
  rw [E2.out]
  have HD := Lib.hid (HH4.out.turn hT)
  have R4n := Lib.hid (R4.out.turns hT (by omega) (by omega))
  have R4 := Lib.hid (R4n.out.below (below_alloc w5 (.cells (reC ⟨0, false, 0⟩) 37)))
  have HH5 := Lib.hid (HD.out.below (below_alloc w5 (.cells (reC ⟨0, false, 0⟩) 37)))
  have R5 := Lib.hid (IsRe.new w5 ⟨0, false, 0⟩)
  have s5 := lt_of_block HD.out.X
  have u5 := HD.out.m.lt
  clear hT HD HH4 x4 y4 R4n
  go_wp2_with fail
  refine (do_at HH5.out.m C2.out (by decide) ⟨1, j, 0, 0⟩).mono ?_
  rintro e w6 ⟨rfl, hT⟩
  rw [E3.out]
  have HD := Lib.hid (HH5.out.turn hT)
  have R4n := Lib.hid (R4.out.turns hT (by omega) (by omega))
  have R5n := Lib.hid (R5.out.turns hT (by omega) (by omega))
  have HH6 := Lib.hid (HD.out.below (below_alloc w6 (.cells (reC ⟨v, false, 0⟩) 37)))
  have x6 : w6.cell? ⟨w.heap.size, 0, none⟩ = some (.int .u64 x0) := cell_of HD.out.X rfl
  have y6 : w6.cell? ⟨w.heap.size, 1, none⟩ = some (.int .u64 x1) := cell_of HD.out.X rfl
  have s6 := lt_of_block HD.out.X
  have a0 := R4n.out.c0
  have b1 := R5n.out.c1
  have b2 := R5n.out.c2
  have la := lt_of_block R4n.out
  have lb := lt_of_block R5n.out
  simp only [] at a0 b1 b2
  clear hT HD HH5 R4n R5n R4 R5
  simp only []
  go_wp2_with fail
  refine (known_yes _ (HS.out.below HH6.out.bel)).mono ?_
  rintro e w7 ⟨rfl, K⟩
  go_wp2
  go_ret
  exact ⟨rfl, bel_trans HH6.out.bel K⟩

theorem cas_walk (q : Option Addr) (n c : Nat) (l : List Ac) (k : Nat) (x0 x1 : Int) (hk : k < 256) (hl : l.length = n) (w : World) (h : Std w) (hA : Acts w q l) :
    Calls Tryd.prog 7 #[.slice q n c, .int .u8 k, .agg #[.int .u64 x0, .int .u64 x1]] w fun e w' => e = .returned (.bool true) ∧ Below w.heap.size w w' := by
  by_cases hn : 60 < n
  · exact cas_long q n c k x0 x1 hn w h
  · by_cases hv : wAt (runT st8 l) (k % 8 : Nat) = x0
    · exact cas_is q n c l k x0 x1 hk (by omega) hl hv w h hA
    · exact cas_no q n c l k x0 x1 hk (by omega) hl hv w h hA
end Go.Proofs.YtoeopapnegjooaaDoor
