/- What Do and Run of package act return and leave: functions of the acts, the words and the counts alone. Conditions: the counts are below 2^62. -/
import Derived.Test.YtpfmmlbakbhklaaGreatDoorA
import Derived.Handy
import Derived.MapKept
namespace Go.Proofs.YtpfmmlbakbhklaaGreatDoor
open Go.RowKit

/-- What came of an act. -/
structure Re where
  v : Int
  ok : Bool
  e : Int
abbrev reC (r : Re) : Array Value := #[.int .u64 r.v, .bool r.ok, .int .i64 r.e]
abbrev reV (r : Re) : Value := .agg (reC r)

def doR (s : St) (x : Ac) : Re :=
  if x.kd = 1 then ⟨loadV s x.ad, false, errV s x.ad⟩
  else if x.kd = 2 then ⟨0, false, errV s x.ad⟩
  else if x.kd = 3 then ⟨0, casV s x.ad x.a, errV s x.ad⟩
  else if x.kd = 4 then ⟨loadV s x.ad, false, errV s x.ad⟩
  else ⟨0, false, 1⟩
def doT (s : St) (x : Ac) : St :=
  if x.kd = 1 then loadT s x.ad
  else if x.kd = 2 then storeT s x.ad x.a
  else if x.kd = 3 then casT s x.ad x.a x.b
  else if x.kd = 4 then addT s x.ad x.a
  else s

/-- What a call leaves of the two blocks that were new when it was made. -/
theorem turns_new {w w2 : World} {p b : Nat} {s s' : St} {c1 c2 : Array Value} {t1 t2 : TypeId} (h : Mem 124 w p b s) (T : Turns 124 p b ((w.alloc (.cells c1 t1)).alloc (.cells c2 t2)) w2 s') :
    w2.heap[w.heap.size + 1]? = some (.cells c2 t2 (0, 0)) ∧ Turns 124 p b w w2 s' := by
  have hl := h.lt
  have e : ((w.alloc (.cells c1 t1)).alloc (.cells c2 t2)).heap[w.heap.size + 1]? = some (.cells c2 t2 (0, 0)) := by
    have := heap_alloc_new (w.alloc (.cells c1 t1)) (.cells c2 t2 (0, 0))
    simpa using this
  refine ⟨(T.2.block _ (by simp) (by omega) (by omega)).trans e, T.1, ?_⟩
  exact (But.of_below (bel_trans (below_alloc w (.cells c1 t1)) (below_alloc _ (.cells c2 t2)))).trans T.2
theorem cell_of {w : World} {g i : Nat} {c : Array Value} {t : TypeId} {v : Value} (h : w.heap[g]? = some (.cells c t (0, 0))) (hv : c[i]? = some v) : w.cell? ⟨g, i, none⟩ = some v := by
  simp [World.cell?, h, hv]
theorem free_of {w : World} {g i : Nat} {c : Array Value} {t : TypeId} (h : w.heap[g]? = some (.cells c t (0, 0))) : w.frozen? ⟨g, i, none⟩ = false := by
  simp [World.frozen?, h]
theorem turns_set {w w2 : World} {p b : Nat} {s s' : St} {t : TypeId} (h : Mem t w p b s) (T : Turns t p b w w2 s') (g i : Nat) (v : Value) (hg : w.heap.size ≤ g) : Turns t p b w (w2.setCell ⟨g, i, none⟩ v) s' := by
  have hl := h.lt
  refine ⟨T.1.keep (Below.heap_setCell _ _ _ _ (by simp; omega)) (Below.heap_setCell _ _ _ _ (by simp; omega)), T.2.os, T.2.tape, T.2.output, ?_, fun k hk h1 h2 => ?_⟩
  · have := T.2.size; simpa [World.setCell] using this
  · rw [Below.heap_setCell _ _ _ _ (by simp; omega)]
    exact T.2.block k hk h1 h2
theorem size172 : (Tryz.prog.info? 172).map (·.size) = some 3 := by kernel_rfl
theorem put3 {w2 : World} {g : Nat} {x y z : Value} {t : TypeId} (hg : w2.heap[g]? = some (.cells #[x, y, z] t (0, 0))) (x' y' z' : Value) :
    (((w2.setCell ⟨g, 0, none⟩ x').setCell ⟨g, 1, none⟩ y').setCell ⟨g, 2, none⟩ z').heap[g]? = some (.cells #[x', y', z'] t (0, 0)) := by
  rw [heap_setCell_self (heap_setCell_self (heap_setCell_self hg _) _) _]
  rfl

set_option maxHeartbeats 400000 in
theorem dload_at {w : World} {p b : Nat} {s : St} {k : Nat} (h : Mem 124 w p b s) (c : Cnt s k) (hk : k ≤ bnd) (x : Ac) :
    Calls Tryz.prog 184 #[acV x, .pointer (some ⟨p, 0, none⟩)] w fun e w' => e = .returned (reV ⟨loadV s x.ad, false, errV s x.ad⟩) ∧ Turns 124 p b w w' (loadT s x.ad) := by
  have HM := hid h
  have HC := hid c
  have HK := hid hk
  clear h c hk
  obtain ⟨xk, xd, xa, xb⟩ := x
  go_enter Tryz.func184, Tryz.ntmps184
  go_wp2_with fail
  have hM := (HM.out.below (below_alloc w (.cells #[.int .i64 xk, .int .i64 xd, .int .u64 xa, .int .u64 xb] 217))).below (below_alloc _ (.cells #[.int .u64 0, .bool false, .int .i64 0] 172))
  refine (load_any hM HC.out HK.out xd).mono ?_
  rintro e w2 ⟨rfl, hT⟩
  obtain ⟨hg, T⟩ := turns_new HM.out hT
  have HT := hid T
  clear T hT hM
  have d0 : w2.cell? ⟨w.heap.size + 1, 0, none⟩ = some (.int .u64 0) := cell_of hg rfl
  have d1 : w2.cell? ⟨w.heap.size + 1, 1, none⟩ = some (.bool false) := cell_of hg rfl
  have d2 : w2.cell? ⟨w.heap.size + 1, 2, none⟩ = some (.int .i64 0) := cell_of hg rfl
  have f0 := free_of (i := 0) hg
  have f1 := free_of (i := 1) hg
  have f2 := free_of (i := 2) hg
  have HG := hid hg
  clear hg
  simp only []
  go_wp2
  (try simp only [Exit.inBlock, Exit.then])
  refine bodyPost_ret (results_cell_row rfl _ _ (w.heap.size + 1) 172 _ (0, 0) _ rfl (put3 HG.out _ _ _) Tryz.underlying172 rfl size172) rfl ?_
  exact ⟨rfl, turns_set HM.out (turns_set HM.out (turns_set HM.out HT.out _ _ _ (by omega)) _ _ _ (by omega)) _ _ _ (by omega)⟩
set_option maxHeartbeats 400000 in
theorem dstore_at {w : World} {p b : Nat} {s : St} {k : Nat} (h : Mem 124 w p b s) (c : Cnt s k) (hk : k ≤ bnd) (x : Ac) :
    Calls Tryz.prog 185 #[acV x, .pointer (some ⟨p, 0, none⟩)] w fun e w' => e = .returned (reV ⟨0, false, errV s x.ad⟩) ∧ Turns 124 p b w w' (storeT s x.ad x.a) := by
  have HM := hid h
  have HC := hid c
  have HK := hid hk
  clear h c hk
  obtain ⟨xk, xd, xa, xb⟩ := x
  go_enter Tryz.func185, Tryz.ntmps185
  go_wp2_with fail
  have hM := (HM.out.below (below_alloc w (.cells #[.int .i64 xk, .int .i64 xd, .int .u64 xa, .int .u64 xb] 217))).below (below_alloc _ (.cells #[.int .u64 0, .bool false, .int .i64 0] 172))
  refine (store_any hM HC.out HK.out xd xa).mono ?_
  rintro e w2 ⟨rfl, hT⟩
  obtain ⟨hg, T⟩ := turns_new HM.out hT
  have HT := hid T
  clear T hT hM
  have d0 : w2.cell? ⟨w.heap.size + 1, 0, none⟩ = some (.int .u64 0) := cell_of hg rfl
  have d1 : w2.cell? ⟨w.heap.size + 1, 1, none⟩ = some (.bool false) := cell_of hg rfl
  have d2 : w2.cell? ⟨w.heap.size + 1, 2, none⟩ = some (.int .i64 0) := cell_of hg rfl
  have f0 := free_of (i := 0) hg
  have f1 := free_of (i := 1) hg
  have f2 := free_of (i := 2) hg
  have HG := hid hg
  clear hg
  simp only []
  go_wp2
  (try simp only [Exit.inBlock, Exit.then])
  refine bodyPost_ret (results_cell_row rfl _ _ (w.heap.size + 1) 172 _ (0, 0) _ rfl (put3 HG.out _ _ _) Tryz.underlying172 rfl size172) rfl ?_
  exact ⟨rfl, turns_set HM.out (turns_set HM.out (turns_set HM.out HT.out _ _ _ (by omega)) _ _ _ (by omega)) _ _ _ (by omega)⟩
set_option maxHeartbeats 400000 in
theorem dcas_at {w : World} {p b : Nat} {s : St} {k : Nat} (h : Mem 124 w p b s) (c : Cnt s k) (hk : k ≤ bnd) (x : Ac) :
    Calls Tryz.prog 186 #[acV x, .pointer (some ⟨p, 0, none⟩)] w fun e w' => e = .returned (reV ⟨0, casV s x.ad x.a, errV s x.ad⟩) ∧ Turns 124 p b w w' (casT s x.ad x.a x.b) := by
  have HM := hid h
  have HC := hid c
  have HK := hid hk
  clear h c hk
  obtain ⟨xk, xd, xa, xb⟩ := x
  go_enter Tryz.func186, Tryz.ntmps186
  go_wp2_with fail
  have hM := (HM.out.below (below_alloc w (.cells #[.int .i64 xk, .int .i64 xd, .int .u64 xa, .int .u64 xb] 217))).below (below_alloc _ (.cells #[.int .u64 0, .bool false, .int .i64 0] 172))
  refine (cas_any hM HC.out HK.out xd xa xb).mono ?_
  rintro e w2 ⟨rfl, hT⟩
  obtain ⟨hg, T⟩ := turns_new HM.out hT
  have HT := hid T
  clear T hT hM
  have d0 : w2.cell? ⟨w.heap.size + 1, 0, none⟩ = some (.int .u64 0) := cell_of hg rfl
  have d1 : w2.cell? ⟨w.heap.size + 1, 1, none⟩ = some (.bool false) := cell_of hg rfl
  have d2 : w2.cell? ⟨w.heap.size + 1, 2, none⟩ = some (.int .i64 0) := cell_of hg rfl
  have f0 := free_of (i := 0) hg
  have f1 := free_of (i := 1) hg
  have f2 := free_of (i := 2) hg
  have HG := hid hg
  clear hg
  simp only []
  go_wp2
  (try simp only [Exit.inBlock, Exit.then])
  refine bodyPost_ret (results_cell_row rfl _ _ (w.heap.size + 1) 172 _ (0, 0) _ rfl (put3 HG.out _ _ _) Tryz.underlying172 rfl size172) rfl ?_
  exact ⟨rfl, turns_set HM.out (turns_set HM.out (turns_set HM.out HT.out _ _ _ (by omega)) _ _ _ (by omega)) _ _ _ (by omega)⟩
set_option maxHeartbeats 400000 in
theorem dadd_at {w : World} {p b : Nat} {s : St} {k : Nat} (h : Mem 124 w p b s) (c : Cnt s k) (hk : k ≤ bnd) (x : Ac) :
    Calls Tryz.prog 187 #[acV x, .pointer (some ⟨p, 0, none⟩)] w fun e w' => e = .returned (reV ⟨loadV s x.ad, false, errV s x.ad⟩) ∧ Turns 124 p b w w' (addT s x.ad x.a) := by
  have HM := hid h
  have HC := hid c
  have HK := hid hk
  clear h c hk
  obtain ⟨xk, xd, xa, xb⟩ := x
  go_enter Tryz.func187, Tryz.ntmps187
  go_wp2_with fail
  have hM := (HM.out.below (below_alloc w (.cells #[.int .i64 xk, .int .i64 xd, .int .u64 xa, .int .u64 xb] 217))).below (below_alloc _ (.cells #[.int .u64 0, .bool false, .int .i64 0] 172))
  refine (add_any hM HC.out HK.out xd xa).mono ?_
  rintro e w2 ⟨rfl, hT⟩
  obtain ⟨hg, T⟩ := turns_new HM.out hT
  have HT := hid T
  clear T hT hM
  have d0 : w2.cell? ⟨w.heap.size + 1, 0, none⟩ = some (.int .u64 0) := cell_of hg rfl
  have d1 : w2.cell? ⟨w.heap.size + 1, 1, none⟩ = some (.bool false) := cell_of hg rfl
  have d2 : w2.cell? ⟨w.heap.size + 1, 2, none⟩ = some (.int .i64 0) := cell_of hg rfl
  have f0 := free_of (i := 0) hg
  have f1 := free_of (i := 1) hg
  have f2 := free_of (i := 2) hg
  have HG := hid hg
  clear hg
  simp only []
  go_wp2
  (try simp only [Exit.inBlock, Exit.then])
  refine bodyPost_ret (results_cell_row rfl _ _ (w.heap.size + 1) 172 _ (0, 0) _ rfl (put3 HG.out _ _ _) Tryz.underlying172 rfl size172) rfl ?_
  exact ⟨rfl, turns_set HM.out (turns_set HM.out (turns_set HM.out HT.out _ _ _ (by omega)) _ _ _ (by omega)) _ _ _ (by omega)⟩

end Go.Proofs.YtpfmmlbakbhklaaGreatDoor
